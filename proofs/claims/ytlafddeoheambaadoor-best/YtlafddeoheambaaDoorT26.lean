/-
  Who bids what a lot is worth to it comes off best: said plainly.
-/
import Derived.Test.YtlafddeoheambaaDoorT24
set_option linter.unusedVariables false
namespace Go.Proofs.YtlafddeoheambaaDoor
open Go.RowKit

theorem high_zero {bid : Nat → Int} {least : Int} (h0 : 0 < bid 0) (h1 : least ≤ bid 0) : ∀ n, (∀ k, k < n + 1 → 0 < bid k → least ≤ bid k → bid k ≤ bid 0) → highTo bid least (-1) (n + 1) = (0, bid 0) := by
  intro n
  induction n with
  | zero =>
    intro _
    show (if ((0 : Nat) : Int) ≠ -1 ∧ 0 < bid 0 ∧ least ≤ bid 0 ∧ (highTo bid least (-1) 0).2 < bid 0 then (((0 : Nat) : Int), bid 0) else highTo bid least (-1) 0) = _
    rw [if_pos ⟨by omega, h0, h1, h0⟩]
    rfl
  | succ n ih =>
    intro h
    have e := ih (fun k hk => h k (by omega))
    show (if ((n + 1 : Nat) : Int) ≠ -1 ∧ 0 < bid (n + 1) ∧ least ≤ bid (n + 1) ∧ (highTo bid least (-1) (n + 1)).2 < bid (n + 1) then (((n + 1 : Nat) : Int), bid (n + 1)) else highTo bid least (-1) (n + 1)) = _
    rw [e]
    rw [if_neg]
    rintro ⟨_, h2, h3, h4⟩
    have := h (n + 1) (by omega) h2 h3
    simp only at h4
    omega
theorem win_zero {bid : Nat → Int} {least : Int} {n : Nat} (hn : 0 < n) : winI bid least n = 0 ↔ (0 < bid 0 ∧ least ≤ bid 0 ∧ ∀ k, k < n → 0 < bid k → least ≤ bid k → bid k ≤ bid 0) := by
  obtain ⟨m, rfl⟩ : ∃ m, n = m + 1 := ⟨n - 1, by omega⟩
  constructor
  · intro h
    unfold winI at h
    rcases highTo_form bid least (-1) (m + 1) with h' | ⟨j, h1, h', h0, h2, _⟩
    · rw [h'] at h; simp at h
    · have hj : j = 0 := by rw [h'] at h; simp at h; omega
      subst hj
      refine ⟨h0, h2, fun k hk hk0 hkl => ?_⟩
      have := highTo_max (but := -1) hk (by omega) hk0 hkl
      rw [h'] at this
      exact this
  · rintro ⟨h0, h1, h2⟩
    unfold winI
    rw [high_zero h0 h1 m h2]
theorem high_other {bid bid' : Nat → Int} {least : Int} (h : ∀ k, k ≠ 0 → bid k = bid' k) : ∀ n, highTo bid least 0 n = highTo bid' least 0 n := by
  intro n
  induction n with
  | zero => rfl
  | succ n ih =>
    simp only [highTo, ih]
    by_cases hn : n = 0
    · subst hn
      simp
    · rw [h n hn]
/-- What the first player would pay. -/
def priceI (bid : Nat → Int) (least : Int) (n : Nat) : Int := if 0 ≤ (highTo bid least 0 n).1 then (highTo bid least 0 n).2 else least
theorem pays_zero {bid : Nat → Int} {least : Int} {n : Nat} (h : winI bid least n = 0) : paysI bid least n = priceI bid least n := by
  unfold paysI priceI
  rw [h]
  by_cases hc : 0 ≤ (highTo bid least 0 n).1
  · rw [if_pos hc, if_pos ⟨Int.le_refl 0, hc⟩]
  · rw [if_neg hc, if_neg (fun h => hc h.2)]
theorem price_ge {bid : Nat → Int} {least : Int} {n : Nat} : least ≤ priceI bid least n ∧ (∀ k, 0 < k → k < n → 0 < bid k → least ≤ bid k → bid k ≤ priceI bid least n) := by
  unfold priceI
  rcases highTo_form bid least 0 n with h' | ⟨j, h1, h', h0, h2, h3⟩
  · rw [h', if_neg (by simp)]
    refine ⟨Int.le_refl _, fun k hk hkn hk0 hkl => ?_⟩
    have := highTo_max (but := 0) hkn (by omega) hk0 hkl
    rw [h'] at this
    simp at this
    omega
  · rw [h', if_pos (by simp only; omega)]
    refine ⟨h2, fun k hk hkn hk0 hkl => ?_⟩
    have := highTo_max (but := 0) hkn (by omega) hk0 hkl
    rw [h'] at this
    exact this
/-- The best bid is what it is worth. -/
theorem best_bid {bv bb : Nat → Int} {least : Int} {n : Nat} (hn : 0 < n) (hl : 0 ≤ least) (hv : 0 ≤ bv 0) (ho : ∀ k, k ≠ 0 → bb k = bv k) :
    (winI bv least n = 0 → least ≤ paysI bv least n ∧ paysI bv least n ≤ bv 0) ∧
    (if winI bb least n = 0 then bv 0 - paysI bb least n else 0) ≤ (if winI bv least n = 0 then bv 0 - paysI bv least n else 0) ∧ 0 ≤ (if winI bv least n = 0 then bv 0 - paysI bv least n else 0) := by
  have hp : priceI bb least n = priceI bv least n := by unfold priceI; rw [high_other ho]
  have h1 : winI bv least n = 0 → least ≤ paysI bv least n ∧ paysI bv least n ≤ bv 0 := fun h => pays_le (k := 0) h
  refine ⟨h1, ?_, ?_⟩
  · by_cases hb : winI bb least n = 0
    · rw [if_pos hb, pays_zero hb, hp]
      by_cases hw : winI bv least n = 0
      · rw [if_pos hw, pays_zero hw]
        exact Int.le_refl _
      · rw [if_neg hw]
        have hnw : ¬ (0 < bv 0 ∧ least ≤ bv 0 ∧ ∀ k, k < n → 0 < bv k → least ≤ bv k → bv k ≤ bv 0) := fun h => hw ((win_zero hn).2 h)
        obtain ⟨pg, pk⟩ := price_ge (bid := bv) (least := least) (n := n)
        by_cases hlv : priceI bv least n < bv 0
        · exfalso
          apply hnw
          refine ⟨by omega, by omega, fun k hk hk0 hkl => ?_⟩
          by_cases hk' : k = 0
          · subst hk'; exact Int.le_refl _
          · have := pk k (by omega) hk hk0 hkl
            omega
        · omega
    · rw [if_neg hb]
      split
      · rename_i hw
        have := (h1 hw).2
        omega
      · exact Int.le_refl _
  · split
    · rename_i hw
      have := (h1 hw).2
      omega
    · exact Int.le_refl _

/-- What sold plays: k players, the bids, the tick. -/
def beS (k : Nat) (least : Int) (bid : Nat → Int) : SWorld := { width := 5, height := 5, sight := 4, now := 0, ore := oreOf 4, players := ((cornersOf 4).take k).mapIdx (fun i s => seP s (bid i)), lots := [⟨lotB, least, 1⟩] }
theorem be_newB : ∀ k : Fin 3, newB 5 5 4 (oreOf (5 - 1)) ((cornersOf (5 - 1)).take (k.val + 2)) = true := by decide
theorem be_offer {k : Nat} {least : Int} (h : 0 ≤ least ∧ least ≤ 100000) : offerS (begunS 5 4 k) lotB least 1 = (0, beS k least (fun _ => 0)) := by
  rw [offer_first rfl h (by omega)]
  have e : (begunS 5 4 k).players = ((cornersOf 4).take k).mapIdx (fun _ s => seP s 0) := by
    show ((cornersOf 4).take k).map firstP = _
    apply List.ext_getElem?
    intro i
    rw [List.getElem?_map, List.getElem?_mapIdx]
    cases ((cornersOf 4).take k)[i]? with
    | none => rfl
    | some s => exact congrArg some (seP_first s)
  have e2 : ({ begunS 5 4 k with lots := [⟨lotB, least, (begunS 5 4 k).now + 1⟩] } : SWorld) = { begunS 5 4 k with players := (begunS 5 4 k).players, lots := [⟨lotB, least, 1⟩] } := rfl
  rw [e2, e]
  rfl
theorem be_len {k : Nat} (hk : 2 ≤ k ∧ k ≤ 4) (least : Int) (bid : Nat → Int) : (beS k least bid).players.length = k := by
  simp [beS, cornersOf]
  omega
theorem be_bid {k n : Nat} (hk : 2 ≤ k ∧ k ≤ 4) (hn : n < k) {least m : Int} {bid : Nat → Int} (h0 : bid n = 0) (hm : 0 ≤ m ∧ m ≤ 100) :
    orderS (beS k least bid) n (bidP ++ itoaB m).data.toList = (0, beS k least (fun i => if i = n then m else bid i)) := by
  have hlt : n < ((cornersOf 4).take k).length := by simp [cornersOf]; omega
  have hp : (beS k least bid).players[n]? = some (seP (((cornersOf 4).take k)[n]) 0) := by
    show (((cornersOf 4).take k).mapIdx (fun i s => seP s (bid i)))[n]? = _
    rw [List.getElem?_mapIdx, List.getElem?_eq_getElem hlt]
    simp [h0]
  rw [bid_order hm hp rfl]
  have e : ((beS k least bid).setPl n (seP (((cornersOf 4).take k)[n]) m)).players = (beS k least (fun i => if i = n then m else bid i)).players := by
    show (((cornersOf 4).take k).mapIdx (fun i s => seP s (bid i))).set n _ = ((cornersOf 4).take k).mapIdx (fun i s => seP s (if i = n then m else bid i))
    apply List.ext_getElem?
    intro i
    by_cases hi : n = i
    · subst hi
      rw [List.getElem?_set_self (by simpa using hlt), List.getElem?_mapIdx, List.getElem?_eq_getElem hlt]
      simp
    · rw [List.getElem?_set_ne hi, List.getElem?_mapIdx, List.getElem?_mapIdx]
      have : ¬ i = n := fun e => hi e.symm
      simp only [this, if_false]
  have e2 : (beS k least bid).setPl n (seP (((cornersOf 4).take k)[n]) m) = { beS k least bid with players := ((beS k least bid).setPl n (seP (((cornersOf 4).take k)[n]) m)).players } := rfl
  rw [e2, e]
  rfl
theorem be_idle (k : Nat) (least : Int) (bid : Nat → Int) : Idle (beS k least bid) := by
  intro p hp
  obtain ⟨i, hi⟩ := List.getElem?_of_mem hp
  have hi' : (((cornersOf 4).take k).mapIdx (fun i s => seP s (bid i)))[i]? = some p := hi
  rw [List.getElem?_mapIdx, Option.map_eq_some_iff] at hi'
  obtain ⟨s, _, rfl⟩ := hi'
  refine ⟨rfl, fun u hu => ?_⟩
  have : u = firstU _ := List.mem_singleton.1 hu
  subst this
  exact ⟨rfl, rfl⟩
/-- The lot closes. -/
theorem be_close {k : Nat} (hk : 2 ≤ k ∧ k ≤ 4) {least : Int} {bid : Nat → Int} (hb : ∀ i, 0 ≤ bid i) : ∃ p, (tickS (beS k least bid)).players[0]? = some p ∧ (tickS (beS k least bid)).lots = [] ∧ p.units = [firstU ⟨0, 0, 0⟩] ∧
    p.news = [newsB lotB (winI bid least k) (paysI bid least k) 0] ∧ p.money = (if (0 : Int) = winI bid least k then 100 - paysI bid least k else 100) := by
  have hlen := be_len hk least bid
  rw [(be_idle k least bid).tick]
  have e1 : dueL [⟨lotB, least, 1⟩] 1 = [⟨lotB, least, 1⟩] := by
    unfold dueL sortL
    simp [insL]
  have e3 : closeS { beS k least bid with now := (beS k least bid).now + 1 } = { (dueL [⟨lotB, least, 1⟩] 1).foldl sellS { beS k least bid with now := 1 } with lots := [⟨lotB, least, 1⟩].filter (fun l => !decide (l.ends = 1)) } := rfl
  rw [e3, e1]
  have e2 : [(⟨lotB, least, 1⟩ : SLot)].filter (fun l => !decide (l.ends = 1)) = [] := by simp
  rw [e2]
  have hbo : ∀ i, i < k → bidsOf (beS k least bid).players lotB i = bid i := by
    intro i hi
    have hlt : i < ((cornersOf 4).take k).length := by simp [cornersOf]; omega
    unfold bidsOf
    show (match (((cornersOf 4).take k).mapIdx (fun i s => seP s (bid i)))[i]? with | none => 0 | some p => bidI p.bids lotB) = _
    rw [List.getElem?_mapIdx, List.getElem?_eq_getElem hlt]
    exact bidI_set_same [] lotB (bid i) (hb i)
  have hw : winI (bidsOf (beS k least bid).players lotB) least k = winI bid least k := by unfold winI; rw [highTo_congr hbo]
  have hp : paysI (bidsOf (beS k least bid).players lotB) least k = paysI bid least k := by unfold paysI; rw [hw, highTo_congr hbo]
  have h0 : (beS k least bid).players[0]? = some (seP ⟨0, 0, 0⟩ (bid 0)) := by
    have hc : ((cornersOf 4).take k)[0]? = some ⟨0, 0, 0⟩ := by rw [List.getElem?_take, if_pos (by omega)]; rfl
    show (((cornersOf 4).take k).mapIdx (fun i s => seP s (bid i)))[0]? = _
    rw [List.getElem?_mapIdx, hc]
    rfl
  refine ⟨soldP ⟨lotB, least, 1⟩ (winI bid least k) (paysI bid least k) 0 (seP ⟨0, 0, 0⟩ (bid 0)), ?_, rfl, rfl, rfl, rfl⟩
  show ((beS k least bid).players.mapIdx (soldP ⟨lotB, least, 1⟩ (winI (bidsOf (beS k least bid).players lotB) least (beS k least bid).players.length) (paysI (bidsOf (beS k least bid).players lotB) least (beS k least bid).players.length)))[0]? = _
  rw [List.getElem?_mapIdx, h0, hlen, hw, hp]
  rfl
theorem news_won (who pays : Int) : begB (newsB lotB who pays 0).data.toList wonT = decide ((0 : Int) = who) := by
  unfold newsB
  by_cases h : ((0 : Nat) : Int) = who
  · rw [if_pos h]
    have : decide ((0 : Int) = who) = true := decide_eq_true h
    rw [this]
    have e : (wonW ++ lotB ++ forW ++ itoaB pays).data.toList = wonT ++ (itoaB pays).data.toList := by simp only [ByteArray.data_append, Array.toList_append]; rfl
    rw [e]
    exact beg_app _ _
  · have : decide ((0 : Int) = who) = false := decide_eq_false h
    rw [if_neg h, this]
    split
    · have e : (passW ++ lotB).data.toList = passT := by simp only [ByteArray.data_append, Array.toList_append]; rfl
      rw [e]
      decide
    · have e : (soldW ++ lotB).data.toList = soldT := by simp only [ByteArray.data_append, Array.toList_append]; rfl
      rw [e]
      decide
end Go.Proofs.YtlafddeoheambaaDoor

/-
  The function sold of package hazekeep: the walk.
-/
namespace Go.Proofs.YtlafddeoheambaaDoor
open Go.RowKit

theorem beg_hdw (l r : List UInt8) (a : UInt8) (l' : List UInt8) (hl : l = a :: l') (h : a ≠ 119) : begB (l ++ r) wonT = false := by
  subst hl
  exact beg_no h
/-- Does a line tell that the lot was won? -/
theorem last_any {s : SWorld} {p : SPlayer} {x : ByteArray} {sp : SSpot} (hl : s.lots = []) (hu : p.units = [firstU sp]) (hn : p.news = [x]) (hx : NoE x) : (linesB (viewL s 0 p)).any (fun l => begB l wonT) = begB x.data.toList wonT := by
  rw [(view_lns s 0 p (fun u h => ?_) (by rw [hl]; intro l h; simp [sortL] at h) (fun m h => ?_)).lines]
  · unfold viewLs
    rw [hn, hl, hu]
    rw [List.any_append, List.any_append, List.any_append, List.any_append]
    have f1 : [lineT [wTick, itoaB s.now, wMoney, itoaB p.money]].any (fun l => begB l wonT) = false := by
      rw [List.any_cons, lineT_cons, beg_hdw wTick.data.toList _ 116 _ rfl (by decide)]
      rfl
    have f2 : ([firstU sp].flatMap (fun u => [unitT u])).any (fun l => begB l wonT) = false := by
      show (begB (unitT (firstU sp)) wonT || false) = false
      unfold unitT
      rw [lineT_cons, beg_hdw wUnit.data.toList _ 117 _ rfl (by decide)]
      rfl
    have f3 : (rowsLs s 0 [firstU sp] s.height.toNat).any (fun l => begB l wonT) = false := by
      rw [List.any_eq_false]
      intro b hb
      unfold rowsLs at hb
      obtain ⟨y, _, hb⟩ := List.mem_flatMap.1 hb
      unfold rowLs at hb
      obtain ⟨x', _, hb⟩ := List.mem_flatMap.1 hb
      unfold seenLs at hb
      split at hb
      · rcases List.mem_append.1 hb with hb | hb
        · unfold oreLs at hb
          split at hb
          · cases hb
          · obtain rfl := List.mem_singleton.1 hb
            rw [lineT_cons, beg_hdw wOre.data.toList _ 111 _ rfl (by decide)]
            simp
        · unfold otherLs at hb
          split at hb
          · obtain rfl := List.mem_singleton.1 hb
            rw [lineT_cons, beg_hdw wOther.data.toList _ 111 _ rfl (by decide)]
            simp
          · cases hb
      · cases hb
    have f4 : ((sortL ([] : List SLot)).flatMap (fun l => [lotT p l])).any (fun l => begB l wonT) = false := rfl
    rw [f1, f2, f3, f4]
    show (((false || false) || false) || false || (begB x.data.toList wonT || false)) = _
    simp
  · rw [hu] at h
    have : u = firstU sp := List.mem_singleton.1 h
    subst this
    exact ClnL.cons (by decide) ClnL.nil
  · rw [hn] at h
    rw [List.mem_singleton.1 h]
    exact hx
def bidTo (zs : List Int) (p : Nat) (i : Nat) : Int := if 1 ≤ i ∧ i < p then pickI (zs.getD (i - 1) 0) 101 else 0
def finB (zs : List Int) (mine : Int) (k : Nat) (i : Nat) : Int := if i = 0 then mine else bidTo zs (min k (zs.length + 1)) i
theorem bidTo_nn (zs : List Int) (p i : Nat) : 0 ≤ bidTo zs p i := by
  unfold bidTo
  split
  · exact (pickI_bd _ 101 (by omega)).1
  · exact Int.le_refl 0
theorem bidTo_step (zs : List Int) (p : Nat) (hp : 1 ≤ p) : (fun i => if i = p then pickI (zs.getD (p - 1) 0) 101 else bidTo zs p i) = bidTo zs (p + 1) := by
  funext i
  unfold bidTo
  by_cases h : i = p
  · subst h
    rw [if_pos rfl, if_pos ⟨hp, by omega⟩]
  · rw [if_neg h]
    by_cases h1 : 1 ≤ i ∧ i < p
    · rw [if_pos h1, if_pos ⟨h1.1, by omega⟩]
    · rw [if_neg h1, if_neg (by omega)]
section
variable {w wx : World} {X : XW} {b k : Nat}
theorem be_offerK (h : KInL w wx X) (hb : X.b = b) (hS : X.S = begunS 5 4 k) {least : Int} (hl : 0 ≤ least ∧ least ≤ 100000) :
    Calls Tryd.prog 15 #[.pointer (some ⟨b, 0, none⟩), .string ⟨#[108, 111, 116]⟩, .int .i64 least, .int .i64 1] wx fun e w' => e = .returned (.int .i64 0) ∧ ∃ X', KInL w w' X' ∧ X'.b = b ∧ X'.S = beS k least (bidTo [] 1) := by
  subst hb
  refine (h.offer2 lotB least 1 (by decide) (.inl (by rw [hS]; rfl))).mono ?_
  rintro e w' ⟨rfl, X', T, K, hS'⟩
  have e0 : bidTo [] 1 = fun _ => 0 := by
    funext i
    unfold bidTo
    rw [if_neg (by omega)]
  rw [hS, be_offer hl] at hS' ⊢
  rw [e0]
  exact ⟨rfl, X', K, T.b, hS'⟩
theorem be_bidK (h : KInL w wx X) (hb : X.b = b) (hk : 2 ≤ k ∧ k ≤ 4) {n : Nat} (hn : n < k) {least m : Int} {bid : Nat → Int} (hS : X.S = beS k least bid) (h0 : bid n = 0) (hm : 0 ≤ m ∧ m ≤ 100) (hs : (bidP ++ itoaB m).size ≤ 2000000) :
    Calls Tryd.prog 9 #[.pointer (some ⟨b, 0, none⟩), .int .i64 n, .string (bidP ++ itoaB m)] wx fun e w' => e = .returned (.int .i64 0) ∧ ∃ X', KInL w w' X' ∧ X'.b = b ∧ X'.S = beS k least (fun i => if i = n then m else bid i) := by
  subst hb
  refine (h.order2 n (bidP ++ itoaB m) hs).mono ?_
  rintro e w' ⟨rfl, X', T, K, hS'⟩
  rw [hS, be_bid hk hn h0 hm] at hS' ⊢
  exact ⟨rfl, X', K, T.b, hS'⟩
theorem be_tickK (h : KInL w wx X) (hb : X.b = b) {least : Int} {bid : Nat → Int} (hS : X.S = beS k least bid) :
    Calls Tryd.prog 10 #[.pointer (some ⟨b, 0, none⟩)] wx fun e w' => e = .returned (.int .i64 0) ∧ ∃ X', KInL w w' X' ∧ X'.b = b ∧ X'.S = tickS (beS k least bid) := by
  subst hb
  refine h.tick2.mono ?_
  rintro e w' ⟨rfl, X', T, K, hS'⟩
  have e1 : (beS k least bid).now = 0 := rfl
  have e2 : tickC (beS k least bid) = 0 := by unfold tickC; rw [e1, if_neg (by omega)]
  have e3 : tickN (beS k least bid) = tickS (beS k least bid) := by unfold tickN; rw [e1, if_neg (by omega)]
  rw [hS, e2]
  rw [hS, e3] at hS'
  exact ⟨rfl, X', K, T.b, hS'⟩
/-- What sold sees at the end. -/
theorem be_end (h : KInL w wx X) (hk : 2 ≤ k ∧ k ≤ 4) {least : Int} {bid : Nat → Int} (hb : ∀ i, 0 ≤ bid i) (hS : X.S = tickS (beS k least bid)) : ∃ L, (viewS X.S 0).1.size ≤ 10000000000 ∧ linesB (viewS X.S 0).1.data.toList = L ∧ L.any (fun l => begB l wonT) = decide ((0 : Int) = winI bid least k) ∧ moneyS X.S 0 = (if (0 : Int) = winI bid least k then 100 - paysI bid least k else 100, 0) := by
  obtain ⟨p, hp, hl, hu, hnw, hmo⟩ := be_close hk hb (least := least)
  rw [← hS] at hp hl
  have hlen : 0 < X.S.players.length := (at_some hp).1
  have hv : (viewS X.S 0).1 = bytesOf (viewL X.S 0 p) := by
    unfold viewS
    rw [if_pos (by omega)]
    show (match X.S.players[0]? with | none => ((⟨#[]⟩ : ByteArray), (1 : Int)) | some p => (bytesOf (viewL X.S 0 p), 0)).1 = _
    rw [hp]
  refine ⟨_, ?_, rfl, ?_, ?_⟩
  · rw [hv]
    exact kinL_len h hl 0 (List.mem_of_getElem? hp)
  · rw [hv, bytesOf_toList, last_any hl hu hnw (newsB_no _ _ 0), news_won]
  · unfold moneyS
    rw [if_pos (by omega)]
    show (match X.S.players[0]? with | none => ((0 : Int), (1 : Int)) | some p => (p.money, 0)) = _
    rw [hp]
    show (p.money, (0 : Int)) = _
    rw [hmo]
end

set_option maxRecDepth 100000 in
set_option maxHeartbeats 8000000 in
theorem sold_any (w : World) (least mine : Int) (v : Value) (zs : List Int) (hv : IntsIn w v zs) (hz : ∀ z ∈ zs, -9223372036854775808 ≤ z ∧ z ≤ 9223372036854775807) (h1 : 0 < zs.length) (hl : 0 ≤ least ∧ least ≤ 100000) (hm : 0 ≤ mine ∧ mine ≤ 100) (ht : Tab w) :
    Calls Tryd.prog 14 #[.int .i64 least, .int .i64 mine, v] w fun e w' => ∃ k : Nat, (2 ≤ k ∧ k ≤ 4 ∧ (k : Int) = 2 + pickI ((zs.length : Int) - 1) 3) ∧ e = .returned (.tuple #[.bool (decide ((0 : Int) = winI (finB zs mine k) least k)), .int .i64 (if (0 : Int) = winI (finB zs mine k) least k then paysI (finB zs mine k) least k else 0), .bool true]) ∧ Below w.heap.size w w' := by
  obtain ⟨ao, cap, rfl, hlm, hcell⟩ := hv
  obtain ⟨bo, off, rfl, hbo, hc⟩ := hcell h1
  have b3 := pickI_bd ((zs.length : Int) - 1) 3 (by omega)
  obtain ⟨k, hk⟩ : ∃ k : Nat, (k : Int) = 2 + pickI ((zs.length : Int) - 1) 3 := ⟨(2 + pickI ((zs.length : Int) - 1) 3).toNat, by omega⟩
  have hk24 : 2 ≤ k ∧ k ≤ 4 := by omega
  have HP3 := hidOf (kpick_any ((zs.length : Int) - 1) 3 w (by omega) (by omega) (by omega) (by omega))
  have hwk : IntKind.i64.wrap (2 + pickI ((zs.length : Int) - 1) 3) = (k : Int) := by rw [IntKind.wrap_i64]; omega
  have HNB : Hid (newB 5 5 4 (oreOf (5 - 1)) ((cornersOf (5 - 1)).take k) = true) := by
    have := be_newB ⟨k - 2, by omega⟩
    have e : k - 2 + 2 = k := by omega
    simp only [e] at this
    exact this
  have HB := hidOf (begun_inL w 5 4 k (by omega) (by omega) HNB.out)
  have HT := hidOf ht
  have HK := hidOf hk
  have HZ : Hid (∀ wx, Below w.heap.size w wx → ∀ j, j < zs.length → wx.cell? ⟨bo, off + j, none⟩ = some (.int .i64 (zs.getD j 0)) ∧ (-9223372036854775808 ≤ zs.getD j 0 ∧ zs.getD j 0 ≤ 9223372036854775807)) := fun wx h j hj => by
    have e : zs[j]? = some (zs.getD j 0) := by simp [hj]
    exact ⟨(h.cell (p := ⟨bo, off + j, none⟩) hbo).trans (hc j _ e), hz _ (List.mem_of_getElem? e)⟩
  have HI : Hid (∀ (m : Int) (wx : World), (0 ≤ m ∧ m < 101) → Below w.heap.size w wx → Calls Tryd.prog 11 #[.int .i64 m] wx fun e w' => e = .returned (.string (itoaB m)) ∧ Below wx.heap.size wx w') := fun m wx hm h => itoa_any m (by omega) wx (HT.out.below h HT.out.lt)
  clear hc hcell ht hz hk
  go_enter Tryd.func14, Tryd.ntmps14
  go_wp2_with fail
  refine HP3.out.mono ?_
  rintro e w' ⟨rfl, h⟩
  rw [h]
  clear h w' HP3
  go_wp2_with fail
  refine HB.out.mono ?_
  rintro e w1 ⟨X0, rfl, K0, hS0⟩
  obtain ⟨bx, hbx⟩ : ∃ bx, bx = X0.b := ⟨_, rfl⟩
  rw [← hbx]
  have C1 := hidOf (be_offerK K0 hbx.symm hS0 hl)
  clear K0 hS0 HB hbx
  go_wp2_with fail
  refine C1.out.mono ?_
  rintro e w2 ⟨rfl, X1, K1, b1, s1⟩
  have e0 : bidTo [] 1 = bidTo zs 1 := by
    funext i
    unfold bidTo
    rw [if_neg (by omega), if_neg (by omega)]
  rw [e0] at s1
  have HK1 := hidOf K1
  have HB1 := hidOf b1
  have HS1 := hidOf s1
  clear C1 K1 b1 s1 e0 hwk
  go_wp2_with fail
  go_loopw [11, 12, 13] (fun e ok p w' => ∃ (q : Nat) (X : XW), 1 ≤ q ∧ q ≤ k ∧ q ≤ zs.length + 1 ∧ p = .int .i64 q ∧ e = .int .i64 0 ∧ ok = .bool true ∧ Hid (KInL w w' X) ∧ Hid (X.b = bx) ∧ Hid (X.S = beS k least (bidTo zs q))) (fun _ _ p _ => 5 - (intOf p).toNat)
  case atStart => exact ⟨1, X1, by omega, by omega, by omega, rfl, rfl, rfl, HK1, HB1, HS1⟩
  case round =>
    obtain ⟨q, X, hq1, hqk, hql, rfl, rfl, rfl, K, B, S⟩ := hrel
    clear HK1 HB1 HS1
    have hw1 : IntKind.i64.wrap ((q : Int) - 1) = (q : Int) - 1 := by rw [IntKind.wrap_i64]; omega
    by_cases hlt : q < k
    · have hlt' : decide ((q : Int) < (k : Int)) = true := decide_eq_true (by omega)
      by_cases hlz : q - 1 < zs.length
      · have hlz' : decide ((q : Int) - 1 < (zs.length : Int)) = true := decide_eq_true (by omega)
        obtain ⟨r, rfl⟩ : ∃ r, q = r + 1 := ⟨q - 1, by omega⟩
        have hr : ((r + 1 : Nat) : Int) - 1 = (r : Int) := by omega
        rw [hr] at hw1 hlz'
        obtain ⟨cz, hzb⟩ := HZ.out wr K.out.b r (by omega)
        obtain ⟨z, hze⟩ : ∃ z, z = zs.getD r 0 := ⟨_, rfl⟩
        rw [← hze] at cz hzb
        have HZe := hidOf hze
        have HP := hidOf (kpick_any z 101 wr hzb.1 hzb.2 (by omega) (by omega))
        have bm := pickI_bd z 101 (by omega)
        obtain ⟨m, hme⟩ : ∃ m, m = pickI z 101 := ⟨_, rfl⟩
        rw [← hme] at HP bm
        have HMe := hidOf hme
        obtain ⟨zm, ym⟩ := bid_size m (by omega)
        have cm : ∀ w, (Op.stringOp .add bidP (itoaB m)).run Tryd.prog w = .ok (.string (bidP ++ itoaB m)) w := fun w => run_string_add_sum w _ _ ym
        unfold bidP at cm
        have hrl : (r : Int) < (zs.length : Int) := by omega
        clear hze hme hzb
        go_wp2_with fail
        refine HP.out.mono ?_
        rintro e w' ⟨rfl, h⟩
        rw [h]
        clear h w' HP
        go_wp2_with fail
        refine (HI.out m _ bm K.out.b).mono ?_
        rintro e v1 ⟨rfl, hb⟩
        have K1 := hidOf (K.out.below hb)
        have D := be_bidK K1.out B.out hk24 (n := r + 1) (by omega) S.out (by unfold bidTo; rw [if_neg (by omega)]) ⟨bm.1, by omega⟩ zm
        rw [HMe.out, HZe.out] at D
        have est := bidTo_step zs (r + 1) (by omega)
        rw [Nat.add_sub_cancel] at est
        rw [est, ← HZe.out, ← HMe.out] at D
        unfold bidP at D
        have ecs : ((r + 1 : Nat) : Int) = (r : Int) + 1 := by omega
        rw [ecs] at D
        have HD := hidOf D
        clear D hb K K1 S B cz est ecs
        go_wp2_with fail
        refine HD.out.mono ?_
        rintro e v2 ⟨rfl, X2, k2, b2, s2⟩
        have K2 := hidOf k2
        have B2 := hidOf b2
        have S2 := hidOf s2
        clear HD k2 b2 s2
        go_wp2
        exact ⟨⟨r + 1 + 1, X2, by omega, by omega, by omega, by go_num, rfl, rfl, K2, B2, S2⟩, by simp [intOf]; omega⟩
      · have hlz' : decide ((q : Int) - 1 < (zs.length : Int)) = false := decide_eq_false (by omega)
        have hqE : q = min k (zs.length + 1) := by omega
        obtain ⟨zmm, ymm⟩ := bid_size mine hm
        have cmm : ∀ w, (Op.stringOp .add bidP (itoaB mine)).run Tryd.prog w = .ok (.string (bidP ++ itoaB mine)) w := fun w => run_string_add_sum w _ _ ymm
        unfold bidP at cmm
        go_wp2_with fail
        refine (HI.out mine _ ⟨hm.1, by omega⟩ K.out.b).mono ?_
        rintro e v1 ⟨rfl, hb⟩
        have K1 := hidOf (K.out.below hb)
        have D := be_bidK K1.out B.out hk24 (n := 0) (by omega) S.out (by unfold bidTo; rw [if_neg (by omega)]) hm zmm
        have efin : (fun i => if i = 0 then mine else bidTo zs q i) = finB zs mine k := by
          funext i
          unfold finB
          rw [hqE]
        rw [efin] at D
        unfold bidP at D
        have HD := hidOf D
        clear D hb K K1 S B efin
        go_wp2_with fail
        refine HD.out.mono ?_
        rintro e v2 ⟨rfl, X2, k2, b2, s2⟩
        have HT2 := hidOf (be_tickK k2 b2 s2)
        clear HD k2 b2 s2
        go_wp2_with fail
        refine HT2.out.mono ?_
        rintro e v3 ⟨rfl, X3, k3, b3', s3⟩
        have hnn : ∀ i, 0 ≤ finB zs mine k i := by
          intro i
          unfold finB
          split
          · exact hm.1
          · exact bidTo_nn _ _ _
        obtain ⟨L, hz3, hl3, ha3, hm3⟩ := be_end k3 hk24 hnn s3
        have C4 := xmoney_any v3 X3 _ 0 k3.rep k3.g.wf
        rw [hm3, b3'] at C4
        have C5 := k3.view2 0 HT.out
        rw [b3'] at C5
        obtain ⟨sv, hsv⟩ : ∃ sv, sv = (viewS X3.S 0).1 := ⟨_, rfl⟩
        rw [← hsv] at C5 hz3 hl3
        obtain ⟨wn, hwn⟩ : ∃ wn, wn = decide ((0 : Int) = winI (finB zs mine k) least k) := ⟨_, rfl⟩
        obtain ⟨py, hpy⟩ : ∃ py, py = (if (0 : Int) = winI (finB zs mine k) least k then 100 - paysI (finB zs mine k) least k else 100) := ⟨_, rfl⟩
        rw [← hwn] at ha3
        rw [← hpy] at C4
        have hpb : -1000000 ≤ py ∧ py ≤ 1000000 := by
          rw [hpy]
          split
          · rename_i h0
            have h2 := pays_le (k := 0) h0.symm
            have h3 : finB zs mine k 0 = mine := rfl
            rw [h3] at h2
            omega
          · omega
        have HPy := hidOf hpy
        have HWn := hidOf hwn
        have HC4 := hidOf C4
        have HC5 := hidOf C5
        have HL3 := hidOf hl3
        have HBk := hidOf k3.b
        clear HT2 k3 b3' s3 hm3 C4 C5 hsv hwn hpy hl3
        go_wp2_with fail
        refine HC4.out.mono ?_
        rintro e w' ⟨rfl, h⟩
        rw [h]
        clear h w' HC4
        go_wp2_with fail
        refine HC5.out.mono ?_
        rintro e v4 ⟨rfl, hb4⟩
        have HB4 := hidOf (HBk.out.trans (hb4.mono HBk.out.size))
        have HLn := klines_any sv v4 hz3
        rw [HL3.out] at HLn
        have HHL := hidOf HLn
        clear HLn hb4 HC5 HBk
        go_wp2_with fail
        refine HHL.out.mono ?_
        rintro e v5 ⟨vl, rfl, hb5, ho5⟩
        obtain ⟨al, gl, cl, rfl, hcl, hml, rdl⟩ := own_rd (own_any ho5)
        unfold maxLen at hml
        have HB5 := hidOf (HB4.out.trans (hb5.mono HB4.out.size))
        have HLs : Hid (∀ wx, Below v5.heap.size v5 wx → ∀ (i : Nat) x, L[i]? = some x → al = some ⟨gl, 0, none⟩ ∧ wx.cell? ⟨gl, i, none⟩ = some (.string (bytesOf x))) := fun wx h i x hx => by
          have hi := (at_some hx).1
          have e := rdl.base (by omega)
          have hg := own_lt (own_any ho5) gl (by rw [e]; simp [blk_slice])
          exact ⟨e, (h.cell (p := ⟨gl, i, none⟩) hg).trans (rdl.cell i _ (by simp [strs, hx]))⟩
        clear hb5 ho5 rdl HHL HB4
        have hwp : IntKind.i64.wrap (100 - py) = 100 - py := by rw [IntKind.wrap_i64]; omega
        go_wp2_with fail
        go_loopw [17, 19] (fun t i w' => ∃ j : Nat, j ≤ L.length ∧ i = .int .i64 j ∧ t = .bool ((L.take j).any (fun l => begB l wonT)) ∧ Hid (Below v5.heap.size v5 w')) (fun _ i _ => L.length + 1 - (intOf i).toNat)
        case atStart => exact ⟨0, Nat.zero_le _, rfl, rfl, Below.refl _ _⟩
        case round =>
          obtain ⟨j, hj, rfl, rfl, hBj⟩ := hrel
          by_cases hjl : j < L.length
          · have hjl' : (j : Int) < (L.length : Int) := by omega
            obtain ⟨x, hx⟩ : ∃ x, L[j]? = some x := ⟨L[j], by simp [hjl]⟩
            obtain ⟨rfl, cx⟩ := HLs.out _ hBj.out j x hx
            have hany : Hid ((L.take (j + 1)).any (fun l => begB l wonT) = ((L.take j).any (fun l => begB l wonT) || begB x wonT)) := by
              unfold Hid
              obtain ⟨hjj, rfl⟩ := at_some hx
              rw [List.take_succ_eq_append_getElem hjj, List.any_append]
              simp
            have HG := kbegins_any (bytesOf x) ⟨#[119, 111, 110, 32, 108, 111, 116, 32, 102, 111, 114, 32]⟩
            have x3 : begB (bytesOf x).data.toList (ByteArray.mk #[119, 111, 110, 32, 108, 111, 116, 32, 102, 111, 114, 32]).data.toList = begB x wonT := by rw [bytesOf_toList]; rfl
            rw [x3] at HG
            have HHG := hidOf HG
            clear HG x3 hx
            cases ht : (L.take j).any (fun l => begB l wonT)
            · rw [ht] at hany
              go_wp2_with fail
              refine (HHG.out _).mono ?_
              rintro e v6 ⟨rfl, hb6⟩
              have HB6 := hidOf (hBj.out.trans (hb6.mono hBj.out.size))
              clear hb6 HHG
              go_wp2
              exact ⟨⟨j + 1, by omega, by go_num, by rw [hany.out]; simp, HB6⟩, by simp [intOf]; omega⟩
            · rw [ht] at hany
              go_wp2
              exact ⟨⟨j + 1, by omega, by go_num, by rw [hany.out]; simp, hBj⟩, by simp [intOf]; omega⟩
          · have hjl' : decide ((j : Int) < (L.length : Int)) = false := decide_eq_false (by omega)
            have hfin : (L.take j).any (fun l => begB l wonT) = wn := by
              rw [List.take_of_length_le (by omega)]
              exact ha3
            rw [hfin]
            have HBf := hidOf (HB5.out.trans (hBj.out.mono HB5.out.size))
            clear hfin ha3 hBj
            go_wp2
            go_ret3
            refine ⟨k, ⟨hk24.1, hk24.2, HK.out⟩, ?_, HBf.out⟩
            rw [← HWn.out]
            have epy : 100 - py = (if (0 : Int) = winI (finB zs mine k) least k then paysI (finB zs mine k) least k else 0) := by
              rw [HPy.out]
              split <;> omega
            rw [← epy]
            rfl
    · have hlt' : decide ((q : Int) < (k : Int)) = false := decide_eq_false (by omega)
      have hqE : q = min k (zs.length + 1) := by omega
      obtain ⟨zmm, ymm⟩ := bid_size mine hm
      have cmm : ∀ w, (Op.stringOp .add bidP (itoaB mine)).run Tryd.prog w = .ok (.string (bidP ++ itoaB mine)) w := fun w => run_string_add_sum w _ _ ymm
      unfold bidP at cmm
      go_wp2_with fail
      refine (HI.out mine _ ⟨hm.1, by omega⟩ K.out.b).mono ?_
      rintro e v1 ⟨rfl, hb⟩
      have K1 := hidOf (K.out.below hb)
      have D := be_bidK K1.out B.out hk24 (n := 0) (by omega) S.out (by unfold bidTo; rw [if_neg (by omega)]) hm zmm
      have efin : (fun i => if i = 0 then mine else bidTo zs q i) = finB zs mine k := by
        funext i
        unfold finB
        rw [hqE]
      rw [efin] at D
      unfold bidP at D
      have HD := hidOf D
      clear D hb K K1 S B efin
      go_wp2_with fail
      refine HD.out.mono ?_
      rintro e v2 ⟨rfl, X2, k2, b2, s2⟩
      have HT2 := hidOf (be_tickK k2 b2 s2)
      clear HD k2 b2 s2
      go_wp2_with fail
      refine HT2.out.mono ?_
      rintro e v3 ⟨rfl, X3, k3, b3', s3⟩
      have hnn : ∀ i, 0 ≤ finB zs mine k i := by
        intro i
        unfold finB
        split
        · exact hm.1
        · exact bidTo_nn _ _ _
      obtain ⟨L, hz3, hl3, ha3, hm3⟩ := be_end k3 hk24 hnn s3
      have C4 := xmoney_any v3 X3 _ 0 k3.rep k3.g.wf
      rw [hm3, b3'] at C4
      have C5 := k3.view2 0 HT.out
      rw [b3'] at C5
      obtain ⟨sv, hsv⟩ : ∃ sv, sv = (viewS X3.S 0).1 := ⟨_, rfl⟩
      rw [← hsv] at C5 hz3 hl3
      obtain ⟨wn, hwn⟩ : ∃ wn, wn = decide ((0 : Int) = winI (finB zs mine k) least k) := ⟨_, rfl⟩
      obtain ⟨py, hpy⟩ : ∃ py, py = (if (0 : Int) = winI (finB zs mine k) least k then 100 - paysI (finB zs mine k) least k else 100) := ⟨_, rfl⟩
      rw [← hwn] at ha3
      rw [← hpy] at C4
      have hpb : -1000000 ≤ py ∧ py ≤ 1000000 := by
        rw [hpy]
        split
        · rename_i h0
          have h2 := pays_le (k := 0) h0.symm
          have h3 : finB zs mine k 0 = mine := rfl
          rw [h3] at h2
          omega
        · omega
      have HPy := hidOf hpy
      have HWn := hidOf hwn
      have HC4 := hidOf C4
      have HC5 := hidOf C5
      have HL3 := hidOf hl3
      have HBk := hidOf k3.b
      clear HT2 k3 b3' s3 hm3 C4 C5 hsv hwn hpy hl3
      go_wp2_with fail
      refine HC4.out.mono ?_
      rintro e w' ⟨rfl, h⟩
      rw [h]
      clear h w' HC4
      go_wp2_with fail
      refine HC5.out.mono ?_
      rintro e v4 ⟨rfl, hb4⟩
      have HB4 := hidOf (HBk.out.trans (hb4.mono HBk.out.size))
      have HLn := klines_any sv v4 hz3
      rw [HL3.out] at HLn
      have HHL := hidOf HLn
      clear HLn hb4 HC5 HBk
      go_wp2_with fail
      refine HHL.out.mono ?_
      rintro e v5 ⟨vl, rfl, hb5, ho5⟩
      obtain ⟨al, gl, cl, rfl, hcl, hml, rdl⟩ := own_rd (own_any ho5)
      unfold maxLen at hml
      have HB5 := hidOf (HB4.out.trans (hb5.mono HB4.out.size))
      have HLs : Hid (∀ wx, Below v5.heap.size v5 wx → ∀ (i : Nat) x, L[i]? = some x → al = some ⟨gl, 0, none⟩ ∧ wx.cell? ⟨gl, i, none⟩ = some (.string (bytesOf x))) := fun wx h i x hx => by
        have hi := (at_some hx).1
        have e := rdl.base (by omega)
        have hg := own_lt (own_any ho5) gl (by rw [e]; simp [blk_slice])
        exact ⟨e, (h.cell (p := ⟨gl, i, none⟩) hg).trans (rdl.cell i _ (by simp [strs, hx]))⟩
      clear hb5 ho5 rdl HHL HB4
      have hwp : IntKind.i64.wrap (100 - py) = 100 - py := by rw [IntKind.wrap_i64]; omega
      go_wp2_with fail
      go_loopw [17, 19] (fun t i w' => ∃ j : Nat, j ≤ L.length ∧ i = .int .i64 j ∧ t = .bool ((L.take j).any (fun l => begB l wonT)) ∧ Hid (Below v5.heap.size v5 w')) (fun _ i _ => L.length + 1 - (intOf i).toNat)
      case atStart => exact ⟨0, Nat.zero_le _, rfl, rfl, Below.refl _ _⟩
      case round =>
        obtain ⟨j, hj, rfl, rfl, hBj⟩ := hrel
        by_cases hjl : j < L.length
        · have hjl' : (j : Int) < (L.length : Int) := by omega
          obtain ⟨x, hx⟩ : ∃ x, L[j]? = some x := ⟨L[j], by simp [hjl]⟩
          obtain ⟨rfl, cx⟩ := HLs.out _ hBj.out j x hx
          have hany : Hid ((L.take (j + 1)).any (fun l => begB l wonT) = ((L.take j).any (fun l => begB l wonT) || begB x wonT)) := by
            unfold Hid
            obtain ⟨hjj, rfl⟩ := at_some hx
            rw [List.take_succ_eq_append_getElem hjj, List.any_append]
            simp
          have HG := kbegins_any (bytesOf x) ⟨#[119, 111, 110, 32, 108, 111, 116, 32, 102, 111, 114, 32]⟩
          have x3 : begB (bytesOf x).data.toList (ByteArray.mk #[119, 111, 110, 32, 108, 111, 116, 32, 102, 111, 114, 32]).data.toList = begB x wonT := by rw [bytesOf_toList]; rfl
          rw [x3] at HG
          have HHG := hidOf HG
          clear HG x3 hx
          cases ht : (L.take j).any (fun l => begB l wonT)
          · rw [ht] at hany
            go_wp2_with fail
            refine (HHG.out _).mono ?_
            rintro e v6 ⟨rfl, hb6⟩
            have HB6 := hidOf (hBj.out.trans (hb6.mono hBj.out.size))
            clear hb6 HHG
            go_wp2
            exact ⟨⟨j + 1, by omega, by go_num, by rw [hany.out]; simp, HB6⟩, by simp [intOf]; omega⟩
          · rw [ht] at hany
            go_wp2
            exact ⟨⟨j + 1, by omega, by go_num, by rw [hany.out]; simp, hBj⟩, by simp [intOf]; omega⟩
        · have hjl' : decide ((j : Int) < (L.length : Int)) = false := decide_eq_false (by omega)
          have hfin : (L.take j).any (fun l => begB l wonT) = wn := by
            rw [List.take_of_length_le (by omega)]
            exact ha3
          rw [hfin]
          have HBf := hidOf (HB5.out.trans (hBj.out.mono HB5.out.size))
          clear hfin ha3 hBj
          go_wp2
          go_ret3
          refine ⟨k, ⟨hk24.1, hk24.2, HK.out⟩, ?_, HBf.out⟩
          rw [← HWn.out]
          have epy : 100 - py = (if (0 : Int) = winI (finB zs mine k) least k then paysI (finB zs mine k) least k else 0) := by
            rw [HPy.out]
            split <;> omega
          rw [← epy]
          rfl
end Go.Proofs.YtlafddeoheambaaDoor

/-
  The function Best of package hazekeep: the walk.
-/
namespace Go.Proofs.YtlafddeoheambaaDoor
open Go.RowKit

/-- What sold told of two bids: whether it won, what it paid. -/
structure BestF (v b m : Int) (w1 : Bool) (p1 : Int) (w2 : Bool) (p2 : Int) : Prop where
  a : w1 = true → m ≤ p1 ∧ p1 ≤ v
  z : w1 = false → p1 = 0
  c : 0 ≤ p2 ∧ p2 ≤ 100
  g : (if w2 = true then v - p2 else 0) ≤ (if w1 = true then v - p1 else 0)
  n : 0 ≤ (if w1 = true then v - p1 else 0)
theorem best_facts (zs : List Int) (v b m : Int) (k : Nat) (hk : 2 ≤ k) (hv : 0 ≤ v ∧ v ≤ 100) (hb : 0 ≤ b ∧ b ≤ 100) (hm : 0 ≤ m) :
    BestF v b m (decide ((0 : Int) = winI (finB zs v k) m k)) (if (0 : Int) = winI (finB zs v k) m k then paysI (finB zs v k) m k else 0) (decide ((0 : Int) = winI (finB zs b k) m k)) (if (0 : Int) = winI (finB zs b k) m k then paysI (finB zs b k) m k else 0) := by
  have h0 : finB zs v k 0 = v := rfl
  have h0b : finB zs b k 0 = b := rfl
  obtain ⟨h1, h2, h3⟩ := best_bid (bv := finB zs v k) (bb := finB zs b k) (least := m) (n := k) (by omega) hm (by rw [h0]; exact hv.1) (fun i hi => by unfold finB; rw [if_neg hi, if_neg hi])
  rw [h0] at h1 h2 h3
  have e : ∀ x : Int, ((0 : Int) = x) = (x = 0) := fun x => propext ⟨Eq.symm, Eq.symm⟩
  simp only [e]
  refine ⟨fun h => ?_, fun h => ?_, ?_, ?_, ?_⟩
  · have hw := of_decide_eq_true h
    rw [if_pos hw]
    exact h1 hw
  · have hw := of_decide_eq_false h
    rw [if_neg hw]
  · split
    · rename_i hw
      have := pays_le (bid := finB zs b k) (least := m) (n := k) (k := 0) hw
      rw [h0b] at this
      omega
    · omega
  · by_cases hw : winI (finB zs v k) m k = 0 <;> by_cases hw2 : winI (finB zs b k) m k = 0 <;> simp [hw, hw2] at h2 ⊢ <;> omega
  · by_cases hw : winI (finB zs v k) m k = 0 <;> simp [hw] at h3 ⊢ <;> omega
theorem sure_facts {k : Nat} (hk : (k : Int) = 2 + pickI (((([7] : List Int).length : Nat) : Int) - 1) 3) : decide ((0 : Int) = winI (finB [7] 100 k) 5 k) = true ∧ (if (0 : Int) = winI (finB [7] 100 k) 5 k then paysI (finB [7] 100 k) 5 k else 0) = 7 := by
  have : pickI (((([7] : List Int).length : Nat) : Int) - 1) 3 = 0 := by decide
  have hk2 : k = 2 := by omega
  subst hk2
  decide
theorem ints_new (w : World) (z : Int) : IntsIn (w.alloc (.cells #[.int .i64 z] 3)) (.slice (some ⟨w.heap.size, 0, none⟩) 1 1) [z] := by
  have hn := Go.heap_alloc_new w (.cells #[.int .i64 z] 3)
  refine ⟨_, _, rfl, by simp, fun _ => ⟨w.heap.size, 0, rfl, lt_of_some hn, fun j x hj => ?_⟩⟩
  rw [cell_of_row _ _ _ _ _ _ hn]
  have hj0 := (at_some hj).1
  have : j = 0 := by simpa using hj0
  subst this
  simp at hj
  subst hj
  rfl
theorem IntsIn.below {w w' : World} {v : Value} {zs : List Int} (h : IntsIn w v zs) (hb : Below w.heap.size w w') : IntsIn w' v zs := by
  obtain ⟨ao, cap, rfl, h1, h2⟩ := h
  refine ⟨ao, cap, rfl, h1, fun hp => ?_⟩
  obtain ⟨b, off, rfl, h3, h4⟩ := h2 hp
  exact ⟨b, off, rfl, Nat.lt_of_lt_of_le h3 hb.size, fun j z hz => (hb.cell (p := ⟨b, off + j, none⟩) h3).trans (h4 j z hz)⟩

set_option maxRecDepth 100000 in
set_option maxHeartbeats 8000000 in
theorem best_any (w : World) (a0 a1 a2 : Int) (v3 : Value) (zs : List Int) (hv : IntsIn w v3 zs) (hz : ∀ z ∈ zs, -9223372036854775808 ≤ z ∧ z ≤ 9223372036854775807) (h0 : -9223372036854775808 ≤ a0 ∧ a0 ≤ 9223372036854775807) (h1 : -9223372036854775808 ≤ a1 ∧ a1 ≤ 9223372036854775807) (h2 : -9223372036854775808 ≤ a2 ∧ a2 ≤ 9223372036854775807) (ht : Tab w) :
    Calls Tryd.prog 5 #[.int .i64 a0, .int .i64 a1, .int .i64 a2, v3] w fun e w' => e = .returned (.bool true) ∧ Below w.heap.size w w' := by
  have HV := hidOf hv
  obtain ⟨ao, cap, rfl, hlm, _⟩ := hv
  have bv := pickI_bd a0 101 (by omega)
  have bb := pickI_bd a1 101 (by omega)
  have bm := pickI_bd a2 110 (by omega)
  have HP : Hid (∀ (c n : Int) (wx : World), (-9223372036854775808 ≤ c ∧ c ≤ 9223372036854775807) → 0 < n → n ≤ 9223372036854775807 → Calls Tryd.prog 8 #[.int .i64 c, .int .i64 n] wx fun e w' => e = .returned (.int .i64 (pickI c n)) ∧ w' = wx) := fun c n wx hc hn hn2 => kpick_any c n wx hc.1 hc.2 hn hn2
  obtain ⟨v, hve⟩ : ∃ v, v = pickI a0 101 := ⟨_, rfl⟩
  obtain ⟨b, hbe⟩ : ∃ b, b = pickI a1 101 := ⟨_, rfl⟩
  obtain ⟨m, hme⟩ : ∃ m, m = pickI a2 110 := ⟨_, rfl⟩
  rw [← hve] at bv
  rw [← hbe] at bb
  rw [← hme] at bm
  have Hv := hidOf hve
  have Hb := hidOf hbe
  have Hm := hidOf hme
  have HT := hidOf ht
  have HZ := hidOf hz
  clear hve hbe hme ht hz
  go_enter Tryd.func5, Tryd.ntmps5
  go_wp2_with fail
  refine (HP.out a0 101 _ h0 (by omega) (by omega)).mono ?_
  rintro e w' ⟨rfl, h⟩
  rw [h, ← Hv.out]
  clear h w'
  go_wp2_with fail
  refine (HP.out a1 101 _ h1 (by omega) (by omega)).mono ?_
  rintro e w' ⟨rfl, h⟩
  rw [h, ← Hb.out]
  clear h w'
  go_wp2_with fail
  refine (HP.out a2 110 _ h2 (by omega) (by omega)).mono ?_
  rintro e w' ⟨rfl, h⟩
  rw [h, ← Hm.out]
  clear h w' HP h0 h1 h2
  by_cases hlen : zs.length = 0
  · have hl0 : ((zs.length : Int) == 0) = true := by rw [hlen]; rfl
    have IN := hidOf (ints_new w 0)
    have B0 : Hid (Below w.heap.size w (w.alloc (.cells #[.int .i64 0] 3))) := (Below.refl _ _).alloc (Nat.le_refl _) _
    obtain ⟨os, hos⟩ : ∃ os : List Int, os = [0] := ⟨_, rfl⟩
    have hol : 0 < os.length := by rw [hos]; simp
    have HOz : Hid (∀ z ∈ os, -9223372036854775808 ≤ z ∧ z ≤ 9223372036854775807) := by
      intro z hz
      rw [hos] at hz
      rw [List.mem_singleton.1 hz]
      omega
    rw [← hos] at IN
    clear hos HV HZ
    go_wp2_with fail
    obtain ⟨w0, hw0⟩ : ∃ w0, w0 = w.alloc (.cells #[.int .i64 0] 3) := ⟨_, rfl⟩
    obtain ⟨vo, hvo⟩ : ∃ vo, vo = Value.slice (some ⟨w.heap.size, 0, none⟩) 1 1 := ⟨_, rfl⟩
    rw [← hw0, ← hvo] at IN
    rw [← hw0] at B0
    rw [← hw0, ← hvo]
    clear hw0 hvo
    have C1 := hidOf (sold_any w0 m v vo os IN.out HOz.out hol ⟨bm.1, by omega⟩ ⟨bv.1, by omega⟩ (HT.out.below B0.out HT.out.lt))
    go_wp2_with fail
    refine C1.out.mono ?_
    rintro e y1 ⟨k1, hk1, rfl, hb1⟩
    have IN1 := hidOf (IN.out.below hb1)
    have B1 := hidOf (B0.out.trans (hb1.mono B0.out.size))
    have C2 := hidOf (sold_any y1 m b vo os IN1.out HOz.out hol ⟨bm.1, by omega⟩ ⟨bb.1, by omega⟩ (HT.out.below B1.out HT.out.lt))
    have HF := hidOf (best_facts os v b m k1 hk1.1 ⟨bv.1, by omega⟩ ⟨bb.1, by omega⟩ bm.1)
    obtain ⟨x1, hx1⟩ : ∃ x1, x1 = decide ((0 : Int) = winI (finB os v k1) m k1) := ⟨_, rfl⟩
    obtain ⟨p1, hp1⟩ : ∃ p1, p1 = (if (0 : Int) = winI (finB os v k1) m k1 then paysI (finB os v k1) m k1 else 0) := ⟨_, rfl⟩
    rw [← hx1, ← hp1] at HF ⊢
    clear C1 hb1 hx1 hp1 IN
    go_wp2_with fail
    refine C2.out.mono ?_
    rintro e y2 ⟨k2, hk2, rfl, hb2⟩
    have hkk : k2 = k1 := by omega
    subst hkk
    have B2 := hidOf (B1.out.trans (hb2.mono B1.out.size))
    obtain ⟨x2, hx2⟩ : ∃ x2, x2 = decide ((0 : Int) = winI (finB os b k2) m k2) := ⟨_, rfl⟩
    obtain ⟨p2, hp2⟩ : ∃ p2, p2 = (if (0 : Int) = winI (finB os b k2) m k2 then paysI (finB os b k2) m k2 else 0) := ⟨_, rfl⟩
    rw [← hx2, ← hp2] at HF ⊢
    have B3 : Hid (Below w.heap.size w (y2.alloc (.cells #[.int .i64 7] 3))) := B2.out.alloc B2.out.size _
    have C3 := hidOf (sold_any (y2.alloc (.cells #[.int .i64 7] 3)) 5 100 (.slice (some ⟨y2.heap.size, 0, none⟩) 1 1) [7] (ints_new y2 7) (by intro z hz; rw [List.mem_singleton.1 hz]; omega) (by simp) (by omega) (by omega) (HT.out.below B3.out HT.out.lt))
    clear C2 hb2 hx2 hp2 hk1 hk2 IN1
    go_wp2_with fail
    refine C3.out.mono ?_
    rintro e y3 ⟨k3, hk3, rfl, hb3⟩
    obtain ⟨e1, e2⟩ := sure_facts hk3.2.2
    rw [e1, e2]
    have B4 := hidOf (B3.out.trans (hb3.mono B3.out.size))
    obtain ⟨fa, fz, fc, fg, fn⟩ := HF.out
    clear C3 hb3 e1 e2 hk3 HF B1 B2 B3
    cases x1
    · have q1 := fz rfl
      subst q1
      cases x2
      · simp only [Bool.false_eq_true, if_false] at fg fn
        go_wp2
        go_ret
        exact ⟨rfl, B4.out⟩
      · simp only [Bool.false_eq_true, if_false, if_true] at fg fn
        have hwr : IntKind.i64.wrap (v - p2) = v - p2 := by rw [IntKind.wrap_i64]; omega
        have d1 : decide (v - p2 ≤ 0) = true := decide_eq_true (by omega)
        go_wp2
        go_ret
        exact ⟨rfl, B4.out⟩
    · have q1 := fa rfl
      have hwr1 : IntKind.i64.wrap (v - p1) = v - p1 := by rw [IntKind.wrap_i64]; omega
      have d2 : decide (v < p1) = false := decide_eq_false (by omega)
      have d3 : decide (p1 < m) = false := decide_eq_false (by omega)
      cases x2
      · simp only [Bool.false_eq_true, if_false, if_true] at fg fn
        have d1 : decide (0 ≤ v - p1) = true := decide_eq_true (by omega)
        go_wp2
        go_ret
        exact ⟨rfl, B4.out⟩
      · simp only [if_true] at fg fn
        have hwr : IntKind.i64.wrap (v - p2) = v - p2 := by rw [IntKind.wrap_i64]; omega
        have d1 : decide (0 ≤ v - p1) = true := decide_eq_true (by omega)
        have d4 : decide (v - p2 ≤ v - p1) = true := decide_eq_true (by omega)
        go_wp2
        go_ret
        exact ⟨rfl, B4.out⟩
  · have hl0 : ((zs.length : Int) == 0) = false := by rw [beq_eq_false_iff_ne]; omega
    have hol : 0 < zs.length := by omega
    have IN := HV
    have HOz := HZ
    have B0 : Hid (Below w.heap.size w w) := Below.refl _ _
    clear HV HZ
    have C1 := hidOf (sold_any w m v (.slice ao zs.length cap) zs IN.out HOz.out hol ⟨bm.1, by omega⟩ ⟨bv.1, by omega⟩ (HT.out.below B0.out HT.out.lt))
    go_wp2_with fail
    refine C1.out.mono ?_
    rintro e y1 ⟨k1, hk1, rfl, hb1⟩
    have IN1 := hidOf (IN.out.below hb1)
    have B1 := hidOf (B0.out.trans (hb1.mono B0.out.size))
    have C2 := hidOf (sold_any y1 m b (.slice ao zs.length cap) zs IN1.out HOz.out hol ⟨bm.1, by omega⟩ ⟨bb.1, by omega⟩ (HT.out.below B1.out HT.out.lt))
    have HF := hidOf (best_facts zs v b m k1 hk1.1 ⟨bv.1, by omega⟩ ⟨bb.1, by omega⟩ bm.1)
    obtain ⟨x1, hx1⟩ : ∃ x1, x1 = decide ((0 : Int) = winI (finB zs v k1) m k1) := ⟨_, rfl⟩
    obtain ⟨p1, hp1⟩ : ∃ p1, p1 = (if (0 : Int) = winI (finB zs v k1) m k1 then paysI (finB zs v k1) m k1 else 0) := ⟨_, rfl⟩
    rw [← hx1, ← hp1] at HF ⊢
    clear C1 hb1 hx1 hp1 IN
    go_wp2_with fail
    refine C2.out.mono ?_
    rintro e y2 ⟨k2, hk2, rfl, hb2⟩
    have hkk : k2 = k1 := by omega
    subst hkk
    have B2 := hidOf (B1.out.trans (hb2.mono B1.out.size))
    obtain ⟨x2, hx2⟩ : ∃ x2, x2 = decide ((0 : Int) = winI (finB zs b k2) m k2) := ⟨_, rfl⟩
    obtain ⟨p2, hp2⟩ : ∃ p2, p2 = (if (0 : Int) = winI (finB zs b k2) m k2 then paysI (finB zs b k2) m k2 else 0) := ⟨_, rfl⟩
    rw [← hx2, ← hp2] at HF ⊢
    have B3 : Hid (Below w.heap.size w (y2.alloc (.cells #[.int .i64 7] 3))) := B2.out.alloc B2.out.size _
    have C3 := hidOf (sold_any (y2.alloc (.cells #[.int .i64 7] 3)) 5 100 (.slice (some ⟨y2.heap.size, 0, none⟩) 1 1) [7] (ints_new y2 7) (by intro z hz; rw [List.mem_singleton.1 hz]; omega) (by simp) (by omega) (by omega) (HT.out.below B3.out HT.out.lt))
    clear C2 hb2 hx2 hp2 hk1 hk2 IN1
    go_wp2_with fail
    refine C3.out.mono ?_
    rintro e y3 ⟨k3, hk3, rfl, hb3⟩
    obtain ⟨e1, e2⟩ := sure_facts hk3.2.2
    rw [e1, e2]
    have B4 := hidOf (B3.out.trans (hb3.mono B3.out.size))
    obtain ⟨fa, fz, fc, fg, fn⟩ := HF.out
    clear C3 hb3 e1 e2 hk3 HF B1 B2 B3
    cases x1
    · have q1 := fz rfl
      subst q1
      cases x2
      · simp only [Bool.false_eq_true, if_false] at fg fn
        go_wp2
        go_ret
        exact ⟨rfl, B4.out⟩
      · simp only [Bool.false_eq_true, if_false, if_true] at fg fn
        have hwr : IntKind.i64.wrap (v - p2) = v - p2 := by rw [IntKind.wrap_i64]; omega
        have d1 : decide (v - p2 ≤ 0) = true := decide_eq_true (by omega)
        go_wp2
        go_ret
        exact ⟨rfl, B4.out⟩
    · have q1 := fa rfl
      have hwr1 : IntKind.i64.wrap (v - p1) = v - p1 := by rw [IntKind.wrap_i64]; omega
      have d2 : decide (v < p1) = false := decide_eq_false (by omega)
      have d3 : decide (p1 < m) = false := decide_eq_false (by omega)
      cases x2
      · simp only [Bool.false_eq_true, if_false, if_true] at fg fn
        have d1 : decide (0 ≤ v - p1) = true := decide_eq_true (by omega)
        go_wp2
        go_ret
        exact ⟨rfl, B4.out⟩
      · simp only [if_true] at fg fn
        have hwr : IntKind.i64.wrap (v - p2) = v - p2 := by rw [IntKind.wrap_i64]; omega
        have d1 : decide (0 ≤ v - p1) = true := decide_eq_true (by omega)
        have d4 : decide (v - p2 ≤ v - p1) = true := decide_eq_true (by omega)
        go_wp2
        go_ret
        exact ⟨rfl, B4.out⟩
end Go.Proofs.YtlafddeoheambaaDoor
