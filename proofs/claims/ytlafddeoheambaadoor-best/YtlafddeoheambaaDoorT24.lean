/-
  A world in which nobody is told to do anything: a Tick closes lots alone; bids in words.
-/
import Derived.Test.YtlafddeoheambaaDoorT23
import Derived.Test.YtlafddeoheambaaDoorT03
import Derived.Test.YtlafddeoheambaaDoorT16
import Derived.Deep.AppendLies
set_option linter.unusedVariables false
namespace Go.Proofs.YtlafddeoheambaaDoor
open Go.RowKit

/-- Nobody has an order; nobody is told anything. -/
def Idle (s : SWorld) : Prop := ∀ p ∈ s.players, p.news = [] ∧ ∀ u ∈ p.units, u.what = emptyB ∧ u.arg = emptyB
theorem set_same {α : Type} {l : List α} {k : Nat} {a : α} (h : l[k]? = some a) : l.set k a = l := by
  apply List.ext_getElem?
  intro i
  by_cases e : k = i
  · subst e
    rw [List.getElem?_set_self (at_some h).1, h]
  · rw [List.getElem?_set_ne e]
theorem setPl_same {s : SWorld} {n : Nat} {p : SPlayer} (h : s.players[n]? = some p) : s.setPl n p = s := by
  unfold SWorld.setPl
  rw [set_same h]
theorem Idle.does {s : SWorld} (h : Idle s) (n k : Nat) : doesS s n k = s := by
  unfold doesS
  cases hp : s.players[n]? with
  | none => rfl
  | some p =>
    simp only
    cases hu : p.units[k]? with
    | none => rfl
    | some u =>
      have hi := (h p (List.mem_of_getElem? hp)).2 u (List.mem_of_getElem? hu)
      have e1 : ({ u with what := emptyB, arg := emptyB } : SUnit) = u := by
        cases u
        simp only at hi
        obtain ⟨h1, h2⟩ := hi
        subst h1 h2
        rfl
      have e0 : emptyB.toList = [] := by rw [Lib.toList_data]; rfl
      simp only [e1, set_same hu]
      have e2 : ({ p with units := p.units } : SPlayer) = p := rfl
      rw [e2, setPl_same hp, hi.1]
      unfold actS
      simp only [e0]
      rfl
theorem Idle.units {s : SWorld} (h : Idle s) (n j : Nat) : unitsTo s n j = s := by
  induction j with
  | zero => rfl
  | succ j ih =>
    show doesS (unitsTo s n j) n j = s
    rw [ih, h.does]
theorem Idle.clear {s : SWorld} (h : Idle s) (n : Nat) : clearN s n = s := by
  unfold clearN
  cases hp : s.players[n]? with
  | none => rfl
  | some p =>
    have e : ({ p with news := [] } : SPlayer) = p := by rw [← (h p (List.mem_of_getElem? hp)).1]
    simp only [e]
    exact setPl_same hp
theorem Idle.tickTo {s : SWorld} (h : Idle s) (n : Nat) : tickTo s n = s := by
  induction n with
  | zero => rfl
  | succ n ih =>
    show playerS (Proofs.YtlafddeoheambaaDoor.tickTo s n) n = s
    rw [ih]
    unfold playerS
    rw [h.clear, h.units]
theorem Idle.tick {s : SWorld} (h : Idle s) : tickS s = closeS { s with now := s.now + 1 } := by
  unfold tickS
  rw [h.tickTo]

def lotB : ByteArray := ⟨#[108, 111, 116]⟩
def bidP : ByteArray := ⟨#[98, 105, 100, 32, 108, 111, 116, 32]⟩
/-- A player in a corner that bids b. -/
def seP (s : SSpot) (b : Int) : SPlayer := { money := 100, units := [firstU s], bids := setB [] lotB b, news := [] }
theorem bid_words : ∀ m : Fin 101, splitB (bidP ++ itoaB (m.val : Int)).data.toList = [bidW, lotB.data.toList, Lib.itoa (m.val : Int)] ∧ numberI (Lib.itoa (m.val : Int)) = (m.val : Int) := by decide +kernel
theorem bid_order {s : SWorld} {n : Nat} {p : SSpot} {ends least : Int} {m : Int} (hm : 0 ≤ m ∧ m ≤ 100) (hp : s.players[n]? = some (seP p 0)) (hl : s.lots = [⟨lotB, least, ends⟩]) :
    orderS s n (bidP ++ itoaB m).data.toList = (0, s.setPl n (seP p m)) := by
  obtain ⟨k, rfl⟩ := Int.eq_ofNat_of_zero_le hm.1
  obtain ⟨h1, h2⟩ := bid_words ⟨k, by omega⟩
  simp only at h1 h2
  have hn := (at_some hp).1
  unfold orderS
  rw [if_pos (by omega), Int.toNat_natCast, hp]
  show wordsS s n (seP p 0) (splitB (bidP ++ itoaB (k : Int)).data.toList) = _
  rw [h1]
  unfold wordsS
  have e1 : (bidW == bidW && nameB lotB.data.toList && decide (0 ≤ numberI (Lib.itoa (k : Int)))) = true := by
    rw [h2]
    have : decide ((0 : Int) ≤ (k : Int)) = true := decide_eq_true (by omega)
    rw [this]
    decide
  simp only [e1, if_true]
  have e2 : bytesOf lotB.data.toList = lotB := bytesOf_data lotB
  rw [e2, h2]
  unfold bidS
  have e3 : openB s.lots lotB = true := by
    rw [hl]
    unfold openB
    simp [eqS]
  have e4 : (seP p 0).bids = [] := by unfold seP setB; simp
  rw [e3, if_pos rfl, e4]
  have e5 : ¬ (seP p 0).money < (k : Int) + stakedI [] lotB := by show ¬ (100 : Int) < (k : Int) + 0; omega
  rw [if_neg e5]
  rfl
theorem offer_first {s : SWorld} (hl : s.lots = []) {least ticks : Int} (h1 : 0 ≤ least ∧ least ≤ 100000) (h2 : 1 ≤ ticks ∧ ticks ≤ 1000) : offerS s lotB least ticks = (0, { s with lots := [⟨lotB, least, s.now + ticks⟩] }) := by
  unfold offerS
  have e1 : nameB lotB.data.toList = true := by decide
  have e2 : openB s.lots lotB = false := by rw [hl]; rfl
  have e3 : (inB least 0 100000 && inB ticks 1 1000) = true := by
    unfold inB
    simp only [Bool.and_eq_true, decide_eq_true_eq]
    omega
  rw [e1, if_pos rfl, e2, if_neg (by simp), e3, if_pos rfl, hl]
  rfl

/-- What a player sees does not hang on what the others bid. -/
theorem view_same {s t : SWorld} {p q q' : SPlayer} (hs : s.players = [p, q]) (ht : t.players = [p, q']) (hu : q'.units = q.units) (e1 : t.width = s.width) (e2 : t.height = s.height) (e3 : t.sight = s.sight) (e4 : t.now = s.now) (e5 : t.ore = s.ore) (e6 : t.lots = s.lots) : viewS s 0 = viewS t 0 := by
  have hh : ∀ x y, holderI s.players x y = holderI t.players x y := by
    intro x y
    rw [hs, ht]
    unfold holderI
    have : standsB x y q' = standsB x y q := by unfold standsB; rw [hu]
    simp only [ixOf, this]
    rfl
  have hseen : ∀ x y, seenL s 0 p.units x y = seenL t 0 p.units x y := by
    intro x y
    unfold seenL spotL otherL
    rw [e3, e5, hh]
  have hrow : ∀ k, rowsTo s 0 p.units k = rowsTo t 0 p.units k := by
    intro k
    unfold rowsTo rowTo
    simp only [hseen, e1]
  unfold viewS
  rw [hs, ht]
  simp only [List.length_cons, List.length_nil]
  rw [if_pos (by omega), if_pos (by omega)]
  show (bytesOf (viewL s 0 p), (0 : Int)) = (bytesOf (viewL t 0 p), 0)
  unfold viewL ownL lotsL
  rw [hrow, e2, e4, e6]
theorem view_some {s : SWorld} {p q : SPlayer} (hs : s.players = [p, q]) : (viewS s 0).1 = bytesOf (viewL s 0 p) ∧ 0 < (viewS s 0).1.size := by
  have e : (viewS s 0).1 = bytesOf (viewL s 0 p) := by
    unfold viewS
    rw [hs]
    simp only [List.length_cons, List.length_nil]
    rw [if_pos (by omega)]
    rfl
  refine ⟨e, ?_⟩
  rw [e, bytesOf_size]
  unfold viewL ownL tickL lineL
  simp only [List.length_append, List.length_cons, List.length_nil]
  omega

/-- What Sealed plays. -/
def seS (n m k i : Int) : SWorld := { width := 5, height := 5, sight := 4, now := i, ore := oreOf 4, players := [seP ⟨0, 0, 0⟩ m, seP ⟨4, 4, 0⟩ k], lots := [⟨lotB, 10, n⟩] }
theorem se_newB : newB 5 5 4 (oreOf (5 - 1)) ((cornersOf (5 - 1)).take 2) = true := by decide
theorem seP_first (s : SSpot) : firstP s = seP s 0 := by
  unfold firstP seP setB
  simp
theorem se_begun : (begunS 5 4 2).players = [seP ⟨0, 0, 0⟩ 0, seP ⟨4, 4, 0⟩ 0] := by
  show [firstP ⟨0, 0, 0⟩, firstP ⟨4, 4, 0⟩] = _
  rw [seP_first, seP_first]
theorem se_offer {n : Int} (h : 1 ≤ n ∧ n ≤ 1000) : offerS (begunS 5 4 2) lotB 10 n = (0, seS n 0 0 0) := by
  rw [offer_first rfl (by omega) h]
  have e := se_begun
  have e2 : ({ begunS 5 4 2 with lots := [⟨lotB, 10, (begunS 5 4 2).now + n⟩] } : SWorld) = { begunS 5 4 2 with players := (begunS 5 4 2).players, lots := [⟨lotB, 10, 0 + n⟩] } := rfl
  rw [e2, e, Int.zero_add]
  rfl
theorem se_bid0 {n m k : Int} (hm : 0 ≤ m ∧ m ≤ 100) : orderS (seS n 0 k 0) 0 (bidP ++ itoaB m).data.toList = (0, seS n m k 0) := by
  have := bid_order (s := seS n 0 k 0) (n := 0) (p := ⟨0, 0, 0⟩) (ends := n) (least := 10) hm rfl rfl
  exact this
theorem se_bid1 {n m k : Int} (hk : 0 ≤ k ∧ k ≤ 100) : orderS (seS n m 0 0) 1 (bidP ++ itoaB k).data.toList = (0, seS n m k 0) := by
  have := bid_order (s := seS n m 0 0) (n := 1) (p := ⟨4, 4, 0⟩) (ends := n) (least := 10) hk rfl rfl
  exact this
theorem se_idle (n m k i : Int) : Idle (seS n m k i) := by
  intro p hp
  simp only [seS, List.mem_cons, List.not_mem_nil, or_false] at hp
  rcases hp with rfl | rfl
  all_goals
    refine ⟨rfl, fun u hu => ?_⟩
    have : u = firstU _ := List.mem_singleton.1 hu
    subst this
    exact ⟨rfl, rfl⟩
theorem se_tick {n m k i : Int} (h : i + 1 < n) : tickS (seS n m k i) = seS n m k (i + 1) := by
  rw [(se_idle n m k i).tick]
  unfold closeS
  have hd : decide (n = i + 1) = false := decide_eq_false (by omega)
  have e1 : dueL [⟨lotB, 10, n⟩] (i + 1) = [] := by
    unfold dueL sortL
    simp [insL, hd]
  show ({ (dueL [⟨lotB, 10, n⟩] (i + 1)).foldl sellS { seS n m k i with now := i + 1 } with lots := [⟨lotB, 10, n⟩].filter (fun l => !decide (l.ends = i + 1)) } : SWorld) = _
  rw [e1]
  have e2 : [(⟨lotB, 10, n⟩ : SLot)].filter (fun l => !decide (l.ends = i + 1)) = [⟨lotB, 10, n⟩] := by simp [hd]
  rw [e2]
  rfl
/-- The lot closes. -/
theorem se_close {n m k i : Int} (h : i + 1 = n) : ∃ p q who pays, (tickS (seS n m k i)).players = [p, q] ∧ (tickS (seS n m k i)).lots = [] ∧ p.units = [firstU ⟨0, 0, 0⟩] ∧ p.news = [newsB lotB who pays 0] := by
  rw [(se_idle n m k i).tick]
  subst h
  have e1 : dueL [⟨lotB, 10, i + 1⟩] (i + 1) = [⟨lotB, 10, i + 1⟩] := by
    unfold dueL sortL
    simp [insL]
  have e3 : closeS { seS (i + 1) m k i with now := (seS (i + 1) m k i).now + 1 } = { (dueL [⟨lotB, 10, i + 1⟩] (i + 1)).foldl sellS { seS (i + 1) m k i with now := i + 1 } with lots := [⟨lotB, 10, i + 1⟩].filter (fun l => !decide (l.ends = i + 1)) } := rfl
  rw [e3, e1]
  have e2 : [(⟨lotB, 10, i + 1⟩ : SLot)].filter (fun l => !decide (l.ends = i + 1)) = [] := by simp
  rw [e2]
  exact ⟨_, _, _, _, rfl, rfl, rfl, rfl⟩
theorem newsB_no (who pays : Int) (i : Nat) : NoE (newsB lotB who pays i) := by
  unfold newsB
  repeat' split
  all_goals
    intro c hc
    simp only [ByteArray.data_append, Array.toList_append, List.mem_append] at hc
  · rcases hc with ((hc | hc) | hc) | hc
    · exact no_lit (l := wonW.data.toList) (by decide) c hc
    · exact no_lit (l := lotB.data.toList) (by decide) c hc
    · exact no_lit (l := forW.data.toList) (by decide) c hc
    · exact (itoaB_cln _ c hc).1
  · rcases hc with hc | hc
    · exact no_lit (l := passW.data.toList) (by decide) c hc
    · exact no_lit (l := lotB.data.toList) (by decide) c hc
  · rcases hc with hc | hc
    · exact no_lit (l := soldW.data.toList) (by decide) c hc
    · exact no_lit (l := lotB.data.toList) (by decide) c hc
/-- The last line of a view behind the closing. -/
theorem last_line {s : SWorld} {p : SPlayer} {x : ByteArray} {sp : SSpot} (hl : s.lots = []) (hu : p.units = [firstU sp]) (hn : p.news = [x]) (hx : NoE x) : ∃ ls, linesB (viewL s 0 p) = ls ++ [x.data.toList] := by
  refine ⟨[lineT [wTick, itoaB s.now, wMoney, itoaB p.money]] ++ p.units.flatMap (fun u => [unitT u]) ++ rowsLs s 0 p.units s.height.toNat ++ (sortL s.lots).flatMap (fun l => [lotT p l]), ?_⟩
  rw [(view_lns s 0 p (fun u h => ?_) (by rw [hl]; intro l h; simp [sortL] at h) (fun m h => ?_)).lines]
  · unfold viewLs
    rw [hn]
    rfl
  · rw [hu] at h
    have : u = firstU sp := List.mem_singleton.1 h
    subst this
    exact ClnL.cons (by decide) ClnL.nil
  · rw [hn] at h
    rw [List.mem_singleton.1 h]
    exact hx
def soldT : List UInt8 := [115, 111, 108, 100, 32, 108, 111, 116]
def passT : List UInt8 := [112, 97, 115, 115, 101, 100, 32, 108, 111, 116]
def wonT : List UInt8 := [119, 111, 110, 32, 108, 111, 116, 32, 102, 111, 114, 32]
theorem news_kinds (who pays : Int) (i : Nat) : (newsB lotB who pays i).data.toList = soldT ∨ (newsB lotB who pays i).data.toList = passT ∨ ∃ r, (newsB lotB who pays i).data.toList = wonT ++ r := by
  unfold newsB
  split
  · refine .inr (.inr ⟨(itoaB pays).data.toList, ?_⟩)
    simp only [ByteArray.data_append, Array.toList_append]
    rfl
  · split
    · exact .inr (.inl (by simp only [ByteArray.data_append, Array.toList_append]; rfl))
    · exact .inl (by simp only [ByteArray.data_append, Array.toList_append]; rfl)
end Go.Proofs.YtlafddeoheambaaDoor

/-
  The functions lines and begins of package hazekeep.
-/
namespace Go.Proofs.YtlafddeoheambaaDoor
open Go.RowKit

theorem piece_eq (s : ByteArray) (f k : Nat) : s.extract f k = bytesOf ((s.data.toList.take k).drop f) := by
  apply bytes_ext
  rw [Lib.extract_data, bytesOf_toList, List.drop_take]
theorem cut_end {s : ByteArray} {k : Nat} {ls : List (List UInt8)} {r : List UInt8} (h : k < s.size) (hc : cutL (s.data.toList.take k) = (ls, r)) (he : s[k] = 10) : cutL (s.data.toList.take (k + 1)) = (ls ++ [r], (s.data.toList.take (k + 1)).drop (k + 1)) := by
  have hl : (s.data.toList.take (k + 1)).drop (k + 1) = [] := by
    apply List.drop_eq_nil_of_le
    exact List.length_take_le _ _
  rw [hl, take_snoc s k h, cut_snoc, hc, he]
  rfl
theorem cut_on {s : ByteArray} {k f : Nat} {ls : List (List UInt8)} (h : k < s.size) (hf : f ≤ k) (hc : cutL (s.data.toList.take k) = (ls, (s.data.toList.take k).drop f)) (he : s[k] ≠ 10) : cutL (s.data.toList.take (k + 1)) = (ls, (s.data.toList.take (k + 1)).drop f) := by
  have hl : (s.data.toList.take k).length = k := by
    rw [List.length_take]
    have : s.data.toList.length = s.size := by rw [Array.length_toList]; rfl
    omega
  rw [take_snoc s k h, cut_snoc, hc, List.drop_append_of_le_length (by omega)]
  unfold cutStep
  rw [if_neg he]

set_option maxRecDepth 100000 in
set_option maxHeartbeats 4000000 in
theorem klines_any (s : ByteArray) (w : World) (hs : s.size ≤ 10000000000) :
    Calls Tryd.prog 16 #[.string s] w fun e w' => ∃ v, e = .returned v ∧ Below w.heap.size w w' ∧ w'.ownsRow w.heap.size 9 1 v (linesB s.data.toList).length (strs (linesB s.data.toList)) := by
  obtain ⟨i0, hi, hz0, hz1, hz2⟩ := info_parts Tryd.infoString
  go_enter Tryd.func16, Tryd.ntmps16
  go_wp2
  go_loopw [3, 4, 5] (fun l fr i w' => ∃ (k f c : Nat) (a : Option Addr) (ls : List (List UInt8)), k ≤ s.size ∧ f ≤ k ∧ i = .int .i64 k ∧ fr = .int .i64 f ∧ l = .slice a ls.length c ∧ Hid (Below w.heap.size w w') ∧ Hid (cutL (s.data.toList.take k) = (ls, (s.data.toList.take k).drop f)) ∧ ls.length ≤ k ∧
      Hid (w'.ownsRow w.heap.size 9 1 (.slice a ls.length c) ls.length (strs ls))) (fun _ _ i _ => s.size + 1 - (intOf i).toNat)
  case atStart => exact ⟨0, 0, 0, none, [], Nat.zero_le _, Nat.zero_le _, rfl, rfl, rfl, Below.refl _ _, by unfold Hid; simp [cutL], Nat.le_refl _, World.ownsRow_nil _ _ _ _⟩
  case round =>
    obtain ⟨k, f, c, a, ls, hk, hf, rfl, rfl, rfl, hb, hcut, hlk, hown⟩ := hrel
    by_cases hlt : k < s.size
    · by_cases hc : (s[k].toNat : Int) = 10
      · have he : s[k] = 10 := by apply UInt8.toNat.inj; show s[k].toNat = 10; omega
        have hs2 : Hid (cutL (s.data.toList.take (k + 1)) = (ls ++ [(s.data.toList.take k).drop f], (s.data.toList.take (k + 1)).drop (k + 1))) := cut_end hlt hcut.out he
        have hc' : ((s[k].toNat : Int) == 10) = true := by simpa using hc
        have hc3 : ls.length ≤ c ∧ c ≤ maxLen := by
          rcases own_form (own_any hown.out) with ⟨h, h0, _⟩ | ⟨g', c', h, h1, h2, _⟩
          · injection h with _ _ h
            exact ⟨by omega, by unfold maxLen; omega⟩
          · injection h with _ _ h
            exact ⟨by omega, by unfold maxLen at *; omega⟩
        obtain ⟨hc3a, hc3b⟩ := hc3
        unfold maxLen at hc3b
        have HP : Hid (Value.string (s.extract f k) = .string (bytesOf ((s.data.toList.take k).drop f))) := by unfold Hid; rw [piece_eq]
        have HB9 : Hid (∀ (o : Obj) (wx : World), (wr.alloc o).grownBy wx (Value.slice a ls.length c).ownBlock → Hid (Below w.heap.size w wx)) := fun o wx hg => by
          refine (hb.out.alloc hb.out.size _).grown hg (by have := hb.out.size; simp; omega) (fun r hr => ?_)
          exact (hown.out.lt r hr).1
        have HO2 : Hid (∀ o, (wr.alloc o).ownsRow w.heap.size 9 1 (.slice a ls.length c) ls.length (strs ls)) := fun o => ownsRow_alloc hown.out o
        have HBs := hidOf' hb.out.size
        have hfs : f ≤ s.size := by omega
        clear hc hb hown hcut he
        go_wp2_with (at_builtin; refine wpList_append_lies _ rfl _ _ _ rfl w.heap.size 9 i0 _ 1 16 Tryd.underlying28 hi hz0 hz1 hz2 rfl (by omega) (.slice a ls.length c) ls.length (strs ls) rfl (by exact HO2.out _) ⟨wr.heap.size, 0, none⟩ 1 1 [.string (s.extract f k)] rfl rfl (by exact World.news_of_block (Go.heap_alloc_new wr _)) (by intro u hu; simp at hu; subst hu; rfl) (by omega) (by unfold maxLen; omega) (by omega) (by have := HBs.out; simp; omega) (wr.heap.size + 1) (by simp) ?_; intro g' cap' w1 hown1 hgrow hat hlt')
        have hown2 : Hid (w1.ownsRow w.heap.size 9 1 (.slice (some ⟨g', 0, none⟩) (ls ++ [(s.data.toList.take k).drop f]).length cap') (ls ++ [(s.data.toList.take k).drop f]).length (strs (ls ++ [(s.data.toList.take k).drop f]))) := by
          unfold Hid
          have e : strs (ls ++ [(s.data.toList.take k).drop f]) = strs ls ++ [.string (s.extract f k)] := by rw [HP.out]; simp [strs]
          rw [e, List.length_append]
          exact hown1
        have hb2 := HB9.out _ _ hgrow
        exact ⟨⟨k + 1, k + 1, cap', _, ls ++ [(s.data.toList.take k).drop f], by omega, by omega, by go_num, by go_num, by rw [List.length_append]; rfl, hb2, hs2, by rw [List.length_append]; simp; omega, hown2⟩, by simp [intOf]; omega⟩
      · have he : s[k] ≠ 10 := fun e => hc (by rw [e]; rfl)
        have hs2 : Hid (cutL (s.data.toList.take (k + 1)) = (ls, (s.data.toList.take (k + 1)).drop f)) := cut_on hlt hf hcut.out he
        have hc' : ((s[k].toNat : Int) == 10) = false := by simpa using hc
        clear hc he hcut
        go_wp2
        exact ⟨⟨k + 1, f, c, a, ls, by omega, by omega, by go_num, rfl, rfl, hb, hs2, by omega, hown⟩, by simp [intOf]; omega⟩
    · have he : k = s.size := by omega
      have G : Hid (linesB s.data.toList = ls) := by
        unfold Hid linesB
        have := hcut.out
        rw [he, List.take_of_length_le (by simp)] at this
        rw [this]
      have HO := hown
      clear he hcut hown
      go_wp2
      go_ret
      rw [G.out]
      exact ⟨_, rfl, hb.out, HO.out⟩
set_option maxRecDepth 100000 in
set_option maxHeartbeats 1000000 in
theorem kbegins_any (s t : ByteArray) (w : World) :
    Calls Tryd.prog 17 #[.string s, .string t] w fun e w' => e = .returned (.bool (begB s.data.toList t.data.toList)) ∧ Below w.heap.size w w' := by
  have e1 : s.data.toList.length = s.size := by rw [Array.length_toList]; rfl
  have e2 : t.data.toList.length = t.size := by rw [Array.length_toList]; rfl
  by_cases h : t.size ≤ s.size
  · have hv : Hid (((s.extract 0 t.size).toList == t.toList) = begB s.data.toList t.data.toList) := by
      unfold Hid begB
      rw [Lib.toList_data, Lib.toList_data, Lib.extract_data, e1, e2, decide_eq_true h]
      simp
    obtain ⟨q, hq⟩ : ∃ q, q = ((s.extract 0 t.size).toList == t.toList) := ⟨_, rfl⟩
    rw [← hq] at hv
    have hq' := hq.symm
    clear hq e1 e2
    go_enter Tryd.func17, Tryd.ntmps17
    go_wp2
    go_ret
    exact ⟨ret_bool hv.out, Below.refl _ _⟩
  · have hv : Hid (begB s.data.toList t.data.toList = false) := by
      unfold Hid begB
      rw [e1, e2, decide_eq_false h]
      rfl
    clear e1 e2
    go_enter Tryd.func17, Tryd.ntmps17
    go_wp2
    go_ret
    exact ⟨ret_bool hv.out.symm, Below.refl _ _⟩
end Go.Proofs.YtlafddeoheambaaDoor

/-
  The function Sealed of package hazekeep: the walk.
-/
namespace Go.Proofs.YtlafddeoheambaaDoor
open Go.RowKit

section
variable {w wx : World} {X Z : XW} {b : Nat}
theorem se_offerL (h : TwoL w wx X Z) (hb : X.b = b) (hS : X.S = begunS 5 4 2) {n : Int} (hn : 1 ≤ n ∧ n ≤ 1000) :
    Calls Tryd.prog 15 #[.pointer (some ⟨b, 0, none⟩), .string ⟨#[108, 111, 116]⟩, .int .i64 10, .int .i64 n] wx fun e w' => e = .returned (.int .i64 0) ∧ ∃ X', TwoL w w' X' Z ∧ X'.b = b ∧ X'.S = seS n 0 0 0 := by
  refine (h.offerL hb lotB 10 n (by decide) (.inl (by rw [hS]; rfl))).mono ?_
  rintro e w' ⟨rfl, X', T, hb', hS'⟩
  rw [hS, se_offer hn] at hS' ⊢
  exact ⟨rfl, X', T, hb', hS'⟩
theorem se_bid0L (h : TwoL w wx X Z) (hb : X.b = b) {n m k : Int} (hS : X.S = seS n 0 k 0) (hm : 0 ≤ m ∧ m ≤ 100) (hs : (bidP ++ itoaB m).size ≤ 2000000) :
    Calls Tryd.prog 9 #[.pointer (some ⟨b, 0, none⟩), .int .i64 0, .string (bidP ++ itoaB m)] wx fun e w' => e = .returned (.int .i64 0) ∧ ∃ X', TwoL w w' X' Z ∧ X'.b = b ∧ X'.S = seS n m k 0 := by
  refine (h.orderL hb 0 (bidP ++ itoaB m) hs).mono ?_
  rintro e w' ⟨rfl, X', T, hb', hS'⟩
  rw [hS, se_bid0 hm] at hS' ⊢
  exact ⟨rfl, X', T, hb', hS'⟩
theorem se_bid1L (h : TwoL w wx X Z) (hb : X.b = b) {n m k : Int} (hS : X.S = seS n m 0 0) (hk : 0 ≤ k ∧ k ≤ 100) (hs : (bidP ++ itoaB k).size ≤ 2000000) :
    Calls Tryd.prog 9 #[.pointer (some ⟨b, 0, none⟩), .int .i64 1, .string (bidP ++ itoaB k)] wx fun e w' => e = .returned (.int .i64 0) ∧ ∃ X', TwoL w w' X' Z ∧ X'.b = b ∧ X'.S = seS n m k 0 := by
  refine (h.orderL hb 1 (bidP ++ itoaB k) hs).mono ?_
  rintro e w' ⟨rfl, X', T, hb', hS'⟩
  rw [hS, se_bid1 hk] at hS' ⊢
  exact ⟨rfl, X', T, hb', hS'⟩
/-- The world behind j Ticks. -/
def seAt (n m k j : Int) : SWorld := if j < n then seS n m k j else tickS (seS n m k (n - 1))
theorem se_tickL (h : TwoL w wx X Z) (hb : X.b = b) {n m k j : Int} (hS : X.S = seAt n m k j) (hj : 0 ≤ j ∧ j < n) (hn : n ≤ 10) :
    Calls Tryd.prog 10 #[.pointer (some ⟨b, 0, none⟩)] wx fun e w' => e = .returned (.int .i64 0) ∧ ∃ X', TwoL w w' X' Z ∧ X'.b = b ∧ X'.S = seAt n m k (j + 1) := by
  have e0 : seAt n m k j = seS n m k j := by unfold seAt; rw [if_pos hj.2]
  rw [e0] at hS
  have e1 : (seS n m k j).now = j := rfl
  refine (h.tickL hb).mono ?_
  rintro e w' ⟨rfl, X', T, hb', hS'⟩
  have e2 : tickC (seS n m k j) = 0 := by unfold tickC; rw [e1, if_neg (by omega)]
  have e3 : tickN (seS n m k j) = seAt n m k (j + 1) := by
    unfold tickN seAt
    rw [e1, if_neg (by omega)]
    split
    · exact se_tick (by omega)
    · have : n - 1 = j := by omega
      rw [this]
  rw [hS, e2]
  rw [hS, e3] at hS'
  exact ⟨rfl, X', T, hb', hS'⟩
theorem se_views {n m k k' j : Int} (hX : X.S = seAt n m k j) (hZ : Z.S = seAt n m k' j) (hj : j < n) : (viewS X.S 0).1 = (viewS Z.S 0).1 ∧ 0 < (viewS X.S 0).1.size := by
  have e0 : ∀ k, seAt n m k j = seS n m k j := fun k => by unfold seAt; rw [if_pos hj]
  rw [e0] at hX hZ
  rw [hX, hZ]
  exact ⟨by rw [view_same (s := seS n m k j) (t := seS n m k' j) (p := seP ⟨0, 0, 0⟩ m) (q := seP ⟨4, 4, 0⟩ k) (q' := seP ⟨4, 4, 0⟩ k') rfl rfl rfl rfl rfl rfl rfl rfl rfl], (view_some (s := seS n m k j) (p := seP ⟨0, 0, 0⟩ m) (q := seP ⟨4, 4, 0⟩ k) rfl).2⟩
theorem kinL_len (h : KInL w wx X) (hl : X.S.lots = []) (n : Nat) {p : SPlayer} (hp : p ∈ X.S.players) : (bytesOf (viewL X.S n p)).size ≤ 10000000000 := by
  have hA := h.g.allX h.ok
  have hnow := h.g.now
  have h1 := own_len hA (by omega) hnow h.g.nm hp
  have h2 := rows_len hA n p.units
  have h3 : lotsL X.S p = [] := by unfold lotsL; rw [hl]; rfl
  have hw := news_short h.n h.sl p hp
  unfold NwP at hw
  have h4 := flat_len (fun m : ByteArray => m.data.toList ++ [10]) p.news 3000001 (fun m hm => by
    have := hw.2 m hm
    have e : m.data.toList.length = m.size := by rw [Array.length_toList]; rfl
    simp only [List.length_append, List.length_cons, List.length_nil]
    omega)
  rw [bytesOf_size]
  unfold viewL
  rw [h3]
  unfold newsL
  simp only [List.length_append, List.length_nil]
  omega
/-- The view behind the closing, and its last line. -/
theorem se_last (h : KInL w wx X) {n m k : Int} (hX : X.S = seAt n m k n) : ∃ ls x, (viewS X.S 0).1.size ≤ 10000000000 ∧ linesB (viewS X.S 0).1.data.toList = ls ++ [x] ∧ (x = soldT ∨ x = passT ∨ ∃ r, x = wonT ++ r) := by
  have e0 : seAt n m k n = tickS (seS n m k (n - 1)) := by unfold seAt; rw [if_neg (by omega)]
  rw [e0] at hX
  obtain ⟨p, q, who, pays, hp, hl, hu, hnw⟩ := se_close (n := n) (m := m) (k := k) (i := n - 1) (by omega)
  rw [← hX] at hp hl
  have hv := (view_some hp).1
  obtain ⟨ls, e⟩ := last_line (s := X.S) hl hu hnw (newsB_no who pays 0)
  refine ⟨ls, (newsB lotB who pays 0).data.toList, ?_, ?_, news_kinds who pays 0⟩
  · rw [hv]
    exact kinL_len h hl 0 (by rw [hp]; simp)
  · rw [hv, bytesOf_toList]
    exact e
end
theorem bytes_ne {s : ByteArray} (h : 0 < s.size) : s.toList.isEmpty = false := by
  rw [Lib.toList_data]
  have e : s.data.toList.length = s.size := by rw [Array.length_toList]; rfl
  cases hh : s.data.toList with
  | nil => rw [hh] at e; simp at e; omega
  | cons a r => rfl
theorem bid_size (m : Int) (h : 0 ≤ m ∧ m ≤ 100) : (bidP ++ itoaB m).size ≤ 2000000 ∧ bidP.size + (itoaB m).size ≤ 9223372036854775807 := by
  have := itoaB_size m (by omega)
  have e : bidP.size = 8 := rfl
  rw [ByteArray.size_append]
  omega

set_option maxRecDepth 100000 in
set_option maxHeartbeats 8000000 in
theorem sealed_any (w : World) (a0 a1 a2 a3 : Int) (h0 : -9223372036854775808 ≤ a0 ∧ a0 ≤ 9223372036854775807) (h1 : -9223372036854775808 ≤ a1 ∧ a1 ≤ 9223372036854775807) (h2 : -9223372036854775808 ≤ a2 ∧ a2 ≤ 9223372036854775807) (h3 : -9223372036854775808 ≤ a3 ∧ a3 ≤ 9223372036854775807) (ht : Tab w) :
    Calls Tryd.prog 6 #[.int .i64 a0, .int .i64 a1, .int .i64 a2, .int .i64 a3] w fun e w' => e = .returned (.bool true) ∧ Below w.heap.size w w' := by
  have HB := hidOf (fun wx => begun_inL wx 5 4 2 (by omega) (by omega) se_newB)
  have HT := hidOf ht
  have b9 := pickI_bd a3 9 (by omega)
  have bm := pickI_bd a0 101 (by omega)
  have bk := pickI_bd a1 101 (by omega)
  have bk' := pickI_bd a2 101 (by omega)
  have HP : Hid (∀ (c n : Int) (wx : World), (-9223372036854775808 ≤ c ∧ c ≤ 9223372036854775807) → 0 < n → n ≤ 9223372036854775807 → Calls Tryd.prog 8 #[.int .i64 c, .int .i64 n] wx fun e w' => e = .returned (.int .i64 (pickI c n)) ∧ w' = wx) := fun c n wx hc hn hn2 => kpick_any c n wx hc.1 hc.2 hn hn2
  have HI : Hid (∀ (m : Int) (wx : World), (0 ≤ m ∧ m < 101) → Below w.heap.size w wx → Calls Tryd.prog 11 #[.int .i64 m] wx fun e w' => e = .returned (.string (itoaB m)) ∧ Below wx.heap.size wx w') := fun m wx hm h => itoa_any m (by omega) wx (HT.out.below h HT.out.lt)
  obtain ⟨n, hn⟩ : ∃ n, n = 1 + pickI a3 9 := ⟨_, rfl⟩
  obtain ⟨m, hm⟩ : ∃ m, m = pickI a0 101 := ⟨_, rfl⟩
  obtain ⟨k, hk⟩ : ∃ k, k = pickI a1 101 := ⟨_, rfl⟩
  obtain ⟨k', hk'⟩ : ∃ k', k' = pickI a2 101 := ⟨_, rfl⟩
  rw [← hm] at bm
  rw [← hk] at bk
  rw [← hk'] at bk'
  have bn : 1 ≤ n ∧ n ≤ 10 := by omega
  obtain ⟨zm, ym⟩ := bid_size m (by omega)
  obtain ⟨zk, yk⟩ := bid_size k (by omega)
  obtain ⟨zk', yk'⟩ := bid_size k' (by omega)
  have cm : ∀ w, (Op.stringOp .add bidP (itoaB m)).run Tryd.prog w = .ok (.string (bidP ++ itoaB m)) w := fun w => run_string_add_sum w _ _ ym
  have ck : ∀ w, (Op.stringOp .add bidP (itoaB k)).run Tryd.prog w = .ok (.string (bidP ++ itoaB k)) w := fun w => run_string_add_sum w _ _ yk
  have ck' : ∀ w, (Op.stringOp .add bidP (itoaB k')).run Tryd.prog w = .ok (.string (bidP ++ itoaB k')) w := fun w => run_string_add_sum w _ _ yk'
  have hwr : IntKind.i64.wrap (1 + pickI a3 9) = n := by rw [IntKind.wrap_i64, hn]; omega
  unfold bidP at cm ck ck'
  have Hn := hidOf hn
  have Hm := hidOf hm
  have Hk := hidOf hk
  have Hk' := hidOf hk'
  clear hn hm hk hk' ht
  go_enter Tryd.func6, Tryd.ntmps6
  go_wp2_with fail
  refine (HB.out _).mono ?_
  rintro e w1 ⟨X0, rfl, K0, hS0⟩
  have HK0 := hidOf K0
  have SX := hidOf hS0
  clear K0 hS0
  go_wp2_with fail
  refine (HB.out _).mono ?_
  rintro e w2 ⟨Z0, rfl, K1, hS1⟩
  have T2 := hidOf (twoL_first HK0.out K1)
  have SZ := hidOf hS1
  obtain ⟨bx, hbx⟩ : ∃ bx, bx = X0.b := ⟨_, rfl⟩
  obtain ⟨bz, hbz⟩ : ∃ bz, bz = Z0.b := ⟨_, rfl⟩
  rw [← hbz]
  have BX := hidOf hbx.symm
  have BZ := hidOf hbz.symm
  rw [← hbx]
  clear K1 hS1 HK0 HB hbx hbz
  go_wp2_with fail
  refine (HP.out a3 9 _ h3 (by omega) (by omega)).mono ?_
  rintro e w' ⟨rfl, h⟩
  rw [h]
  clear h w'
  have C3 := hidOf (se_offerL T2.out BX.out SX.out (n := n) (by omega))
  go_wp2_with fail
  refine C3.out.mono ?_
  rintro e w3 ⟨rfl, X3, T3, b3, s3⟩
  have C4 := hidOf (se_offerL T3.swap BZ.out SZ.out (n := n) (by omega))
  have B3 := hidOf b3
  have S3 := hidOf s3
  clear C3 T2 BX SX T3 b3 s3 BZ SZ
  go_wp2_with fail
  refine C4.out.mono ?_
  rintro e w4 ⟨rfl, Z4, T4', b4, s4⟩
  have T4 := hidOf T4'.swap
  have B4 := hidOf b4
  have S4 := hidOf s4
  clear C4 T4' b4 s4
  go_wp2_with fail
  refine (HP.out a0 101 _ h0 (by omega) (by omega)).mono ?_
  rintro e w' ⟨rfl, h⟩
  rw [h, ← Hm.out]
  clear h w'
  go_wp2_with fail
  refine (HI.out m _ bm T4.out.x.b).mono ?_
  rintro e v4 ⟨rfl, hb⟩
  have U4 := hidOf (T4.out.below hb)
  clear hb T4
  have D4 := hidOf (se_bid0L U4.out B3.out S3.out ⟨bm.1, by omega⟩ zm)
  unfold bidP at D4
  go_wp2_with fail
  refine D4.out.mono ?_
  rintro e w5 ⟨rfl, X5, T5', b5, s5⟩
  have T5 := hidOf T5'
  have B5 := hidOf b5
  have S5 := hidOf s5
  clear D4 U4 T5' b5 s5 B3 S3
  go_wp2_with fail
  refine (HP.out a0 101 _ h0 (by omega) (by omega)).mono ?_
  rintro e w' ⟨rfl, h⟩
  rw [h, ← Hm.out]
  clear h w'
  go_wp2_with fail
  refine (HI.out m _ bm T5.out.x.b).mono ?_
  rintro e v5 ⟨rfl, hb⟩
  have U5 := hidOf (T5.out.below hb)
  clear hb T5
  have D5 := hidOf (se_bid0L U5.out.swap B4.out S4.out ⟨bm.1, by omega⟩ zm)
  unfold bidP at D5
  go_wp2_with fail
  refine D5.out.mono ?_
  rintro e w6 ⟨rfl, Z6, T6', b6, s6⟩
  have T6 := hidOf T6'.swap
  have B6 := hidOf b6
  have S6 := hidOf s6
  clear D5 U5 T6' b6 s6 B4 S4
  go_wp2_with fail
  refine (HP.out a1 101 _ h1 (by omega) (by omega)).mono ?_
  rintro e w' ⟨rfl, h⟩
  rw [h, ← Hk.out]
  clear h w'
  go_wp2_with fail
  refine (HI.out k _ bk T6.out.x.b).mono ?_
  rintro e v6 ⟨rfl, hb⟩
  have U6 := hidOf (T6.out.below hb)
  clear hb T6
  have D6 := hidOf (se_bid1L U6.out B5.out S5.out ⟨bk.1, by omega⟩ zk)
  unfold bidP at D6
  go_wp2_with fail
  refine D6.out.mono ?_
  rintro e w7 ⟨rfl, X7, T7', b7, s7⟩
  have T7 := hidOf T7'
  have B7 := hidOf b7
  have S7 := hidOf s7
  clear D6 U6 T7' b7 s7 B5 S5
  go_wp2_with fail
  refine (HP.out a2 101 _ h2 (by omega) (by omega)).mono ?_
  rintro e w' ⟨rfl, h⟩
  rw [h, ← Hk'.out]
  clear h w'
  go_wp2_with fail
  refine (HI.out k' _ bk' T7.out.x.b).mono ?_
  rintro e v7 ⟨rfl, hb⟩
  have U7 := hidOf (T7.out.below hb)
  clear hb T7
  have D7 := hidOf (se_bid1L U7.out.swap B6.out S6.out ⟨bk'.1, by omega⟩ zk')
  unfold bidP at D7
  go_wp2_with fail
  refine D7.out.mono ?_
  rintro e w8 ⟨rfl, Z8, T8', b8, s8⟩
  have T8 := hidOf T8'.swap
  have B8 := hidOf b8
  have S8 := hidOf s8
  clear D7 U7 T8' b8 s8 B6 S6 HP HI
  have E7 : Hid (X7.S = seAt n m k 0) := by unfold Hid seAt; rw [if_pos (by omega)]; exact S7.out
  have E8 : Hid (Z8.S = seAt n m k' 0) := by unfold Hid seAt; rw [if_pos (by omega)]; exact S8.out
  clear S7 S8 cm ck ck' zm zk zk' ym yk yk' Hm Hk Hk' hwr Hn b9 bm bk bk' h0 h1 h2 h3
  obtain ⟨N, rfl⟩ := Int.eq_ofNat_of_zero_le (show 0 ≤ n by omega)
  go_wp2_with fail
  go_loopw [18, 19, 20, 21, 22] (fun i _ _ _ _ w' => ∃ (j : Nat) (X Z : XW), j ≤ N ∧ i = .int .i64 j ∧ Hid (TwoL w w' X Z) ∧ Hid (X.b = bx) ∧ Hid (Z.b = bz) ∧ Hid (X.S = seAt N m k j) ∧ Hid (Z.S = seAt N m k' j)) (fun i _ _ _ _ _ => N + 1 - (intOf i).toNat)
  case atStart => exact ⟨0, X7, Z8, Nat.zero_le _, rfl, T8, B7, B8, E7, E8⟩
  case round =>
    obtain ⟨j, X, Z, hj, rfl, T, Bx, Bz, Ex, Ez⟩ := hrel
    clear T8 B7 B8 E7 E8
    by_cases hlt : j < N
    · have hlt' : (j : Int) < (N : Int) := by omega
      obtain ⟨vq, vn⟩ := se_views Ex.out Ez.out (by omega)
      have C1 := T.out.viewL Bx.out 0 HT.out
      obtain ⟨sv, hsv⟩ : ∃ sv, sv = (viewS X.S 0).1 := ⟨_, rfl⟩
      rw [← hsv] at C1 vq vn
      have HC1 := hidOf C1
      have HVQ := hidOf vq
      have sne : sv.toList.isEmpty = false := bytes_ne vn
      clear C1 hsv vq vn
      go_wp2_with fail
      refine HC1.out.mono ?_
      rintro e y1 ⟨rfl, t1⟩
      have C2 := t1.swap.viewL Bz.out 0 HT.out
      rw [← HVQ.out] at C2
      have HC2 := hidOf C2
      clear C2 HC1 t1 T HVQ
      go_wp2_with fail
      refine HC2.out.mono ?_
      rintro e y2 ⟨rfl, t2⟩
      have C3 := hidOf (se_tickL t2.swap Bx.out Ex.out (by omega) (by omega))
      clear HC2 t2
      go_wp2_with fail
      refine C3.out.mono ?_
      rintro e y3 ⟨rfl, X3, t3, b3, s3⟩
      have C4 := hidOf (se_tickL t3.swap Bz.out Ez.out (by omega) (by omega))
      have B3 := hidOf b3
      have S3 := hidOf s3
      clear C3 t3 b3 s3 Bx Bz Ex Ez
      go_wp2_with fail
      refine C4.out.mono ?_
      rintro e y4 ⟨rfl, Z4, t4, b4, s4⟩
      have T4 := hidOf t4.swap
      have B4 := hidOf b4
      have S4 : Hid (Z4.S = seAt N m k' ((j + 1 : Nat) : Int)) := s4
      have S3' : Hid (X3.S = seAt N m k ((j + 1 : Nat) : Int)) := S3.out
      have svv : (sv.toList == sv.toList) = true := by simp
      clear C4 t4 b4 s4 S3
      go_wp2
      exact ⟨⟨j + 1, X3, Z4, by omega, by go_num, T4, B3, B4, S3', S4⟩, by simp [intOf]; omega⟩
    · have hlt' : decide ((j : Int) < (N : Int)) = false := decide_eq_false (by omega)
      have hje : j = N := by omega
      subst hje
      obtain ⟨ls, x, hz, hl, hx⟩ := se_last T.out.x Ex.out
      have C1 := T.out.viewL Bx.out 0 HT.out
      obtain ⟨sv, hsv⟩ : ∃ sv, sv = (viewS X.S 0).1 := ⟨_, rfl⟩
      rw [← hsv] at C1 hz hl
      have HC1 := hidOf C1
      have HLn : Hid (∀ wx, Calls Tryd.prog 16 #[.string sv] wx fun e w' => ∃ v, e = .returned v ∧ Below wx.heap.size wx w' ∧ w'.ownsRow wx.heap.size 9 1 v (ls ++ [x]).length (strs (ls ++ [x]))) := fun wx => by
        have := klines_any sv wx hz
        rw [hl] at this
        exact this
      clear C1 hsv hl hz Ex Ez Bx Bz
      go_wp2_with fail
      refine HC1.out.mono ?_
      rintro e y1 ⟨rfl, t1⟩
      have HB1 := hidOf t1.x.b
      clear HC1 t1 T
      go_wp2_with fail
      refine (HLn.out _).mono ?_
      rintro e y2 ⟨v, rfl, hb2, ho2⟩
      obtain ⟨ao, g, cap, rfl, hcap, hmax, rd⟩ := own_rd (own_any ho2)
      unfold maxLen at hmax
      have hlen : (ls ++ [x]).length = ls.length + 1 := by simp
      rw [hlen] at rd hcap ⊢
      have eao := rd.base (by omega)
      subst eao
      have cl : y2.cell? ⟨g, ls.length, none⟩ = some (.string (bytesOf x)) := rd.cell ls.length _ (by simp [strs])
      have HB2 := hidOf (HB1.out.trans (hb2.mono HB1.out.size))
      have HG := hidOf (kbegins_any (bytesOf x) ⟨#[119, 111, 110, 32, 108, 111, 116, 32, 102, 111, 114, 32]⟩ y2)
      have hidx : ((ls.length : Int) + 1 == 0) = false := by rw [beq_eq_false_iff_ne]; omega
      have x1 : ((bytesOf x).toList == [115, 111, 108, 100, 32, 108, 111, 116]) = (x == soldT) := by rw [Lib.toList_data, bytesOf_toList]; rfl
      have x2 : ((bytesOf x).toList == [112, 97, 115, 115, 101, 100, 32, 108, 111, 116]) = (x == passT) := by rw [Lib.toList_data, bytesOf_toList]; rfl
      have x3 : begB (bytesOf x).data.toList (ByteArray.mk #[119, 111, 110, 32, 108, 111, 116, 32, 102, 111, 114, 32]).data.toList = begB x wonT := by rw [bytesOf_toList]; rfl
      rw [x3] at HG
      clear hb2 ho2 rd HLn HB1 x3 hlen
      rcases hx with rfl | rfl | ⟨r, rfl⟩
      · have y1 : (soldT == soldT) = true := by decide
        rw [y1] at x1
        go_wp2
        go_ret
        exact ⟨rfl, HB2.out⟩
      · have y1 : (passT == soldT) = false := by decide
        have y2 : (passT == passT) = true := by decide
        rw [y1] at x1
        rw [y2] at x2
        go_wp2
        go_ret
        exact ⟨rfl, HB2.out⟩
      · have y1 : (wonT ++ r == soldT) = false := by unfold wonT soldT; simp
        have y2 : (wonT ++ r == passT) = false := by unfold wonT passT; simp
        rw [y1] at x1
        rw [y2] at x2
        rw [beg_app] at HG
        go_wp2_with fail
        refine HG.out.mono ?_
        rintro e y5 ⟨rfl, hb5⟩
        have HB5 := hidOf (HB2.out.trans (hb5.mono HB2.out.size))
        clear hb5 HG HB2
        go_wp2
        go_ret
        exact ⟨rfl, HB5.out⟩
end Go.Proofs.YtlafddeoheambaaDoor
