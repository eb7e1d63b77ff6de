/-
  strconv.Atoi of a small number's numeral.
-/
import Derived.Test.YtlafddeoheambaaGreatDoorT33
import Derived.Test.YtlafddeoheambaaGreatDoorT26
import Derived.Shelf.Lay
import Derived.Shelf.Strconv.Atoi
import Derived.Lib.ConvBytes
import Derived.BigQuiet
set_option linter.unusedVariables false
namespace Go.Proofs.YtlafddeoheambaaGreatDoor
open Go.Shelf
shelf_lay Lays.n172 Nm 172 at Tryz as Tryz.laysAtoi
end Go.Proofs.YtlafddeoheambaaGreatDoor
namespace Go.Proofs.YtlafddeoheambaaGreatDoor
open Go.RowKit

theorem digits_len : ∀ (k u : Nat), u < 10 ^ (k + 1) → (Lib.decDigits u).length ≤ k + 1 := by
  intro k
  induction k with
  | zero =>
    intro u hu
    have : u < 10 := by simpa using hu
    rw [Lib.decDigits, dif_pos this]
    simp
  | succ k ih =>
    intro u hu
    rw [Lib.decDigits]
    split
    · simp
    · have := ih (u / 10) (by rw [Nat.pow_succ] at hu; omega)
      simp
      omega
theorem itoa_short (n : Int) (h : 0 ≤ n ∧ n ≤ 1000000) : (Lib.itoa n).length ≤ 18 := by
  obtain ⟨u, rfl⟩ := Int.eq_ofNat_of_zero_le h.1
  have e : Lib.itoa (u : Int) = Lib.decDigits u := by unfold Lib.itoa; rw [if_neg (by omega)]; simp
  rw [e]
  have := digits_len 7 u (by have : (10 : Nat) ^ (7 + 1) = 100000000 := rfl; omega)
  omega
theorem atoi_any (n : Int) (h : 0 ≤ n ∧ n ≤ 1000000) (w : World) :
    Calls Tryz.prog 34 #[.string (itoaB n)] w fun e w' => e = .returned (.tuple #[.int .i64 n, .nilIface]) ∧ Below w.heap.size w w' := by
  have hs : (itoaB n).size ≤ 18 := by
    have := itoa_short n h
    show (Lib.itoa n).toArray.size ≤ 18
    simpa using this
  have hv : Lib.atoi (itoaB n).data.toList = some n := by
    show Lib.atoi (Lib.itoa n).toArray.toList = some n
    simpa using atoi_itoa n h.1
  refine (Any.strconv_Atoi Tryz.laysAtoi (itoaB n) n hs hv w).mono ?_
  rintro e w' ⟨rfl, t, rfl⟩
  exact ⟨rfl, ⟨rfl, rfl, rfl, by rw [Lib.bytesWorld_size]; omega, fun j hj => Lib.bytesWorld_at_old w _ t j hj⟩⟩
end Go.Proofs.YtlafddeoheambaaGreatDoor

/-
  The function last of package hazekeep: the number at a line's end.
-/
namespace Go.Proofs.YtlafddeoheambaaGreatDoor
open Go.RowKit

set_option maxRecDepth 100000 in
set_option maxHeartbeats 4000000 in
theorem klast_any (s : ByteArray) (l : List UInt8) (n : Int) (w : World) (hs : s.data.toList = l ++ 32 :: Lib.itoa n) (hn : 0 ≤ n ∧ n ≤ 1000000) (hz : s.size ≤ 10000000000) :
    Calls Tryz.prog 44 #[.string s] w fun e w' => e = .returned (.int .i64 n) ∧ Below w.heap.size w w' := by
  have hlen : s.size = l.length + 1 + (Lib.itoa n).length := by
    have : s.data.toList.length = s.size := by rw [Array.length_toList]; rfl
    rw [hs] at this
    simp at this
    omega
  have hin : ∀ k (hk : k < s.size), l.length < k → s[k] ≠ 32 := by
    intro k hk hlk
    have e : s.data.toList[k]? = some s[k] := by
      have : k < s.data.toList.length := by rw [Array.length_toList]; exact hk
      rw [List.getElem?_eq_getElem this]
      rfl
    rw [hs, List.getElem?_append_right (by omega)] at e
    obtain ⟨j, hj⟩ : ∃ j, k - l.length = j + 1 := ⟨k - l.length - 1, by omega⟩
    rw [hj, List.getElem?_cons_succ] at e
    exact (itoa_cln n _ (List.mem_of_getElem? e)).2
  have hat : ∀ (hk : l.length < s.size), s[l.length] = 32 := by
    intro hk
    have e : s.data.toList[l.length]? = some s[l.length] := by
      have : l.length < s.data.toList.length := by rw [Array.length_toList]; exact hk
      rw [List.getElem?_eq_getElem this]
      rfl
    rw [hs, List.getElem?_append_right (Nat.le_refl _), Nat.sub_self] at e
    simpa using e.symm
  have hex : s.extract (l.length + 1) s.size = itoaB n := by
    apply bytes_ext
    rw [Lib.extract_data, hs]
    have e1 : (l ++ 32 :: Lib.itoa n).drop (l.length + 1) = Lib.itoa n := by
      rw [List.drop_append]
      simp
    rw [e1, List.take_of_length_le (by omega)]
    rfl
  have HA : Hid (∀ wx, Calls Tryz.prog 34 #[.string (s.extract (l.length + 1) s.size)] wx fun e w' => e = .returned (.tuple #[.int .i64 n, .nilIface]) ∧ Below wx.heap.size wx w') := fun wx => by rw [hex]; exact atoi_any n hn wx
  have HI := hidOf' hin
  have HT := hidOf' hat
  have hle : l.length + 1 ≤ s.size := by omega
  clear hs hex hin hat hlen
  go_enter Tryz.func44, Tryz.ntmps44
  go_wp2_with fail
  go_loopw [3] (fun i w' => ∃ k : Nat, l.length + 1 ≤ k ∧ k ≤ s.size ∧ i = .int .i64 k ∧ Hid (Below w.heap.size w w')) (fun i _ => (intOf i).toNat)
  case atStart => exact ⟨s.size, by omega, by omega, rfl, Below.refl _ _⟩
  case round =>
    obtain ⟨k, hk1, hk2, rfl, hB⟩ := hrel
    obtain ⟨j, rfl⟩ : ∃ j, k = j + 1 := ⟨k - 1, by omega⟩
    have hk0 : decide ((0 : Int) < ((j + 1 : Nat) : Int)) = true := decide_eq_true (by omega)
    have hj : j < s.size := by omega
    have hwr : IntKind.i64.wrap (((j + 1 : Nat) : Int) - 1) = (j : Int) := by rw [IntKind.wrap_i64]; omega
    by_cases he : j = l.length
    · subst he
      have hc : ((s[l.length].toNat : Int) == 32) = true := by rw [HT.out hj]; rfl
      go_wp2_with fail
      refine (HA.out _).mono ?_
      rintro e w1 ⟨rfl, hb⟩
      go_wp2
      go_ret
      exact ⟨rfl, hB.out.trans (hb.mono hB.out.size)⟩
    · have hne := HI.out j hj (by omega)
      have hc : ((s[j].toNat : Int) == 32) = false := by
        rw [beq_eq_false_iff_ne]
        intro e
        apply hne
        apply UInt8.toNat.inj
        show s[j].toNat = 32
        omega
      go_wp2
      exact ⟨⟨j, by omega, by omega, by go_num, hB⟩, by simp [intOf]⟩
end Go.Proofs.YtlafddeoheambaaGreatDoor

/-
  What the lines of two views tell together, said plainly: units, cargo, ore, what was paid.
-/
namespace Go.Proofs.YtlafddeoheambaaGreatDoor
open Go.RowKit

structure Sm where
  u : Int
  c : Int
  o : Int
  p : Int
def Sm.none : Sm := ⟨0, 0, 0, 0⟩
/-- A line's last word. -/
def tailW (l : List UInt8) : List UInt8 := (l.reverse.takeWhile (fun c => decide (c ≠ 32))).reverse
def lastV (l : List UInt8) : Int := (Lib.atoi (tailW l)).getD 0
theorem tailW_app (a t : List UInt8) (h : ∀ c ∈ t, c ≠ 32) : tailW (a ++ 32 :: t) = t := by
  unfold tailW
  rw [List.reverse_append, List.reverse_cons, List.append_assoc, List.takeWhile_append_of_pos (by
    intro c hc
    exact decide_eq_true (h c (List.mem_reverse.1 hc)))]
  simp
theorem lastV_app (a : List UInt8) (n : Int) (h : 0 ≤ n) : lastV (a ++ 32 :: Lib.itoa n) = n := by
  unfold lastV
  rw [tailW_app _ _ (fun c hc => (itoa_cln n c hc).2), atoi_itoa n h]
  rfl
def wonP : List UInt8 := [119, 111, 110, 32]
def oreP : List UInt8 := [111, 114, 101, 32]
/-- One line more (f: of the first player's view). -/
def addL (f : Bool) (z : Sm) (l : List UInt8) : Sm :=
  if begB l unitP then ⟨z.u + 1, z.c + lastV l, z.o, z.p⟩
  else if begB l wonP then ⟨z.u, z.c, z.o, z.p + lastV l⟩
  else if begB l oreP && f then ⟨z.u, z.c, z.o + lastV l, z.p⟩
  else z
def sumL (f : Bool) (z : Sm) (ls : List (List UInt8)) : Sm := ls.foldl (addL f) z
theorem sumL_app (f : Bool) (z : Sm) (a b : List (List UInt8)) : sumL f z (a ++ b) = sumL f (sumL f z a) b := by simp [sumL, List.foldl_append]
theorem sumL_take (f : Bool) (z : Sm) (ls : List (List UInt8)) (k : Nat) (l : List UInt8) (h : ls[k]? = some l) : sumL f z (ls.take (k + 1)) = addL f (sumL f z (ls.take k)) l := by
  obtain ⟨hk, rfl⟩ := List.getElem?_eq_some_iff.1 h
  rw [List.take_succ_eq_append_getElem hk, sumL_app]
  rfl
/-- A line whose last word is a number. -/
def NumL (l : List UInt8) : Prop := ∃ a n, l = a ++ 32 :: Lib.itoa n ∧ 0 ≤ n ∧ n ≤ 1000000
def LineOK (l : List UInt8) : Prop := (begB l unitP || begB l wonP || begB l oreP) = true → NumL l
theorem NumL.val {l : List UInt8} (h : NumL l) : ∃ a, l = a ++ 32 :: Lib.itoa (lastV l) ∧ 0 ≤ lastV l ∧ lastV l ≤ 1000000 := by
  obtain ⟨a, n, rfl, h0, h1⟩ := h
  rw [lastV_app a n h0]
  exact ⟨a, rfl, h0, h1⟩
/-- No sum is greater. -/
structure SmB (z : Sm) (m : Int) : Prop where
  u : 0 ≤ z.u ∧ z.u ≤ m
  c : 0 ≤ z.c ∧ z.c ≤ m
  o : 0 ≤ z.o ∧ z.o ≤ m
  p : 0 ≤ z.p ∧ z.p ≤ m
theorem SmB.add {z : Sm} {m : Int} (h : SmB z m) (f : Bool) {l : List UInt8} (hl : LineOK l) : SmB (addL f z l) (m + 1000000) := by
  obtain ⟨hu, hc, ho, hp⟩ := h
  unfold addL
  split
  · rename_i h1
    obtain ⟨_, _, h2, h3⟩ := (hl (by simp [h1])).val
    exact ⟨by show 0 ≤ z.u + 1 ∧ z.u + 1 ≤ _; omega, by show 0 ≤ z.c + lastV l ∧ z.c + lastV l ≤ _; omega, by show 0 ≤ z.o ∧ z.o ≤ _; omega, by show 0 ≤ z.p ∧ z.p ≤ _; omega⟩
  · split
    · rename_i h1
      obtain ⟨_, _, h2, h3⟩ := (hl (by simp [h1])).val
      exact ⟨by show 0 ≤ z.u ∧ z.u ≤ _; omega, by show 0 ≤ z.c ∧ z.c ≤ _; omega, by show 0 ≤ z.o ∧ z.o ≤ _; omega, by show 0 ≤ z.p + lastV l ∧ z.p + lastV l ≤ _; omega⟩
    · split
      · rename_i h1
        obtain ⟨_, _, h2, h3⟩ := (hl (by simp only [Bool.and_eq_true] at h1; simp [h1.1])).val
        exact ⟨by show 0 ≤ z.u ∧ z.u ≤ _; omega, by show 0 ≤ z.c ∧ z.c ≤ _; omega, by show 0 ≤ z.o + lastV l ∧ z.o + lastV l ≤ _; omega, by show 0 ≤ z.p ∧ z.p ≤ _; omega⟩
      · exact ⟨by omega, by omega, by omega, by omega⟩
theorem SmB.sum {f : Bool} : ∀ (ls : List (List UInt8)) {z : Sm} {m : Int}, SmB z m → (∀ l ∈ ls, LineOK l) → SmB (sumL f z ls) (m + 1000000 * ls.length) := by
  intro ls
  induction ls with
  | nil => intro z m h _; simpa [sumL] using h
  | cons l r ih =>
    intro z m h hl
    have := ih (h.add f (hl l (by simp))) (fun x hx => hl x (by simp [hx]))
    have e : m + 1000000 + 1000000 * (r.length : Int) = m + 1000000 * ((l :: r).length : Int) := by simp only [List.length_cons]; omega
    rw [e] at this
    exact this
theorem SmB.none : SmB Sm.none 0 := ⟨⟨Int.le_refl 0, Int.le_refl 0⟩, ⟨Int.le_refl 0, Int.le_refl 0⟩, ⟨Int.le_refl 0, Int.le_refl 0⟩, ⟨Int.le_refl 0, Int.le_refl 0⟩⟩
/-- The sums behind the first views. -/
def sumT (L0 L1 : List (List UInt8)) (m : Nat) : Sm := if m = 0 then Sm.none else if m = 1 then sumL true Sm.none L0 else sumL false (sumL true Sm.none L0) L1
end Go.Proofs.YtlafddeoheambaaGreatDoor

/-
  How lots close in the program's world: plain words, and what becomes of it in memory.
-/
namespace Go.Proofs.YtlafddeoheambaaGreatDoor
open Go.RowKit

def saleOf (l : XLot) : XSale := ⟨l.name, (closeTo l.bid l.least 4).1, (closeTo l.bid l.least 4).2.1⟩
def openX (now : Int) (l : XLot) : Bool := decide (now < l.ends)
def keepTo (ls : List XLot) (now : Int) (k : Nat) : List XLot := (ls.take k).filter (openX now)
def dueTo (ls : List XLot) (now : Int) (k : Nat) : List XLot := (ls.take k).filter (fun l => !openX now l)
def sellX (t : SWorld) (l : XLot) : SWorld := sellS t (lotOf l)
def soldTo (s : SWorld) (ls : List XLot) (k : Nat) : SWorld := (dueTo ls s.now k).foldl sellX s
section
variable {ls : List XLot} {now : Int} {k : Nat} {l : XLot}
theorem keep_yes (h : ls[k]? = some l) (ho : openX now l = true) : keepTo ls now (k + 1) = keepTo ls now k ++ [l] := by
  obtain ⟨hk, rfl⟩ := at_some h
  unfold keepTo
  rw [List.take_succ_eq_append_getElem hk, List.filter_append]
  simp [ho]
theorem keep_no (h : ls[k]? = some l) (ho : openX now l = false) : keepTo ls now (k + 1) = keepTo ls now k := by
  obtain ⟨hk, rfl⟩ := at_some h
  unfold keepTo
  rw [List.take_succ_eq_append_getElem hk, List.filter_append]
  simp [ho]
theorem due_yes (h : ls[k]? = some l) (ho : openX now l = false) : dueTo ls now (k + 1) = dueTo ls now k ++ [l] := by
  obtain ⟨hk, rfl⟩ := at_some h
  unfold dueTo
  rw [List.take_succ_eq_append_getElem hk, List.filter_append]
  simp [ho]
theorem due_no (h : ls[k]? = some l) (ho : openX now l = true) : dueTo ls now (k + 1) = dueTo ls now k := by
  obtain ⟨hk, rfl⟩ := at_some h
  unfold dueTo
  rw [List.take_succ_eq_append_getElem hk, List.filter_append]
  simp [ho]
end
theorem sold_yes {s : SWorld} {ls : List XLot} {k : Nat} {l : XLot} (h : ls[k]? = some l) (ho : openX s.now l = false) : soldTo s ls (k + 1) = sellX (soldTo s ls k) l := by
  unfold soldTo
  rw [due_yes h ho, List.foldl_append]
  rfl
theorem sold_no {s : SWorld} {ls : List XLot} {k : Nat} {l : XLot} (h : ls[k]? = some l) (ho : openX s.now l = true) : soldTo s ls (k + 1) = soldTo s ls k := by
  unfold soldTo
  rw [due_no h ho]
theorem sell_bids (t : SWorld) (l : SLot) {nm : ByteArray} (hne : nm ≠ l.name) (i : Nat) : bidsOf (sellS t l).players nm i = bidsOf t.players nm i := by
  unfold bidsOf sellS
  simp only [List.getElem?_mapIdx]
  cases t.players[i]? with
  | none => rfl
  | some p => exact bidI_set_other p.bids 0 hne
theorem fold_bids (D : List XLot) {nm : ByteArray} (i : Nat) : nm ∉ D.map (·.name) → ∀ t : SWorld, bidsOf (D.foldl sellX t).players nm i = bidsOf t.players nm i := by
  induction D with
  | nil => intro _ t; rfl
  | cons l r ih =>
    intro h t
    simp only [List.map_cons, List.mem_cons, not_or] at h
    rw [List.foldl_cons, ih h.2]
    exact sell_bids t (lotOf l) h.1 i
theorem sell_len (t : SWorld) (l : SLot) : (sellS t l).players.length = t.players.length := by simp [sellS]
theorem fold_len (D : List XLot) : ∀ t : SWorld, (D.foldl sellX t).players.length = t.players.length ∧ (D.foldl sellX t).now = t.now ∧ (D.foldl sellX t).lots = t.lots := by
  induction D with
  | nil => intro t; exact ⟨rfl, rfl, rfl⟩
  | cons l r ih =>
    intro t
    rw [List.foldl_cons]
    obtain ⟨h1, h2, h3⟩ := ih (sellX t l)
    exact ⟨h1.trans (sell_len t (lotOf l)), h2, h3⟩

/-- What a sale leaves of a player. -/
def soldX (l : XLot) (i : Nat) (p : SPlayer) : SPlayer :=
  { p with money := if (i : Int) = (saleOf l).who then p.money - (saleOf l).price else p.money, news := p.news ++ [newsB l.name (saleOf l).who (saleOf l).price i], bids := setB p.bids l.name 0 }
theorem sell_eq {t : SWorld} {l : XLot} (hb : ∀ i, bidsOf t.players l.name i = l.bid i) (h0 : ∀ i, 0 ≤ l.bid i) (h4 : t.players.length ≤ 4) :
    sellX t l = { t with players := t.players.mapIdx (soldX l) } ∧ ((saleOf l).who = -1 ∧ (saleOf l).price = 0 ∨ ∃ j, j < t.players.length ∧ (saleOf l).who = j ∧ l.least ≤ (saleOf l).price ∧ (saleOf l).price ≤ l.bid j) := by
  have hf : bidsOf t.players (lotOf l).name = l.bid := funext hb
  have hz : ∀ k, t.players.length ≤ k → k < 4 → l.bid k = 0 := by
    intro k h1 _
    rw [← hb k]
    unfold bidsOf
    rw [List.getElem?_eq_none h1]
  have hw : winI l.bid l.least 4 = winI l.bid l.least t.players.length := by
    unfold winI
    rw [highTo_more h4 hz]
  have hp : paysI l.bid l.least 4 = paysI l.bid l.least t.players.length := by
    unfold paysI
    rw [hw, highTo_more h4 hz]
  obtain ⟨c1, _, c3, c4⟩ := close_high (bid := l.bid) (least := l.least) h0 4
  have w1 : (saleOf l).who = winI l.bid l.least t.players.length := c1.trans hw
  constructor
  · unfold sellX sellS
    rw [hf]
    show ({ t with players := t.players.mapIdx (soldP (lotOf l) (winI l.bid l.least t.players.length) (paysI l.bid l.least t.players.length)) } : SWorld) = _
    have e : soldP (lotOf l) (winI l.bid l.least t.players.length) (paysI l.bid l.least t.players.length) = soldX l := by
      funext i p
      unfold soldP soldX
      rw [w1]
      by_cases h : 0 ≤ winI l.bid l.least t.players.length
      · have : (saleOf l).price = paysI l.bid l.least t.players.length := (c3 (by rw [hw]; exact h)).trans hp
        rw [this]
        rfl
      · have h1 : ¬ (i : Int) = winI l.bid l.least t.players.length := by omega
        rw [if_neg h1, if_neg h1]
        unfold newsB
        rw [if_neg h1, if_neg h1, if_pos (by omega), if_pos (by omega)]
        rfl
    rw [e]
  · rcases winI_form l.bid l.least t.players.length with h | ⟨j, hj, h, _, _⟩
    · exact .inl ⟨w1.trans h, c4 (by rw [hw, h]; omega)⟩
    · refine .inr ⟨j, hj, w1.trans h, ?_⟩
      have hpr : (saleOf l).price = paysI l.bid l.least t.players.length := (c3 (by rw [hw, h]; omega)).trans hp
      rw [hpr]
      exact pays_le h

/-! In memory. -/
theorem TurnX.far {w w1 w2 : World} {X X1 : XW} {F : List Nat} (h : TurnX w X w1 X1) (K : Kept F w1 w2) (hF : ∀ r ∈ F, r ∉ X1.foot ∧ w.heap.size ≤ r) : TurnX w X w2 X1 := by
  refine ⟨h.rep.same (fun r hr => K.block r (h.rep.lt r hr) (fun hm => (hF r hm).1 hr)), ⟨K.os.trans h.kept.os, K.tape.trans h.kept.tape, K.output.trans h.kept.output, Nat.le_trans h.kept.size K.size, fun k hk hn => ?_⟩, h.ext, h.b, fun i q hq => ?_⟩
  · rw [K.block k (Nat.lt_of_lt_of_le hk h.kept.size) (fun hm => by have := (hF k hm).2; omega), h.kept.block k hk hn]
  · obtain ⟨q', a1, a2, a3⟩ := h.rows i q hq
    refine ⟨q', a1, a2, fun g hg => ?_⟩
    obtain ⟨r1, r2, r3⟩ := a3 g hg
    refine ⟨fun j x hj => ?_, r2, r3⟩
    rw [World.cell?_of_block (w := w1) (a := ⟨g, j, none⟩) (K.block g (Nat.lt_of_lt_of_le r2 h.kept.size) (fun hm => by have := (hF g hm).2; omega))]
    exact r1 j x hj
def clsR (X : XW) (g : Nat) : Nat → Role := fun r => if r = g then .cls else X.R r
/-- A sale more. -/
theorem TurnX.addSale {w0 w w6 : World} {X0 X : XW} (T : TurnX w0 X0 w X) (s : XSale) {o : Obj} {gr cap : Nat} (hg2 : (w.alloc o).drew.grownBy w6 (some gr))
    (ho : w6.ownsRow 0 137 3 (.slice (some ⟨gr, 0, none⟩) (X.sales.length + 1) cap) (X.sales.length + 1) (X.sales.flatMap xsaleCells ++ xsaleCells s)) (hat : X.vCl.ownBlock = some gr ∨ gr = w.heap.size + 1) :
    TurnX w0 X0 (w6.setCell ⟨X.b, 8, none⟩ (.slice (some ⟨gr, 0, none⟩) (X.sales.length + 1) cap)) (X.withL X.vOp X.opens (.slice (some ⟨gr, 0, none⟩) (X.sales.length + 1) cap) (X.sales ++ [s]) (clsR X gr)) := by
  have R := T.rep.roles
  have lt := T.rep.lt
  have hcl : gr ∈ blk X.vCl ∨ gr = w.heap.size + 1 := hat.imp (fun h => by simp [blk, h]) id
  have ngr : ∀ r ∈ X.foot, r ∉ blk X.vCl → r ≠ gr := by
    rintro r hr hn rfl
    rcases hcl with h | h
    · exact hn h
    · have := lt r hr; omega
  have nb : X.b ≠ gr := ngr _ xfoot_b (fun hm => by have := R.lot.2 _ hm; rw [R.b] at this; cases this)
  have nop : ∀ r ∈ blk X.vOp, r ≠ gr ∧ r ≠ X.b ∧ r ∈ X.foot := by
    intro r hr
    have hf : r ∈ X.foot := by simp [XW.foot, hr]
    have h1 := R.lot.1 r hr
    refine ⟨ngr r hf (fun hm => by have := R.lot.2 _ hm; rw [h1] at this; cases this), ?_, hf⟩
    rintro rfl
    rw [R.b] at h1
    cases h1
  have old : ∀ r, r < w.heap.size → r ≠ gr → w6.heap[r]? = w.heap[r]? := by
    intro r hr hn
    have h1 : r < (w.alloc o).drew.heap.size := by show r < (w.alloc o).heap.size; simp; omega
    rw [hg2.block r h1 (fun e => hn (Option.some.inj e))]
    exact Below.heap_alloc w o r hr
  have ht : (w6.setCell ⟨X.b, 8, none⟩ (.slice (some ⟨gr, 0, none⟩) (X.sales.length + 1) cap)).heap[X.b]? = some (.cells (X.withL X.vOp X.opens (.slice (some ⟨gr, 0, none⟩) (X.sales.length + 1) cap) (X.sales ++ [s]) (clsR X gr)).cells 84 (0, 0)) := by
    rw [cells_set (show w6.heap[X.b]? = some (.cells X.cells 84 (0, 0)) by rw [old _ (lt _ xfoot_b) nb]; exact T.rep.top)]
    rfl
  have hrep := T.rep.withL (v := X.vOp) (l := X.opens) (v' := .slice (some ⟨gr, 0, none⟩) (X.sales.length + 1) cap) (l' := X.sales ++ [s]) (R' := clsR X gr)
    (w' := w6.setCell ⟨X.b, 8, none⟩ (.slice (some ⟨gr, 0, none⟩) (X.sales.length + 1) cap))
    (fun r hr hb _ hc => by rw [setCell_far _ _ _ _ r hb, old r (lt r hr) (ngr r hr hc)]) ht
    ⟨own_same T.rep.lot.1 (fun r hr => by obtain ⟨h1, h2, h3⟩ := nop r hr; rw [setCell_far _ _ _ _ r h2, old r (lt r h3) h1]), by
      have e1 : (X.sales ++ [s]).length = X.sales.length + 1 := by simp
      have e2 : (X.sales ++ [s]).flatMap xsaleCells = X.sales.flatMap xsaleCells ++ xsaleCells s := by simp
      rw [e1, e2]
      refine own_same ho (fun r hr => setCell_far _ _ _ _ r ?_)
      have : r = gr := by simpa [blk_slice] using hr
      rw [this]
      exact Ne.symm nb⟩
    (fun r hr _ hc => by unfold clsR; rw [if_neg (ngr r hr hc)])
    ⟨fun r hr => by unfold clsR; rw [if_neg (nop r hr).1]; exact R.lot.1 r hr, fun r hr => by
      have : r = gr := by simpa [blk_slice] using hr
      unfold clsR
      rw [if_pos this]⟩
  refine T.withL hrep ⟨hg2.os, hg2.tape, hg2.output, ?_, fun k hk hn => ?_⟩ (fun r hr => .inl (nop r hr).2.2) (fun r hr => ?_)
  · have := hg2.size
    have h2 : (w.alloc o).drew.heap.size = w.heap.size + 1 := by show (w.alloc o).heap.size = _; simp
    show w.heap.size ≤ (w6.setCell _ _).heap.size
    rw [World.setCell]
    simp only [Array.size_modify]
    omega
  · have h1 : k ≠ X.b := fun e => hn (by rw [e]; exact xfoot_b)
    have h2 : k ≠ gr := by
      rintro rfl
      rcases hcl with h | h
      · exact hn (by simp [XW.foot, h])
      · omega
    rw [setCell_far _ _ _ _ k h1, old k hk h2]
  · have : r = gr := by simpa [blk_slice] using hr
    rw [this]
    rcases hcl with h | h
    · exact .inl (by simp [XW.foot, h])
    · exact .inr (by omega)
end Go.Proofs.YtlafddeoheambaaGreatDoor

/-
  A lot's sale in the program's world, in words; what closeLots holds from round to round.
-/
namespace Go.Proofs.YtlafddeoheambaaGreatDoor
open Go.RowKit

theorem ghost_pos (X : XW) (ls : List SLot) (f : Nat → SPlayer → List SBid × List ByteArray) : posL ((X.ghost ls f).pls.map (·.1)) = posL (X.pls.map (·.1)) := by
  unfold posL
  rw [List.map_map, List.map_map]
  apply List.ext_getElem?
  intro i
  simp only [XW.ghost, List.getElem?_map, List.getElem?_mapIdx]
  cases X.pls[i]? <;> rfl
def saleG (X : XW) (l : XLot) : XW := X.ghost X.lots (fun i p => (setB p.bids l.name 0, p.news ++ [newsB l.name (saleOf l).who (saleOf l).price i]))
theorem saleG_at (X : XW) (l : XLot) (i : Nat) : (saleG X l).pls[i]? = (X.pls[i]?).map (fun q => ({ q.1 with bids := setB q.1.bids l.name 0, news := q.1.news ++ [newsB l.name (saleOf l).who (saleOf l).price i] }, q.2)) := by
  simp only [saleG, XW.ghost, List.getElem?_mapIdx]
theorem S_players {X : XW} {ps : List SPlayer} (h : ∀ i : Nat, (X.pls[i]?).map (fun q => q.1) = ps[i]?) : X.S.players = ps := by
  apply List.ext_getElem?
  intro i
  simp only [XW.S, List.getElem?_map]
  exact h i
theorem saleG_none {X : XW} {l : XLot} (h : (saleOf l).who = -1) : (saleG X l).S = { X.S with players := X.S.players.mapIdx (soldX l) } := by
  have e : (saleG X l).S.players = X.S.players.mapIdx (soldX l) := S_players (fun i => by
    rw [saleG_at]
    simp only [XW.S, List.getElem?_mapIdx, List.getElem?_map]
    cases X.pls[i]? with
    | none => rfl
    | some q =>
      have : ¬ (i : Int) = (saleOf l).who := by rw [h]; omega
      simp only [Option.map_some, soldX, if_neg this])
  have e2 : (saleG X l).S = { X.S with players := (saleG X l).S.players } := rfl
  rw [e2, e]
theorem saleG_some {X : XW} {l : XLot} {j : Nat} {p : SPlayer} {v : XV} (hq : X.pls[j]? = some (p, v)) (h : (saleOf l).who = j) : (saleG (X.setQ j ({ p with money := p.money - (saleOf l).price }, v)) l).S = { X.S with players := X.S.players.mapIdx (soldX l) } := by
  obtain ⟨hj, _⟩ := at_some hq
  have e : (saleG (X.setQ j ({ p with money := p.money - (saleOf l).price }, v)) l).S.players = X.S.players.mapIdx (soldX l) := S_players (fun i => by
    rw [saleG_at]
    simp only [XW.S, XW.setQ, List.getElem?_mapIdx, List.getElem?_map]
    by_cases hi : i = j
    · subst hi
      rw [List.getElem?_set_self hj, hq]
      simp only [Option.map_some, soldX, h, if_true]
    · rw [List.getElem?_set_ne (Ne.symm hi)]
      cases X.pls[i]? with
      | none => rfl
      | some q =>
        have : ¬ (i : Int) = (saleOf l).who := by rw [h]; omega
        simp only [Option.map_some, soldX, if_neg this])
  have e2 : (saleG (X.setQ j ({ p with money := p.money - (saleOf l).price }, v)) l).S = { X.S with players := (saleG (X.setQ j ({ p with money := p.money - (saleOf l).price }, v)) l).S.players } := rfl
  rw [e2, e]

/-- What closeLots holds behind k lots. -/
structure ClK (w : World) (X : XW) (w' : World) (k : Nat) (Xk : XW) (v : Value) : Prop where
  t : TurnX w X w' Xk
  s : Xk.S = soldTo X.S X.opens k
  op : Xk.opens = X.opens
  vo : Xk.vOp = X.vOp
  sl : Xk.sales = (dueTo X.opens X.S.now k).map saleOf
  n : NewsOK Xk
  st : StOK (posL (Xk.pls.map (·.1))) Xk.ls
  ore : OreOK Xk.ore Xk.lo
  di : oreD Xk.ore
  row : w'.ownsRow w.heap.size 108 7 v (keepTo X.opens X.S.now k).length ((keepTo X.opens X.S.now k).flatMap xlotCells)
  ap : ∀ r ∈ blk v, r ∉ Xk.foot
theorem own_same2 {w w' : World} {base : Nat} {e : TypeId} {size : Nat} {v : Value} {n : Nat} {xs : List Value} (h : w.ownsRow base e size v n xs) (hs : ∀ r ∈ blk v, w'.heap[r]? = w.heap[r]?) : w'.ownsRow base e size v n xs := by
  obtain ⟨h1, h2⟩ := h
  refine ⟨h1, ?_⟩
  rcases h2 with h2 | ⟨g, cap, cur, hv, hb, hg, r⟩
  · exact .inl h2
  · exact .inr ⟨g, cap, cur, hv, hb, by rw [hs g (by rw [hv]; simp [blk_slice])]; exact hg, r⟩
theorem ClK.below {w : World} {X : XW} {w1 w2 : World} {k : Nat} {Xk : XW} {v : Value} (h : ClK w X w1 k Xk v) (hb : Below w1.heap.size w1 w2) : ClK w X w2 k Xk v :=
  ⟨h.t.below hb, h.s, h.op, h.vo, h.sl, h.n, h.st, h.ore, h.di, own_same2 h.row (fun r hr => hb.block r (own_lt (own_any h.row) r hr)), h.ap⟩
/-- A lot that stays open. -/
theorem ClK.keep {w : World} {X : XW} {w1 w2 : World} {k : Nat} {Xk : XW} {v : Value} {l : XLot} {o : Obj} {g' cap' : Nat} (h : ClK w X w1 k Xk v) (hl : X.opens[k]? = some l) (ho : openX X.S.now l = true)
    (hg : (w1.alloc o).grownBy w2 v.ownBlock) (hat : v.ownBlock = some g' ∨ (w1.alloc o).heap.size ≤ g')
    (hown : w2.ownsRow w.heap.size 108 7 (.slice (some ⟨g', 0, none⟩) ((keepTo X.opens X.S.now k).length + 1) cap') ((keepTo X.opens X.S.now k).length + 1) ((keepTo X.opens X.S.now k).flatMap xlotCells ++ xlotCells l)) :
    ClK w X w2 (k + 1) Xk (.slice (some ⟨g', 0, none⟩) (keepTo X.opens X.S.now (k + 1)).length cap') := by
  have hsz : (w1.alloc o).heap.size = w1.heap.size + 1 := by simp
  have hv : ∀ r, v.ownBlock = some r → r ∉ Xk.foot ∧ w.heap.size ≤ r := fun r hr => ⟨h.ap r (by simp [blk, hr]), (h.row.lt r hr).1⟩
  have hfar : TurnX w X w2 Xk := by
    cases hvb : v.ownBlock with
    | none =>
      rw [hvb] at hg
      refine h.t.far (F := []) ⟨hg.os, hg.tape, hg.output, by have := hg.size; omega, fun r hr _ => ?_⟩ (fun r hr => by cases hr)
      rw [hg.block r (by omega) (by simp)]
      exact Below.heap_alloc w1 o r hr
    | some r0 =>
      rw [hvb] at hg
      refine h.t.far (F := [r0]) ⟨hg.os, hg.tape, hg.output, by have := hg.size; omega, fun r hr hn => ?_⟩ (fun r hr => by obtain rfl := List.mem_singleton.1 hr; exact hv r hvb)
      rw [hg.block r (by omega) (fun e => hn (by simp [Option.some.inj e]))]
      exact Below.heap_alloc w1 o r hr
  refine ⟨hfar, ?_, h.op, h.vo, ?_, h.n, h.st, h.ore, h.di, ?_, fun r hr => ?_⟩
  · rw [sold_no hl ho]
    exact h.s
  · rw [due_no hl ho]
    exact h.sl
  · rw [keep_yes hl ho]
    have e1 : (keepTo X.opens X.S.now k ++ [l]).length = (keepTo X.opens X.S.now k).length + 1 := by simp
    have e2 : (keepTo X.opens X.S.now k ++ [l]).flatMap xlotCells = (keepTo X.opens X.S.now k).flatMap xlotCells ++ xlotCells l := by simp
    rw [e1, e2]
    exact hown
  · have e : r = g' := by simpa [blk_slice] using hr
    rw [e]
    rcases hat with h' | h'
    · exact (hv g' h').1
    · intro hm
      have := h.t.rep.lt g' hm
      omega
/-- A lot that is sold: the sale is told already, the money paid; the list of sales isn't written yet. -/
structure ClM (w : World) (X : XW) (w' : World) (k : Nat) (Xk : XW) (v : Value) (l : XLot) : Prop where
  t : TurnX w X w' Xk
  s : Xk.S = soldTo X.S X.opens (k + 1)
  op : Xk.opens = X.opens
  vo : Xk.vOp = X.vOp
  sl : Xk.sales = (dueTo X.opens X.S.now k).map saleOf
  n : ∀ (i : Nat) q, Xk.pls[i]? = some q → q.1.news = Xk.sales.map (fun s => newsB s.name s.who s.price i) ++ [newsB l.name (saleOf l).who (saleOf l).price i]
  st : StOK (posL (Xk.pls.map (·.1))) Xk.ls
  ore : OreOK Xk.ore Xk.lo
  di : oreD Xk.ore
  row : w'.ownsRow w.heap.size 108 7 v (keepTo X.opens X.S.now k).length ((keepTo X.opens X.S.now k).flatMap xlotCells)
  ap : ∀ r ∈ blk v, r ∉ Xk.foot
theorem ClK.bid {w : World} {X : XW} {w1 : World} {k : Nat} {Xk : XW} {v : Value} (h : ClK w X w1 k Xk v) (hO : OkX X) (hA : Apart X.lots) {l : XLot} (hl : X.opens[k]? = some l) : ∀ i, bidsOf Xk.S.players l.name i = l.bid i := by
  intro i
  have hd := asc_names (hO.lot.asc hA)
  have hn : l.name ∉ (dueTo X.opens X.S.now k).map (·.name) := by
    intro hm
    obtain ⟨x, hx, e⟩ := List.mem_map.1 hm
    have hx2 : x ∈ X.opens.take k := (List.mem_filter.1 hx).1
    obtain ⟨j, hj⟩ := List.getElem?_of_mem hx2
    obtain ⟨hjl, _⟩ := at_some hj
    rw [List.getElem?_take] at hj
    split at hj
    · rename_i hjk
      obtain ⟨hjo, ej⟩ := at_some hj
      obtain ⟨hko, ek⟩ := at_some hl
      have hne : (X.opens.map (·.name))[j]'(by simpa using hjo) ≠ (X.opens.map (·.name))[k]'(by simpa using hko) := List.pairwise_iff_getElem.1 hd j k (by simpa using hjo) (by simpa using hko) hjk
      apply hne
      simp only [List.getElem_map, ej, ek]
      exact e
    · cases hj
  rw [h.s]
  unfold soldTo
  rw [fold_bids _ i hn, bidsOf_at]
  have := hO.lot.bid l (List.mem_of_getElem? hl) i
  rw [this]
  congr 1
  simp [XW.S, Function.comp_def]
theorem ClK.sell0 {w : World} {X : XW} {w1 : World} {k : Nat} {Xk : XW} {v : Value} (h : ClK w X w1 k Xk v) {l : XLot} (hl : X.opens[k]? = some l) (ho : openX X.S.now l = false) (hw : (saleOf l).who = -1) (hs : sellX Xk.S l = { Xk.S with players := Xk.S.players.mapIdx (soldX l) }) : ClM w X w1 k (saleG Xk l) v l := by
  refine ⟨h.t.ghost _ _, ?_, h.op, h.vo, h.sl, fun i q hq => ?_, by rw [show posL ((saleG Xk l).pls.map (·.1)) = _ from ghost_pos _ _ _]; exact h.st, h.ore, h.di, h.row, fun r hr => by rw [show (saleG Xk l).foot = Xk.foot from ghost_foot _ _ _]; exact h.ap r hr⟩
  · rw [saleG_none hw, ← hs, h.s, sold_yes hl ho]
  · rw [saleG_at, Option.map_eq_some_iff] at hq
    obtain ⟨q0, h1, rfl⟩ := hq
    show q0.1.news ++ _ = _
    rw [h.n i q0 h1]
    rfl
theorem ClK.sell1 {w : World} {X : XW} {w1 : World} {k : Nat} {Xk : XW} {v : Value} (h : ClK w X w1 k Xk v) {l : XLot} (hl : X.opens[k]? = some l) (ho : openX X.S.now l = false) {j : Nat} (hw : (saleOf l).who = j) (hs : sellX Xk.S l = { Xk.S with players := Xk.S.players.mapIdx (soldX l) })
    {p : SPlayer} {u : XV} (hq : Xk.pls[j]? = some (p, u)) {pb cap : Nat} (hv : Xk.vPl = .slice (some ⟨pb, 0, none⟩) Xk.pls.length cap) :
    ClM w X (w1.setCell ⟨pb, j * 2, none⟩ (.int .i64 (p.money - (saleOf l).price))) k (saleG (Xk.setQ j ({ p with money := p.money - (saleOf l).price }, u)) l) v l := by
  have hf := xfoot_setQ Xk j (p, u) ({ p with money := p.money - (saleOf l).price }, u) hq rfl
  have hpl : pb ∈ Xk.foot := xfoot_pl (by rw [hv]; simp [blk_slice])
  refine ⟨(h.t.money1 hq hv _).ghost _ _, ?_, h.op, h.vo, h.sl, fun i q hq' => ?_, ?_, h.ore, h.di, own_same2 h.row (fun r hr => setCell_far _ _ _ _ r (fun e => h.ap r hr (by rw [e]; exact hpl))), fun r hr hm => ?_⟩
  · rw [saleG_some hq hw, ← hs, h.s, sold_yes hl ho]
  · rw [saleG_at, Option.map_eq_some_iff] at hq'
    obtain ⟨q0, h1, rfl⟩ := hq'
    show q0.1.news ++ _ = _
    have e : q0.1.news = Xk.sales.map (fun s => newsB s.name s.who s.price i) := by
      rcases setQ_get hq q0 h1 with ⟨rfl, rfl⟩ | ⟨_, h2⟩
      · exact h.n i (p, u) hq
      · exact h.n i q0 h2
    rw [e]
    rfl
  · rw [show posL ((saleG (Xk.setQ j ({ p with money := p.money - (saleOf l).price }, u)) l).pls.map (·.1)) = _ from ghost_pos _ _ _]
    have e : (Xk.setQ j ({ p with money := p.money - (saleOf l).price }, u)).pls.map (·.1) = (Xk.pls.map (·.1)).set j { p with money := p.money - (saleOf l).price } := by simp [XW.setQ, List.map_set]
    rw [e, posL_money (ps := Xk.pls.map (·.1)) (n := j) (p := p) (by simp [hq]) { p with money := p.money - (saleOf l).price } rfl]
    exact h.st
  · have e : (saleG (Xk.setQ j ({ p with money := p.money - (saleOf l).price }, u)) l).foot = (Xk.setQ j ({ p with money := p.money - (saleOf l).price }, u)).foot := ghost_foot _ _ _
    rw [e, hf] at hm
    exact h.ap r hr hm
theorem ClM.below {w : World} {X : XW} {w1 w2 : World} {k : Nat} {Xk : XW} {v : Value} {l : XLot} (h : ClM w X w1 k Xk v l) (hb : Below w1.heap.size w1 w2) : ClM w X w2 k Xk v l :=
  ⟨h.t.below hb, h.s, h.op, h.vo, h.sl, h.n, h.st, h.ore, h.di, own_same2 h.row (fun r hr => hb.block r (own_lt (own_any h.row) r hr)), h.ap⟩
/-- .. and written. -/
theorem ClM.done {w : World} {X : XW} {w1 w6 : World} {k : Nat} {Xk : XW} {v : Value} {l : XLot} (h : ClM w X w1 k Xk v l) (hl : X.opens[k]? = some l) (ho : openX X.S.now l = false) {o : Obj} {gr cap : Nat} (hg2 : (w1.alloc o).drew.grownBy w6 (some gr))
    (hown : w6.ownsRow 0 137 3 (.slice (some ⟨gr, 0, none⟩) (Xk.sales.length + 1) cap) (Xk.sales.length + 1) (Xk.sales.flatMap xsaleCells ++ xsaleCells (saleOf l))) (hat : Xk.vCl.ownBlock = some gr ∨ gr = w1.heap.size + 1) :
    ClK w X (w6.setCell ⟨Xk.b, 8, none⟩ (.slice (some ⟨gr, 0, none⟩) (Xk.sales.length + 1) cap)) (k + 1) (Xk.withL Xk.vOp Xk.opens (.slice (some ⟨gr, 0, none⟩) (Xk.sales.length + 1) cap) (Xk.sales ++ [saleOf l]) (clsR Xk gr)) v := by
  have T := h.t.addSale (saleOf l) hg2 hown hat
  have hgr : ∀ r ∈ blk v, r ≠ gr ∧ r ≠ Xk.b := fun r hr => by
    have hn := h.ap r hr
    have hlt := own_lt (own_any h.row) r hr
    refine ⟨?_, fun e => hn (by rw [e]; exact xfoot_b)⟩
    rintro rfl
    rcases hat with h' | h'
    · exact hn (by simp [XW.foot, blk, h'])
    · omega
  refine ⟨T, ?_, h.op, h.vo, ?_, fun i q hq => ?_, h.st, h.ore, h.di, ?_, fun r hr hm => ?_⟩
  · exact h.s
  · show Xk.sales ++ [saleOf l] = _
    rw [due_yes hl ho, List.map_append, h.sl]
    rfl
  · show q.1.news = (Xk.sales ++ [saleOf l]).map _
    rw [h.n i q hq, List.map_append]
    rfl
  · rw [keep_no hl ho]
    refine own_same2 h.row (fun r hr => ?_)
    have hlt := own_lt (own_any h.row) r hr
    have h1 : r < (w1.alloc o).drew.heap.size := by show r < (w1.alloc o).heap.size; simp; omega
    rw [setCell_far _ _ _ _ r (hgr r hr).2, hg2.block r h1 (fun e => (hgr r hr).1 (Option.some.inj e))]
    exact Below.heap_alloc w1 o r hlt
  · rcases foot_withL hm with h' | h' | h'
    · exact h.ap r hr h'
    · exact h.ap r hr (by simp [XW.foot, h'])
    · have : r = gr := by simpa [blk_slice] using h'
      exact (hgr r hr).1 this
end Go.Proofs.YtlafddeoheambaaGreatDoor

/-
  What closeLots leaves of the program's world.
-/
namespace Go.Proofs.YtlafddeoheambaaGreatDoor
open Go.RowKit

def opnR (X : XW) (v : Value) : Nat → Role := fun r => if r ∈ blk v then .opn else X.R r
theorem ClK.out {w : World} {X : XW} {w1 : World} {k : Nat} {Xk : XW} {v : Value} (h : ClK w X w1 k Xk v) :
    TurnX w X (w1.setCell ⟨Xk.b, 7, none⟩ v) (Xk.withL v (keepTo X.opens X.S.now k) Xk.vCl Xk.sales (opnR Xk v)) := by
  have R := h.t.rep.roles
  have nb : ∀ r ∈ blk v, r ≠ Xk.b := fun r hr e => h.ap r hr (by rw [e]; exact xfoot_b)
  have ncl : ∀ r ∈ blk Xk.vCl, r ≠ Xk.b ∧ r ∉ blk v := fun r hr => by
    have hf : r ∈ Xk.foot := by simp [XW.foot, hr]
    refine ⟨fun e => ?_, fun hm => h.ap r hm hf⟩
    have h1 := R.lot.2 r hr
    rw [e, R.b] at h1
    cases h1
  have ht : (w1.setCell ⟨Xk.b, 7, none⟩ v).heap[Xk.b]? = some (.cells (Xk.withL v (keepTo X.opens X.S.now k) Xk.vCl Xk.sales (opnR Xk v)).cells 84 (0, 0)) := by
    rw [cells_set h.t.rep.top]
    rfl
  have hrep := h.t.rep.withL (v := v) (l := keepTo X.opens X.S.now k) (v' := Xk.vCl) (l' := Xk.sales) (R' := opnR Xk v) (w' := w1.setCell ⟨Xk.b, 7, none⟩ v)
    (fun r _ hb _ _ => setCell_far _ _ _ _ r hb) ht ⟨own_same (own_any h.row) (fun r hr => setCell_far _ _ _ _ r (nb r hr)), own_same h.t.rep.lot.2 (fun r hr => setCell_far _ _ _ _ r (ncl r hr).1)⟩
    (fun r hr _ _ => by unfold opnR; rw [if_neg (fun hm => h.ap r hm hr)])
    ⟨fun r hr => by unfold opnR; rw [if_pos hr], fun r hr => by unfold opnR; rw [if_neg (ncl r hr).2]; exact R.lot.2 r hr⟩
  have hx : ∀ r ∈ (Xk.withL v (keepTo X.opens X.S.now k) Xk.vCl Xk.sales (opnR Xk v)).foot, r ∈ Xk.foot ∨ w.heap.size ≤ r := by
    intro r hr
    rcases foot_withL hr with h' | h' | h'
    · exact .inl h'
    · refine .inr ?_
      have : v.ownBlock = some r := by
        unfold blk at h'
        cases hv : v.ownBlock with
        | none => rw [hv] at h'; simp at h'
        | some g => rw [hv] at h'; simp at h'; rw [h']
      exact (h.row.lt r this).1
    · exact .inl (by simp [XW.foot, h'])
  have hk : Kept Xk.foot w1 (w1.setCell ⟨Xk.b, 7, none⟩ v) := (Kept.refl _ _).setCell _ _ _ (.inl xfoot_b)
  refine ⟨hrep, h.t.kept.setCell _ _ _ (.inl (by rw [h.t.b]; exact xfoot_b)), fun r hr => ?_, h.t.b, h.t.rows.trans (RowsX.keep h.t.rep.rows_lt hrep (fun i q hq => ⟨q, hq, rfl, rfl⟩)) hk h.t.kept.size hx⟩
  rcases hx r hr with h' | h'
  · exact h.t.ext r h'
  · exact .inr h'
theorem opens_inj {X : XW} (hO : OkX X) (hA : Apart X.lots) {a b : XLot} (ha : a ∈ X.opens) (hb : b ∈ X.opens) (e : a.name = b.name) : a = b := by
  have hd := asc_names (hO.lot.asc hA)
  obtain ⟨i, hi⟩ := List.getElem?_of_mem ha
  obtain ⟨j, hj⟩ := List.getElem?_of_mem hb
  obtain ⟨hil, ei⟩ := at_some hi
  obtain ⟨hjl, ej⟩ := at_some hj
  have key : ∀ (x y : Nat) (hx : x < X.opens.length) (hy : y < X.opens.length), x < y → X.opens[x].name ≠ X.opens[y].name := fun x y hx hy hxy => by
    have := List.pairwise_iff_getElem.1 hd x y (by simpa using hx) (by simpa using hy) hxy
    simpa using this
  rcases Nat.lt_trichotomy i j with h | h | h
  · exact absurd (by rw [ei, ej]; exact e) (key i j hil hjl h)
  · subst h
    rw [← ei, ← ej]
  · exact absurd (by rw [ei, ej]; exact e.symm) (key j i hjl hil h)
theorem openX_ends {now : Int} {l : XLot} (h : now ≤ l.ends) : openX now l = !decide ((lotOf l).ends = now) := by
  unfold openX
  show decide (now < l.ends) = !decide (l.ends = now)
  rw [Bool.eq_iff_iff]
  simp only [decide_eq_true_eq, Bool.not_eq_true', decide_eq_false_iff_not]
  omega
theorem filter_lotOf (ls : List XLot) (p : SLot → Bool) : (ls.map lotOf).filter p = (ls.filter (fun l => p (lotOf l))).map lotOf := by
  induction ls with
  | nil => rfl
  | cons a r ih =>
    simp only [List.map_cons, List.filter_cons]
    split <;> simp [ih]
theorem filter_same {α : Type} {p q : α → Bool} {l : List α} (h : ∀ a ∈ l, p a = q a) : l.filter p = l.filter q := by
  induction l with
  | nil => rfl
  | cons a r ih =>
    simp only [List.filter_cons, h a (by simp), ih (fun b hb => h b (by simp [hb]))]
/-- The world behind closeLots. -/
def doneG (X : XW) (now : Int) : XW := X.ghost (X.lots.filter (fun l => !decide (l.ends = now))) (fun _ p => (p.bids, p.news))
theorem doneG_pls (X : XW) (now : Int) (i : Nat) : (doneG X now).pls[i]? = X.pls[i]? := by
  simp only [doneG, XW.ghost, List.getElem?_mapIdx]
  cases X.pls[i]? <;> rfl
theorem closed_all {w : World} {X : XW} {w1 : World} {Xk : XW} {v : Value} (h : ClK w X w1 X.opens.length Xk v) (hO : OkX X) (hA : Apart X.lots) (he : ∀ l ∈ X.lots, X.S.now ≤ l.ends) :
    ∃ X', TurnX w X (w1.setCell ⟨Xk.b, 7, none⟩ v) X' ∧ OkX X' ∧ X'.S = closeS X.S ∧ NewsOK X' ∧ X'.sales = (dueTo X.opens X.S.now X.opens.length).map saleOf := by
  have hT := h.out
  have hall : ∀ l ∈ X.opens, X.S.now ≤ l.ends := fun l hl => he (lotOf l) (hO.lot.mem hl)
  have hkeep : keepTo X.opens X.S.now X.opens.length = X.opens.filter (openX X.S.now) := by unfold keepTo; rw [List.take_of_length_le (Nat.le_refl _)]
  have hdue : dueTo X.opens X.S.now X.opens.length = X.opens.filter (fun l => !openX X.S.now l) := by unfold dueTo; rw [List.take_of_length_le (Nat.le_refl _)]
  have hlo : Xk.lots = X.lots := by
    have e : Xk.S.lots = (soldTo X.S X.opens X.opens.length).lots := by rw [h.s]
    exact e.trans (fold_len _ _).2.2
  obtain ⟨Y, hY⟩ : ∃ Y, Y = Xk.withL v (keepTo X.opens X.S.now X.opens.length) Xk.vCl Xk.sales (opnR Xk v) := ⟨_, rfl⟩
  rw [← hY] at hT
  have hpl : ∀ i, (doneG Y X.S.now).pls[i]? = Xk.pls[i]? := fun i => by rw [doneG_pls, hY]; rfl
  have hpls : (doneG Y X.S.now).pls = Xk.pls := List.ext_getElem? hpl
  have hS : (doneG Y X.S.now).S = closeS X.S := by
    have e1 : (doneG Y X.S.now).S = { Xk.S with lots := X.lots.filter (fun l => !decide (l.ends = X.S.now)) } := by
      have e2 : (doneG Y X.S.now).S.players = Xk.S.players := by
        show (doneG Y X.S.now).pls.map (·.1) = Xk.pls.map (·.1)
        rw [hpls]
      have e3 : (doneG Y X.S.now).S = { Xk.S with players := (doneG Y X.S.now).S.players, lots := Y.lots.filter (fun l => !decide (l.ends = X.S.now)) } := by rw [hY]; rfl
      rw [e3, e2, hY]
      show ({ Xk.S with players := Xk.S.players, lots := Xk.lots.filter _ } : SWorld) = _
      rw [hlo]
    rw [e1, h.s]
    unfold closeS soldTo
    have e4 : dueL X.S.lots X.S.now = (dueTo X.opens X.S.now X.opens.length).map lotOf := by
      unfold dueL
      show (sortL X.lots).filter _ = _
      rw [← hO.lot.eq, filter_lotOf, hdue]
      congr 1
      refine filter_same (fun a ha => ?_)
      rw [openX_ends (hall a ha)]
      simp
    rw [e4, List.foldl_map]
    rfl
  refine ⟨doneG Y X.S.now, hT.ghost _ _, ⟨?_, ?_, ?_, ?_⟩, hS, ?_, ?_⟩
  · rw [hpls, hY]
    exact h.st
  · rw [hY]
    exact h.ore
  · rw [hY]
    exact h.di
  · show LotRel Y.opens (Y.lots.filter (fun l => !decide (l.ends = X.S.now))) ((doneG Y X.S.now).pls.map (·.1.bids))
    have eo : Y.opens = X.opens.filter (openX X.S.now) := by rw [hY]; exact hkeep
    have el : Y.lots = X.lots := by rw [hY]; exact hlo
    rw [eo, el, hpls]
    constructor
    · rw [sortL_filter hA, ← hO.lot.eq, filter_lotOf]
      congr 1
      exact filter_same (fun a ha => openX_ends (hall a ha))
    · intro l hl i
      obtain ⟨h1, h2⟩ := List.mem_filter.1 hl
      rw [hO.lot.bid l h1 i]
      have hn : l.name ∉ (dueTo X.opens X.S.now X.opens.length).map (·.name) := by
        intro hm
        obtain ⟨x, hx, e⟩ := List.mem_map.1 hm
        rw [hdue] at hx
        obtain ⟨x1, x2⟩ := List.mem_filter.1 hx
        have := opens_inj hO hA x1 h1 e
        subst this
        rw [h2] at x2
        simp at x2
      have e1 := fold_bids (dueTo X.opens X.S.now X.opens.length) i hn X.S
      have e2 : (soldTo X.S X.opens X.opens.length).players = Xk.S.players := by rw [← h.s]
      unfold soldTo at e2
      rw [e2, bidsOf_at, bidsOf_at] at e1
      have e3 : Xk.S.players.map (·.bids) = Xk.pls.map (·.1.bids) := by simp [XW.S, Function.comp_def]
      have e4 : X.S.players.map (·.bids) = X.pls.map (·.1.bids) := by simp [XW.S, Function.comp_def]
      rw [e3, e4] at e1
      exact e1.symm
  · intro i q hq
    rw [hpl] at hq
    rw [h.n i q hq]
    show _ = Y.sales.map _
    rw [hY]
    rfl
  · show Y.sales = _
    rw [hY]
    exact h.sl
end Go.Proofs.YtlafddeoheambaaGreatDoor
