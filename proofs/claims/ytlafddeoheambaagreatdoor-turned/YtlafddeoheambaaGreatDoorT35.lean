/-
  The texts of acts, and how many steps their givers may go, said plainly.
-/
import Derived.Test.YtlafddeoheambaaGreatDoorT34
import Derived.Test.YtlafddeoheambaaGreatDoorT33
import Derived.Deep.DeepCutAuto
import Derived.Deep.RegionHeld3
import Derived.Test.YtlafddeoheambaaGreatDoorRows
import Derived.ProofKit
import Derived.Deep.Slices
import Derived.Deep.Strs
import Derived.ChangeSlices
import Derived.Lib.SmallJoins
set_option linter.unusedVariables false
namespace Go.Proofs.YtlafddeoheambaaGreatDoor
open Go.RowKit

def nmB (i : Int) : ByteArray := if i = 0 then ⟨#[97]⟩ else if i = 1 then ⟨#[98]⟩ else if i = 2 then ⟨#[206, 179]⟩ else if i = 3 then ⟨#[100]⟩ else ⟨#[101]⟩
def wdB (k : Int) : ByteArray :=
  if k = 0 then ⟨#[103, 111]⟩ else if k = 1 then ⟨#[103, 111]⟩ else if k = 2 then ⟨#[108, 101, 102, 116]⟩ else if k = 3 then ⟨#[114, 105, 103, 104, 116]⟩ else if k = 4 then ⟨#[98, 97, 99, 107]⟩
  else if k = 5 then ⟨#[100, 105, 103]⟩ else if k = 6 then ⟨#[100, 105, 103]⟩ else if k = 7 then ⟨#[115, 101, 108, 108]⟩ else if k = 8 then ⟨#[98, 117, 105, 108, 100]⟩ else ⟨#[99, 97, 108, 108]⟩
structure ActD where
  who : Int
  what : Int
  name : Int
def actCells (a : ActD) : List Value := [.int .i64 a.who, .int .i64 a.what, .int .i64 a.name]
structure ActD.ok (a : ActD) : Prop where
  who : -9223372036854775808 ≤ a.who ∧ a.who ≤ 9223372036854775807
  what : -9223372036854775808 ≤ a.what ∧ a.what ≤ 9223372036854775807
  name : -9223372036854775808 ≤ a.name ∧ a.name ≤ 9223372036854775807
def textOf (i k m : Int) : ByteArray := if 7 < k then nmB i ++ ⟨#[32]⟩ ++ wdB k ++ ⟨#[32]⟩ ++ nmB m else nmB i ++ ⟨#[32]⟩ ++ wdB k
def ActD.text (a : ActD) : ByteArray := textOf (pickI a.who 5) (pickI a.what 10) (pickI a.name 5)
def leftOf (i : Int) : ByteArray := nmB i ++ ⟨#[32, 108, 101, 102, 116]⟩
theorem nmB_size (i : Int) : (nmB i).size ≤ 2 := by
  unfold nmB
  repeat' split
  all_goals decide
theorem wdB_size (k : Int) : (wdB k).size ≤ 5 := by
  unfold wdB
  repeat' split
  all_goals decide
theorem textOf_size (i k m : Int) : (textOf i k m).size ≤ 20 := by
  have h1 := nmB_size i
  have h2 := nmB_size m
  have h3 := wdB_size k
  have h4 : (⟨#[32]⟩ : ByteArray).size = 1 := rfl
  unfold textOf
  split <;> (simp only [ByteArray.size_append, h4]; omega)
theorem leftOf_size (i : Int) : (leftOf i).size ≤ 20 := by
  have h1 := nmB_size i
  have h4 : (⟨#[32, 108, 101, 102, 116]⟩ : ByteArray).size = 5 := rfl
  unfold leftOf
  simp only [ByteArray.size_append, h4]
  omega
def ten : List Int := [0, 1, 2, 3, 4, 5, 6, 7, 8, 9]
def five : List Int := [0, 1, 2, 3, 4]
theorem in_five {i : Int} (h : 0 ≤ i ∧ i < 5) : i ∈ five := by
  obtain rfl | rfl | rfl | rfl | rfl : i = 0 ∨ i = 1 ∨ i = 2 ∨ i = 3 ∨ i = 4 := by omega
  all_goals decide
theorem in_ten {i : Int} (h : 0 ≤ i ∧ i < 10) : i ∈ ten := by
  obtain rfl | rfl | rfl | rfl | rfl | rfl | rfl | rfl | rfl | rfl : i = 0 ∨ i = 1 ∨ i = 2 ∨ i = 3 ∨ i = 4 ∨ i = 5 ∨ i = 6 ∨ i = 7 ∨ i = 8 ∨ i = 9 := by omega
  all_goals decide
set_option maxRecDepth 100000 in
theorem pend_all : ∀ i ∈ five, ∀ k ∈ ten, ∀ m ∈ five, pendW (textOf i k m).data.toList = (decide (k < 2) || decide (k = 8)) := by decide +kernel
set_option maxRecDepth 100000 in
theorem pend_left : ∀ i ∈ five, pendW (leftOf i).data.toList = false := by decide +kernel
/-- How far orders to go and to build may have led. -/
def capI (g b : Int) : Int := (if g < 2 then g else 2) + (if b < 1 then b else 1)
def nextG (a : ActD) (g : Int) : Int := if pickI a.what 10 < 2 then g + 1 else g
def nextB (a : ActD) (b : Int) : Int := if pickI a.what 10 = 8 then b + 1 else b
def nextT (a : ActD) (g b : Int) : ByteArray := if (pickI a.what 10 < 2 ∧ 2 < nextG a g) ∨ (pickI a.what 10 = 8 ∧ 1 < nextB a b) then leftOf (pickI a.who 5) else a.text
theorem nextT_size (a : ActD) (g b : Int) : (nextT a g b).size ≤ 20 := by
  unfold nextT ActD.text
  split
  · exact leftOf_size _
  · exact textOf_size _ _ _
theorem next_cap (a : ActD) (g b : Int) (hg : 0 ≤ g) (hb : 0 ≤ b) : capI (nextG a g) (nextB a b) = capI g b + oneI (pendW (nextT a g b).data.toList) := by
  have hi := pickI_bd a.who 5 (by omega)
  have hk := pickI_bd a.what 10 (by omega)
  have hm := pickI_bd a.name 5 (by omega)
  have p1 := pend_all _ (in_five hi) _ (in_ten hk) _ (in_five hm)
  have p2 := pend_left _ (in_five hi)
  unfold nextT
  split
  · rename_i hc
    rw [p2]
    unfold nextG nextB at *
    unfold capI oneI
    simp only [Bool.false_eq_true, if_false]
    split <;> split <;> (repeat' split) <;> omega
  · rename_i hc
    unfold ActD.text
    rw [p1]
    unfold nextG nextB at *
    unfold capI oneI
    by_cases c1 : pickI a.what 10 < 2
    · have c2 : ¬ pickI a.what 10 = 8 := by omega
      simp only [c1, c2, if_true, if_false, true_and, false_and, or_false, decide_true, Bool.true_or] at hc ⊢
      (repeat' split) <;> omega
    · by_cases c2 : pickI a.what 10 = 8
      · simp only [c2, if_true, true_and] at hc ⊢
        simp only [show ¬ ((8 : Int) < 2) by omega, if_false, false_and, false_or, decide_false, decide_true, Bool.or_true, if_true] at hc ⊢
        (repeat' split) <;> omega
      · simp only [c1, c2, if_false, decide_false, Bool.or_self, Bool.false_eq_true]
        omega
theorem cap_le (g b : Int) : capI g b ≤ 3 := by
  unfold capI
  (repeat' split) <;> omega
end Go.Proofs.YtlafddeoheambaaGreatDoor

/-
  The functions name and Act.text of package hazekeep.
-/
namespace Go.Proofs.YtlafddeoheambaaGreatDoor
open Go.RowKit

theorem cat_name3 {P : Program} (a b : ByteArray) (m n : Nat) (ha : a.size ≤ m) (hb : b.size ≤ n) (hmn : m + n ≤ 1000000000000) : ∃ s : ByteArray, s = a ++ b ∧ s.size ≤ m + n ∧ ∀ w, (Op.stringOp .add a b).run P w = .ok (.string s) w :=
  ⟨_, rfl, by rw [ByteArray.size_append]; omega, fun w => run_string_add_sum w a b (by omega)⟩
set_option maxRecDepth 100000 in
set_option maxHeartbeats 2000000 in
theorem kname_any (n : Int) (w : World) (h : -9223372036854775808 ≤ n ∧ n ≤ 9223372036854775807) :
    Calls Tryz.prog 33 #[.int .i64 n] w fun e w' => e = .returned (.string (nmB (pickI n 5))) ∧ Below w.heap.size w w' := by
  have hi := pickI_bd n 5 (by omega)
  have HP := hidOf (fun wx => kpick_any n 5 wx h.1 h.2 (by omega) (by omega))
  have HA : Hid (∀ o : Obj, Below w.heap.size w (w.alloc o)) := fun o => (Below.refl _ w).alloc (Nat.le_refl _) o
  obtain ⟨i, hie⟩ : ∃ i, i = pickI n 5 := ⟨_, rfl⟩
  rw [← hie] at hi HP ⊢
  clear hie h
  obtain rfl | rfl | rfl | rfl | rfl : i = 0 ∨ i = 1 ∨ i = 2 ∨ i = 3 ∨ i = 4 := by omega
  all_goals
    go_enter Tryz.func33, Tryz.ntmps33
    go_wp2_with fail
    refine (HP.out _).mono ?_
    rintro e w' ⟨rfl, h⟩
    rw [h]
    clear h w'
    go_wp2
    go_ret
    exact ⟨rfl, HA.out _⟩

def wordsA : Array Value := #[.string ⟨#[103, 111]⟩, .string ⟨#[103, 111]⟩, .string ⟨#[108, 101, 102, 116]⟩, .string ⟨#[114, 105, 103, 104, 116]⟩, .string ⟨#[98, 97, 99, 107]⟩, .string ⟨#[100, 105, 103]⟩, .string ⟨#[100, 105, 103]⟩, .string ⟨#[115, 101, 108, 108]⟩, .string ⟨#[98, 117, 105, 108, 100]⟩, .string ⟨#[99, 97, 108, 108]⟩]
theorem words_at (k : Nat) (h : k < 10) : wordsA[k]? = some (.string (wdB k)) := by
  obtain rfl | rfl | rfl | rfl | rfl | rfl | rfl | rfl | rfl | rfl : k = 0 ∨ k = 1 ∨ k = 2 ∨ k = 3 ∨ k = 4 ∨ k = 5 ∨ k = 6 ∨ k = 7 ∨ k = 8 ∨ k = 9 := by omega
  all_goals rfl
/-- The box of an act, and the list of words behind it. -/
structure ActBox (w wx : World) (a : ActD) (k : Nat) : Prop where
  b : Below w.heap.size w wx
  c0 : wx.cell? ⟨w.heap.size, 0, none⟩ = some (.int .i64 a.who)
  c1 : wx.cell? ⟨w.heap.size, 1, none⟩ = some (.int .i64 a.what)
  c2 : wx.cell? ⟨w.heap.size, 2, none⟩ = some (.int .i64 a.name)
  d : wx.cell? ⟨w.heap.size + 1, k, none⟩ = some (.string (wdB k))
  s : w.heap.size + 2 ≤ wx.heap.size
theorem ActBox.below {w wx w' : World} {a : ActD} {k : Nat} (h : ActBox w wx a k) (hb : Below wx.heap.size wx w') : ActBox w w' a k := by
  have hs := h.s
  exact ⟨h.b.trans (hb.mono h.b.size), (hb.cell (p := ⟨w.heap.size, 0, none⟩) (by show w.heap.size < _; omega)).trans h.c0, (hb.cell (p := ⟨w.heap.size, 1, none⟩) (by show w.heap.size < _; omega)).trans h.c1, (hb.cell (p := ⟨w.heap.size, 2, none⟩) (by show w.heap.size < _; omega)).trans h.c2, (hb.cell (p := ⟨w.heap.size + 1, k, none⟩) (by show w.heap.size + 1 < _; omega)).trans h.d, Nat.le_trans hs hb.size⟩
theorem ActBox.first (w : World) (a : ActD) (k : Nat) (hk : k < 10) : ActBox w ((w.alloc (.cells #[.int .i64 a.who, .int .i64 a.what, .int .i64 a.name] 33)).alloc (.cells wordsA 9)) a k := by
  have s1 : (w.alloc (.cells #[.int .i64 a.who, .int .i64 a.what, .int .i64 a.name] 33)).heap.size = w.heap.size + 1 := by simp
  have h1 := Go.heap_alloc_new w (.cells #[.int .i64 a.who, .int .i64 a.what, .int .i64 a.name] 33)
  have h2 := Go.heap_alloc_new (w.alloc (.cells #[.int .i64 a.who, .int .i64 a.what, .int .i64 a.name] 33)) (.cells wordsA 9)
  rw [s1] at h2
  have h1' : ((w.alloc (.cells #[.int .i64 a.who, .int .i64 a.what, .int .i64 a.name] 33)).alloc (.cells wordsA 9)).heap[w.heap.size]? = some (.cells #[.int .i64 a.who, .int .i64 a.what, .int .i64 a.name] 33 (0, 0)) := by rw [Below.heap_alloc _ _ _ (by omega), h1]
  refine ⟨((Below.refl _ w).alloc (Nat.le_refl _) _).alloc (by omega) _, ?_, ?_, ?_, ?_, by simp⟩
  · rw [cell_of_row _ _ _ _ _ _ h1']; rfl
  · rw [cell_of_row _ _ _ _ _ _ h1']; rfl
  · rw [cell_of_row _ _ _ _ _ _ h1']; rfl
  · rw [cell_of_row _ _ _ _ _ _ h2]; exact words_at k hk

set_option maxRecDepth 100000 in
set_option maxHeartbeats 4000000 in
theorem ktext_any (a : ActD) (ha : a.ok) (w : World) :
    Calls Tryz.prog 13 #[.agg #[.int .i64 a.who, .int .i64 a.what, .int .i64 a.name]] w fun e w' => e = .returned (.string a.text) ∧ Below w.heap.size w w' := by
  have hk := pickI_bd a.what 10 (by omega)
  obtain ⟨k, hke⟩ := Int.eq_ofNat_of_zero_le hk.1
  have hk10 : k < 10 := by omega
  have HP := hidOf (fun wx => kpick_any a.what 10 wx ha.what.1 ha.what.2 (by omega) (by omega))
  rw [hke] at HP
  obtain ⟨i, hi⟩ : ∃ i, i = nmB (pickI a.who 5) := ⟨_, rfl⟩
  obtain ⟨m, hm⟩ : ∃ m, m = nmB (pickI a.name 5) := ⟨_, rfl⟩
  obtain ⟨d, hd⟩ : ∃ d, d = wdB k := ⟨_, rfl⟩
  have zi : i.size ≤ 2 := by rw [hi]; exact nmB_size _
  have zm : m.size ≤ 2 := by rw [hm]; exact nmB_size _
  have zd : d.size ≤ 5 := by rw [hd]; exact wdB_size _
  obtain ⟨s1, e1, z1, a1⟩ := cat_name3 (P := Tryz.prog) i ⟨#[32]⟩ 2 1 zi (by decide) (by omega)
  obtain ⟨s2, e2, z2, a2⟩ := cat_name3 (P := Tryz.prog) s1 d 3 5 z1 zd (by omega)
  obtain ⟨s3, e3, z3, a3⟩ := cat_name3 (P := Tryz.prog) s2 ⟨#[32]⟩ 8 1 z2 (by decide) (by omega)
  obtain ⟨s4, e4, z4, a4⟩ := cat_name3 (P := Tryz.prog) s3 m 9 2 z3 zm (by omega)
  have fin : Hid (a.text = if 7 < (k : Int) then s4 else s2) := by
    unfold Hid ActD.text textOf
    rw [hke, e4, e3, e2, e1, hi, hm, hd]
  have HN : Hid (∀ wx : World, Calls Tryz.prog 33 #[.int .i64 a.who] wx fun e w' => e = .returned (.string i) ∧ Below wx.heap.size wx w') := fun wx => by rw [hi]; exact kname_any a.who wx ha.who
  have HM : Hid (∀ wx : World, Calls Tryz.prog 33 #[.int .i64 a.name] wx fun e w' => e = .returned (.string m) ∧ Below wx.heap.size wx w') := fun wx => by rw [hm]; exact kname_any a.name wx ha.name
  have HF := hidOf (ActBox.first w a k hk10)
  unfold wordsA at HF
  have HS : Hid (∀ wx, Hid (ActBox w wx a k) → wx.cell? ⟨w.heap.size, 0, none⟩ = some (.int .i64 a.who) ∧ wx.cell? ⟨w.heap.size + 1, k, none⟩ = some (.string d)) := fun wx h => ⟨h.out.c0, by rw [hd]; exact h.out.d⟩
  have c1 : ∀ o, ((w.alloc (.cells #[.int .i64 a.who, .int .i64 a.what, .int .i64 a.name] 33)).alloc o).cell? ⟨w.heap.size, 1, none⟩ = some (.int .i64 a.what) := fun o => by
    rw [World.cell?_of_block (Below.heap_alloc _ _ _ (by simp)), cell_of_row _ _ _ _ _ _ (Go.heap_alloc_new w _)]; rfl
  clear e1 e2 e3 e4 z1 z2 z3 z4 zi zm zd hi hm hd ha hk hke
  go_enter Tryz.func13, Tryz.ntmps13
  go_wp2_with fail
  refine (HP.out _).mono ?_
  rintro e w' ⟨rfl, h⟩
  rw [h]
  clear h w'
  go_wp2_with fail
  go_cut [5] (fun s wc => s = .string s2 ∧ Hid (ActBox w wc a k))
  case first =>
    have B0 := hidOf (HF.out.below (Below.refl _ _).drew)
    have S0 := HS.out _ B0
    have hk0 : (k : Int) < 10 := by omega
    clear HF c1
    go_region_held3 (fun w' => w'.cell? ⟨w.heap.size, 0, none⟩ = some (.int .i64 a.who) ∧ w'.cell? ⟨w.heap.size + 1, k, none⟩ = some (.string d)) (first | assumption | exact S0) (first | (go_at_call 33; refine (HN.out _).mono ?_; rintro e w2 ⟨rfl, hb2⟩; have B2 := hidOf (ActBox.below (Hid.out (by assumption)) hb2); have S2 := HS.out _ B2))
    all_goals
      go_wp2_with fail
      go_meet
      exact ⟨rfl, by assumption⟩
  case rest =>
    obtain ⟨rfl, Bc⟩ := hcut
    clear HF c1 HS a1 a2
    have c2 := Bc.out.c2
    by_cases h7 : (7 : Int) < (k : Int)
    · have fin' : Hid (a.text = s4) := by have := fin.out; rw [if_pos h7] at this; exact this
      clear fin
      go_wp2_with fail
      refine (HM.out _).mono ?_
      rintro e w3 ⟨rfl, hb3⟩
      have Bf := hidOf (Bc.out.below hb3).b
      clear c2 Bc hb3
      go_wp2
      go_ret
      exact ⟨by rw [fin'.out]; rfl, Bf.out⟩
    · have fin' : Hid (a.text = s2) := by have := fin.out; rw [if_neg h7] at this; exact this
      have Bf := hidOf Bc.out.b
      clear fin c2 Bc
      go_wp2
      go_ret
      exact ⟨by rw [fin'.out]; rfl, Bf.out⟩
end Go.Proofs.YtlafddeoheambaaGreatDoor

/-
  Acts that are handed in.
-/
namespace Go.Proofs.YtlafddeoheambaaGreatDoor
open Go.RowKit

/-- Acts that are handed in. -/
def ActsIn (w : World) (v : Value) (ds : List ActD) : Prop :=
  ∃ ao cap, v = .slice ao ds.length cap ∧ ds.length ≤ 9223372036854775807 ∧ (0 < ds.length → ∃ b off, ao = some ⟨b, off, none⟩ ∧ b < w.heap.size ∧ ∀ (j : Nat) u, (ds.flatMap actCells)[j]? = some u → w.cell? ⟨b, off + j, none⟩ = some u)
theorem acts_cell {w wx : World} {b off : Nat} {ds : List ActD} (hb : b < w.heap.size) (hB : Below w.heap.size w wx) (hc : ∀ (j : Nat) u, (ds.flatMap actCells)[j]? = some u → w.cell? ⟨b, off + j, none⟩ = some u) (k : Nat) (hk : k < ds.length) :
    wx.cell? ⟨b, off + k * 3, none⟩ = some (.int .i64 ds[k].who) ∧ wx.cell? ⟨b, off + k * 3 + 1, none⟩ = some (.int .i64 ds[k].what) ∧ wx.cell? ⟨b, off + k * 3 + 2, none⟩ = some (.int .i64 ds[k].name) := by
  have f := fun j (hj : j < 3) => flat_at actCells 3 (fun _ => rfl) ds k j hk hj
  have g := fun j (hj : j < 3) u (hu : (actCells ds[k])[j]? = some u) => (hB.cell (p := ⟨b, off + (k * 3 + j), none⟩) hb).trans (hc (k * 3 + j) u ((f j hj).trans hu))
  exact ⟨g 0 (by omega) _ rfl, g 1 (by omega) _ rfl, g 2 (by omega) _ rfl⟩
end Go.Proofs.YtlafddeoheambaaGreatDoor

/-
  The function Turned of package hazekeep: the walk.
-/
namespace Go.Proofs.YtlafddeoheambaaGreatDoor
open Go.RowKit

section
variable {w wx : World} {X Z : XW} {b : Nat}
theorem left_zero (h : Two w wx X Z) (hb : Z.b = b) (hS : Z.S = sideZ) :
    Calls Tryz.prog 10 #[.pointer (some ⟨b, 0, none⟩), .int .i64 0, .string ⟨#[97, 32, 108, 101, 102, 116]⟩] wx fun e w' => e = .returned (.int .i64 0) ∧ ∃ Z', Two w w' X Z' ∧ Z'.b = b ∧ Z'.S = leftW 0 lefB emptyB 0 0 := by
  refine (h.orderR hb 0 ⟨#[97, 32, 108, 101, 102, 116]⟩ (by decide)).mono ?_
  rintro e w' ⟨rfl, Z', T, hb', hS'⟩
  have e := left_first
  unfold leftT at e
  rw [hS] at hS' ⊢
  refine ⟨?_, Z', T, hb', ?_⟩
  · show Ending.returned (.int .i64 (orderS sideZ 0 [97, 32, 108, 101, 102, 116]).1) = _
    rw [e]
  · rw [hS']
    show (orderS sideZ 0 [97, 32, 108, 101, 102, 116]).2 = _
    rw [e]
theorem left_one (h : Two w wx X Z) (hb : Z.b = b) (hS : Z.S = leftW 0 lefB emptyB 0 0) :
    Calls Tryz.prog 10 #[.pointer (some ⟨b, 0, none⟩), .int .i64 1, .string ⟨#[97, 32, 108, 101, 102, 116]⟩] wx fun e w' => e = .returned (.int .i64 0) ∧ ∃ Z', Two w w' X Z' ∧ Z'.b = b ∧ Z'.S = leftW 0 lefB lefB 0 0 := by
  refine (h.orderR hb 1 ⟨#[97, 32, 108, 101, 102, 116]⟩ (by decide)).mono ?_
  rintro e w' ⟨rfl, Z', T, hb', hS'⟩
  have e := left_next
  unfold leftT at e
  rw [hS] at hS' ⊢
  refine ⟨?_, Z', T, hb', ?_⟩
  · show Ending.returned (.int .i64 (orderS (leftW 0 lefB emptyB 0 0) 1 [97, 32, 108, 101, 102, 116]).1) = _
    rw [e]
  · rw [hS']
    show (orderS (leftW 0 lefB emptyB 0 0) 1 [97, 32, 108, 101, 102, 116]).2 = _
    rw [e]
theorem idle_one (h : Two w wx X Z) (hb : X.b = b) (hS : X.S = sideA) :
    Calls Tryz.prog 11 #[.pointer (some ⟨b, 0, none⟩)] wx fun e w' => e = .returned (.int .i64 0) ∧ ∃ X', Two w w' X' Z ∧ X'.b = b ∧ X'.S = { sideA with now := 1 } := by
  refine (h.tickL hb).mono ?_
  rintro e w' ⟨rfl, X', T, hb', hS'⟩
  rw [hS] at hS' ⊢
  refine ⟨rfl, X', T, hb', ?_⟩
  rw [hS']
  show tickS _ = _
  exact idle_tick
theorem left_done (h : Two w wx X Z) (hb : Z.b = b) (hS : Z.S = leftW 0 lefB lefB 0 0) :
    Calls Tryz.prog 11 #[.pointer (some ⟨b, 0, none⟩)] wx fun e w' => e = .returned (.int .i64 0) ∧ ∃ Z', Two w w' X Z' ∧ Z'.b = b ∧ Z'.S = leftW 1 emptyB emptyB 1 1 := by
  refine (h.tickR hb).mono ?_
  rintro e w' ⟨rfl, Z', T, hb', hS'⟩
  rw [hS] at hS' ⊢
  refine ⟨rfl, Z', T, hb', ?_⟩
  rw [hS']
  show tickS _ = _
  exact left_tick
end
/-- Turned's two worlds: the second is the first, turned. -/
structure TrK (w wx : World) (bx bz : Nat) (X Z : XW) : Prop where
  t : Two w wx X Z
  x : X.b = bx
  z : Z.b = bz
  r : Trn X.S
  e : Z.S = rotS X.S
/-- .. the first one turned on already. -/
structure TrM (w wx : World) (bx bz : Nat) (X Z : XW) (s s' : SWorld) : Prop where
  t : Two w wx X Z
  x : X.b = bx
  z : Z.b = bz
  r : Trn s'
  xs : X.S = s'
  e : Z.S = rotS s
section
variable {w wx : World} {X Z : XW} {bx bz : Nat}
theorem TrK.below {w' : World} (h : TrK w wx bx bz X Z) (hb : Below wx.heap.size wx w') : TrK w w' bx bz X Z := ⟨h.t.below hb, h.x, h.z, h.r, h.e⟩
theorem TrM.below {w' : World} {s s' : SWorld} (h : TrM w wx bx bz X Z s s') (hb : Below wx.heap.size wx w') : TrM w w' bx bz X Z s s' := ⟨h.t.below hb, h.x, h.z, h.r, h.xs, h.e⟩
theorem TrK.order (h : TrK w wx bx bz X Z) (n : Int) (t : ByteArray) (hs : t.size ≤ 2000000) :
    Calls Tryz.prog 10 #[.pointer (some ⟨bx, 0, none⟩), .int .i64 n, .string t] wx fun e w' => e = .returned (.int .i64 (orderS X.S n t.data.toList).1) ∧ ∃ X', TrM w w' bx bz X' Z X.S (orderS X.S n t.data.toList).2 := by
  refine (h.t.orderL h.x n t hs).mono ?_
  rintro e w' ⟨rfl, X', T, hb', hS'⟩
  exact ⟨rfl, X', T, hb', h.z, h.r.order n _, hS', h.e⟩
theorem TrM.order {s : SWorld} (hl : s.lots = []) (n : Int) (t : ByteArray) (hs : t.size ≤ 2000000) (h : TrM w wx bx bz X Z s (orderS s n t.data.toList).2) :
    Calls Tryz.prog 10 #[.pointer (some ⟨bz, 0, none⟩), .int .i64 n, .string t] wx fun e w' => e = .returned (.int .i64 (orderS s n t.data.toList).1) ∧ ∃ Z', TrK w w' bx bz X Z' := by
  refine (h.t.orderR h.z n t hs).mono ?_
  rintro e w' ⟨rfl, Z', T, hb', hS'⟩
  rw [h.e, rot_order s hl] at hS' ⊢
  exact ⟨rfl, Z', T, h.x, hb', by rw [h.xs]; exact h.r, by rw [hS', h.xs]⟩
theorem TrK.tick (h : TrK w wx bx bz X Z) :
    Calls Tryz.prog 11 #[.pointer (some ⟨bx, 0, none⟩)] wx fun e w' => (∃ c, e = .returned (.int .i64 c)) ∧ ∃ X' s, GoodS s ∧ Trn s ∧ TrM w w' bx bz X' Z s (tickN s) := by
  refine (h.t.tickL h.x).mono ?_
  rintro e w' ⟨rfl, X', T, hb', hS'⟩
  exact ⟨⟨_, rfl⟩, X', X.S, h.t.x.g, h.r, T, hb', h.z, h.r.tickN, hS', h.e⟩
theorem TrM.tick {s : SWorld} (g : GoodS s) (r : Trn s) (h : TrM w wx bx bz X Z s (tickN s)) :
    Calls Tryz.prog 11 #[.pointer (some ⟨bz, 0, none⟩)] wx fun e w' => (∃ c, e = .returned (.int .i64 c)) ∧ ∃ Z', TrK w w' bx bz X Z' := by
  refine (h.t.tickR h.z).mono ?_
  rintro e w' ⟨rfl, Z', T, hb', hS'⟩
  rw [h.e, rot_tickN g r] at hS'
  exact ⟨⟨_, rfl⟩, Z', T, h.x, hb', by rw [h.xs]; exact h.r, by rw [hS', h.xs]⟩
theorem kin_len (h : KIn w wx X) (hl : X.S.lots = []) (hn : ∀ p ∈ X.S.players, p.news = []) (n : Nat) {p : SPlayer} (hp : p ∈ X.S.players) : (bytesOf (viewL X.S n p)).size ≤ 10000000000 := by
  have hA := h.g.allX h.ok
  have hnow := h.g.now
  have h1 := own_len hA (by omega) hnow h.g.nm hp
  have h2 := rows_len hA n p.units
  have h3 : lotsL X.S p = [] := by unfold lotsL; rw [hl]; rfl
  have h4 : newsL p = [] := by unfold newsL; rw [hn p hp]; rfl
  rw [bytesOf_size]
  unfold viewL
  rw [h3, h4]
  simp only [List.length_append, List.length_nil]
  omega
/-- What Turned looks at, of a player of either world. -/
structure TrL (w wx : World) (bx bz : Nat) (X Z : XW) (k : Nat) (m : Int) (us : List SUnit) (sv sz : ByteArray) : Prop where
  kk : TrK w wx bx bz X Z
  n : 0 < us.length
  u : ∀ u ∈ us, UOk u
  a : unitsB sv.data.toList = us.map unitWs
  b : unitsB sz.data.toList = (us.map rotU).map unitWs
  la : sv.size ≤ 10000000000
  lb : sz.size ≤ 10000000000
  va : (viewS X.S k).1 = sv
  vb : (viewS Z.S k).1 = sz
  ma : moneyS X.S k = (m, 0)
  mb : moneyS Z.S k = (m, 0)
theorem TrK.look (h : TrK w wx bx bz X Z) (k : Nat) (hk : k < 2) : ∃ m us sv sz, TrL w wx bx bz X Z k m us sv sz := by
  obtain ⟨p, hp, v1, v2, u1, u2, m1, m2⟩ := h.r.view k hk
  have hm := List.mem_of_getElem? hp
  have pk := h.t.x.g.wf.each p hm
  have hw := h.t.x.g.wf.wd
  have h4 := h.r.h4
  have mz : rotP p ∈ Z.S.players := by rw [h.e]; exact List.mem_map_of_mem hm
  have lz : Z.S.lots = [] := by rw [h.e]; exact h.r.lo
  have nz : ∀ q ∈ Z.S.players, q.news = [] := by
    rw [h.e]
    intro q hq
    obtain ⟨q', hq', rfl⟩ := List.mem_map.1 hq
    exact h.r.nw q' hq'
  refine ⟨p.money, p.units, _, _, h, by have := pk.un; omega, fun u hu => ?_, ?_, ?_, kin_len h.t.x h.r.lo h.r.nw k hm, kin_len h.t.z lz nz k mz, v1, ?_, m1, by rw [h.e]; exact m2⟩
  · have uk := pk.each u hu
    have ux := uk.x
    have uy := uk.y
    exact ⟨by omega, by omega, uk.head⟩
  · rw [bytesOf_toList]
    exact u1
  · rw [bytesOf_toList, h.e]
    exact u2
  · rw [h.e]
    exact v2
variable {k : Nat} {m : Int} {us : List SUnit} {sv sz : ByteArray}
theorem TrL.below {w' : World} (h : TrL w wx bx bz X Z k m us sv sz) (hb : Below wx.heap.size wx w') : TrL w w' bx bz X Z k m us sv sz := ⟨h.kk.below hb, h.n, h.u, h.a, h.b, h.la, h.lb, h.va, h.vb, h.ma, h.mb⟩
theorem TrL.money (h : TrL w wx bx bz X Z k m us sv sz) : Calls Tryz.prog 14 #[.pointer (some ⟨bx, 0, none⟩), .int .i64 k] wx fun e w' => e = .returned (.tuple #[.int .i64 m, .int .i64 0]) ∧ w' = wx := by
  have := xmoney_any wx X _ k h.kk.t.x.rep h.kk.t.x.g.wf
  rw [h.ma, h.kk.x] at this
  exact this
theorem TrL.money2 (h : TrL w wx bx bz X Z k m us sv sz) : Calls Tryz.prog 14 #[.pointer (some ⟨bz, 0, none⟩), .int .i64 k] wx fun e w' => e = .returned (.tuple #[.int .i64 m, .int .i64 0]) ∧ w' = wx := by
  have := xmoney_any wx Z _ k h.kk.t.z.rep h.kk.t.z.g.wf
  rw [h.mb, h.kk.z] at this
  exact this
theorem TrL.view (h : TrL w wx bx bz X Z k m us sv sz) (ht : Tab w) : Calls Tryz.prog 17 #[.pointer (some ⟨bx, 0, none⟩), .int .i64 k] wx fun e w' => e = .returned (.string sv) ∧ Below wx.heap.size wx w' := by
  have := h.kk.t.x.view2 k ht
  rw [h.va, h.kk.x] at this
  exact this
theorem TrL.view2 (h : TrL w wx bx bz X Z k m us sv sz) (ht : Tab w) : Calls Tryz.prog 17 #[.pointer (some ⟨bz, 0, none⟩), .int .i64 k] wx fun e w' => e = .returned (.string sz) ∧ Below wx.heap.size wx w' := by
  have := h.kk.t.z.view2 k ht
  rw [h.vb, h.kk.z] at this
  exact this
theorem TrL.units (h : TrL w wx bx bz X Z k m us sv sz) : Calls Tryz.prog 16 #[.string sv] wx fun e w' => ∃ v, e = .returned v ∧ Below wx.heap.size wx w' ∧ UnsIn w' v (us.map unitWs) := by
  have := kunits_any sv wx h.la
  rw [h.a] at this
  exact this
theorem TrL.units2 (h : TrL w wx bx bz X Z k m us sv sz) : Calls Tryz.prog 16 #[.string sz] wx fun e w' => ∃ v, e = .returned v ∧ Below wx.heap.size wx w' ∧ UnsIn w' v ((us.map rotU).map unitWs) := by
  have := kunits_any sz wx h.lb
  rw [h.b] at this
  exact this
end
theorem tdiv_bd (a : Int) (h1 : -9223372036854775808 ≤ a) (h2 : a ≤ 9223372036854775807) : -9223372036854775808 ≤ a.tdiv 5 ∧ a.tdiv 5 ≤ 9223372036854775807 := by
  rcases Int.le_total 0 a with h | h
  · rw [Int.tdiv_eq_ediv_of_nonneg h]
    omega
  · have e : a.tdiv 5 = -((-a).tdiv 5) := by rw [Int.neg_tdiv]; omega
    rw [e, Int.tdiv_eq_ediv_of_nonneg (by omega)]
    omega

set_option maxRecDepth 100000 in
set_option maxHeartbeats 8000000 in
theorem turned_any (w : World) (v0 : Value) (ds : List ActD) (h0 : ActsIn w v0 ds) (o0 : ∀ d ∈ ds, d.ok) (ht : Tab w) :
    Calls Tryz.prog 6 #[v0] w fun e w' => e = .returned (.bool true) ∧ Below w.heap.size w w' := by
  obtain ⟨p0, c0, rfl, n0, r0⟩ := h0
  have HT := hidOf ht
  have R0 := hidOf r0
  have O0 := hidOf o0
  have HA := hidOf (sidesA_in w)
  clear r0 o0 ht
  go_enter Tryz.func6, Tryz.ntmps6
  go_wp2_with fail
  refine HA.out.mono ?_
  rintro e w1 ⟨X0, rfl, K0, hS0⟩
  have HK0 := hidOf K0
  have HS0 := hidOf hS0
  have HZ := hidOf (sidesZ_in w1)
  clear K0 hS0 HA
  go_wp2_with fail
  refine HZ.out.mono ?_
  rintro e w2 ⟨Z0, rfl, K1, hS1⟩
  have T2 := hidOf (two_first HK0.out K1)
  have SZ := hidOf hS1
  obtain ⟨bx, hbx⟩ : ∃ bx, bx = X0.b := ⟨_, rfl⟩
  obtain ⟨bz, hbz⟩ : ∃ bz, bz = Z0.b := ⟨_, rfl⟩
  rw [← hbz]
  have BX := hidOf hbx.symm
  have BZ := hidOf hbz.symm
  rw [← hbx]
  clear K1 hS1 HK0 HZ hbx hbz
  have C3 := hidOf (left_zero T2.out BZ.out SZ.out)
  go_wp2_with fail
  refine C3.out.mono ?_
  rintro e w3 ⟨rfl, Z3, T3, b3, s3⟩
  have C4 := hidOf (left_one T3 b3 s3)
  clear C3 T2 BZ SZ T3 b3 s3
  go_wp2_with fail
  refine C4.out.mono ?_
  rintro e w4 ⟨rfl, Z4, T4, b4, s4⟩
  have B4 := hidOf b4
  have S4 := hidOf s4
  have C5 := hidOf (idle_one T4 BX.out HS0.out)
  clear C4 T4 b4 s4 BX HS0
  go_wp2_with fail
  refine C5.out.mono ?_
  rintro e w5 ⟨rfl, X5, T5, b5, s5⟩
  have B5 := hidOf b5
  have S5 := hidOf s5
  have C6 := hidOf (left_done T5 B4.out S4.out)
  clear C5 T5 b5 s5 B4 S4
  go_wp2_with fail
  refine C6.out.mono ?_
  rintro e w6 ⟨rfl, Z6, T6, b6, s6⟩
  have K6 : Hid (TrK w w6 bx bz X5 Z6) := ⟨T6, B5.out, b6, by rw [S5.out]; exact Trn.first, by rw [s6, S5.out]; exact side_first⟩
  clear C6 T6 b6 s6 B5 S5
  go_wp2_with fail
  go_loopw [9, 10, 11, 12, 13, 14, 15, 16, 17, 18] (fun i _ _ _ _ _ _ _ _ _ w' => ∃ (j : Nat) (X Z : XW), j ≤ 200 ∧ i = .int .i64 j ∧ Hid (TrK w w' bx bz X Z)) (fun i _ _ _ _ _ _ _ _ _ _ => 201 - (intOf i).toNat)
  case atStart => exact ⟨0, X5, Z6, by omega, rfl, K6⟩
  case round =>
    obtain ⟨j, X, Z, hj, rfl, K⟩ := hrel
    clear K6
    by_cases hbig : ds.length = 9223372036854775807
    · have hwr : IntKind.i64.wrap ((ds.length : Int) + 1) = -9223372036854775808 := by rw [IntKind.wrap_i64, hbig]; omega
      have hlt : decide ((j : Int) < -9223372036854775808) = false := decide_eq_false (by omega)
      have HBl := hidOf K.out.t.x.b
      clear K hbig n0 R0 O0
      go_wp2
      go_ret
      exact ⟨rfl, HBl.out⟩
    · have hwr : IntKind.i64.wrap ((ds.length : Int) + 1) = (ds.length : Int) + 1 := by rw [IntKind.wrap_i64]; omega
      by_cases hl1 : j < ds.length + 1
      · have hl1' : decide ((j : Int) < (ds.length : Int) + 1) = true := decide_eq_true (by omega)
        by_cases hl2 : j < 200
        · have hl2' : decide ((j : Int) < 200) = true := decide_eq_true (by omega)
          by_cases hl : j < ds.length
          · have hl' : (j : Int) < (ds.length : Int) := by omega
            obtain ⟨b, off, rfl, hb, hc⟩ := R0.out (by omega)
            obtain ⟨a, ha⟩ : ∃ a, a = ds[j] := ⟨_, rfl⟩
            have aok := hidOf (O0.out ds[j] (List.getElem_mem hl))
            have HCells : Hid (∀ wx, Below w.heap.size w wx → wx.cell? ⟨b, off + j * 3, none⟩ = some (.int .i64 a.who) ∧ wx.cell? ⟨b, off + j * 3 + 1, none⟩ = some (.int .i64 a.what) ∧ wx.cell? ⟨b, off + j * 3 + 2, none⟩ = some (.int .i64 a.name)) := fun wx h => by rw [ha]; exact acts_cell hb h hc j hl
            rw [← ha] at aok
            obtain ⟨k0, k1, k2⟩ := HCells.out wr K.out.t.x.b
            have hq := tdiv_bd a.who aok.out.who.1 aok.out.who.2
            have hpb := pickI_bd (a.who.tdiv 5) 2 (by omega)
            have HP := hidOf (kpick_any (a.who.tdiv 5) 2 wr hq.1 hq.2 (by omega) (by omega))
            obtain ⟨q, hqe⟩ : ∃ q, q = pickI (a.who.tdiv 5) 2 := ⟨_, rfl⟩
            rw [← hqe] at HP hpb
            clear ha hc hqe
            go_wp2_with fail
            refine HP.out.mono ?_
            rintro e w' ⟨rfl, h⟩
            rw [h]
            clear h w' HP hq
            have HTx : Hid (∀ wx : World, Calls Tryz.prog 13 #[.agg #[.int .i64 a.who, .int .i64 a.what, .int .i64 a.name]] wx fun e w' => e = .returned (.string a.text) ∧ Below wx.heap.size wx w') := fun wx => ktext_any a aok.out wx
            have hts : a.text.size ≤ 2000000 := by have := textOf_size (pickI a.who 5) (pickI a.what 10) (pickI a.name 5); show (textOf _ _ _).size ≤ _; omega
            obtain ⟨tx, htx⟩ : ∃ tx, tx = a.text := ⟨_, rfl⟩
            rw [← htx] at HTx hts
            clear htx
            go_wp2_with fail
            refine (HTx.out _).mono ?_
            rintro e t1 ⟨rfl, hb1⟩
            have K1 := hidOf (K.out.below hb1)
            have HLo := hidOf K.out.r.lo
            have C1 := hidOf (K1.out.order q tx hts)
            clear hb1 K k0 k1 k2
            obtain ⟨co, hco⟩ : ∃ co, co = (orderS X.S q tx.data.toList).1 := ⟨_, rfl⟩
            rw [← hco] at C1
            have HCo := hidOf hco
            clear hco
            go_wp2_with fail
            refine C1.out.mono ?_
            rintro e t2 ⟨rfl, Xo, m1⟩
            have M1 := hidOf m1
            obtain ⟨k0, k1, k2⟩ := HCells.out t2 m1.t.x.b
            clear C1 m1 K1
            go_wp2_with fail
            refine (HTx.out _).mono ?_
            rintro e t3 ⟨rfl, hb3⟩
            have C2 := hidOf (TrM.order HLo.out q tx hts (M1.out.below hb3))
            rw [← HCo.out] at C2
            clear hb3 M1 k0 k1 k2 HCells
            go_wp2_with fail
            refine C2.out.mono ?_
            rintro e t4 ⟨rfl, Zo, k4⟩
            have K10 := hidOf k4
            have hcc : (co == co) = true := by simp
            clear C2 k4
            have C1 := hidOf K10.out.tick
            clear K10
            go_wp2_with fail
            refine C1.out.mono ?_
            rintro e t1 ⟨⟨c1, rfl⟩, Xa, s1, g1, r1, m1⟩
            have C2 := hidOf (m1.tick g1 r1)
            clear C1 g1 r1 m1
            go_wp2_with fail
            refine C2.out.mono ?_
            rintro e t2 ⟨⟨c2, rfl⟩, Za, k2⟩
            have K2 := hidOf k2
            clear C2 k2
            go_wp2_with fail
            go_loopw [13, 14, 15, 16, 17, 18] (fun i _ _ _ _ _ w' => ∃ q : Nat, q ≤ 2 ∧ i = .int .i64 q ∧ Hid (TrK w w' bx bz Xa Za)) (fun i _ _ _ _ _ _ => 3 - (intOf i).toNat)
            case atStart => exact ⟨0, by omega, rfl, K2⟩
            case round =>
              obtain ⟨q, hq2, rfl, Kq⟩ := hrel
              clear K2
              by_cases hlq : q < 2
              · have hlq' : (q : Int) < 2 := by omega
                obtain ⟨m, us, sv, sz, L⟩ := Kq.out.look q hlq
                have HL := hidOf L
                have C3 := hidOf L.money
                clear L Kq
                go_wp2_with fail
                refine C3.out.mono ?_
                rintro e w' ⟨rfl, h⟩
                rw [h]
                clear h w' C3
                have C4 := hidOf HL.out.money2
                go_wp2_with fail
                refine C4.out.mono ?_
                rintro e w' ⟨rfl, h⟩
                rw [h]
                clear h w' C4
                have C5 := hidOf (HL.out.view HT.out)
                go_wp2_with fail
                refine C5.out.mono ?_
                rintro e y1 ⟨rfl, hb1⟩
                have L1 := hidOf (HL.out.below hb1)
                have C6 := hidOf L1.out.units
                clear hb1 C5 HL
                go_wp2_with fail
                refine C6.out.mono ?_
                rintro e y2 ⟨va, rfl, hb2, ua⟩
                have L2 := hidOf (L1.out.below hb2)
                have UA := hidOf ua
                have C7 := hidOf (L2.out.view2 HT.out)
                clear hb2 C6 L1 ua
                go_wp2_with fail
                refine C7.out.mono ?_
                rintro e y3 ⟨rfl, hb3⟩
                have L3 := hidOf (L2.out.below hb3)
                have UB := hidOf (UA.out.below hb3)
                have C8 := hidOf L3.out.units2
                clear hb3 C7 L2 UA
                go_wp2_with fail
                refine C8.out.mono ?_
                rintro e y4 ⟨vb, rfl, hb4, ub⟩
                have L4 := hidOf (L3.out.below hb4)
                have UC := hidOf (UB.out.below hb4)
                have C9 := hidOf (kquarter_any y4 va vb us UC.out ub L4.out.n L4.out.u (HT.out.below L4.out.kk.t.x.b HT.out.lt))
                clear hb4 C8 L3 UB ub UC
                go_wp2_with fail
                refine C9.out.mono ?_
                rintro e y5 ⟨rfl, hb5⟩
                have K5 := hidOf (L4.out.kk.below hb5)
                clear hb5 C9 L4
                have hmm : (m == m) = true := by simp
                go_wp2
                exact ⟨⟨q + 1, by omega, by go_num, K5⟩, by simp [intOf]; omega⟩
              · have hlq' : decide ((q : Int) < 2) = false := decide_eq_false (by omega)
                go_wp2
                exact ⟨⟨j + 1, Xa, Za, by omega, by go_num, Kq⟩, by simp [intOf]; omega⟩
          · have hl' : decide ((j : Int) < (ds.length : Int)) = false := decide_eq_false (by omega)
            have K10 := K
            clear K
            have C1 := hidOf K10.out.tick
            clear K10
            go_wp2_with fail
            refine C1.out.mono ?_
            rintro e t1 ⟨⟨c1, rfl⟩, Xa, s1, g1, r1, m1⟩
            have C2 := hidOf (m1.tick g1 r1)
            clear C1 g1 r1 m1
            go_wp2_with fail
            refine C2.out.mono ?_
            rintro e t2 ⟨⟨c2, rfl⟩, Za, k2⟩
            have K2 := hidOf k2
            clear C2 k2
            go_wp2_with fail
            go_loopw [13, 14, 15, 16, 17, 18] (fun i _ _ _ _ _ w' => ∃ q : Nat, q ≤ 2 ∧ i = .int .i64 q ∧ Hid (TrK w w' bx bz Xa Za)) (fun i _ _ _ _ _ _ => 3 - (intOf i).toNat)
            case atStart => exact ⟨0, by omega, rfl, K2⟩
            case round =>
              obtain ⟨q, hq2, rfl, Kq⟩ := hrel
              clear K2
              by_cases hlq : q < 2
              · have hlq' : (q : Int) < 2 := by omega
                obtain ⟨m, us, sv, sz, L⟩ := Kq.out.look q hlq
                have HL := hidOf L
                have C3 := hidOf L.money
                clear L Kq
                go_wp2_with fail
                refine C3.out.mono ?_
                rintro e w' ⟨rfl, h⟩
                rw [h]
                clear h w' C3
                have C4 := hidOf HL.out.money2
                go_wp2_with fail
                refine C4.out.mono ?_
                rintro e w' ⟨rfl, h⟩
                rw [h]
                clear h w' C4
                have C5 := hidOf (HL.out.view HT.out)
                go_wp2_with fail
                refine C5.out.mono ?_
                rintro e y1 ⟨rfl, hb1⟩
                have L1 := hidOf (HL.out.below hb1)
                have C6 := hidOf L1.out.units
                clear hb1 C5 HL
                go_wp2_with fail
                refine C6.out.mono ?_
                rintro e y2 ⟨va, rfl, hb2, ua⟩
                have L2 := hidOf (L1.out.below hb2)
                have UA := hidOf ua
                have C7 := hidOf (L2.out.view2 HT.out)
                clear hb2 C6 L1 ua
                go_wp2_with fail
                refine C7.out.mono ?_
                rintro e y3 ⟨rfl, hb3⟩
                have L3 := hidOf (L2.out.below hb3)
                have UB := hidOf (UA.out.below hb3)
                have C8 := hidOf L3.out.units2
                clear hb3 C7 L2 UA
                go_wp2_with fail
                refine C8.out.mono ?_
                rintro e y4 ⟨vb, rfl, hb4, ub⟩
                have L4 := hidOf (L3.out.below hb4)
                have UC := hidOf (UB.out.below hb4)
                have C9 := hidOf (kquarter_any y4 va vb us UC.out ub L4.out.n L4.out.u (HT.out.below L4.out.kk.t.x.b HT.out.lt))
                clear hb4 C8 L3 UB ub UC
                go_wp2_with fail
                refine C9.out.mono ?_
                rintro e y5 ⟨rfl, hb5⟩
                have K5 := hidOf (L4.out.kk.below hb5)
                clear hb5 C9 L4
                have hmm : (m == m) = true := by simp
                go_wp2
                exact ⟨⟨q + 1, by omega, by go_num, K5⟩, by simp [intOf]; omega⟩
              · have hlq' : decide ((q : Int) < 2) = false := decide_eq_false (by omega)
                go_wp2
                exact ⟨⟨j + 1, Xa, Za, by omega, by go_num, Kq⟩, by simp [intOf]; omega⟩
        · have hl2' : decide ((j : Int) < 200) = false := decide_eq_false (by omega)
          have HBl := hidOf K.out.t.x.b
          clear K
          go_wp2
          go_ret
          exact ⟨rfl, HBl.out⟩
      · have hl1' : decide ((j : Int) < (ds.length : Int) + 1) = false := decide_eq_false (by omega)
        have HBl := hidOf K.out.t.x.b
        clear K
        go_wp2
        go_ret
        exact ⟨rfl, HBl.out⟩
end Go.Proofs.YtlafddeoheambaaGreatDoor

/-
  Numbers that are handed in, opened.
-/
namespace Go.Proofs.YtlafddeoheambaaGreatDoor
open Go.RowKit Go.Deep Go.ChangeShapes

theorem Tryz.cellsInt : Tryz.prog.cellsOf 3 = 1 := by kernel_rfl
theorem wf64 {n : Int} (h : (Lit.int .i64 n).wf = true) : -9223372036854775808 ≤ n ∧ n ≤ 9223372036854775807 := by
  simpa [Lit.wf, IntKind.min, IntKind.max, IntKind.signed, IntKind.bits] using h
theorem ints_open {H : Type} {enc : TypeId × Value → H} {w : World} {base : Nat} {spare : Nat → Bool} {held : Bool} {fuel : Nat} {cs : List Value} {x : DataW H × List MemPlace} (h : DataW.trod enc Tryz.prog w base spare held fuel 42 cs = some x) :
    ∃ v zs, cs = [v] ∧ IntsIn w v zs ∧ ∀ z ∈ zs, -9223372036854775808 ≤ z ∧ z ≤ 9223372036854775807 := by
  rcases open_ints Tryz.underlying42 Tryz.underlying3 Tryz.cellsInt h with ⟨rfl, rfl⟩ | ⟨a, len, cap, zs, rfl, hb, hlc, hcm, hlen, _, hc, hwf⟩
  · exact ⟨_, [], rfl, ⟨none, 0, rfl, by simp, fun h => absurd h (by simp)⟩, by simp⟩
  · unfold maxLen at hcm
    have hl : len ≤ zs.length := by rw [hlen]; split <;> omega
    have hll : (zs.take len).length = len := by simp [hl]
    refine ⟨_, zs.take len, rfl, ⟨some a, cap, by rw [hll], by rw [hll]; omega, fun hpos => ?_⟩, fun z hz => wf64 (hwf z (List.mem_of_mem_take hz))⟩
    rw [hll] at hpos
    have h00 := hc 0 (by omega)
    obtain ⟨b, off, spot⟩ := a
    have hspot : spot = none := by simpa [Addr.add] using World.cell?_spot h00
    subst hspot
    refine ⟨b, off, rfl, ?_, fun j z hz => ?_⟩
    · have := block_lt_of_cell h00
      simpa [Addr.add] using this
    · have hj := (at_some hz).1
      rw [hll] at hj
      have := hc j (by omega)
      rw [Go.WideShapes.add_plain] at this
      rw [this]
      rw [List.getElem?_take_of_lt hj] at hz
      rw [List.getD_eq_getElem?_getD, hz]
      rfl
end Go.Proofs.YtlafddeoheambaaGreatDoor

/-
  Acts that are handed in, opened.
-/
namespace Go.Proofs.YtlafddeoheambaaGreatDoor
open Go.RowKit Go.Deep Go.ChangeShapes

theorem Tryz.cellsAct : Tryz.prog.cellsOf 33 = 3 := by kernel_rfl
theorem alist3 {α : Type} {l : List α} (h : l.length = 3) : ∃ a0 a1 a2, l = [a0, a1, a2] := by
  match l, h with
  | [a0, a1, a2], _ => exact ⟨a0, a1, a2, rfl⟩
theorem flat_cells3 {α : Type} (cells : α → List Value) (sz : Nat) (hsz : ∀ a, (cells a).length = sz) (hpos : 0 < sz) (l : List α) (w : World) (b off : Nat) (h : ∀ i (hi : i < l.length) r, r < sz → w.cell? ⟨b, off + (i * sz + r), none⟩ = (cells l[i])[r]?) :
    ∀ (j : Nat) u, (l.flatMap cells)[j]? = some u → w.cell? ⟨b, off + j, none⟩ = some u := by
  intro j u hu
  have hj := (at_some hu).1
  rw [flat_length cells sz hsz] at hj
  have e : j / sz * sz + j % sz = j := by rw [Nat.mul_comm]; exact Nat.div_add_mod j sz
  have hr := Nat.mod_lt j hpos
  have hi : j / sz < l.length := (Nat.div_lt_iff_lt_mul hpos).2 hj
  have f := flat_at cells sz hsz l (j / sz) (j % sz) hi hr
  rw [e, hu] at f
  have := h (j / sz) hi (j % sz) hr
  rw [e] at this
  rw [this, ← f]
section
variable {H : Type} {enc : TypeId × Value → H} {w : World} {base : Nat} {spare : Nat → Bool} {held : Bool}
theorem act_open {fuel : Nat} {cs : List Value} {x : DataW H × List MemPlace} (h : DataW.trod enc Tryz.prog w base spare held fuel 33 cs = some x) : ∃ a : ActD, cs = actCells a ∧ a.ok := by
  obtain ⟨y0, y1, y2, n, _, hl, h0, h1, h2⟩ := trod_struct3 Tryz.underlying33 h
  rw [Tryz.cellsAct] at hl
  obtain ⟨c0, c1, c2, rfl⟩ := alist3 hl
  simp only [Tryz.cellsInt] at h0 h1 h2
  obtain ⟨a, e0, _, wa⟩ := DataW.trod_int Tryz.underlying3 h0
  obtain ⟨b, e1, _, wb⟩ := DataW.trod_int Tryz.underlying3 h1
  obtain ⟨c, e2, _, wc⟩ := DataW.trod_int Tryz.underlying3 h2
  simp at e0 e1 e2
  subst e0 e1 e2
  exact ⟨⟨a, b, c⟩, rfl, wf64 wa, wf64 wb, wf64 wc⟩
theorem acts_open {fuel : Nat} {cs : List Value} {x : DataW H × List MemPlace} (h : DataW.trod enc Tryz.prog w base spare held fuel 25 cs = some x) : ∃ v ds, cs = [v] ∧ ActsIn w v ds ∧ ∀ d ∈ ds, d.ok := by
  rcases open_slice Tryz.underlying25 h with ⟨rfl, rfl⟩ | ⟨a, len, cap, m, n, D, Pl, rfl, hb, hlc, hcm, hm, rfl, hel⟩
  · exact ⟨_, [], rfl, ⟨none, 0, rfl, by simp, fun h => absurd h (by simp)⟩, by intro d hd; simp at hd⟩
  · unfold maxLen at hcm
    have hlm : len ≤ m := by rw [hm]; split <;> omega
    have ex : ∀ i, ∃ d : ActD, i < len → (w.cells? base (a.add (i * 3)) 3 = some (actCells d) ∧ d.ok) := by
      intro i
      by_cases hi : i < len
      · obtain ⟨cs', h1, h2⟩ := hel i (by omega)
        rw [Tryz.cellsAct] at h1
        obtain ⟨d, rfl, h3⟩ := act_open h2
        exact ⟨d, fun _ => ⟨h1, h3⟩⟩
      · exact ⟨⟨0, 0, 0⟩, fun h => absurd h hi⟩
    obtain ⟨f, hf⟩ := Classical.axiomOfChoice ex
    have hll : ((List.range len).map f).length = len := by simp
    refine ⟨_, (List.range len).map f, rfl, ⟨some a, cap, by rw [hll], by rw [hll]; omega, fun hpos => ?_⟩, ?_⟩
    · rw [hll] at hpos
      obtain ⟨c0, _⟩ := hf 0 hpos
      obtain ⟨hb0, _, hc0⟩ := World.cells?_some c0
      have h00 := hc0 0 (by omega)
      obtain ⟨b, off, spot⟩ := a
      have hspot : spot = none := by simpa [Addr.add] using World.cell?_spot (h00.trans rfl)
      subst hspot
      refine ⟨b, off, rfl, ?_, ?_⟩
      · have := block_lt_of_cell (h00.trans rfl)
        simpa [Addr.add] using this
      · refine flat_cells3 actCells 3 (fun _ => rfl) (by omega) _ w b off (fun i hi r hr => ?_)
        have hi' : i < len := by simpa using hi
        obtain ⟨ci, _⟩ := hf i hi'
        obtain ⟨_, _, hci⟩ := World.cells?_some ci
        have := hci r hr
        rw [Addr.add_add, Go.WideShapes.add_plain] at this
        simpa using this
    · intro d hd
      simp only [List.mem_map, List.mem_range] at hd
      obtain ⟨i, hi, rfl⟩ := hd
      exact (hf i hi).2
end
end Go.Proofs.YtlafddeoheambaaGreatDoor
