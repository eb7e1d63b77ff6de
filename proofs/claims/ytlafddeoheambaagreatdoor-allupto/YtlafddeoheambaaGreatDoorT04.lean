/-
  The function ahead of package hazeref: the spot ahead of a unit, and whether there is one on which nobody stands; nothing that was there has turned.
-/
import Derived.Test.YtlafddeoheambaaGreatDoorT03
import Derived.Deep.RegionHeld3
import Derived.Deep.DrawnRows
set_option linter.unusedVariables false
namespace Go.Proofs.YtlafddeoheambaaGreatDoor
open Go.RowKit
attribute [local go_sem] Go.wp_at_zero Go.wp_at_succ

def freeB (Y : YW) (x y : Int) : Bool := freeS Y.S x y
theorem ret_t3 {a a' b b' : Int} {c c' : Bool} (h1 : a = a') (h2 : b = b') (h3 : c = c') : Ending.returned (.tuple #[.int .i64 a, .int .i64 b, .bool c]) = .returned (.tuple #[.int .i64 a', .int .i64 b', .bool c']) := by rw [h1, h2, h3]

set_option maxHeartbeats 4000000 in
theorem ahead_any (w : World) (Y : YW) (nm wh wi : ByteArray) (x y h cg : Int) (hr : RepY w Y) (hf : Full Y) (hx : 0 ≤ x ∧ x ≤ 100) (hy : 0 ≤ y ∧ y ≤ 100) (hh : 0 ≤ h ∧ h ≤ 3) (hw : 0 ≤ Y.width ∧ Y.width ≤ 100) (hw2 : 0 ≤ Y.height ∧ Y.height ≤ 100) :
    Calls Tryz.prog 125 #[.pointer (some ⟨Y.b, 0, none⟩), .agg #[.string nm, .int .i64 x, .int .i64 y, .int .i64 h, .int .i64 cg, .string wh, .string wi]] w fun e w' =>
      e = .returned (.tuple #[.int .i64 (x + dxI h), .int .i64 (y + dyI h), .bool (freeB Y (x + dxI h) (y + dyI h))]) ∧ Below w.heap.size w w' := by
  have hcase : h = 0 ∨ h = 1 ∨ h = 2 ∨ h = 3 := by omega
  obtain ⟨hx0, hx1⟩ := hx
  obtain ⟨hy0, hy1⟩ := hy
  obtain ⟨hw0, hw1⟩ := hw
  obtain ⟨hv0, hv1⟩ := hw2
  clear hh
  rcases hcase with rfl | rfl | rfl | rfl
  all_goals
    go_enter Tryz.func125, Tryz.ntmps125
    go_wp2
    go_region
    go_wp2
    go_region
    go_wp2_with fail
    refine (holder_any _ Y _ _ (hr.below ?hb) hf).mono ?_
    case hb => exact ((((Below.refl _ w).alloc (Nat.le_refl _) _).alloc (by simp) _).alloc (by simp; omega) _).drew.drew
    rintro e w1 ⟨rfl, hb1⟩
    have hb2 : Below w.heap.size w w1 := ((((((Below.refl _ w).alloc (Nat.le_refl _) _).alloc (by simp) _).alloc (by simp; omega) _).drew.drew)).trans (hb1.mono (by simp; omega))
    have hr1 := hr.below hb2
    have k0 : w1.cell? ⟨Y.b, 0, none⟩ = some (.int .i64 Y.width) := hr1.cellTop rfl
    have k1 : w1.cell? ⟨Y.b, 1, none⟩ = some (.int .i64 Y.height) := hr1.cellTop rfl
    clear hb1 hr1
    go_wp2_with (go_at_call 88; refine (within_any _ _ _ _).mono ?_; rintro e w' ⟨rfl, rfl⟩)
    all_goals
      go_ret3
      refine ⟨ret_t3 (by simp [dxI]) (by simp [dyI]) ?_, hb2⟩
      simp [freeB, freeS, YW.S, dxI, dyI, *]
end Go.Proofs.YtlafddeoheambaaGreatDoor
