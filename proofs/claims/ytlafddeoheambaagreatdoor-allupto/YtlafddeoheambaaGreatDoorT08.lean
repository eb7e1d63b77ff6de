/-
  The function freeAhead of package haze.
-/
import Derived.Test.YtlafddeoheambaaGreatDoorT07
set_option linter.unusedVariables false
namespace Go.Proofs.YtlafddeoheambaaGreatDoor
open Go.RowKit

theorem Tryz.zeroInt : (Tryz.prog.info? 3).bind (·.zero) = some (.int .i64 0) := by kernel_rfl
theorem ret_cb {a a' b b' : Nat} {t t' : Bool} (h1 : a = a') (h2 : b = b') (h3 : t = t') : Ending.returned (.tuple #[.complex .f64 a b, .bool t]) = .returned (.tuple #[.complex .f64 a' b', .bool t']) := by rw [h1, h2, h3]
def freeV (W H x y : Int) (l : List CE) : Bool := inB x 0 (W - 1) && inB y 0 (H - 1) && (look x y l).isNone

set_option maxRecDepth 100000 in
set_option maxHeartbeats 2000000 in
theorem freeAhead_any (w : World) (X : XW) (hr : RepX w X) (hW : 3 ≤ X.width ∧ X.width ≤ 10) (hH : 3 ≤ X.height ∧ X.height ≤ 10) (u : SUnit) (x : XU) (hu : RepU w u x) (hx : 0 ≤ u.x ∧ u.x ≤ 9) (hy : 0 ≤ u.y ∧ u.y ≤ 9) :
    Calls Tryz.prog 107 #[.pointer (some ⟨X.b, 0, none⟩), .pointer (some ⟨x.g, 0, none⟩)] w fun e w' =>
      e = .returned (if freeV X.width X.height (u.x + dxI u.head) (u.y + dyI u.head) X.ls then .tuple #[.complex .f64 (flI (u.x + dxI u.head)) (flI (u.y + dyI u.head)), .bool true] else .tuple #[.complex .f64 0 0, .bool false]) ∧ Below w.heap.size w w' := by
  have c1 : w.cell? ⟨X.b, 1, none⟩ = some (.int .i64 X.width) := hr.cellTop rfl
  have c2 : w.cell? ⟨X.b, 2, none⟩ = some (.int .i64 X.height) := hr.cellTop rfl
  have c4 : w.cell? ⟨X.b, 5, none⟩ = some (.map (some X.ms)) := hr.cellTop rfl
  have d1 : w.cell? ⟨x.g, 1, none⟩ = some (.complex .f64 (flI u.x) (flI u.y)) := hu.cell rfl
  have d2 : w.cell? ⟨x.g, 2, none⟩ = some (.complex .f64 x.a x.b) := hu.cell rfl
  have HR := hidOf hr
  have HA := hidOf (fun wx => xahead_any X.width X.height u.x u.y u.head x.a x.b wx hu.head hx hy hW hH)
  clear hr hu
  cases hb : (inB (u.x + dxI u.head) 0 (X.width - 1) && inB (u.y + dyI u.head) 0 (X.height - 1))
  · have hF : freeV X.width X.height (u.x + dxI u.head) (u.y + dyI u.head) X.ls = false := by unfold freeV; rw [hb]; rfl
    rw [hb] at HA
    rw [hF]
    clear hF
    go_enter Tryz.func107, Tryz.ntmps107
    go_wp2_with fail
    go_region_with (go_at_call 131; refine (HA.out w.drew).mono ?_; rintro e w1 ⟨rfl, hb1⟩)
    all_goals
      go_wp2
      go_ret2
      exact ⟨rfl, (Below.refl _ w).drew.trans hb1⟩
  · rw [hb] at HA
    have bx : 0 ≤ u.x + dxI u.head ∧ u.x + dxI u.head ≤ 9 := by simp [inB] at hb; omega
    have bY : 0 ≤ u.y + dyI u.head ∧ u.y + dyI u.head ≤ 9 := by simp [inB] at hb; omega
    have hF : freeV X.width X.height (u.x + dxI u.head) (u.y + dyI u.head) X.ls = (look (u.x + dxI u.head) (u.y + dyI u.head) X.ls).isNone := by unfold freeV; rw [hb]; rfl
    rw [hF]
    clear hF hb
    cases hl : look (u.x + dxI u.head) (u.y + dyI u.head) X.ls
    all_goals
      have HL := hidOf hl
      clear hl
      simp only [Option.isNone_none, Option.isNone_some, if_true, Bool.false_eq_true, if_false]
      go_enter Tryz.func107, Tryz.ntmps107
      go_wp2_with fail
      go_region_with (go_at_call 131; refine (HA.out w.drew).mono ?_; rintro e w1 ⟨rfl, hb1⟩)
      all_goals
        have c4' : w1.cell? ⟨X.b, 5, none⟩ = some (.map (some X.ms)) := (hb1.cell (block_lt_of_cell c4)).trans c4
        have HM : Hid (MapD w1 X.ms X.ls X.cs) := HR.out.st.same (hb1.block _ (lt_of_some HR.out.st.is.1))
        have HB := hidOf ((Below.refl _ w).drew.trans hb1)
        clear c1 c2 c4 d1 d2 hb1
        go_wp2_with (at_lookup; refine wpList_lookup_ok_c _ rfl _ _ 79 rfl 88 3 Tryz.underlying79 Tryz.underlying88 Tryz.zeroInt X.ms X.cs X.ls rfl HM.out (u.x + dxI u.head) (u.y + dyI u.head) rfl bx bY ?_; rw [HL.out])
        go_ret2
        exact ⟨rfl, HB.out⟩
end Go.Proofs.YtlafddeoheambaaGreatDoor
