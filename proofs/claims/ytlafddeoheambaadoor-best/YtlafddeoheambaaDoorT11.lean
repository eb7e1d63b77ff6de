/-
  The function checked of the program's package orders: an order of a unit, if it is one.
-/
import Derived.Test.YtlafddeoheambaaDoorT10
import Derived.Laws.ResultCell
set_option linter.unusedVariables false
namespace Go.Proofs.YtlafddeoheambaaDoor
open Go.RowKit

theorem results_row_tmp {P : Program} {fn : Func} {p u : Tmp} {ty : TypeId} (h : fn.results = #[.cell p ty, .tmp u]) (tmps : Array Value) (w : World) (g : Nat) (t : TypeId) (cs : Array Value) (fr : Nat × Nat) (d : TypeDesc)
    (hp : tmps.getD p undef = .pointer (some ⟨g, 0, none⟩)) (hg : w.heap[g]? = some (.cells cs t fr))
    (hu : P.underlying ty = some d) (hd : (match d with | .struct _ | .array _ _ => true | _ => false) = true) (hi : (P.info? ty).map (·.size) = some cs.size) :
    (results fn tmps).run P w = .ok (.tuple #[.agg cs, tmps.getD u undef]) w := by
  rw [results_cell_tmp h, hp]
  simp [asAddr, Result.andThen, run_loadVar_row w g t ty cs fr d hg hu hd hi]
theorem Tryd.sizeOrder : (Tryd.prog.info? 58).map (·.size) = some 4 := by kernel_rfl

theorem set4 {w : World} {g : Nat} {a b c d : Value} {t : TypeId} (h : w.heap[g]? = some (.cells #[a, b, c, d] t (0, 0))) (a' b' c' d' : Value) :
    ((((w.setCell ⟨g, 0, none⟩ a').setCell ⟨g, 1, none⟩ b').setCell ⟨g, 2, none⟩ c').setCell ⟨g, 3, none⟩ d').heap[g]? = some (.cells #[a', b', c', d'] t (0, 0)) := by
  have h1 := heap_setCell_same w g 0 _ t a' h
  have h2 := heap_setCell_same _ g 1 _ t b' h1
  have h3 := heap_setCell_same _ g 2 _ t c' h2
  exact heap_setCell_same _ g 3 _ t d' h3
theorem below_set4 {B : Nat} {w0 w : World} {g : Nat} (h : Below B w0 w) (hg : B ≤ g) (a' b' c' d' : Value) :
    Below B w0 ((((w.setCell ⟨g, 0, none⟩ a').setCell ⟨g, 1, none⟩ b').setCell ⟨g, 2, none⟩ c').setCell ⟨g, 3, none⟩ d') :=
  (((h.setCell (p := ⟨g, 0, none⟩) hg a').setCell (p := ⟨g, 1, none⟩) hg b').setCell (p := ⟨g, 2, none⟩) hg c').setCell (p := ⟨g, 3, none⟩) hg d'
def zeroO : Array Value := #[.int .i64 0, .string ⟨#[]⟩, .string ⟨#[]⟩, .int .i64 0]
def ordC (k : Int) (u n : ByteArray) (num : Int) : Array Value := #[.int .i64 k, .string u, .string n, .int .i64 num]
def checkV (k : Int) (u n : ByteArray) (num : Int) : Array Value := if k ≠ 0 ∧ nameB u.data.toList = true then #[.agg (ordC k u n num), .bool true] else #[.agg zeroO, .bool false]
theorem ret_tuple {a b : Array Value} (h : a = b) : Ending.returned (.tuple a) = .returned (.tuple b) := by rw [h]

set_option maxRecDepth 100000 in
set_option maxHeartbeats 2000000 in
theorem xchecked_any (k : Int) (u n : ByteArray) (num : Int) (w : World) (hs : u.size ≤ 2000000) :
    Calls Tryd.prog 39 #[.agg #[.int .i64 k, .string u, .string n, .int .i64 num]] w fun e w' => e = .returned (.tuple (checkV k u n num)) ∧ Below w.heap.size w w' := by
  by_cases hk : k = 0
  · subst hk
    have HV : Hid (checkV 0 u n num = #[.agg zeroO, .bool false]) := by unfold Hid checkV; simp
    go_enter Tryd.func39, Tryd.ntmps39
    go_wp2
    refine bodyPost_ret (results_row_tmp rfl _ _ (w.heap.size + 1) 58 zeroO (0, 0) _ rfl ?_ Tryd.underlying58 rfl Tryd.sizeOrder) rfl ?_
    · exact heap_alloc2_new w _ _
    · exact ⟨ret_tuple (by rw [HV.out]; rfl), ((Below.refl _ _).alloc (Nat.le_refl _) _).alloc (by simp) _⟩
  · have hk' : (k == 0) = false := by simpa using hk
    go_enter Tryd.func39, Tryd.ntmps39
    go_wp2_with fail
    refine (isName_any u _ hs).mono ?_
    rintro e w' ⟨rfl, hb⟩
    have b0 : w'.heap[w.heap.size]? = some (.cells #[.int .i64 k, .string u, .string n, .int .i64 num] 58) := by
      rw [hb.block w.heap.size (by simp; omega)]
      exact heap_alloc2_old w _ _
    have b1 : w'.heap[w.heap.size + 1]? = some (.cells #[.int .i64 0, .string ⟨#[]⟩, .string ⟨#[]⟩, .int .i64 0] 58) := by
      rw [hb.block (w.heap.size + 1) (by simp)]
      exact heap_alloc2_new w _ _
    have HB : Hid (Below w.heap.size w w') := by
      refine (((Below.refl _ _).alloc (Nat.le_refl _) _).alloc (by simp) _).trans (hb.mono ?_)
      simp
      omega
    clear hb
    have c0 : w'.cell? ⟨w.heap.size, 0, none⟩ = some (.int .i64 k) := by rw [cell_of_row _ _ _ _ _ _ b0]; rfl
    have c1 : w'.cell? ⟨w.heap.size, 1, none⟩ = some (.string u) := by rw [cell_of_row _ _ _ _ _ _ b0]; rfl
    have c2 : w'.cell? ⟨w.heap.size, 2, none⟩ = some (.string n) := by rw [cell_of_row _ _ _ _ _ _ b0]; rfl
    have c3 : w'.cell? ⟨w.heap.size, 3, none⟩ = some (.int .i64 num) := by rw [cell_of_row _ _ _ _ _ _ b0]; rfl
    have f : ∀ j, w'.frozen? ⟨w.heap.size + 1, j, none⟩ = false := fun j => frozen_of_row _ _ _ _ _ b1
    have f0 := f 0
    have f1 := f 1
    have f2 := f 2
    have f3 := f 3
    have d0 : w'.cell? ⟨w.heap.size + 1, 0, none⟩ = some (.int .i64 0) := by rw [cell_of_row _ _ _ _ _ _ b1]; rfl
    have d1 : w'.cell? ⟨w.heap.size + 1, 1, none⟩ = some (.string ⟨#[]⟩) := by rw [cell_of_row _ _ _ _ _ _ b1]; rfl
    have d2 : w'.cell? ⟨w.heap.size + 1, 2, none⟩ = some (.string ⟨#[]⟩) := by rw [cell_of_row _ _ _ _ _ _ b1]; rfl
    have d3 : w'.cell? ⟨w.heap.size + 1, 3, none⟩ = some (.int .i64 0) := by rw [cell_of_row _ _ _ _ _ _ b1]; rfl
    clear f b0
    cases hn : nameB u.data.toList
    · have HV : Hid (checkV k u n num = #[.agg zeroO, .bool false]) := by unfold Hid checkV; simp [hn]
      go_wp2
      refine bodyPost_ret (results_row_tmp rfl _ _ (w.heap.size + 1) 58 zeroO (0, 0) _ rfl (set4 b1 _ _ _ _) Tryd.underlying58 rfl Tryd.sizeOrder) rfl ?_
      exact ⟨ret_tuple (by rw [HV.out]; rfl), below_set4 HB.out (by omega) _ _ _ _⟩
    · have HV : Hid (checkV k u n num = #[.agg (ordC k u n num), .bool true]) := by unfold Hid checkV; simp [hn, hk]
      go_wp2
      refine bodyPost_ret (results_row_tmp rfl _ _ (w.heap.size + 1) 58 (ordC k u n num) (0, 0) _ rfl (set4 b1 _ _ _ _) Tryd.underlying58 rfl Tryd.sizeOrder) rfl ?_
      exact ⟨ret_tuple (by rw [HV.out]; rfl), below_set4 HB.out (by omega) _ _ _ _⟩
end Go.Proofs.YtlafddeoheambaaDoor
