/-
  The tables of the library that the rows list: a world that holds them; what a row's list gives.
-/
import Derived.Test.YtlafddeoheambaaGreatDoorT26
import Derived.Test.YtlafddeoheambaaGreatDoorRows
import Derived.WalkKit
import Derived.ProofKit
import Derived.Deep.DeepHandedRow
import Derived.Lib.LaidTab
set_option linter.unusedVariables false
namespace Go.Proofs.YtlafddeoheambaaGreatDoor
open Go.RowKit

theorem Tryz.ownKnob : ownKnob Tryz.prog.godebug = none := by kernel_rfl
theorem Tryz.laidOutB : laidOutB Tryz.prog = true := by kernel_rfl
def tabCells (k : IntKind) (zs : List Int) : Array Value := (zs.map (fun z => Value.int k z)).toArray
def tab32 : List Int := [0, 1, 28, 2, 29, 14, 24, 3, 30, 22, 20, 15, 25, 17, 4, 8, 31, 27, 13, 23, 21, 19, 16, 7, 26, 12, 18, 6, 11, 5, 10, 9]
def tab64 : List Int := [0, 1, 56, 2, 57, 49, 28, 3, 61, 58, 42, 50, 38, 29, 17, 4, 62, 47, 59, 36, 45, 43, 51, 22, 53, 39, 33, 30, 24, 18, 12, 5, 63, 55, 48, 27, 60, 41, 37, 16, 46, 35, 44, 21, 52, 32, 23, 11, 54, 26, 40, 15, 34, 20, 31, 10, 25, 14, 19, 9, 13, 8, 7, 6]
def putTab (h : Array Obj) (g : Nat) (cs : Array Value) : Array Obj := h.modify g fun
  | .cells _ t frozen => .cells cs t frozen
  | o => o
/-- A world with the three tables laid into it. -/
def putTabs (w : World) : World := { w with heap := putTab (putTab (putTab w.heap 5 (tabCells .u8 tab32)) 6 (tabCells .u8 tab64)) 3 (tabCells .u64 Lib.pow10Tab) }
theorem laid_met (os : Os) : laidMet Tryz.prog Rows.worldsUptoRow.laid ((putTabs (World.holding Tryz.prog os ⟨#[], #[], []⟩)).forCall (fun _ _ => 0) ⟨#[], #[.slice none 0 0], []⟩).memory :=
  laidMet_of_run' 8 (by kernel_rfl) (by kernel_rfl)
theorem Tryz.tTab : (Tryz.prog.globals[3]?).map (·.type) = some 215 := by kernel_rfl
theorem Tryz.cellsTab : Tryz.prog.cellsOf 215 = 20 := by kernel_rfl
theorem Tryz.cellsU64 : Tryz.prog.cellsOf 190 = 1 := by kernel_rfl
/-- What a row's list gives: the table of powers of ten. -/
theorem tab_of {W : World} {a b : String × DataW Unit} {nm : String} {l : List (String × DataW Unit)} (hnm : Tryz.prog.globalNamed nm = some 3) (h : laidMet Tryz.prog (a :: b :: (nm, Lib.tabData .u64 Lib.pow10Tab) :: l) W) : Tab W := by
  obtain ⟨ps, ⟨_, _, _, _, _, _, _, _, _, _, ⟨_, _, _, _, _, _, _, _, _, _, ⟨g', t', cs, fuel, p, q, hg', ht', hvar, hd, _, _⟩, _⟩, _⟩, _⟩ := h
  obtain rfl := Option.some.inj (hnm.symm.trans hg')
  obtain rfl := Option.some.inj (Tryz.tTab.symm.trans ht')
  unfold Tab Lib.TabIs
  unfold World.var? at hvar ⊢
  rw [Tryz.gTab]
  rw [hnm] at hvar
  rw [hvar, ← Lib.cells_of_tab Tryz.underlying215 Tryz.underlying190 Tryz.cellsU64 Tryz.cellsTab hd]
end Go.Proofs.YtlafddeoheambaaGreatDoor
