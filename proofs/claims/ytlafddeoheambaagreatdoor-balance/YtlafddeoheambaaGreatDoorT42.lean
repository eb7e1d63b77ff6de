/-
  For all lists of acts and of numbers: hazekeep.Balance answers true, and leaves both lists as they were. The row lists the three tables of the library and strconv's two errors; the card ties them to the program's text.
-/
import Derived.Test.YtlafddeoheambaaGreatDoorT41
import Derived.Test.YtlafddeoheambaaGreatDoorT31
import Derived.Test.YtlafddeoheambaaGreatDoorCards
import Derived.Test.YtlafddeoheambaaGreatDoorTie
import Derived.WalkKit
import Derived.ProofKit
import Derived.OpenShut
import Derived.Carry
set_option linter.unusedVariables false
namespace Go.Proofs.YtlafddeoheambaaGreatDoor
open Go.ChangeShapes Go.WideShapes Go.ChangeAt Go.RowKit

theorem Tryz.paramsBalance : Tryz.f7.params = #[25, 42] := by kernel_rfl
theorem laid_tab_balance {W : World} (h : laidMetH Tryz.prog Rows.balanceRow.laid W) : Tab W := tab_of (l := [("strconv.ErrRange", Rows.laid_strconv_ErrRange), ("strconv.ErrSyntax", Rows.laid_strconv_ErrSyntax)]) Tryz.gTab h

set_option maxRecDepth 100000 in
theorem balance_contract (H : Type) (enc : TypeId × Value → H) (W : World) (base : Nat) (args : Array Value) (ds gs : List (DataW H)) (before : List MemPlace)
    (hval : ∀ (j : Nat) t v, Tryz.f7.params[j]? = some t → args[j]? = some v → Value.okWide Tryz.prog W .any base t v)
    (hW : DataW.Whole enc Tryz.prog Tryz.f7.params.toList Rows.balanceSpec.vars false W args.toList ds gs before) (ht : Tab W) :
    Calls Tryz.prog 7 args W fun e W' => ∃ v, e = .returned v ∧ Rows.balanceSpec.post enc Tryz.prog Tryz.f7 false true false false W args v W' := by
  have hW' := hW
  obtain ⟨p, q, hA0, hV, rfl, hfz, hnd⟩ := hW
  have hA : DataW.TrodAll enc Tryz.prog W 0 (fun _ => true) true Tryz.f7.params.toList args.toList ds p := hA0
  rw [Tryz.paramsBalance] at hA hval
  obtain ⟨v0, vs0, d0, ds0, p0, q0, hargs0, rfl, rfl, h0, r0⟩ := trodAll_cons hA
  obtain ⟨v1, vs1, d1, ds1, p1, q1, hargs1, rfl, rfl, h1, r1⟩ := trodAll_cons r0
  obtain ⟨rfl, rfl, rfl⟩ := trodAll_nil r1
  obtain rfl : args = #[v0, v1] := by cases args; simp_all
  obtain ⟨rfl, rfl⟩ := trodVars_none hV
  clear hA0
  obtain ⟨a0, len0, cap0, rfl⟩ := okWide_slice Tryz.underlying25 (hval 0 25 v0 rfl rfl)
  have h00 := h0
  obtain ⟨f0, hf0⟩ := h0
  have g0 : DataW.trod enc Tryz.prog W 0 (fun _ => true) true f0 25 [.slice a0 len0 cap0] = some (d0, p0) := by simpa [Value.cells] using hf0
  obtain ⟨u0, z0, e0, s0, k0⟩ := acts_open g0
  obtain rfl : u0 = .slice a0 len0 cap0 := by simpa using e0.symm
  obtain ⟨a1, len1, cap1, rfl⟩ := okWide_slice Tryz.underlying42 (hval 1 42 v1 rfl rfl)
  have h10 := h1
  obtain ⟨f1, hf1⟩ := h1
  have g1 : DataW.trod enc Tryz.prog W 0 (fun _ => true) true f1 42 [.slice a1 len1 cap1] = some (d1, p1) := by simpa [Value.cells] using hf1
  obtain ⟨u1, z1, e1, s1, k1⟩ := ints_open g1
  obtain rfl : u1 = .slice a1 len1 cap1 := by simpa using e1.symm
  refine (balance_any W _ _ z0 z1 s0 k0 s1 k1 ht).mono fun e W' ⟨he, hB⟩ => ?_
  subst he
  have hlt0 : ∀ x ∈ p0, x.block < W.heap.size := fun x hx => hW'.lt x (by simp [hx])
  have hlt1 : ∀ x ∈ p1, x.block < W.heap.size := fun x hx => hW'.lt x (by simp [hx])
  refine ⟨_, rfl, _, _, _, [], p0 ++ (p1 ++ []), [], hW', ?_, ?_, rfl, hB.frame _, fun h => by cases h⟩
  · exact trodAll_mk1 (shut_bool Tryz.underlying4 true)
  · exact trodAll_cons_mk (Below.trod Tryz.laidOutB (by kernel_rfl) (of_decide_eq_true (by kernel_rfl)) h00 hB hlt0) (trodAll_cons_mk (Below.trod Tryz.laidOutB (by kernel_rfl) (of_decide_eq_true (by kernel_rfl)) h10 hB hlt1) trodAll_mk0)

def rangeB : ByteArray := ⟨#[118, 97, 108, 117, 101, 32, 111, 117, 116, 32, 111, 102, 32, 114, 97, 110, 103, 101]⟩
def syntaxB : ByteArray := ⟨#[105, 110, 118, 97, 108, 105, 100, 32, 115, 121, 110, 116, 97, 120]⟩
noncomputable def lowN : Nat := (World.holding Tryz.prog default ⟨#[], #[], []⟩).heap.size
/-- A world with the three tables and the two errors laid into it. -/
noncomputable def errsW (os : Os) : World :=
  let w := putTabs (World.holding Tryz.prog os ⟨#[.cells #[.string rangeB] 222, .cells #[.string syntaxB] 222], #[], []⟩)
  { w with heap := putTab (putTab w.heap 1 #[.iface 220 (.pointer (some ⟨lowN, 0, none⟩))]) 0 #[.iface 220 (.pointer (some ⟨lowN + 1, 0, none⟩))] }
theorem laid_met7 (os : Os) : laidMet Tryz.prog Rows.balanceRow.laid ((errsW os).forCall (fun _ _ => 0) ⟨#[], #[.slice none 0 0, .slice none 0 0], []⟩).memory :=
  laidMet_of_run' 8 (by kernel_rfl) (by kernel_rfl)
theorem balance_reads (os : Os) {H : Type} (enc : TypeId × Value → H) : ∃ places, DataW.whole enc Tryz.prog ((errsW os).forCall (fun _ _ => 0) ⟨#[], #[.slice none 0 0, .slice none 0 0], []⟩).memory Tryz.f7.params.toList Rows.balanceSpec.vars false #[Value.slice none 0 0, Value.slice none 0 0].toList 8 = some ([.nil, .nil], [], places) :=
  ⟨[], by kernel_rfl⟩
set_option maxRecDepth 100000 in
theorem balance_lifted (os : Os) (started : os.Started) (H : Type) (enc : TypeId × Value → H) (F : Stop.Interp) :
    ReturnsInHanded {} Tryz.checked os 7 .any ((OpenSpec.ofChange Rows.balanceSpec).preRow enc Tryz.prog Tryz.f7 Rows.balanceRow.domain false Rows.balanceRow.laid) (((OpenSpec.ofChange Rows.balanceSpec).at F).post enc Tryz.prog Tryz.f7 false true false false) := by
  obtain ⟨places, hx⟩ := balance_reads os enc
  refine returnsInHanded_of_row (C := Tryz.checked) (s := OpenSpec.ofChange Rows.balanceSpec) Tryz.ownKnob started (by kernel_rfl) Tryz.func7
    (witness_row_at (enc := enc) (C := Tryz.checked) false (errsW os) #[.slice none 0 0, .slice none 0 0] rfl (by kernel_rfl) (by kernel_rfl) (by kernel_rfl)
      (OpenSpec.preRow_of_cond 8 hx (by kernel_rfl) (fun k hk => by cases hk) (by kernel_rfl) (laid_met7 os))) ?_
  intro W base args ds gs before hval hW _ _ _ hL _ _
  exact balance_contract H enc W base args ds gs before hval hW (laid_tab_balance hL)
theorem balance_row : Rows.BalanceSaid :=
  OpenClaim.holds_of_cond 7 Tryz.f7 rfl rfl rfl rfl rfl rfl rfl ⟨rfl, rfl, rfl, rfl, rfl⟩ rfl rfl rfl rfl rfl (by kernel_rfl) Tryz.func7 (by kernel_rfl)
    (of_decide_eq_true (by kernel_rfl)) (by unfold Func.isWrapper; first | (rw [if_pos (by decide +kernel)]; kernel_rfl) | (rw [if_neg (by decide +kernel)]; exact ⟨rfl, rfl⟩))
    (fun os started H enc _ F => by rw [OpenClaim.pre_eq_preRow]; exact balance_lifted os started H enc F)
theorem balance_plain (f : FuncId) (fn : Func) (hf : Tryz.pinned.checked.prog.funcNamed "haze/hazekeep.Balance" = some f) (hfn : Tryz.pinned.checked.prog.funcs[f]? = some fn) :
    true = Tryz.pinned.checked.prog.looks [] ∧ ∀ (j : Nat) t, fn.params[j]? = some t → Tryz.pinned.checked.prog.wantsStandIn t = false := by
  obtain rfl : f = 7 := Option.some.inj ((show Tryz.prog.funcNamed "haze/hazekeep.Balance" = some 7 by kernel_rfl).symm.trans hf) |>.symm
  obtain rfl : fn = Tryz.f7 := (Option.some.inj (Tryz.func7.symm.trans hfn)).symm
  refine ⟨by kernel_rfl, fun j t ht => ?_⟩
  rw [Tryz.paramsBalance] at ht
  have hm := Array.mem_of_getElem? ht
  simp only [List.mem_toArray, List.mem_cons, List.not_mem_nil, or_false] at hm
  rcases hm with rfl | rfl
  · exact (show Tryz.prog.wantsStandIn 25 = false by kernel_rfl)
  · exact (show Tryz.prog.wantsStandIn 42 = false by kernel_rfl)
theorem balance_holds : Rows.BalanceCardSaid :=
  Claim7.holds_tied_plain_at .later [] _ _ _ _ balance_row (fun _ h => by cases h) (by kernel_rfl) (fun _ h => by cases h) balance_row_tie rfl ⟨rfl, rfl⟩ (by kernel_rfl) rfl balance_plain (by kernel_rfl)

#print axioms balance_holds
end Go.Proofs.YtlafddeoheambaaGreatDoor
