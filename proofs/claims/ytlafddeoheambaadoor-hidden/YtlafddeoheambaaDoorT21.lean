/-
  For all lists of acts: hazekeep.Hidden answers true, and leaves the lists as they were. The row lists the three tables of the library; the card ties them to the program's text.
-/
import Derived.Test.YtlafddeoheambaaDoorT20
import Derived.Test.YtlafddeoheambaaDoorT16
import Derived.Test.YtlafddeoheambaaDoorCards
import Derived.Test.YtlafddeoheambaaDoorTie
import Derived.WalkKit
import Derived.ProofKit
import Derived.OpenShut
import Derived.Carry
set_option linter.unusedVariables false
namespace Go.Proofs.YtlafddeoheambaaDoor
open Go.ChangeShapes Go.WideShapes Go.ChangeAt Go.RowKit

theorem Tryd.paramsHidden : Tryd.f4.params = #[33, 33, 33] := by kernel_rfl
theorem laid_tab_hidden {W : World} (h : laidMetH Tryd.prog Rows.hiddenRow.laid W) : Tab W := tab_of (l := []) Tryd.gTab h

set_option maxRecDepth 100000 in
theorem hidden_contract (H : Type) (enc : TypeId × Value → H) (W : World) (base : Nat) (args : Array Value) (ds gs : List (DataW H)) (before : List MemPlace)
    (hval : ∀ (j : Nat) t v, Tryd.f4.params[j]? = some t → args[j]? = some v → Value.okWide Tryd.prog W .any base t v)
    (hW : DataW.Whole enc Tryd.prog Tryd.f4.params.toList Rows.hiddenSpec.vars false W args.toList ds gs before) (ht : Tab W) :
    Calls Tryd.prog 4 args W fun e W' => ∃ v, e = .returned v ∧ Rows.hiddenSpec.post enc Tryd.prog Tryd.f4 false true false false W args v W' := by
  have hW' := hW
  obtain ⟨p, q, hA0, hV, rfl, hfz, hnd⟩ := hW
  have hA : DataW.TrodAll enc Tryd.prog W 0 (fun _ => true) true Tryd.f4.params.toList args.toList ds p := hA0
  rw [Tryd.paramsHidden] at hA hval
  obtain ⟨v0, vs0, d0, ds0, p0, q0, hargs, rfl, rfl, h0, r0⟩ := trodAll_cons hA
  obtain ⟨v1, vs1, d1, ds1, p1, q1, hargs1, rfl, rfl, h1, r1⟩ := trodAll_cons r0
  obtain ⟨v2, vs2, d2, ds2, p2, q2, hargs2, rfl, rfl, h2, r2⟩ := trodAll_cons r1
  obtain ⟨rfl, rfl, rfl⟩ := trodAll_nil r2
  obtain rfl : args = #[v0, v1, v2] := by cases args; simp_all
  obtain ⟨rfl, rfl⟩ := trodVars_none hV
  clear hA0
  obtain ⟨a0, len0, cap0, rfl⟩ := okWide_slice Tryd.underlying33 (hval 0 33 v0 rfl rfl)
  obtain ⟨a1, len1, cap1, rfl⟩ := okWide_slice Tryd.underlying33 (hval 1 33 v1 rfl rfl)
  obtain ⟨a2, len2, cap2, rfl⟩ := okWide_slice Tryd.underlying33 (hval 2 33 v2 rfl rfl)
  have h00 := h0
  have h10 := h1
  have h20 := h2
  obtain ⟨f0, hf0⟩ := h0
  obtain ⟨f1, hf1⟩ := h1
  obtain ⟨f2, hf2⟩ := h2
  have g0 : DataW.trod enc Tryd.prog W 0 (fun _ => true) true f0 33 [.slice a0 len0 cap0] = some (d0, p0) := by simpa [Value.cells] using hf0
  have g1 : DataW.trod enc Tryd.prog W 0 (fun _ => true) true f1 33 [.slice a1 len1 cap1] = some (d1, p1) := by simpa [Value.cells] using hf1
  have g2 : DataW.trod enc Tryd.prog W 0 (fun _ => true) true f2 33 [.slice a2 len2 cap2] = some (d2, p2) := by simpa [Value.cells] using hf2
  obtain ⟨u0, z0, e0, s0, k0⟩ := acts_open g0
  obtain ⟨u1, z1, e1, s1, k1⟩ := acts_open g1
  obtain ⟨u2, z2, e2, s2, k2⟩ := acts_open g2
  obtain rfl : u0 = .slice a0 len0 cap0 := by simpa using e0.symm
  obtain rfl : u1 = .slice a1 len1 cap1 := by simpa using e1.symm
  obtain rfl : u2 = .slice a2 len2 cap2 := by simpa using e2.symm
  refine (hidden_any W _ _ _ z0 z1 z2 s0 s1 s2 k0 k1 k2 ht).mono fun e W' ⟨he, hB⟩ => ?_
  subst he
  have hlt0 : ∀ x ∈ p0, x.block < W.heap.size := fun x hx => hW'.lt x (by simp [hx])
  have hlt1 : ∀ x ∈ p1, x.block < W.heap.size := fun x hx => hW'.lt x (by simp [hx])
  have hlt2 : ∀ x ∈ p2, x.block < W.heap.size := fun x hx => hW'.lt x (by simp [hx])
  refine ⟨_, rfl, _, _, _, [], p0 ++ (p1 ++ (p2 ++ [])), [], hW', ?_, ?_, rfl, hB.frame _, fun h => by cases h⟩
  · exact trodAll_mk1 (shut_bool Tryd.underlying4 true)
  · exact trodAll_cons_mk (Below.trod Tryd.laidOutB (by kernel_rfl) (of_decide_eq_true (by kernel_rfl)) h00 hB hlt0) (trodAll_cons_mk (Below.trod Tryd.laidOutB (by kernel_rfl) (of_decide_eq_true (by kernel_rfl)) h10 hB hlt1) (trodAll_cons_mk (Below.trod Tryd.laidOutB (by kernel_rfl) (of_decide_eq_true (by kernel_rfl)) h20 hB hlt2) trodAll_mk0))

theorem laid_met3 (os : Os) : laidMet Tryd.prog Rows.hiddenRow.laid ((putTabs (World.holding Tryd.prog os ⟨#[], #[], []⟩)).forCall (fun _ _ => 0) ⟨#[], #[.slice none 0 0, .slice none 0 0, .slice none 0 0], []⟩).memory :=
  laidMet_of_run' 8 (by kernel_rfl) (by kernel_rfl)
theorem hidden_reads (os : Os) {H : Type} (enc : TypeId × Value → H) : ∃ places, DataW.whole enc Tryd.prog ((putTabs (World.holding Tryd.prog os ⟨#[], #[], []⟩)).forCall (fun _ _ => 0) ⟨#[], #[.slice none 0 0, .slice none 0 0, .slice none 0 0], []⟩).memory Tryd.f4.params.toList Rows.hiddenSpec.vars false #[Value.slice none 0 0, Value.slice none 0 0, Value.slice none 0 0].toList 8 = some ([.nil, .nil, .nil], [], places) :=
  ⟨[], by kernel_rfl⟩
set_option maxRecDepth 100000 in
theorem hidden_lifted (os : Os) (started : os.Started) (H : Type) (enc : TypeId × Value → H) (F : Stop.Interp) :
    ReturnsInHanded {} Tryd.checked os 4 .any ((OpenSpec.ofChange Rows.hiddenSpec).preRow enc Tryd.prog Tryd.f4 Rows.hiddenRow.domain false Rows.hiddenRow.laid) (((OpenSpec.ofChange Rows.hiddenSpec).at F).post enc Tryd.prog Tryd.f4 false true false false) := by
  obtain ⟨places, hx⟩ := hidden_reads os enc
  refine returnsInHanded_of_row (C := Tryd.checked) (s := OpenSpec.ofChange Rows.hiddenSpec) Tryd.ownKnob started (by kernel_rfl) Tryd.func4
    (witness_row_at (enc := enc) (C := Tryd.checked) false (putTabs (World.holding Tryd.prog os ⟨#[], #[], []⟩)) #[.slice none 0 0, .slice none 0 0, .slice none 0 0] rfl (by kernel_rfl) (by kernel_rfl) (by kernel_rfl)
      (OpenSpec.preRow_of_cond 8 hx (by kernel_rfl) (fun k hk => by cases hk) (by kernel_rfl) (laid_met3 os))) ?_
  intro W base args ds gs before hval hW _ _ _ hL _ _
  exact hidden_contract H enc W base args ds gs before hval hW (laid_tab_hidden hL)
theorem hidden_row : Rows.HiddenSaid :=
  OpenClaim.holds_of_cond 4 Tryd.f4 rfl rfl rfl rfl rfl rfl rfl ⟨rfl, rfl, rfl, rfl, rfl⟩ rfl rfl rfl rfl rfl (by kernel_rfl) Tryd.func4 (by kernel_rfl)
    (of_decide_eq_true (by kernel_rfl)) (by unfold Func.isWrapper; first | (rw [if_pos (by decide +kernel)]; kernel_rfl) | (rw [if_neg (by decide +kernel)]; exact ⟨rfl, rfl⟩))
    (fun os started H enc _ F => by rw [OpenClaim.pre_eq_preRow]; exact hidden_lifted os started H enc F)
theorem hidden_plain (f : FuncId) (fn : Func) (hf : Tryd.pinned.checked.prog.funcNamed "haze/hazekeep.Hidden" = some f) (hfn : Tryd.pinned.checked.prog.funcs[f]? = some fn) :
    false = Tryd.pinned.checked.prog.looks [] ∧ ∀ (j : Nat) t, fn.params[j]? = some t → Tryd.pinned.checked.prog.wantsStandIn t = false := by
  obtain rfl : f = 4 := Option.some.inj ((show Tryd.prog.funcNamed "haze/hazekeep.Hidden" = some 4 by kernel_rfl).symm.trans hf) |>.symm
  obtain rfl : fn = Tryd.f4 := (Option.some.inj (Tryd.func4.symm.trans hfn)).symm
  refine ⟨by kernel_rfl, fun j t ht => ?_⟩
  rw [Tryd.paramsHidden] at ht
  obtain rfl : t = 33 := by simpa using Array.mem_of_getElem? ht
  exact (show Tryd.prog.wantsStandIn 33 = false by kernel_rfl)
theorem hidden_holds : Rows.HiddenCardSaid :=
  Claim7.holds_tied_plain_at .later [] _ _ _ _ hidden_row (fun _ h => by cases h) (by kernel_rfl) (fun _ h => by cases h) hidden_row_tie rfl ⟨rfl, rfl⟩ (by kernel_rfl) rfl hidden_plain (by kernel_rfl)

#print axioms hidden_holds
end Go.Proofs.YtlafddeoheambaaDoor
