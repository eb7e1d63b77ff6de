/-
  The function does of package hazeref: what a unit's order leaves of the world.
-/
import Derived.Test.YtdpmadoccimgcaaT04
import Derived.Deep.RegionLaw
import Derived.Deep.QuietTactic
import Derived.BigQuiet
import Derived.Deep.AppendLies
set_option linter.unusedVariables false
namespace Go.Proofs.Ytdpmadoccimgcaa
open Go.RowKit
attribute [local go_sem] Go.wp_at_zero Go.wp_at_succ

set_option maxRecDepth 100000 in
set_option maxHeartbeats 4000000 in
theorem does_easy (w : World) (Y : YW) (M : Int) (n k : Nat) (p : SPlayer) (v : PV) (u : SUnit) (hr : RepY w Y) (hf : WF Y M) (hM : M ≤ 1000000000000) (hq : Y.pls[n]? = some (p, v)) (hu : p.units[k]? = some u) (h4 : (u.what.toList == [100, 105, 103]) = false) (h5 : (u.what.toList == [115, 101, 108, 108]) = false) (h6 : (u.what.toList == [99, 97, 108, 108]) = false) (h7 : (u.what.toList == [98, 117, 105, 108, 100]) = false) :
    Calls Try.prog 44 #[.pointer (some ⟨Y.b, 0, none⟩), .int .i64 n, .int .i64 k] w fun e w' => e = .returned (.tuple #[]) ∧ ∃ Y', Turn w Y w' Y' ∧ Y'.S = doesS Y.S n k := by
  obtain ⟨hn, he⟩ := at_some hq
  obtain ⟨hk, heu⟩ := at_some hu
  have hmem : (p, v) ∈ Y.pls := by rw [← he]; exact List.getElem_mem hn
  have humem : u ∈ p.units := by rw [← heu]; exact List.getElem_mem hk
  clear he heu
  rcases own_form hr.pl with ⟨_, h0, _⟩ | ⟨pb, pcap, hvp, hpc, hpm, hpb⟩
  · omega
  have hun := (hr.eachAt hq).units
  rcases own_form hun with ⟨_, h0, _⟩ | ⟨ub, ucap, hvu, huc, hum, hub⟩
  · simp only at h0; omega
  simp only at hvu huc
  clear hun
  unfold maxLen at hpm hum
  have c5 : w.cell? ⟨Y.b, 5, none⟩ = some (.slice (some ⟨pb, 0, none⟩) Y.pls.length pcap) := by rw [← hvp]; exact hr.cellTop rfl
  obtain ⟨m0, m1, _, _⟩ := hr.plCell hq hvp
  rw [hvu] at m1
  obtain ⟨d0, d1, d2, d3, d4, d5, d6⟩ := (hr.eachAt hq).uCell hu hvu
  have fu := (hr.eachAt hq).uFrozen hvu
  have f5 := fu (k * 7 + 5)
  have f6 := fu (k * 7 + 6)
  clear fu
  have T1 : Hid (Turn w Y ((w.setCell ⟨ub, k * 7 + 5, none⟩ (.string ⟨#[]⟩)).setCell ⟨ub, k * 7 + 6, none⟩ (.string ⟨#[]⟩)) (Y.setQ n ({ p with units := p.units.set k { u with what := emptyB, arg := emptyB } }, v))) := by
    unfold Hid
    have t1 := (Turn.refl hr).unit1 hq hu hvu 5 { u with what := emptyB } (.string ⟨#[]⟩) (by omega) rfl
    have t2 := t1.unit1 (setQ_at hq) (set_at hu) (by simpa using hvu) 6 { u with what := emptyB, arg := emptyB } (.string ⟨#[]⟩) (by omega) rfl
    rw [setQ_setQ] at t2
    simpa using t2
  have hfull : Full (Y.setQ n ({ p with units := p.units.set k { u with what := emptyB, arg := emptyB } }, v)) := hf.full.setQ hq (by simp)
  obtain ⟨ux0, ux1, uy0, uy1⟩ := hf.ux _ hmem _ humem
  obtain ⟨uh0, uh1⟩ := hf.uh _ hmem _ humem
  obtain ⟨uc0, uc1⟩ := hf.uc _ hmem _ humem
  obtain ⟨mo0, mo1⟩ := hf.mo _ hmem
  have hwd := hf.wd
  have hht := hf.ht
  have HS : Hid _ := doesS_at hq hu
  have HQ : Hid (Y.pls[n]? = some (p, v)) := hq
  have HU : Hid (p.units[k]? = some u) := hu
  have HVP : Hid (Y.vPl = .slice (some ⟨pb, 0, none⟩) Y.pls.length pcap) := hvp
  have HVU : Hid (v.u = .slice (some ⟨ub, 0, none⟩) p.units.length ucap) := hvu
  clear hq hu hvp hvu
  go_enter Try.func44, Try.ntmps44
  go_wp2_with fail
  refine (ahead_any _ (Y.setQ n ({ p with units := p.units.set k { u with what := emptyB, arg := emptyB } }, v)) _ _ _ _ _ _ _ T1.out.rep hfull (by omega) (by omega) (by omega) (by show 0 ≤ Y.width ∧ Y.width ≤ 100; omega) (by show 0 ≤ Y.height ∧ Y.height ≤ 100; omega)).mono ?_
  rintro e w3 ⟨rfl, hb3⟩
  have T3 : Hid (Turn w Y w3 (Y.setQ n ({ p with units := p.units.set k { u with what := emptyB, arg := emptyB } }, v))) := T1.out.below hb3
  obtain ⟨Y1, hY1⟩ : ∃ Y1, Y1 = Y.setQ n ({ p with units := p.units.set k { u with what := emptyB, arg := emptyB } }, v) := ⟨_, rfl⟩
  rw [← hY1] at T3
  clear hb3 T1 d0 d1 d2 d3 d4 d5 d6 m0 m1 c5 f5 f6 hfull
  have hq1 : Y1.pls[n]? = some ({ p with units := p.units.set k { u with what := emptyB, arg := emptyB } }, v) := by rw [hY1]; exact setQ_at HQ.out
  have hu1 : (p.units.set k { u with what := emptyB, arg := emptyB })[k]? = some { u with what := emptyB, arg := emptyB } := set_at HU.out
  have hvp1 : Y1.vPl = .slice (some ⟨pb, 0, none⟩) Y1.pls.length pcap := by rw [hY1]; simpa [YW.setQ] using HVP.out
  have hvu1 : v.u = .slice (some ⟨ub, 0, none⟩) (p.units.set k { u with what := emptyB, arg := emptyB }).length ucap := by simpa using HVU.out
  have hS1 : Y1.S = Y.S.setPl n { p with units := p.units.set k { u with what := emptyB, arg := emptyB } } := by rw [hY1, S_setQ]
  have HS1 : Hid (doesS Y.S n k = actS Y1.S n k { p with units := p.units.set k { u with what := emptyB, arg := emptyB } } { u with what := emptyB, arg := emptyB } u.what u.arg) := by unfold Hid; rw [hS1]; exact HS.out
  have hfree : freeB (Y.setQ n ({ p with units := p.units.set k { u with what := emptyB, arg := emptyB } }, v)) = fun x y => freeS Y1.S x y := by rw [hY1]; rfl
  rw [hfree]
  obtain ⟨m0, m1, m2, _⟩ := T3.out.rep.plCell hq1 hvp1
  have m1r : Hid (w3.cell? ⟨pb, n * 4 + 1, none⟩ = some v.u) := m1
  rw [HVU.out] at m1
  obtain ⟨d0, d1, d2, d3, d4, d5, d6⟩ := (T3.out.rep.eachAt hq1).uCell hu1 hvu1
  simp only at m0 d0 d1 d2 d3 d4 d5 d6
  have fu := (T3.out.rep.eachAt hq1).uFrozen hvu1
  have fp := T3.out.rep.plFrozen hvp1
  have HQ1 : Hid _ := hq1
  have HU1 : Hid _ := hu1
  have HVP1 : Hid _ := hvp1
  have HVU1 : Hid _ := hvu1
  have HO : Hid (Y1.ore = Y.ore) := by unfold Hid; rw [hY1]; rfl
  clear hq1 hu1 hvp1 hvu1 hS1 hfree hY1 HS
  have hne := T3.out.rep.apart HQ1.out HVP1.out HVU1.out
  have hne' : pb ≠ ub := fun e => hne e.symm
  cases h0 : (u.what.toList == [103, 111])
  · cases h1 : (u.what.toList == [108, 101, 102, 116])
    · cases h2 : (u.what.toList == [98, 97, 99, 107])
      · cases h3 : (u.what.toList == [114, 105, 103, 104, 116])
        · go_wp2
          go_end0
          exact ⟨rfl, _, T3.out, (HS1.out.trans (actS_none _ _ _ _ _ _ _ h0 h1 h2 h3 h4 h5 h6 h7)).symm⟩
        · go_wp2
          go_end0
          exact ⟨rfl, _, T3.out.unit1 HQ1.out HU1.out HVU1.out 3 { u with head := (u.head + 3) % 4, what := emptyB, arg := emptyB } _ (by omega) rfl, by rw [S_setQ]; exact (HS1.out.trans (actS_right _ _ _ _ _ _ _ h0 h1 h2 h3)).symm⟩
      · go_wp2
        go_end0
        exact ⟨rfl, _, T3.out.unit1 HQ1.out HU1.out HVU1.out 3 { u with head := (u.head + 2) % 4, what := emptyB, arg := emptyB } _ (by omega) rfl, by rw [S_setQ]; exact (HS1.out.trans (actS_back _ _ _ _ _ _ _ h0 h1 h2)).symm⟩
    · go_wp2
      go_end0
      exact ⟨rfl, _, T3.out.unit1 HQ1.out HU1.out HVU1.out 3 { u with head := (u.head + 1) % 4, what := emptyB, arg := emptyB } _ (by omega) rfl, by rw [S_setQ]; exact (HS1.out.trans (actS_left _ _ _ _ _ _ _ h0 h1)).symm⟩
  · cases hx : freeS Y1.S (u.x + dxI u.head) (u.y + dyI u.head)
    · go_wp2
      go_end0
      exact ⟨rfl, _, T3.out, (HS1.out.trans (actS_go_no _ _ _ _ _ _ _ h0 hx)).symm⟩
    · go_wp2
      go_end0
      exact ⟨rfl, _, T3.out.unit2 HQ1.out HU1.out HVU1.out 1 2 { u with x := u.x + dxI u.head, what := emptyB, arg := emptyB } { u with x := u.x + dxI u.head, y := u.y + dyI u.head, what := emptyB, arg := emptyB } _ _ (by omega) (by omega) rfl rfl, by rw [S_setQ]; exact (HS1.out.trans (actS_go _ _ _ _ _ _ _ h0 hx)).symm⟩
end Go.Proofs.Ytdpmadoccimgcaa
