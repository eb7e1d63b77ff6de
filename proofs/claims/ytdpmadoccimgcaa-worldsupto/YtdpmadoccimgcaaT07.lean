/-
  The function does of package hazeref: what a unit's order leaves of the world.
-/
import Derived.Test.YtdpmadoccimgcaaT04
import Derived.Deep.RegionLaw
import Derived.Deep.QuietTactic
import Derived.BigQuiet
import Derived.Deep.AppendLies
import Derived.Test.YtdpmadoccimgcaaT05
import Derived.Test.YtdpmadoccimgcaaT06
import Derived.Test.YtdpmadoccimgcaaProg
import Derived.Test.YtdpmadoccimgcaaT01
import Derived.WalkKit
import Derived.WalkSpells
import Derived.WalkLawsBesides
import Derived.Lib.SliceRun
set_option linter.unusedVariables false
namespace Go.Proofs.Ytdpmadoccimgcaa
open Go.RowKit
attribute [local go_sem] Go.wp_at_zero Go.wp_at_succ

set_option maxRecDepth 100000 in
set_option maxHeartbeats 4000000 in
theorem does_call (w : World) (Y : YW) (M : Int) (n k : Nat) (p : SPlayer) (v : PV) (u : SUnit) (hr : RepY w Y) (hf : WF Y M) (hM : M ≤ 1000000000000) (hq : Y.pls[n]? = some (p, v)) (hu : p.units[k]? = some u) (h0 : (u.what.toList == [103, 111]) = false) (h1 : (u.what.toList == [108, 101, 102, 116]) = false) (h2 : (u.what.toList == [98, 97, 99, 107]) = false) (h3 : (u.what.toList == [114, 105, 103, 104, 116]) = false) (h4 : (u.what.toList == [100, 105, 103]) = false) (h5 : (u.what.toList == [115, 101, 108, 108]) = false) (h6 : (u.what.toList == [99, 97, 108, 108]) = true) :
    Calls Try.prog 44 #[.pointer (some ⟨Y.b, 0, none⟩), .int .i64 n, .int .i64 k] w fun e w' => e = .returned (.tuple #[]) ∧ ∃ Y', Turn w Y w' Y' ∧ Y'.S = doesS Y.S n k := by
  obtain ⟨hn, he⟩ := at_some hq
  obtain ⟨hk, heu⟩ := at_some hu
  have hmem : (p, v) ∈ Y.pls := by rw [← he]; exact List.getElem_mem hn
  have humem : u ∈ p.units := by rw [← heu]; exact List.getElem_mem hk
  clear he heu
  rcases own_form hr.pl with ⟨_, h0, _⟩ | ⟨pb, pcap, hvp, hpc, hpm, hpb⟩
  · omega
  have hun := (hr.eachAt hq).units
  rcases own_form hun with ⟨_, h0, _⟩ | ⟨ub, ucap, hvu, huc, hum, hub⟩
  · simp only at h0; omega
  simp only at hvu huc
  clear hun
  unfold maxLen at hpm hum
  have c5 : w.cell? ⟨Y.b, 5, none⟩ = some (.slice (some ⟨pb, 0, none⟩) Y.pls.length pcap) := by rw [← hvp]; exact hr.cellTop rfl
  obtain ⟨m0, m1, _, _⟩ := hr.plCell hq hvp
  rw [hvu] at m1
  obtain ⟨d0, d1, d2, d3, d4, d5, d6⟩ := (hr.eachAt hq).uCell hu hvu
  have fu := (hr.eachAt hq).uFrozen hvu
  have f5 := fu (k * 7 + 5)
  have f6 := fu (k * 7 + 6)
  clear fu
  have T1 : Hid (Turn w Y ((w.setCell ⟨ub, k * 7 + 5, none⟩ (.string ⟨#[]⟩)).setCell ⟨ub, k * 7 + 6, none⟩ (.string ⟨#[]⟩)) (Y.setQ n ({ p with units := p.units.set k { u with what := emptyB, arg := emptyB } }, v))) := by
    unfold Hid
    have t1 := (Turn.refl hr).unit1 hq hu hvu 5 { u with what := emptyB } (.string ⟨#[]⟩) (by omega) rfl
    have t2 := t1.unit1 (setQ_at hq) (set_at hu) (by simpa using hvu) 6 { u with what := emptyB, arg := emptyB } (.string ⟨#[]⟩) (by omega) rfl
    rw [setQ_setQ] at t2
    simpa using t2
  have hfull : Full (Y.setQ n ({ p with units := p.units.set k { u with what := emptyB, arg := emptyB } }, v)) := hf.full.setQ hq (by simp)
  obtain ⟨ux0, ux1, uy0, uy1⟩ := hf.ux _ hmem _ humem
  obtain ⟨uh0, uh1⟩ := hf.uh _ hmem _ humem
  obtain ⟨uc0, uc1⟩ := hf.uc _ hmem _ humem
  obtain ⟨mo0, mo1⟩ := hf.mo _ hmem
  have hwd := hf.wd
  have hht := hf.ht
  have HS : Hid _ := doesS_at hq hu
  have HQ : Hid (Y.pls[n]? = some (p, v)) := hq
  have HU : Hid (p.units[k]? = some u) := hu
  have HVP : Hid (Y.vPl = .slice (some ⟨pb, 0, none⟩) Y.pls.length pcap) := hvp
  have HVU : Hid (v.u = .slice (some ⟨ub, 0, none⟩) p.units.length ucap) := hvu
  clear hq hu hvp hvu
  go_enter Try.func44, Try.ntmps44
  go_wp2_with fail
  refine (ahead_any _ (Y.setQ n ({ p with units := p.units.set k { u with what := emptyB, arg := emptyB } }, v)) _ _ _ _ _ _ _ T1.out.rep hfull (by omega) (by omega) (by omega) (by show 0 ≤ Y.width ∧ Y.width ≤ 100; omega) (by show 0 ≤ Y.height ∧ Y.height ≤ 100; omega)).mono ?_
  rintro e w3 ⟨rfl, hb3⟩
  have T3 : Hid (Turn w Y w3 (Y.setQ n ({ p with units := p.units.set k { u with what := emptyB, arg := emptyB } }, v))) := T1.out.below hb3
  obtain ⟨Y1, hY1⟩ : ∃ Y1, Y1 = Y.setQ n ({ p with units := p.units.set k { u with what := emptyB, arg := emptyB } }, v) := ⟨_, rfl⟩
  rw [← hY1] at T3
  clear hb3 T1 d0 d1 d2 d3 d4 d5 d6 m0 m1 c5 f5 f6 hfull
  have hq1 : Y1.pls[n]? = some ({ p with units := p.units.set k { u with what := emptyB, arg := emptyB } }, v) := by rw [hY1]; exact setQ_at HQ.out
  have hu1 : (p.units.set k { u with what := emptyB, arg := emptyB })[k]? = some { u with what := emptyB, arg := emptyB } := set_at HU.out
  have hvp1 : Y1.vPl = .slice (some ⟨pb, 0, none⟩) Y1.pls.length pcap := by rw [hY1]; simpa [YW.setQ] using HVP.out
  have hvu1 : v.u = .slice (some ⟨ub, 0, none⟩) (p.units.set k { u with what := emptyB, arg := emptyB }).length ucap := by simpa using HVU.out
  have hS1 : Y1.S = Y.S.setPl n { p with units := p.units.set k { u with what := emptyB, arg := emptyB } } := by rw [hY1, S_setQ]
  have HS1 : Hid (doesS Y.S n k = actS Y1.S n k { p with units := p.units.set k { u with what := emptyB, arg := emptyB } } { u with what := emptyB, arg := emptyB } u.what u.arg) := by unfold Hid; rw [hS1]; exact HS.out
  have hfree : freeB (Y.setQ n ({ p with units := p.units.set k { u with what := emptyB, arg := emptyB } }, v)) = fun x y => freeS Y1.S x y := by rw [hY1]; rfl
  rw [hfree]
  obtain ⟨m0, m1, m2, _⟩ := T3.out.rep.plCell hq1 hvp1
  have m1r : Hid (w3.cell? ⟨pb, n * 4 + 1, none⟩ = some v.u) := m1
  rw [HVU.out] at m1
  obtain ⟨d0, d1, d2, d3, d4, d5, d6⟩ := (T3.out.rep.eachAt hq1).uCell hu1 hvu1
  simp only at m0 d0 d1 d2 d3 d4 d5 d6
  have fu := (T3.out.rep.eachAt hq1).uFrozen hvu1
  have fp := T3.out.rep.plFrozen hvp1
  have HQ1 : Hid _ := hq1
  have HU1 : Hid _ := hu1
  have HVP1 : Hid _ := hvp1
  have HVU1 : Hid _ := hvu1
  have HO : Hid (Y1.ore = Y.ore) := by unfold Hid; rw [hY1]; rfl
  clear hq1 hu1 hvp1 hvu1 hS1 hfree hY1 HS
  have hne := T3.out.rep.apart HQ1.out HVP1.out HVU1.out
  have hne' : pb ≠ ub := fun e => hne e.symm
  have hcall : Hid (Calls Try.prog 42 #[.pointer (some ⟨pb, n * 4, none⟩), .string u.arg] w3 fun e w' => e = .returned (.int .i64 (unitIx (p.units.set k { u with what := emptyB, arg := emptyB }) u.arg)) ∧ w' = w3) :=
    unit_any pb (n * 4) (p.units.set k { u with what := emptyB, arg := emptyB }) v.u u.arg w3 m1r.out (T3.out.rep.eachAt HQ1.out).units
  by_cases hx : unitIx (p.units.set k { u with what := emptyB, arg := emptyB }) u.arg < 0
  · have HX : Hid _ := hx
    go_wp2_with fail
    refine hcall.out.mono ?_
    rintro e w' ⟨rfl, rfl⟩
    go_wp2
    go_end0
    exact ⟨rfl, _, T3.out.unit1 HQ1.out HU1.out HVU1.out 0 { u with name := u.arg, what := emptyB, arg := emptyB } _ (by omega) rfl, by rw [S_setQ]; exact (HS1.out.trans (actS_call _ _ _ _ _ _ _ h0 h1 h2 h3 h4 h5 h6 HX.out)).symm⟩
  · have HX : Hid _ := hx
    go_wp2_with fail
    refine hcall.out.mono ?_
    rintro e w' ⟨rfl, rfl⟩
    go_wp2
    go_end0
    exact ⟨rfl, _, T3.out, (HS1.out.trans (actS_call_no _ _ _ _ _ _ _ h0 h1 h2 h3 h4 h5 h6 HX.out)).symm⟩
end Go.Proofs.Ytdpmadoccimgcaa

/-
  The function does of package hazeref: what a unit's order leaves of the world.
-/
namespace Go.Proofs.Ytdpmadoccimgcaa
open Go.RowKit
attribute [local go_sem] Go.wp_at_zero Go.wp_at_succ

set_option maxRecDepth 100000 in
set_option maxHeartbeats 4000000 in
theorem does_dig (w : World) (Y : YW) (M : Int) (n k : Nat) (p : SPlayer) (v : PV) (u : SUnit) (hr : RepY w Y) (hf : WF Y M) (hM : M ≤ 1000000000000) (hq : Y.pls[n]? = some (p, v)) (hu : p.units[k]? = some u) (h0 : (u.what.toList == [103, 111]) = false) (h1 : (u.what.toList == [108, 101, 102, 116]) = false) (h2 : (u.what.toList == [98, 97, 99, 107]) = false) (h3 : (u.what.toList == [114, 105, 103, 104, 116]) = false) (h4 : (u.what.toList == [100, 105, 103]) = true) :
    Calls Try.prog 44 #[.pointer (some ⟨Y.b, 0, none⟩), .int .i64 n, .int .i64 k] w fun e w' => e = .returned (.tuple #[]) ∧ ∃ Y', Turn w Y w' Y' ∧ Y'.S = doesS Y.S n k := by
  obtain ⟨hn, he⟩ := at_some hq
  obtain ⟨hk, heu⟩ := at_some hu
  have hmem : (p, v) ∈ Y.pls := by rw [← he]; exact List.getElem_mem hn
  have humem : u ∈ p.units := by rw [← heu]; exact List.getElem_mem hk
  clear he heu
  rcases own_form hr.pl with ⟨_, h0, _⟩ | ⟨pb, pcap, hvp, hpc, hpm, hpb⟩
  · omega
  have hun := (hr.eachAt hq).units
  rcases own_form hun with ⟨_, h0, _⟩ | ⟨ub, ucap, hvu, huc, hum, hub⟩
  · simp only at h0; omega
  simp only at hvu huc
  clear hun
  unfold maxLen at hpm hum
  have c5 : w.cell? ⟨Y.b, 5, none⟩ = some (.slice (some ⟨pb, 0, none⟩) Y.pls.length pcap) := by rw [← hvp]; exact hr.cellTop rfl
  obtain ⟨m0, m1, _, _⟩ := hr.plCell hq hvp
  rw [hvu] at m1
  obtain ⟨d0, d1, d2, d3, d4, d5, d6⟩ := (hr.eachAt hq).uCell hu hvu
  have fu := (hr.eachAt hq).uFrozen hvu
  have f5 := fu (k * 7 + 5)
  have f6 := fu (k * 7 + 6)
  clear fu
  have T1 : Hid (Turn w Y ((w.setCell ⟨ub, k * 7 + 5, none⟩ (.string ⟨#[]⟩)).setCell ⟨ub, k * 7 + 6, none⟩ (.string ⟨#[]⟩)) (Y.setQ n ({ p with units := p.units.set k { u with what := emptyB, arg := emptyB } }, v))) := by
    unfold Hid
    have t1 := (Turn.refl hr).unit1 hq hu hvu 5 { u with what := emptyB } (.string ⟨#[]⟩) (by omega) rfl
    have t2 := t1.unit1 (setQ_at hq) (set_at hu) (by simpa using hvu) 6 { u with what := emptyB, arg := emptyB } (.string ⟨#[]⟩) (by omega) rfl
    rw [setQ_setQ] at t2
    simpa using t2
  have hfull : Full (Y.setQ n ({ p with units := p.units.set k { u with what := emptyB, arg := emptyB } }, v)) := hf.full.setQ hq (by simp)
  obtain ⟨ux0, ux1, uy0, uy1⟩ := hf.ux _ hmem _ humem
  obtain ⟨uh0, uh1⟩ := hf.uh _ hmem _ humem
  obtain ⟨uc0, uc1⟩ := hf.uc _ hmem _ humem
  obtain ⟨mo0, mo1⟩ := hf.mo _ hmem
  have hwd := hf.wd
  have hht := hf.ht
  have HS : Hid _ := doesS_at hq hu
  have HQ : Hid (Y.pls[n]? = some (p, v)) := hq
  have HU : Hid (p.units[k]? = some u) := hu
  have HVP : Hid (Y.vPl = .slice (some ⟨pb, 0, none⟩) Y.pls.length pcap) := hvp
  have HVU : Hid (v.u = .slice (some ⟨ub, 0, none⟩) p.units.length ucap) := hvu
  clear hq hu hvp hvu
  go_enter Try.func44, Try.ntmps44
  go_wp2_with fail
  refine (ahead_any _ (Y.setQ n ({ p with units := p.units.set k { u with what := emptyB, arg := emptyB } }, v)) _ _ _ _ _ _ _ T1.out.rep hfull (by omega) (by omega) (by omega) (by show 0 ≤ Y.width ∧ Y.width ≤ 100; omega) (by show 0 ≤ Y.height ∧ Y.height ≤ 100; omega)).mono ?_
  rintro e w3 ⟨rfl, hb3⟩
  have T3 : Hid (Turn w Y w3 (Y.setQ n ({ p with units := p.units.set k { u with what := emptyB, arg := emptyB } }, v))) := T1.out.below hb3
  obtain ⟨Y1, hY1⟩ : ∃ Y1, Y1 = Y.setQ n ({ p with units := p.units.set k { u with what := emptyB, arg := emptyB } }, v) := ⟨_, rfl⟩
  rw [← hY1] at T3
  clear hb3 T1 d0 d1 d2 d3 d4 d5 d6 m0 m1 c5 f5 f6 hfull
  have hq1 : Y1.pls[n]? = some ({ p with units := p.units.set k { u with what := emptyB, arg := emptyB } }, v) := by rw [hY1]; exact setQ_at HQ.out
  have hu1 : (p.units.set k { u with what := emptyB, arg := emptyB })[k]? = some { u with what := emptyB, arg := emptyB } := set_at HU.out
  have hvp1 : Y1.vPl = .slice (some ⟨pb, 0, none⟩) Y1.pls.length pcap := by rw [hY1]; simpa [YW.setQ] using HVP.out
  have hvu1 : v.u = .slice (some ⟨ub, 0, none⟩) (p.units.set k { u with what := emptyB, arg := emptyB }).length ucap := by simpa using HVU.out
  have hS1 : Y1.S = Y.S.setPl n { p with units := p.units.set k { u with what := emptyB, arg := emptyB } } := by rw [hY1, S_setQ]
  have HS1 : Hid (doesS Y.S n k = actS Y1.S n k { p with units := p.units.set k { u with what := emptyB, arg := emptyB } } { u with what := emptyB, arg := emptyB } u.what u.arg) := by unfold Hid; rw [hS1]; exact HS.out
  have hfree : freeB (Y.setQ n ({ p with units := p.units.set k { u with what := emptyB, arg := emptyB } }, v)) = fun x y => freeS Y1.S x y := by rw [hY1]; rfl
  rw [hfree]
  obtain ⟨m0, m1, m2, _⟩ := T3.out.rep.plCell hq1 hvp1
  have m1r : Hid (w3.cell? ⟨pb, n * 4 + 1, none⟩ = some v.u) := m1
  rw [HVU.out] at m1
  obtain ⟨d0, d1, d2, d3, d4, d5, d6⟩ := (T3.out.rep.eachAt hq1).uCell hu1 hvu1
  simp only at m0 d0 d1 d2 d3 d4 d5 d6
  have fu := (T3.out.rep.eachAt hq1).uFrozen hvu1
  have fp := T3.out.rep.plFrozen hvp1
  have HQ1 : Hid _ := hq1
  have HU1 : Hid _ := hu1
  have HVP1 : Hid _ := hvp1
  have HVU1 : Hid _ := hvu1
  have HO : Hid (Y1.ore = Y.ore) := by unfold Hid; rw [hY1]; rfl
  clear hq1 hu1 hvp1 hvu1 hS1 hfree hY1 HS
  have hne := T3.out.rep.apart HQ1.out HVP1.out HVU1.out
  have hne' : pb ≠ ub := fun e => hne e.symm
  by_cases hx : u.cargo < 9
  · have HX : Hid (u.cargo < 9) := hx
    have ho : ∀ s ∈ Y1.ore, 0 ≤ s.amount ∧ s.amount ≤ 99 := by rw [HO.out]; exact hf.ora
    have hdig := rdig_any w3.drew Y1 u.x u.y T3.out.rep.drew ho
    rw [T3.out.b] at hdig
    have HD := hidOf hdig
    clear hdig ho
    go_wp2
    go_region_held3 (fun w' => w'.cell? ⟨ub, k * 7 + 1, none⟩ = some (.int .i64 u.x) ∧ w'.cell? ⟨ub, k * 7 + 2, none⟩ = some (.int .i64 u.y)) (first | assumption | go_keep) (first | (go_at_call 69; refine HD.out.mono ?_; rintro e w4 ⟨rfl, T4⟩; obtain ⟨kk, k4, kz⟩ := digKeep (u := { u with what := emptyB, arg := emptyB }) HQ1.out HU1.out HVU1.out T4; simp only at kk k4))
    go_wp2
    · rename_i hy
      go_end0
      exact ⟨rfl, _, (T3.out.drew.trans T4).unit1 (show (Y1.withOre (digL u.x u.y Y1.ore)).pls[n]? = _ from HQ1.out) HU1.out HVU1.out 4 { u with cargo := u.cargo + 1, what := emptyB, arg := emptyB } _ (by omega) rfl, by rw [S_setQ, S_withOre]; exact (HS1.out.trans (actS_dig _ _ _ _ _ _ _ h0 h1 h2 h3 h4 HX.out hy)).symm⟩
    · rename_i hy
      go_end0
      exact ⟨rfl, _, T3.out.drew.trans T4, by rw [S_withOre, digL_none _ _ _ hy]; exact (HS1.out.trans (actS_dig_none _ _ _ _ _ _ _ h0 h1 h2 h3 h4 HX.out hy)).symm⟩
  · have hx9 : 9 ≤ u.cargo := by omega
    go_wp2
    go_end0
    have HXn : ¬ u.cargo < 9 := by omega
    exact ⟨rfl, _, T3.out, (HS1.out.trans (actS_dig_full _ _ _ _ _ _ _ h0 h1 h2 h3 h4 HXn)).symm⟩
end Go.Proofs.Ytdpmadoccimgcaa

/-
  The function does of package hazeref: what a unit's order leaves of the world.
-/
namespace Go.Proofs.Ytdpmadoccimgcaa
open Go.RowKit
attribute [local go_sem] Go.wp_at_zero Go.wp_at_succ

set_option maxRecDepth 100000 in
set_option maxHeartbeats 4000000 in
theorem does_sell (w : World) (Y : YW) (M : Int) (n k : Nat) (p : SPlayer) (v : PV) (u : SUnit) (hr : RepY w Y) (hf : WF Y M) (hM : M ≤ 1000000000000) (hq : Y.pls[n]? = some (p, v)) (hu : p.units[k]? = some u) (h0 : (u.what.toList == [103, 111]) = false) (h1 : (u.what.toList == [108, 101, 102, 116]) = false) (h2 : (u.what.toList == [98, 97, 99, 107]) = false) (h3 : (u.what.toList == [114, 105, 103, 104, 116]) = false) (h4 : (u.what.toList == [100, 105, 103]) = false) (h5 : (u.what.toList == [115, 101, 108, 108]) = true) :
    Calls Try.prog 44 #[.pointer (some ⟨Y.b, 0, none⟩), .int .i64 n, .int .i64 k] w fun e w' => e = .returned (.tuple #[]) ∧ ∃ Y', Turn w Y w' Y' ∧ Y'.S = doesS Y.S n k := by
  obtain ⟨hn, he⟩ := at_some hq
  obtain ⟨hk, heu⟩ := at_some hu
  have hmem : (p, v) ∈ Y.pls := by rw [← he]; exact List.getElem_mem hn
  have humem : u ∈ p.units := by rw [← heu]; exact List.getElem_mem hk
  clear he heu
  rcases own_form hr.pl with ⟨_, h0, _⟩ | ⟨pb, pcap, hvp, hpc, hpm, hpb⟩
  · omega
  have hun := (hr.eachAt hq).units
  rcases own_form hun with ⟨_, h0, _⟩ | ⟨ub, ucap, hvu, huc, hum, hub⟩
  · simp only at h0; omega
  simp only at hvu huc
  clear hun
  unfold maxLen at hpm hum
  have c5 : w.cell? ⟨Y.b, 5, none⟩ = some (.slice (some ⟨pb, 0, none⟩) Y.pls.length pcap) := by rw [← hvp]; exact hr.cellTop rfl
  obtain ⟨m0, m1, _, _⟩ := hr.plCell hq hvp
  rw [hvu] at m1
  obtain ⟨d0, d1, d2, d3, d4, d5, d6⟩ := (hr.eachAt hq).uCell hu hvu
  have fu := (hr.eachAt hq).uFrozen hvu
  have f5 := fu (k * 7 + 5)
  have f6 := fu (k * 7 + 6)
  clear fu
  have T1 : Hid (Turn w Y ((w.setCell ⟨ub, k * 7 + 5, none⟩ (.string ⟨#[]⟩)).setCell ⟨ub, k * 7 + 6, none⟩ (.string ⟨#[]⟩)) (Y.setQ n ({ p with units := p.units.set k { u with what := emptyB, arg := emptyB } }, v))) := by
    unfold Hid
    have t1 := (Turn.refl hr).unit1 hq hu hvu 5 { u with what := emptyB } (.string ⟨#[]⟩) (by omega) rfl
    have t2 := t1.unit1 (setQ_at hq) (set_at hu) (by simpa using hvu) 6 { u with what := emptyB, arg := emptyB } (.string ⟨#[]⟩) (by omega) rfl
    rw [setQ_setQ] at t2
    simpa using t2
  have hfull : Full (Y.setQ n ({ p with units := p.units.set k { u with what := emptyB, arg := emptyB } }, v)) := hf.full.setQ hq (by simp)
  obtain ⟨ux0, ux1, uy0, uy1⟩ := hf.ux _ hmem _ humem
  obtain ⟨uh0, uh1⟩ := hf.uh _ hmem _ humem
  obtain ⟨uc0, uc1⟩ := hf.uc _ hmem _ humem
  obtain ⟨mo0, mo1⟩ := hf.mo _ hmem
  have hwd := hf.wd
  have hht := hf.ht
  have HS : Hid _ := doesS_at hq hu
  have HQ : Hid (Y.pls[n]? = some (p, v)) := hq
  have HU : Hid (p.units[k]? = some u) := hu
  have HVP : Hid (Y.vPl = .slice (some ⟨pb, 0, none⟩) Y.pls.length pcap) := hvp
  have HVU : Hid (v.u = .slice (some ⟨ub, 0, none⟩) p.units.length ucap) := hvu
  clear hq hu hvp hvu
  go_enter Try.func44, Try.ntmps44
  go_wp2_with fail
  refine (ahead_any _ (Y.setQ n ({ p with units := p.units.set k { u with what := emptyB, arg := emptyB } }, v)) _ _ _ _ _ _ _ T1.out.rep hfull (by omega) (by omega) (by omega) (by show 0 ≤ Y.width ∧ Y.width ≤ 100; omega) (by show 0 ≤ Y.height ∧ Y.height ≤ 100; omega)).mono ?_
  rintro e w3 ⟨rfl, hb3⟩
  have T3 : Hid (Turn w Y w3 (Y.setQ n ({ p with units := p.units.set k { u with what := emptyB, arg := emptyB } }, v))) := T1.out.below hb3
  obtain ⟨Y1, hY1⟩ : ∃ Y1, Y1 = Y.setQ n ({ p with units := p.units.set k { u with what := emptyB, arg := emptyB } }, v) := ⟨_, rfl⟩
  rw [← hY1] at T3
  clear hb3 T1 d0 d1 d2 d3 d4 d5 d6 m0 m1 c5 f5 f6 hfull
  have hq1 : Y1.pls[n]? = some ({ p with units := p.units.set k { u with what := emptyB, arg := emptyB } }, v) := by rw [hY1]; exact setQ_at HQ.out
  have hu1 : (p.units.set k { u with what := emptyB, arg := emptyB })[k]? = some { u with what := emptyB, arg := emptyB } := set_at HU.out
  have hvp1 : Y1.vPl = .slice (some ⟨pb, 0, none⟩) Y1.pls.length pcap := by rw [hY1]; simpa [YW.setQ] using HVP.out
  have hvu1 : v.u = .slice (some ⟨ub, 0, none⟩) (p.units.set k { u with what := emptyB, arg := emptyB }).length ucap := by simpa using HVU.out
  have hS1 : Y1.S = Y.S.setPl n { p with units := p.units.set k { u with what := emptyB, arg := emptyB } } := by rw [hY1, S_setQ]
  have HS1 : Hid (doesS Y.S n k = actS Y1.S n k { p with units := p.units.set k { u with what := emptyB, arg := emptyB } } { u with what := emptyB, arg := emptyB } u.what u.arg) := by unfold Hid; rw [hS1]; exact HS.out
  have hfree : freeB (Y.setQ n ({ p with units := p.units.set k { u with what := emptyB, arg := emptyB } }, v)) = fun x y => freeS Y1.S x y := by rw [hY1]; rfl
  rw [hfree]
  obtain ⟨m0, m1, m2, _⟩ := T3.out.rep.plCell hq1 hvp1
  have m1r : Hid (w3.cell? ⟨pb, n * 4 + 1, none⟩ = some v.u) := m1
  rw [HVU.out] at m1
  obtain ⟨d0, d1, d2, d3, d4, d5, d6⟩ := (T3.out.rep.eachAt hq1).uCell hu1 hvu1
  simp only at m0 d0 d1 d2 d3 d4 d5 d6
  have fu := (T3.out.rep.eachAt hq1).uFrozen hvu1
  have fp := T3.out.rep.plFrozen hvp1
  have HQ1 : Hid _ := hq1
  have HU1 : Hid _ := hu1
  have HVP1 : Hid _ := hvp1
  have HVU1 : Hid _ := hvu1
  have HO : Hid (Y1.ore = Y.ore) := by unfold Hid; rw [hY1]; rfl
  clear hq1 hu1 hvp1 hvu1 hS1 hfree hY1 HS
  have hne := T3.out.rep.apart HQ1.out HVP1.out HVU1.out
  have hne' : pb ≠ ub := fun e => hne e.symm
  have t1 := T3.out.money1 HQ1.out HVP1.out (p.money + 10 * u.cargo)
  have t2 := t1.unit1 (setQ_at HQ1.out) HU1.out HVU1.out 4 { u with cargo := 0, what := emptyB, arg := emptyB } (.int .i64 0) (by omega) rfl
  rw [setQ_setQ] at t2
  have T2 : Hid _ := t2
  clear t1 t2
  go_wp2
  go_region
  go_wp2
  go_end0
  exact ⟨rfl, _, T2.out.drew, by rw [S_setQ]; exact (HS1.out.trans (actS_sell _ _ _ _ _ _ _ h0 h1 h2 h3 h4 h5)).symm⟩
end Go.Proofs.Ytdpmadoccimgcaa

/-
  The function does of package hazeref: what a unit's order leaves of the world, whatever the order.
-/
namespace Go.Proofs.Ytdpmadoccimgcaa
open Go.RowKit

theorem str_ne {a b c : List UInt8} (h : (a == b) = true) (hbc : b ≠ c) : (a == c) = false := by
  rw [beq_iff_eq] at h
  rw [h]
  exact beq_eq_false_iff_ne.2 hbc

theorem does_any (w : World) (Y : YW) (M : Int) (n k : Nat) (p : SPlayer) (v : PV) (u : SUnit) (hr : RepY w Y) (hf : WFS Y.S M) (hM : M ≤ 1000000000000) (hq : Y.pls[n]? = some (p, v)) (hu : p.units[k]? = some u) :
    Calls Try.prog 44 #[.pointer (some ⟨Y.b, 0, none⟩), .int .i64 n, .int .i64 k] w fun e w' => e = .returned (.tuple #[]) ∧ ∃ Y', Turn w Y w' Y' ∧ Y'.S = doesS Y.S n k := by
  have hw := WF.of hf
  cases h4 : (u.what.toList == [100, 105, 103])
  · cases h5 : (u.what.toList == [115, 101, 108, 108])
    · cases h6 : (u.what.toList == [99, 97, 108, 108])
      · cases h7 : (u.what.toList == [98, 117, 105, 108, 100])
        · exact does_easy w Y M n k p v u hr hw hM hq hu h4 h5 h6 h7
        · exact does_build w Y M n k p v u hr hw hM hq hu (str_ne h7 (by decide)) (str_ne h7 (by decide)) (str_ne h7 (by decide)) (str_ne h7 (by decide)) h4 h5 h6 h7
      · exact does_call w Y M n k p v u hr hw hM hq hu (str_ne h6 (by decide)) (str_ne h6 (by decide)) (str_ne h6 (by decide)) (str_ne h6 (by decide)) h4 h5 h6
    · exact does_sell w Y M n k p v u hr hw hM hq hu (str_ne h5 (by decide)) (str_ne h5 (by decide)) (str_ne h5 (by decide)) (str_ne h5 (by decide)) h4 h5
  · exact does_dig w Y M n k p v u hr hw hM hq hu (str_ne h4 (by decide)) (str_ne h4 (by decide)) (str_ne h4 (by decide)) (str_ne h4 (by decide)) h4

end Go.Proofs.Ytdpmadoccimgcaa

/-
  The functions lent, part and still of package hazelaw: spots are lent with two others behind them, and looked at behind the call.
-/
namespace Go.Proofs.Ytdpmadoccimgcaa
open Go.RowKit

/-- Spots that came in: what their cells hold. -/
def SpIn (w : World) (v : Value) (l : List SSpot) : Prop :=
  ∃ ao cap, v = .slice ao l.length cap ∧ (0 < l.length → ∃ b off, ao = some ⟨b, off, none⟩ ∧ b < w.heap.size ∧ ∀ j u, (l.flatMap spotCells)[j]? = some u → w.cell? ⟨b, off + j, none⟩ = some u)
theorem SpIn.below {w w' : World} {v : Value} {l : List SSpot} (h : SpIn w v l) (hb : Below w.heap.size w w') : SpIn w' v l := by
  obtain ⟨ao, cap, e, h⟩ := h
  refine ⟨ao, cap, e, fun hl => ?_⟩
  obtain ⟨b, off, h1, h2, h3⟩ := h hl
  exact ⟨b, off, h1, Nat.lt_of_lt_of_le h2 hb.size, fun j u hu => by rw [hb.cell h2]; exact h3 j u hu⟩
theorem addr_add (b off j : Nat) : (⟨b, off, none⟩ : Addr).add j = ⟨b, off + j, none⟩ := by unfold Addr.add; split <;> simp_all

theorem hidB {p : Prop} (h : p) : Hid p := h
def lentL (l : List SSpot) : List SSpot := l ++ [⟨77, 0, 0⟩, ⟨78, 0, 0⟩]
theorem Try.infoSpot : (Try.prog.info? 51).map (fun i => (i.zero, i.size, i.bytes)) = some (some (.agg #[.int .i64 0, .int .i64 0, .int .i64 0]), 3, 24) := by kernel_rfl
theorem Try.sizeSpot : (Try.prog.info? 51).map (·.size) = some 3 := by kernel_rfl

theorem made_six (n : Nat) (xs : List Value) (hx : xs.length = n * 3) : (xs ++ (madeCells #[.int .i64 0, .int .i64 0, .int .i64 0] ((n + 2) * 3)).toList.drop xs.length) = xs ++ [.int .i64 0, .int .i64 0, .int .i64 0, .int .i64 0, .int .i64 0, .int .i64 0] := by
  congr 1
  apply List.ext_getElem?
  intro j
  rw [List.getElem?_drop, hx]
  have hs := size_madeCells #[.int .i64 0, .int .i64 0, .int .i64 0] ((n + 2) * 3)
  by_cases hj : j < 6
  · have h1 : n * 3 + j < (n + 2) * 3 := by omega
    have e : (madeCells #[.int .i64 0, .int .i64 0, .int .i64 0] ((n + 2) * 3)).toList[n * 3 + j]? = some (.int .i64 0) := by
      rw [Array.getElem?_toList]
      simp [madeCells, h1]
      have : j % 3 = 0 ∨ j % 3 = 1 ∨ j % 3 = 2 := by omega
      rcases this with h | h | h <;> simp [h]
    rw [e]
    match j, hj with
    | 0, _ => rfl
    | 1, _ => rfl
    | 2, _ => rfl
    | 3, _ => rfl
    | 4, _ => rfl
    | 5, _ => rfl
  · rw [List.getElem?_eq_none (by simp [hs]; omega), List.getElem?_eq_none (by simp; omega)]

theorem spot_one (l : List SSpot) : ∀ v ∈ l.flatMap spotCells, v.oneCell' = true := by
  intro v hv
  obtain ⟨s, _, hs⟩ := List.mem_flatMap.1 hv
  simp [spotCells] at hs
  rcases hs with rfl | rfl | rfl <;> rfl
theorem spots_len (l : List SSpot) : (l.flatMap spotCells).length = l.length * 3 := flat_length spotCells 3 (fun _ => rfl) l
theorem SpIn.src {w w' : World} {ao : Option Addr} {cap : Nat} {l : List SSpot} (h : SpIn w (.slice ao l.length cap) l) (hb : Below w.heap.size w w') : 0 < l.length → ∃ a, ao = some a ∧ ∀ j v, (l.flatMap spotCells)[j]? = some v → w'.cell? (a.add j) = some v := by
  intro hl
  obtain ⟨ao', cap', e, h⟩ := h.below hb
  injection e with e1 e2 e3
  subst e1
  obtain ⟨b, off, h1, h2, h3⟩ := h hl
  exact ⟨⟨b, off, none⟩, h1, fun j v hv => by rw [addr_add]; exact h3 j v hv⟩
def zSpot : SSpot := ⟨0, 0, 0⟩
/-- Behind the copy: the spots, and two noughts. -/
theorem lent_row {w : World} {g n : Nat} {l : List SSpot} (hn : l.length = n) (h : w.heap[g]? = some (.cells (l.flatMap spotCells ++ (madeCells #[.int .i64 0, .int .i64 0, .int .i64 0] ((n + 2) * 3)).toList.drop (l.flatMap spotCells).length).toArray 51 (0, 0))) (hm : n + 2 ≤ maxLen) :
    w.ownsRow 0 51 3 (.slice (some ⟨g, 0, none⟩) (n + 2) (n + 2)) (n + 2) ((l ++ [zSpot, zSpot]).flatMap spotCells) := by
  subst hn
  rw [made_six l.length _ (spots_len l)] at h
  have e := spots_len l
  have e2 : (l ++ [zSpot, zSpot]).flatMap spotCells = l.flatMap spotCells ++ [.int .i64 0, .int .i64 0, .int .i64 0, .int .i64 0, .int .i64 0, .int .i64 0] := by
    rw [List.flatMap_append]; rfl
  rw [e2]
  generalize l.flatMap spotCells = xs at *
  refine ⟨by rw [List.length_append, e]; simp; omega, .inr ⟨g, _, _, rfl, Nat.zero_le _, h, Nat.le_refl _, hm, by rw [List.size_toArray, List.length_append, e]; simp; omega, ?_⟩⟩
  exact List.take_of_length_le (by rw [List.length_append, e]; simp; omega)
theorem lent_cells {w : World} {g c : Nat} {l : List SSpot} (h : w.ownsRow 0 51 3 (.slice (some ⟨g, 0, none⟩) (l.length + 2) c) (l.length + 2) ((l ++ [zSpot, zSpot]).flatMap spotCells)) :
    w.cell? ⟨g, l.length * 3, none⟩ = some (.int .i64 0) ∧ w.cell? ⟨g, l.length * 3 + 1, none⟩ = some (.int .i64 0) ∧ w.cell? ⟨g, l.length * 3 + 2, none⟩ = some (.int .i64 0) ∧
    w.cell? ⟨g, (l.length + 1) * 3, none⟩ = some (.int .i64 0) ∧ w.cell? ⟨g, (l.length + 1) * 3 + 1, none⟩ = some (.int .i64 0) ∧ w.cell? ⟨g, (l.length + 1) * 3 + 2, none⟩ = some (.int .i64 0) := by
  have a0 : l.length < (l ++ [zSpot, zSpot]).length := by simp
  have a1 : l.length + 1 < (l ++ [zSpot, zSpot]).length := by simp
  have f := fun i (hi : i < 3) => flat_at spotCells 3 (fun _ => rfl) (l ++ [zSpot, zSpot]) l.length i a0 hi
  have f' := fun i (hi : i < 3) => flat_at spotCells 3 (fun _ => rfl) (l ++ [zSpot, zSpot]) (l.length + 1) i a1 hi
  have g0 : (l ++ [zSpot, zSpot])[l.length] = zSpot := by simp
  have g1 : (l ++ [zSpot, zSpot])[l.length + 1] = zSpot := by simp
  rw [g0] at f
  rw [g1] at f'
  exact ⟨own_cell h (f 0 (by omega)), own_cell h (f 1 (by omega)), own_cell h (f 2 (by omega)), own_cell h (f' 0 (by omega)), own_cell h (f' 1 (by omega)), own_cell h (f' 2 (by omega))⟩
theorem set_six (xs : List Value) (n : Nat) (h : xs.length = n * 3) (a b z : Value) : ((((((xs ++ [z, z, z, z, z, z]).set (n * 3) a).set (n * 3 + 1) z).set (n * 3 + 2) z).set ((n + 1) * 3) b).set ((n + 1) * 3 + 1) z).set ((n + 1) * 3 + 2) z = xs ++ [a, z, z, b, z, z] := by
  have e1 : (n + 1) * 3 = xs.length + 3 := by omega
  rw [e1, ← h]
  have f : ∀ (ys : List Value) (j : Nat) (u : Value), (xs ++ ys).set (xs.length + j) u = xs ++ ys.set j u := fun ys j u => by
    rw [List.set_append_right _ _ (by omega)]; congr 2; omega
  have f0 : ∀ (ys : List Value) (u : Value), (xs ++ ys).set xs.length u = xs ++ ys.set 0 u := fun ys u => f ys 0 u
  rw [f0, f, f, f, Nat.add_assoc xs.length 3 1, f, Nat.add_assoc xs.length 3 2, f]
  rfl
theorem lent_set (l : List SSpot) : (((((((l ++ [zSpot, zSpot]).flatMap spotCells).set (l.length * 3) (.int .i64 77)).set (l.length * 3 + 1) (.int .i64 0)).set (l.length * 3 + 2) (.int .i64 0)).set ((l.length + 1) * 3) (.int .i64 78)).set ((l.length + 1) * 3 + 1) (.int .i64 0)).set ((l.length + 1) * 3 + 2) (.int .i64 0) = (lentL l).flatMap spotCells := by
  have e2 : (l ++ [zSpot, zSpot]).flatMap spotCells = l.flatMap spotCells ++ [.int .i64 0, .int .i64 0, .int .i64 0, .int .i64 0, .int .i64 0, .int .i64 0] := by
    rw [List.flatMap_append]; rfl
  have e3 : (lentL l).flatMap spotCells = l.flatMap spotCells ++ [.int .i64 77, .int .i64 0, .int .i64 0, .int .i64 78, .int .i64 0, .int .i64 0] := by
    unfold lentL; rw [List.flatMap_append]; rfl
  rw [e2, e3]
  exact set_six _ _ (spots_len l) _ _ _

theorem lent_end {w w1 : World} {l : List SSpot} (hb : Below w.heap.size w w1) (ho : w1.ownsRow 0 51 3 (.slice (some ⟨w.heap.size, 0, none⟩) (l.length + 2) (l.length + 2)) (l.length + 2) ((l ++ [zSpot, zSpot]).flatMap spotCells)) :
    Below w.heap.size w ((((((w1.setCell ⟨w.heap.size, l.length * 3, none⟩ (.int .i64 77)).setCell ⟨w.heap.size, l.length * 3 + 1, none⟩ (.int .i64 0)).setCell ⟨w.heap.size, l.length * 3 + 2, none⟩ (.int .i64 0)).setCell ⟨w.heap.size, (l.length + 1) * 3, none⟩ (.int .i64 78)).setCell ⟨w.heap.size, (l.length + 1) * 3 + 1, none⟩ (.int .i64 0)).setCell ⟨w.heap.size, (l.length + 1) * 3 + 2, none⟩ (.int .i64 0)) ∧
    ((((((w1.setCell ⟨w.heap.size, l.length * 3, none⟩ (.int .i64 77)).setCell ⟨w.heap.size, l.length * 3 + 1, none⟩ (.int .i64 0)).setCell ⟨w.heap.size, l.length * 3 + 2, none⟩ (.int .i64 0)).setCell ⟨w.heap.size, (l.length + 1) * 3, none⟩ (.int .i64 78)).setCell ⟨w.heap.size, (l.length + 1) * 3 + 1, none⟩ (.int .i64 0)).setCell ⟨w.heap.size, (l.length + 1) * 3 + 2, none⟩ (.int .i64 0)).ownsRow 0 51 3 (.slice (some ⟨w.heap.size, 0, none⟩) (l.length + 2) (l.length + 2)) (l.length + 2) ((lentL l).flatMap spotCells) := by
  refine ⟨(((((hb.setCell (Nat.le_refl _) _).setCell (Nat.le_refl _) _).setCell (Nat.le_refl _) _).setCell (Nat.le_refl _) _).setCell (Nat.le_refl _) _).setCell (Nat.le_refl _) _, ?_⟩
  rw [← lent_set l]
  exact own_set (own_set (own_set (own_set (own_set (own_set ho _ _ (by omega)) _ _ (by omega)) _ _ (by omega)) _ _ (by omega)) _ _ (by omega)) _ _ (by omega)
/-- What is known behind the copy. -/
structure LentOut (w w1 : World) (l : List SSpot) : Prop where
  below : Hid (Below w.heap.size w w1)
  own : Hid (w1.ownsRow 0 51 3 (.slice (some ⟨w.heap.size, 0, none⟩) (l.length + 2) (l.length + 2)) (l.length + 2) ((l ++ [zSpot, zSpot]).flatMap spotCells))
theorem lent_copy {w : World} {ops : Array Oper} {rest : List Oper} {o : Oper} {a : Act} {Q : Exit → Act → World → Prop} {ao : Option Addr} {cap : Nat} {l : List SSpot} (hv : SpIn w (.slice ao l.length cap) l) (hl : l.length ≤ 2000000) (hgd : o.guard = none)
    (ho : o.op = .call { callee := .builtin .copy, args := #[.tmp 8, .tmp 9], argTypes := #[30, 30] }) (hd : a.eval (.tmp 8) = .slice (some ⟨w.heap.size, 0, none⟩) (l.length + 2) (l.length + 2)) (hs : a.eval (.tmp 9) = .slice ao l.length cap)
    (h : ∀ w1, LentOut w w1 l → wpList Try.prog ops Q rest (a.put o.dst (goInt l.length)) w1) : wpList Try.prog ops Q (o :: rest) a (w.alloc (.cells (madeCells #[.int .i64 0, .int .i64 0, .int .i64 0] ((l.length + 2) * 3)) 51)) := by
  refine wpList_copy_letter hgd (.tmp 8) (.tmp 9) 30 30 ho 51 3 Try.underlying30 Try.sizeSpot w.heap.size (l.length + 2) (l.length + 2) ao l.length cap hd hs (madeCells #[.int .i64 0, .int .i64 0, .int .i64 0] ((l.length + 2) * 3)) 51 (Go.heap_alloc_new w _) (l.flatMap spotCells) (by omega) (spots_len l) (hv.src ((Below.refl _ _).alloc (Nat.le_refl _) _)) (by rw [spots_len, size_madeCells]; omega) (spot_one l) ?_
  intro w1 hg1 hb1 _
  exact h w1 ⟨((Below.refl _ w).alloc (Nat.le_refl _) _).trans hb1, lent_row rfl hg1 (by unfold maxLen; omega)⟩

set_option maxRecDepth 100000 in
set_option maxHeartbeats 400000 in
theorem lent_any (w : World) (v : Value) (l : List SSpot) (hv : SpIn w v l) (hl : l.length ≤ 2000000) :
    Calls Try.prog 8 #[v] w fun e w' => e = .returned (.slice (some ⟨w.heap.size, 0, none⟩) (l.length + 2) (l.length + 2)) ∧ Below w.heap.size w w' ∧
      w'.ownsRow 0 51 3 (.slice (some ⟨w.heap.size, 0, none⟩) (l.length + 2) (l.length + 2)) (l.length + 2) ((lentL l).flatMap spotCells) := by
  obtain ⟨ao, cap, rfl, hsrc⟩ := hv
  obtain ⟨i0, hi, hz0, hz1, hz2⟩ := info_parts Try.infoSpot
  have hmk : ∀ w : World, (Instr.makeSlice 30 (.int .i64 ((l.length : Int) + 2)) (.int .i64 ((l.length : Int) + 2))).run Try.prog w = .ok (.slice (some ⟨w.heap.size, 0, none⟩) (l.length + 2) (l.length + 2)) (w.alloc (.cells (madeCells #[.int .i64 0, .int .i64 0, .int .i64 0] ((l.length + 2) * 3)) 51)) := by
    intro w
    have := run_make (P := Try.prog) w 30 51 i0 _ Try.underlying30 hi hz0 .i64 .i64 ((l.length : Int) + 2) ((l.length : Int) + 2) (by omega) (Int.le_refl _) (by rw [hz2]; omega) (by omega)
    rw [hz1] at this
    have e : ((l.length : Int) + 2).toNat = l.length + 2 := by omega
    rw [e] at this
    exact this
  have hv2 : SpIn w (.slice ao l.length cap) l := ⟨ao, cap, rfl, hsrc⟩
  clear hsrc
  go_enter Try.func8, Try.ntmps8
  go_wp2_with (refine copy_guard ?_; unfold AtCopy; refine lent_copy hv2 hl rfl rfl rfl rfl ?_; rintro w1 ⟨HB, HO⟩; obtain ⟨p0, p1, p2, p3, p4, p5⟩ := lent_cells HO.out; have fz := fun j => own_frozen HO.out j)
  go_ret
  exact ⟨rfl, lent_end HB.out HO.out⟩

set_option maxRecDepth 100000 in
set_option maxHeartbeats 400000 in
theorem part_nil (w : World) (v : Value) : Calls Try.prog 9 #[v, .slice none 0 0] w fun e w' => e = .returned (.slice none 0 0) ∧ w' = w := by
  have hnil : ∀ (w : World) (a : Option Addr) (n c : Nat), (binOp .eql 30 (.slice a n c) (.slice none 0 0)).run Try.prog w = .ok (.bool a.isNone) w := fun w a n c => Lib.run_eql_slice_nil w 30 51 a n c 0 0 Try.underlying30
  go_enter Try.func9, Try.ntmps9
  go_wp2
  go_ret
  exact ⟨rfl, rfl⟩
set_option maxRecDepth 100000 in
set_option maxHeartbeats 400000 in
theorem part_some (w : World) (g n c : Nat) (ad : Addr) (hn : n ≤ 2000000) : Calls Try.prog 9 #[.slice (some ⟨g, 0, none⟩) (n + 2) (n + 2), .slice (some ad) n c] w fun e w' => e = .returned (.slice (some ⟨g, 0, none⟩) n (n + 2)) ∧ w' = w := by
  have hnil : ∀ (w : World) (a : Option Addr) (n c : Nat), (binOp .eql 30 (.slice a n c) (.slice none 0 0)).run Try.prog w = .ok (.bool a.isNone) w := fun w a n c => Lib.run_eql_slice_nil w 30 51 a n c 0 0 Try.underlying30
  go_enter Try.func9, Try.ntmps9
  go_wp2
  go_ret
  exact ⟨rfl, rfl⟩
end Go.Proofs.Ytdpmadoccimgcaa
