/-
  The function does of package hazeref: what a unit's order leaves of the world.
-/
import Derived.Test.YtlafddeoheambaaGreatDoorT05
import Derived.Deep.RegionLaw
import Derived.Deep.QuietTactic
import Derived.BigQuiet
import Derived.Deep.AppendLies
import Derived.Test.YtlafddeoheambaaGreatDoorT06
import Derived.Test.YtlafddeoheambaaGreatDoorT02
import Derived.Test.YtlafddeoheambaaGreatDoorT03
import Derived.Test.YtlafddeoheambaaGreatDoorT01
set_option linter.unusedVariables false
namespace Go.Proofs.YtlafddeoheambaaGreatDoor
open Go.RowKit
attribute [local go_sem] Go.wp_at_zero Go.wp_at_succ

set_option maxRecDepth 100000 in
set_option maxHeartbeats 4000000 in
theorem does_dig (w : World) (Y : YW) (M : Int) (n k : Nat) (p : SPlayer) (v : PV) (u : SUnit) (hr : RepY w Y) (hf : WF Y M) (hM : M ≤ 1000000000000) (hq : Y.pls[n]? = some (p, v)) (hu : p.units[k]? = some u) (h0 : (u.what.toList == [103, 111]) = false) (h1 : (u.what.toList == [108, 101, 102, 116]) = false) (h2 : (u.what.toList == [98, 97, 99, 107]) = false) (h3 : (u.what.toList == [114, 105, 103, 104, 116]) = false) (h4 : (u.what.toList == [100, 105, 103]) = true) :
    Calls Tryz.prog 98 #[.pointer (some ⟨Y.b, 0, none⟩), .int .i64 n, .int .i64 k] w fun e w' => e = .returned (.tuple #[]) ∧ ∃ Y', Turn w Y w' Y' ∧ Y'.S = doesS Y.S n k := by
  obtain ⟨hn, he⟩ := at_some hq
  obtain ⟨hk, heu⟩ := at_some hu
  have hmem : (p, v) ∈ Y.pls := by rw [← he]; exact List.getElem_mem hn
  have humem : u ∈ p.units := by rw [← heu]; exact List.getElem_mem hk
  clear he heu
  rcases own_form hr.pl with ⟨_, h0, _⟩ | ⟨pb, pcap, hvp, hpc, hpm, hpb⟩
  · omega
  have hun := (hr.eachAt hq).units
  rcases own_form hun with ⟨_, h0, _⟩ | ⟨ub, ucap, hvu, huc, hum, hub⟩
  · simp only at h0; omega
  simp only at hvu huc
  clear hun
  unfold maxLen at hpm hum
  have c5 : w.cell? ⟨Y.b, 5, none⟩ = some (.slice (some ⟨pb, 0, none⟩) Y.pls.length pcap) := by rw [← hvp]; exact hr.cellTop rfl
  obtain ⟨m0, m1, _, _⟩ := hr.plCell hq hvp
  rw [hvu] at m1
  obtain ⟨d0, d1, d2, d3, d4, d5, d6⟩ := (hr.eachAt hq).uCell hu hvu
  have fu := (hr.eachAt hq).uFrozen hvu
  have f5 := fu (k * 7 + 5)
  have f6 := fu (k * 7 + 6)
  clear fu
  have T1 : Hid (Turn w Y ((w.setCell ⟨ub, k * 7 + 5, none⟩ (.string ⟨#[]⟩)).setCell ⟨ub, k * 7 + 6, none⟩ (.string ⟨#[]⟩)) (Y.setQ n ({ p with units := p.units.set k { u with what := emptyB, arg := emptyB } }, v))) := by
    unfold Hid
    have t1 := (Turn.refl hr).unit1 hq hu hvu 5 { u with what := emptyB } (.string ⟨#[]⟩) (by omega) rfl
    have t2 := t1.unit1 (setQ_at hq) (set_at hu) (by simpa using hvu) 6 { u with what := emptyB, arg := emptyB } (.string ⟨#[]⟩) (by omega) rfl
    rw [setQ_setQ] at t2
    simpa using t2
  have hfull : Full (Y.setQ n ({ p with units := p.units.set k { u with what := emptyB, arg := emptyB } }, v)) := hf.full.setQ hq (by simp)
  obtain ⟨ux0, ux1, uy0, uy1⟩ := hf.ux _ hmem _ humem
  obtain ⟨uh0, uh1⟩ := hf.uh _ hmem _ humem
  obtain ⟨uc0, uc1⟩ := hf.uc _ hmem _ humem
  obtain ⟨mo0, mo1⟩ := hf.mo _ hmem
  have hwd := hf.wd
  have hht := hf.ht
  have HS : Hid _ := doesS_at hq hu
  have HQ : Hid (Y.pls[n]? = some (p, v)) := hq
  have HU : Hid (p.units[k]? = some u) := hu
  have HVP : Hid (Y.vPl = .slice (some ⟨pb, 0, none⟩) Y.pls.length pcap) := hvp
  have HVU : Hid (v.u = .slice (some ⟨ub, 0, none⟩) p.units.length ucap) := hvu
  clear hq hu hvp hvu
  go_enter Tryz.func98, Tryz.ntmps98
  go_wp2_with fail
  refine (ahead_any _ (Y.setQ n ({ p with units := p.units.set k { u with what := emptyB, arg := emptyB } }, v)) _ _ _ _ _ _ _ T1.out.rep hfull (by omega) (by omega) (by omega) (by show 0 ≤ Y.width ∧ Y.width ≤ 100; omega) (by show 0 ≤ Y.height ∧ Y.height ≤ 100; omega)).mono ?_
  rintro e w3 ⟨rfl, hb3⟩
  have T3 : Hid (Turn w Y w3 (Y.setQ n ({ p with units := p.units.set k { u with what := emptyB, arg := emptyB } }, v))) := T1.out.below hb3
  obtain ⟨Y1, hY1⟩ : ∃ Y1, Y1 = Y.setQ n ({ p with units := p.units.set k { u with what := emptyB, arg := emptyB } }, v) := ⟨_, rfl⟩
  rw [← hY1] at T3
  clear hb3 T1 d0 d1 d2 d3 d4 d5 d6 m0 m1 c5 f5 f6 hfull
  have hq1 : Y1.pls[n]? = some ({ p with units := p.units.set k { u with what := emptyB, arg := emptyB } }, v) := by rw [hY1]; exact setQ_at HQ.out
  have hu1 : (p.units.set k { u with what := emptyB, arg := emptyB })[k]? = some { u with what := emptyB, arg := emptyB } := set_at HU.out
  have hvp1 : Y1.vPl = .slice (some ⟨pb, 0, none⟩) Y1.pls.length pcap := by rw [hY1]; simpa [YW.setQ] using HVP.out
  have hvu1 : v.u = .slice (some ⟨ub, 0, none⟩) (p.units.set k { u with what := emptyB, arg := emptyB }).length ucap := by simpa using HVU.out
  have hS1 : Y1.S = Y.S.setPl n { p with units := p.units.set k { u with what := emptyB, arg := emptyB } } := by rw [hY1, S_setQ]
  have HS1 : Hid (doesS Y.S n k = actS Y1.S n k { p with units := p.units.set k { u with what := emptyB, arg := emptyB } } { u with what := emptyB, arg := emptyB } u.what u.arg) := by unfold Hid; rw [hS1]; exact HS.out
  have hfree : freeB (Y.setQ n ({ p with units := p.units.set k { u with what := emptyB, arg := emptyB } }, v)) = fun x y => freeS Y1.S x y := by rw [hY1]; rfl
  rw [hfree]
  obtain ⟨m0, m1, m2, _⟩ := T3.out.rep.plCell hq1 hvp1
  have m1r : Hid (w3.cell? ⟨pb, n * 4 + 1, none⟩ = some v.u) := m1
  rw [HVU.out] at m1
  obtain ⟨d0, d1, d2, d3, d4, d5, d6⟩ := (T3.out.rep.eachAt hq1).uCell hu1 hvu1
  simp only at m0 d0 d1 d2 d3 d4 d5 d6
  have fu := (T3.out.rep.eachAt hq1).uFrozen hvu1
  have fp := T3.out.rep.plFrozen hvp1
  have HQ1 : Hid _ := hq1
  have HU1 : Hid _ := hu1
  have HVP1 : Hid _ := hvp1
  have HVU1 : Hid _ := hvu1
  have HO : Hid (Y1.ore = Y.ore) := by unfold Hid; rw [hY1]; rfl
  clear hq1 hu1 hvp1 hvu1 hS1 hfree hY1 HS
  have hne := T3.out.rep.apart HQ1.out HVP1.out HVU1.out
  have hne' : pb ≠ ub := fun e => hne e.symm
  by_cases hx : u.cargo < 9
  · have HX : Hid (u.cargo < 9) := hx
    have ho : ∀ s ∈ Y1.ore, 0 ≤ s.amount ∧ s.amount ≤ 99 := by rw [HO.out]; exact hf.ora
    have hdig := rdig_any w3.drew Y1 u.x u.y T3.out.rep.drew ho
    rw [T3.out.b] at hdig
    have HD := hidOf hdig
    clear hdig ho
    go_wp2
    go_region_held3 (fun w' => w'.cell? ⟨ub, k * 7 + 1, none⟩ = some (.int .i64 u.x) ∧ w'.cell? ⟨ub, k * 7 + 2, none⟩ = some (.int .i64 u.y)) (first | assumption | go_keep) (first | (go_at_call 126; refine HD.out.mono ?_; rintro e w4 ⟨rfl, T4⟩; obtain ⟨kk, k4, kz⟩ := digKeep (u := { u with what := emptyB, arg := emptyB }) HQ1.out HU1.out HVU1.out T4; simp only at kk k4))
    go_wp2
    · rename_i hy
      go_end0
      exact ⟨rfl, _, (T3.out.drew.trans T4).unit1 (show (Y1.withOre (digL u.x u.y Y1.ore)).pls[n]? = _ from HQ1.out) HU1.out HVU1.out 4 { u with cargo := u.cargo + 1, what := emptyB, arg := emptyB } _ (by omega) rfl, by rw [S_setQ, S_withOre]; exact (HS1.out.trans (actS_dig _ _ _ _ _ _ _ h0 h1 h2 h3 h4 HX.out hy)).symm⟩
    · rename_i hy
      go_end0
      exact ⟨rfl, _, T3.out.drew.trans T4, by rw [S_withOre, digL_none _ _ _ hy]; exact (HS1.out.trans (actS_dig_none _ _ _ _ _ _ _ h0 h1 h2 h3 h4 HX.out hy)).symm⟩
  · have hx9 : 9 ≤ u.cargo := by omega
    go_wp2
    go_end0
    have HXn : ¬ u.cargo < 9 := by omega
    exact ⟨rfl, _, T3.out, (HS1.out.trans (actS_dig_full _ _ _ _ _ _ _ h0 h1 h2 h3 h4 HXn)).symm⟩
end Go.Proofs.YtlafddeoheambaaGreatDoor

/-
  The function does of package hazeref: what a unit's order leaves of the world.
-/
namespace Go.Proofs.YtlafddeoheambaaGreatDoor
open Go.RowKit
attribute [local go_sem] Go.wp_at_zero Go.wp_at_succ

set_option maxRecDepth 100000 in
set_option maxHeartbeats 4000000 in
theorem does_sell (w : World) (Y : YW) (M : Int) (n k : Nat) (p : SPlayer) (v : PV) (u : SUnit) (hr : RepY w Y) (hf : WF Y M) (hM : M ≤ 1000000000000) (hq : Y.pls[n]? = some (p, v)) (hu : p.units[k]? = some u) (h0 : (u.what.toList == [103, 111]) = false) (h1 : (u.what.toList == [108, 101, 102, 116]) = false) (h2 : (u.what.toList == [98, 97, 99, 107]) = false) (h3 : (u.what.toList == [114, 105, 103, 104, 116]) = false) (h4 : (u.what.toList == [100, 105, 103]) = false) (h5 : (u.what.toList == [115, 101, 108, 108]) = true) :
    Calls Tryz.prog 98 #[.pointer (some ⟨Y.b, 0, none⟩), .int .i64 n, .int .i64 k] w fun e w' => e = .returned (.tuple #[]) ∧ ∃ Y', Turn w Y w' Y' ∧ Y'.S = doesS Y.S n k := by
  obtain ⟨hn, he⟩ := at_some hq
  obtain ⟨hk, heu⟩ := at_some hu
  have hmem : (p, v) ∈ Y.pls := by rw [← he]; exact List.getElem_mem hn
  have humem : u ∈ p.units := by rw [← heu]; exact List.getElem_mem hk
  clear he heu
  rcases own_form hr.pl with ⟨_, h0, _⟩ | ⟨pb, pcap, hvp, hpc, hpm, hpb⟩
  · omega
  have hun := (hr.eachAt hq).units
  rcases own_form hun with ⟨_, h0, _⟩ | ⟨ub, ucap, hvu, huc, hum, hub⟩
  · simp only at h0; omega
  simp only at hvu huc
  clear hun
  unfold maxLen at hpm hum
  have c5 : w.cell? ⟨Y.b, 5, none⟩ = some (.slice (some ⟨pb, 0, none⟩) Y.pls.length pcap) := by rw [← hvp]; exact hr.cellTop rfl
  obtain ⟨m0, m1, _, _⟩ := hr.plCell hq hvp
  rw [hvu] at m1
  obtain ⟨d0, d1, d2, d3, d4, d5, d6⟩ := (hr.eachAt hq).uCell hu hvu
  have fu := (hr.eachAt hq).uFrozen hvu
  have f5 := fu (k * 7 + 5)
  have f6 := fu (k * 7 + 6)
  clear fu
  have T1 : Hid (Turn w Y ((w.setCell ⟨ub, k * 7 + 5, none⟩ (.string ⟨#[]⟩)).setCell ⟨ub, k * 7 + 6, none⟩ (.string ⟨#[]⟩)) (Y.setQ n ({ p with units := p.units.set k { u with what := emptyB, arg := emptyB } }, v))) := by
    unfold Hid
    have t1 := (Turn.refl hr).unit1 hq hu hvu 5 { u with what := emptyB } (.string ⟨#[]⟩) (by omega) rfl
    have t2 := t1.unit1 (setQ_at hq) (set_at hu) (by simpa using hvu) 6 { u with what := emptyB, arg := emptyB } (.string ⟨#[]⟩) (by omega) rfl
    rw [setQ_setQ] at t2
    simpa using t2
  have hfull : Full (Y.setQ n ({ p with units := p.units.set k { u with what := emptyB, arg := emptyB } }, v)) := hf.full.setQ hq (by simp)
  obtain ⟨ux0, ux1, uy0, uy1⟩ := hf.ux _ hmem _ humem
  obtain ⟨uh0, uh1⟩ := hf.uh _ hmem _ humem
  obtain ⟨uc0, uc1⟩ := hf.uc _ hmem _ humem
  obtain ⟨mo0, mo1⟩ := hf.mo _ hmem
  have hwd := hf.wd
  have hht := hf.ht
  have HS : Hid _ := doesS_at hq hu
  have HQ : Hid (Y.pls[n]? = some (p, v)) := hq
  have HU : Hid (p.units[k]? = some u) := hu
  have HVP : Hid (Y.vPl = .slice (some ⟨pb, 0, none⟩) Y.pls.length pcap) := hvp
  have HVU : Hid (v.u = .slice (some ⟨ub, 0, none⟩) p.units.length ucap) := hvu
  clear hq hu hvp hvu
  go_enter Tryz.func98, Tryz.ntmps98
  go_wp2_with fail
  refine (ahead_any _ (Y.setQ n ({ p with units := p.units.set k { u with what := emptyB, arg := emptyB } }, v)) _ _ _ _ _ _ _ T1.out.rep hfull (by omega) (by omega) (by omega) (by show 0 ≤ Y.width ∧ Y.width ≤ 100; omega) (by show 0 ≤ Y.height ∧ Y.height ≤ 100; omega)).mono ?_
  rintro e w3 ⟨rfl, hb3⟩
  have T3 : Hid (Turn w Y w3 (Y.setQ n ({ p with units := p.units.set k { u with what := emptyB, arg := emptyB } }, v))) := T1.out.below hb3
  obtain ⟨Y1, hY1⟩ : ∃ Y1, Y1 = Y.setQ n ({ p with units := p.units.set k { u with what := emptyB, arg := emptyB } }, v) := ⟨_, rfl⟩
  rw [← hY1] at T3
  clear hb3 T1 d0 d1 d2 d3 d4 d5 d6 m0 m1 c5 f5 f6 hfull
  have hq1 : Y1.pls[n]? = some ({ p with units := p.units.set k { u with what := emptyB, arg := emptyB } }, v) := by rw [hY1]; exact setQ_at HQ.out
  have hu1 : (p.units.set k { u with what := emptyB, arg := emptyB })[k]? = some { u with what := emptyB, arg := emptyB } := set_at HU.out
  have hvp1 : Y1.vPl = .slice (some ⟨pb, 0, none⟩) Y1.pls.length pcap := by rw [hY1]; simpa [YW.setQ] using HVP.out
  have hvu1 : v.u = .slice (some ⟨ub, 0, none⟩) (p.units.set k { u with what := emptyB, arg := emptyB }).length ucap := by simpa using HVU.out
  have hS1 : Y1.S = Y.S.setPl n { p with units := p.units.set k { u with what := emptyB, arg := emptyB } } := by rw [hY1, S_setQ]
  have HS1 : Hid (doesS Y.S n k = actS Y1.S n k { p with units := p.units.set k { u with what := emptyB, arg := emptyB } } { u with what := emptyB, arg := emptyB } u.what u.arg) := by unfold Hid; rw [hS1]; exact HS.out
  have hfree : freeB (Y.setQ n ({ p with units := p.units.set k { u with what := emptyB, arg := emptyB } }, v)) = fun x y => freeS Y1.S x y := by rw [hY1]; rfl
  rw [hfree]
  obtain ⟨m0, m1, m2, _⟩ := T3.out.rep.plCell hq1 hvp1
  have m1r : Hid (w3.cell? ⟨pb, n * 4 + 1, none⟩ = some v.u) := m1
  rw [HVU.out] at m1
  obtain ⟨d0, d1, d2, d3, d4, d5, d6⟩ := (T3.out.rep.eachAt hq1).uCell hu1 hvu1
  simp only at m0 d0 d1 d2 d3 d4 d5 d6
  have fu := (T3.out.rep.eachAt hq1).uFrozen hvu1
  have fp := T3.out.rep.plFrozen hvp1
  have HQ1 : Hid _ := hq1
  have HU1 : Hid _ := hu1
  have HVP1 : Hid _ := hvp1
  have HVU1 : Hid _ := hvu1
  have HO : Hid (Y1.ore = Y.ore) := by unfold Hid; rw [hY1]; rfl
  clear hq1 hu1 hvp1 hvu1 hS1 hfree hY1 HS
  have hne := T3.out.rep.apart HQ1.out HVP1.out HVU1.out
  have hne' : pb ≠ ub := fun e => hne e.symm
  have t1 := T3.out.money1 HQ1.out HVP1.out (p.money + 10 * u.cargo)
  have t2 := t1.unit1 (setQ_at HQ1.out) HU1.out HVU1.out 4 { u with cargo := 0, what := emptyB, arg := emptyB } (.int .i64 0) (by omega) rfl
  rw [setQ_setQ] at t2
  have T2 : Hid _ := t2
  clear t1 t2
  go_wp2
  go_region
  go_wp2
  go_end0
  exact ⟨rfl, _, T2.out.drew, by rw [S_setQ]; exact (HS1.out.trans (actS_sell _ _ _ _ _ _ _ h0 h1 h2 h3 h4 h5)).symm⟩
end Go.Proofs.YtlafddeoheambaaGreatDoor

/-
  The function does of package hazeref: what a unit's order leaves of the world, whatever the order.
-/
namespace Go.Proofs.YtlafddeoheambaaGreatDoor
open Go.RowKit

theorem str_ne {a b c : List UInt8} (h : (a == b) = true) (hbc : b ≠ c) : (a == c) = false := by
  rw [beq_iff_eq] at h
  rw [h]
  exact beq_eq_false_iff_ne.2 hbc

theorem does_any (w : World) (Y : YW) (M : Int) (n k : Nat) (p : SPlayer) (v : PV) (u : SUnit) (hr : RepY w Y) (hf : WFS Y.S M) (hM : M ≤ 1000000000000) (hq : Y.pls[n]? = some (p, v)) (hu : p.units[k]? = some u) :
    Calls Tryz.prog 98 #[.pointer (some ⟨Y.b, 0, none⟩), .int .i64 n, .int .i64 k] w fun e w' => e = .returned (.tuple #[]) ∧ ∃ Y', Turn w Y w' Y' ∧ Y'.S = doesS Y.S n k := by
  have hw := WF.of hf
  cases h4 : (u.what.toList == [100, 105, 103])
  · cases h5 : (u.what.toList == [115, 101, 108, 108])
    · cases h6 : (u.what.toList == [99, 97, 108, 108])
      · cases h7 : (u.what.toList == [98, 117, 105, 108, 100])
        · exact does_easy w Y M n k p v u hr hw hM hq hu h4 h5 h6 h7
        · exact does_build w Y M n k p v u hr hw hM hq hu (str_ne h7 (by decide)) (str_ne h7 (by decide)) (str_ne h7 (by decide)) (str_ne h7 (by decide)) h4 h5 h6 h7
      · exact does_call w Y M n k p v u hr hw hM hq hu (str_ne h6 (by decide)) (str_ne h6 (by decide)) (str_ne h6 (by decide)) (str_ne h6 (by decide)) h4 h5 h6
    · exact does_sell w Y M n k p v u hr hw hM hq hu (str_ne h5 (by decide)) (str_ne h5 (by decide)) (str_ne h5 (by decide)) (str_ne h5 (by decide)) h4 h5
  · exact does_dig w Y M n k p v u hr hw hM hq hu (str_ne h4 (by decide)) (str_ne h4 (by decide)) (str_ne h4 (by decide)) (str_ne h4 (by decide)) h4

end Go.Proofs.YtlafddeoheambaaGreatDoor

/-
  The function ordered of package hazeref where no lot is open: it returns no lot.
-/
namespace Go.Proofs.YtlafddeoheambaaGreatDoor
open Go.RowKit

set_option maxHeartbeats 1000000 in
theorem ordered_none (b : Nat) (ao : Option Addr) (c : Nat) (w : World) (hc : w.cell? ⟨b, 6, none⟩ = some (.slice ao 0 c)) :
    Calls Tryz.prog 99 #[.pointer (some ⟨b, 0, none⟩)] w fun e w' => e = .returned (.slice none 0 0) ∧ w' = w := by
  go_enter Tryz.func99, Tryz.ntmps99
  go_wp2
  go_loop [3] (fun o => o = .slice none 0 0) (fun _ => 0)
  case atStart => rfl
  case round =>
    subst hrel
    go_wp2
    go_loop [5, 6] (fun b i => b = .int .i64 (-1) ∧ i = .int .i64 0) (fun _ _ => 0)
    case atStart => exact ⟨rfl, rfl⟩
    case round =>
      obtain ⟨rfl, rfl⟩ := hrel
      go_wp2
      go_ret
      exact ⟨rfl, rfl⟩
end Go.Proofs.YtlafddeoheambaaGreatDoor

/-
  What a Tick comes to, said plainly; what is told of lots taken away, in memory.
-/
namespace Go.Proofs.YtlafddeoheambaaGreatDoor
open Go.RowKit

theorem flat_sub {α : Type} (f : α → List Nat) (l : List α) (n : Nat) (q : α) (hn : n < l.length) (h : (f q).Sublist (f l[n])) : ((l.set n q).flatMap f).Sublist (l.flatMap f) := by
  induction l generalizing n with
  | nil => simp at hn
  | cons a l ih =>
    cases n with
    | zero => simp only [List.set_cons_zero, List.flatMap_cons]; exact List.Sublist.append (by simpa using h) (List.Sublist.refl _)
    | succ n => simp only [List.set_cons_succ, List.flatMap_cons]; exact List.Sublist.append (List.Sublist.refl _) (ih n (by simpa using hn) (by simpa using h))

/-- A player's news taken away. -/
theorem Turn.clearNews {w w1 : World} {Y Y1 : YW} (h : Turn w Y w1 Y1) {n : Nat} {p : SPlayer} {v : PV} (hq : Y1.pls[n]? = some (p, v)) {pb cap : Nat} (hv : Y1.vPl = .slice (some ⟨pb, 0, none⟩) Y1.pls.length cap) :
    Turn w Y (w1.setCell ⟨pb, n * 4 + 3, none⟩ (.slice none 0 0)) (Y1.setQ n ({ p with news := [] }, { v with n := .slice none 0 0 })) := by
  obtain ⟨hn, e⟩ := at_some hq
  have hr := h.rep
  have sp := sep_of hr.sep
  have hmem : Y1.pls[n] ∈ Y1.pls := List.getElem_mem hn
  have hpb : pb ∈ blk Y1.vPl := by simp [hv, blk_slice]
  have far : ∀ r, r ≠ pb → (w1.setCell ⟨pb, n * 4 + 3, none⟩ (.slice none 0 0)).heap[r]? = w1.heap[r]? := fun r hr => setCell_far w1 pb _ _ r hr
  have hsub : (pvFoot ({ p with news := [] }, { v with n := .slice none 0 0 })).Sublist (pvFoot Y1.pls[n]) := by
    rw [e]
    simp only [pvFoot]
    refine List.Sublist.append (List.Sublist.refl _) ?_
    have : blk (.slice none 0 0) = [] := rfl
    rw [this, List.append_nil]
    exact List.sublist_append_left _ _
  have hfs : (Y1.setQ n ({ p with news := [] }, { v with n := .slice none 0 0 })).foot.Sublist Y1.foot := by
    simp only [YW.foot, YW.setQ]
    exact List.Sublist.cons_cons _ (List.Sublist.append (List.Sublist.refl _) (List.Sublist.append (List.Sublist.refl _) (List.Sublist.append (List.Sublist.refl _) (flat_sub pvFoot Y1.pls n _ hn hsub))))
  refine ⟨⟨?_, ?_, ?_, ?_, ?_, hr.sep.sublist hfs⟩, h.kept.setCell _ _ _ (h.ext pb (foot_p hpb)), fun r hr' => h.ext r (hfs.subset hr'), h.b⟩
  · show (w1.setCell _ _).heap[Y1.b]? = _
    rw [far Y1.b (fun e => sp.bp (e ▸ hpb)), hr.top]; rfl
  · exact own_same hr.ore (fun r hr' => far r (fun e => sp.op r hr' (e ▸ hpb)))
  · show (w1.setCell _ _).ownsRow 0 _ 4 Y1.vPl (Y1.pls.set n _).length ((Y1.pls.set n _).flatMap plCells)
    rw [List.length_set, ← flat_set plCells 4 (fun _ => rfl) Y1.pls n 3 _ (.slice none 0 0) hn (by omega) (by rw [e]; rfl), hv]
    exact own_set (hv ▸ hr.pl) (n * 4 + 3) _ (by omega)
  · exact own_same hr.lots (fun r hr' => far r (fun e => sp.pl pb hpb (e ▸ hr')))
  · intro q hqm
    obtain ⟨j, hj, rfl⟩ := List.mem_iff_getElem.1 hqm
    simp only [YW.setQ, List.length_set] at hj
    simp only [YW.setQ, List.getElem_set]
    have hj' := (hr.each _ (List.getElem_mem hj)).same (w' := w1.setCell ⟨pb, n * 4 + 3, none⟩ (.slice none 0 0)) (fun r hr' => far r (fun e => sp.pe pb hpb _ (List.getElem_mem hj) (e ▸ hr')))
    split
    · rename_i hnj
      subst hnj
      rw [e] at hj'
      exact ⟨hj'.units, hj'.bids, ⟨rfl, .inl ⟨rfl, rfl⟩⟩⟩
    · exact hj'

def YW.noLots (y : YW) : YW := { y with lots := [], vLots := .slice none 0 0 }
/-- The lots taken away. -/
theorem Turn.clearLots {w w1 : World} {Y Y1 : YW} (h : Turn w Y w1 Y1) : Turn w Y (w1.setCell ⟨Y1.b, 6, none⟩ (.slice none 0 0)) Y1.noLots := by
  have hr := h.rep
  have sp := sep_of hr.sep
  have far : ∀ r, r ≠ Y1.b → (w1.setCell ⟨Y1.b, 6, none⟩ (.slice none 0 0)).heap[r]? = w1.heap[r]? := fun r hr => setCell_far w1 Y1.b _ _ r hr
  have hfs : Y1.noLots.foot.Sublist Y1.foot := by
    simp only [YW.foot, YW.noLots]
    have : blk (.slice none 0 0) = [] := rfl
    rw [this, List.nil_append]
    exact List.Sublist.cons_cons _ (List.Sublist.append (List.Sublist.refl _) (List.Sublist.append (List.Sublist.refl _) (List.sublist_append_right _ _)))
  refine ⟨⟨?_, own_same hr.ore (fun r hr' => far r (fun e => sp.bo (e ▸ hr'))), own_same hr.pl (fun r hr' => far r (fun e => sp.bp (e ▸ hr'))), ⟨rfl, .inl ⟨rfl, rfl⟩⟩, fun p hp => (hr.each p hp).same (fun r hr' => far r (fun e => sp.be p hp (e ▸ hr'))), hr.sep.sublist hfs⟩, h.kept.setCell _ _ _ (h.ext _ foot_b), fun r hr' => h.ext r (hfs.subset hr'), h.b⟩
  show (w1.setCell _ _).heap[Y1.b]? = _
  simp only [World.setCell, Array.getElem?_modify, hr.top]
  simp [YW.cells, YW.noLots]
theorem Turn.now1 {w w1 : World} {Y Y1 : YW} (h : Turn w Y w1 Y1) (m : Int) : Turn w Y (w1.setCell ⟨Y1.b, 3, none⟩ (.int .i64 m)) (Y1.withNow m) :=
  ⟨h.rep.setNow m, h.kept.setCell _ _ _ (h.ext _ foot_b), fun r hr' => h.ext r hr', h.b⟩

def clearN (s : SWorld) (n : Nat) : SWorld := match s.players[n]? with
  | none => s
  | some p => s.setPl n { p with news := [] }
/-- What the first j units of the n-th player do. -/
def unitsTo (s : SWorld) (n : Nat) : Nat → SWorld
  | 0 => s
  | j + 1 => doesS (unitsTo s n j) n j
def unitsN (s : SWorld) (n : Nat) : Nat := match s.players[n]? with
  | none => 0
  | some p => p.units.length
def playerS (s : SWorld) (n : Nat) : SWorld := unitsTo (clearN s n) n (unitsN (clearN s n) n)
/-- What the first n players' units do. -/
def tickTo (s : SWorld) : Nat → SWorld
  | 0 => s
  | n + 1 => playerS (tickTo s n) n
/-- The world behind a Tick. -/
def tickS (s : SWorld) : SWorld := closeS { tickTo s s.players.length with now := s.now + 1 }

theorem act_len (s : SWorld) (n k : Nat) (p : SPlayer) (u : SUnit) (what arg : ByteArray) : (actS s n k p u what arg).players.length = s.players.length ∧ (actS s n k p u what arg).now = s.now ∧ (actS s n k p u what arg).lots = s.lots := by
  unfold actS
  simp only
  repeat' split
  all_goals simp [SWorld.setPl]
theorem does_len (s : SWorld) (n k : Nat) : (doesS s n k).players.length = s.players.length ∧ (doesS s n k).now = s.now ∧ (doesS s n k).lots = s.lots := by
  unfold doesS
  split
  · exact ⟨rfl, rfl, rfl⟩
  · split
    · exact ⟨rfl, rfl, rfl⟩
    · refine ⟨(act_len _ _ _ _ _ _ _).1.trans (by simp [SWorld.setPl]), (act_len _ _ _ _ _ _ _).2.1, (act_len _ _ _ _ _ _ _).2.2⟩
theorem act_units (s : SWorld) (n k : Nat) (p : SPlayer) (u : SUnit) (what arg : ByteArray) (hp : s.players[n]? = some p) : p.units.length ≤ unitsN (actS s n k p u what arg) n := by
  obtain ⟨hn, he⟩ := at_some hp
  unfold actS
  simp only
  repeat' split
  all_goals simp [SWorld.setPl, unitsN, hn, he]
theorem does_units (s : SWorld) (n k : Nat) : unitsN s n ≤ unitsN (doesS s n k) n := by
  unfold doesS
  split
  · exact Nat.le_refl _
  · rename_i p hp
    obtain ⟨hn, _⟩ := at_some hp
    split
    · exact Nat.le_refl _
    · refine Nat.le_trans ?_ (act_units _ _ _ _ _ _ _ (by simp [SWorld.setPl, hn]))
      simp [unitsN, hp]
theorem unitsTo_len (s : SWorld) (n j : Nat) : (unitsTo s n j).players.length = s.players.length ∧ (unitsTo s n j).now = s.now ∧ (unitsTo s n j).lots = s.lots ∧ unitsN s n ≤ unitsN (unitsTo s n j) n := by
  induction j with
  | zero => exact ⟨rfl, rfl, rfl, Nat.le_refl _⟩
  | succ j ih =>
    have := does_len (unitsTo s n j) n j
    exact ⟨this.1.trans ih.1, this.2.1.trans ih.2.1, this.2.2.trans ih.2.2.1, Nat.le_trans ih.2.2.2 (does_units _ _ _)⟩
theorem clearN_len (s : SWorld) (n : Nat) : (clearN s n).players.length = s.players.length ∧ (clearN s n).now = s.now ∧ (clearN s n).lots = s.lots := by
  unfold clearN
  split
  · exact ⟨rfl, rfl, rfl⟩
  · simp [SWorld.setPl]
theorem tickTo_len (s : SWorld) (n : Nat) : (tickTo s n).players.length = s.players.length ∧ (tickTo s n).now = s.now ∧ (tickTo s n).lots = s.lots := by
  induction n with
  | zero => exact ⟨rfl, rfl, rfl⟩
  | succ n ih =>
    have h1 := unitsTo_len (clearN (tickTo s n) n) n (unitsN (clearN (tickTo s n) n) n)
    have h2 := clearN_len (tickTo s n) n
    exact ⟨h1.1.trans (h2.1.trans ih.1), h1.2.1.trans (h2.2.1.trans ih.2.1), h1.2.2.1.trans (h2.2.2.trans ih.2.2)⟩
theorem WFS.clearN {s : SWorld} {M : Int} (h : WFS s M) (n : Nat) : WFS (clearN s n) M := by
  unfold Proofs.YtlafddeoheambaaGreatDoor.clearN
  split
  · exact h
  · rename_i p hp
    have pk := h.each p (List.mem_of_getElem? hp)
    exact h.setPl n ⟨pk.un, pk.each, pk.mo, pk.bi⟩
theorem WFS.unitsTo {s : SWorld} {M : Int} (h : WFS s M) (n j : Nat) : WFS (unitsTo s n j) (M + 90 * j) := by
  induction j with
  | zero => exact h.mono (by simp)
  | succ j ih => exact (ih.does n j).mono (by omega)
theorem WFS.unitsN {s : SWorld} {M : Int} (h : WFS s M) (n : Nat) : unitsN s n ≤ 5 := by
  unfold Proofs.YtlafddeoheambaaGreatDoor.unitsN
  split
  · omega
  · rename_i p hp
    exact (h.each p (List.mem_of_getElem? hp)).un.2
theorem WFS.tickTo {s : SWorld} {M : Int} (h : WFS s M) (n : Nat) : WFS (tickTo s n) (M + 450 * n) := by
  induction n with
  | zero => exact h.mono (by simp)
  | succ n ih =>
    have h1 := ih.clearN n
    have h2 := h1.unitsN n
    exact (h1.unitsTo n _).mono (by omega)

theorem tickS_nil {s : SWorld} (h : s.lots = []) : tickS s = { tickTo s s.players.length with now := s.now + 1, lots := [] } :=
  closeS_nil (s := { tickTo s s.players.length with now := s.now + 1 }) ((tickTo_len s _).2.2.trans h)
end Go.Proofs.YtlafddeoheambaaGreatDoor

/-
  The function Tick of package hazeref where no lot is open: the world behind it.
-/
namespace Go.Proofs.YtlafddeoheambaaGreatDoor
open Go.RowKit

theorem S_clear {Y : YW} {n : Nat} {p : SPlayer} {v v' : PV} (hq : Y.pls[n]? = some (p, v)) : (Y.setQ n ({ p with news := [] }, v')).S = clearN Y.S n := by
  rw [S_setQ]
  unfold clearN
  rw [S_at hq]
theorem unitsN_at {Y : YW} {n : Nat} {p : SPlayer} {v : PV} (hq : Y.pls[n]? = some (p, v)) : unitsN Y.S n = p.units.length := by
  unfold unitsN
  rw [S_at hq]
theorem at_of_lt {Y : YW} {n : Nat} (h : n < Y.pls.length) : ∃ p v, Y.pls[n]? = some (p, v) := ⟨Y.pls[n].1, Y.pls[n].2, by simp [h]⟩

set_option maxRecDepth 100000 in
set_option maxHeartbeats 4000000 in
theorem rtick_full (w : World) (Y : YW) (hr : RepY w Y) (hn : Y.now = 1000) :
    Calls Tryz.prog 53 #[.pointer (some ⟨Y.b, 0, none⟩)] w fun e w' => e = .returned (.int .i64 6) ∧ w' = w := by
  have c3 : w.cell? ⟨Y.b, 3, none⟩ = some (.int .i64 1000) := by rw [← hn]; exact hr.cellTop rfl
  go_enter Tryz.func53, Tryz.ntmps53
  go_wp2
  go_ret
  exact ⟨rfl, rfl⟩

set_option maxRecDepth 100000 in
set_option maxHeartbeats 8000000 in
theorem rtick_any (w : World) (Y : YW) (M : Int) (hr : RepY w Y) (hf : WFS Y.S M) (hM : M ≤ 100000000000) (hl : Y.lots = []) (hn : 0 ≤ Y.now ∧ Y.now < 1000) :
    Calls Tryz.prog 53 #[.pointer (some ⟨Y.b, 0, none⟩)] w fun e w' => e = .returned (.int .i64 0) ∧ ∃ Y', Turn w Y w' Y' ∧ Y'.S = tickS Y.S := by
  obtain ⟨hn0, hn1⟩ := hn
  have c3 : w.cell? ⟨Y.b, 3, none⟩ = some (.int .i64 Y.now) := hr.cellTop rfl
  have hpl : Y.S.players.length = Y.pls.length := by simp [YW.S]
  have h4 := hf.pl
  rw [hpl] at h4
  have hc0 : (Y.now == 1000) = false := beq_eq_false_iff_ne.2 (by omega)
  go_enter Tryz.func53, Tryz.ntmps53
  go_wp2
  go_loopw [3] (fun i w' => ∃ (k : Nat) (Yk : YW), k ≤ Y.pls.length ∧ i = .int .i64 k ∧ Turn w Y w' Yk ∧ Hid (Yk.S = tickTo Y.S k)) (fun i _ => Y.pls.length + 1 - (intOf i).toNat)
  case atStart => exact ⟨0, Y, Nat.zero_le _, rfl, Turn.refl hr, rfl⟩
  case round =>
    clear c3
    obtain ⟨k, Yk, hk, rfl, T, HS⟩ := hrel
    have hlen : Yk.pls.length = Y.pls.length := by
      have e := (tickTo_len Y.S k).1
      rw [← HS.out] at e
      simpa [YW.S] using e
    have hb : Yk.b = Y.b := T.b
    rcases own_form T.rep.pl with ⟨_, h0, _⟩ | ⟨pb, pcap, hvp, hpc, hpm, hpb⟩
    · omega
    unfold maxLen at hpm
    have c5 : wr.cell? ⟨Y.b, 5, none⟩ = some (.slice (some ⟨pb, 0, none⟩) Y.pls.length pcap) := by rw [← hb, ← hlen, ← hvp]; exact T.rep.cellTop rfl
    by_cases hlt : k < Y.pls.length
    · obtain ⟨p, v, hq⟩ := at_of_lt (Y := Yk) (n := k) (by omega)
      have hm1 := (T.rep.plCell hq hvp).2.1
      have hm3 := (T.rep.plCell hq hvp).2.2.2
      have fz := T.rep.plFrozen hvp (k * 4 + 3)
      have hwk : WFS Yk.S (M + 450 * k) := by rw [HS.out]; exact hf.tickTo k
      have hum5 : p.units.length ≤ 5 := ((WF.of hwk).un _ (List.mem_of_getElem? hq)).2
      have hum1 : 1 ≤ p.units.length := ((WF.of hwk).un _ (List.mem_of_getElem? hq)).1
      rcases own_form (T.rep.eachAt hq).units with ⟨_, h0, _⟩ | ⟨ub, ucap, hvu, huc, hum, hub⟩
      · simp only at h0; omega
      simp only at hvu huc
      rw [hvu] at hm1
      have TC := hidOf (T.clearNews hq hvp)
      have SC := hidOf (S_clear (v' := { v with n := .slice none 0 0 }) hq)
      have HW := hidOf hwk
      have HU := hidOf (unitsN_at (setQ_at (q' := ({ p with news := [] }, { v with n := .slice none 0 0 })) hq))
      have HT := hidOf (show tickTo Y.S (k + 1) = playerS (tickTo Y.S k) k from rfl)
      clear hwk hvp hvu hq hb hpl hlen
      go_wp2
      go_loopw [5] (fun i w' => ∃ (j : Nat) (Yj : YW), j ≤ p.units.length ∧ i = .int .i64 j ∧ Turn w Y w' Yj ∧ Hid (Yj.S = unitsTo (clearN Yk.S k) k j)) (fun i _ => p.units.length + 1 - (intOf i).toNat)
      case atStart => exact ⟨0, _, Nat.zero_le _, rfl, TC.out, SC.out⟩
      case round =>
        clear c5 hm1 hm3 fz
        obtain ⟨j, Yj, hj, rfl, Tj, HSj⟩ := hrel
        by_cases hlt1 : j < p.units.length
        · have HD : Hid (Calls Tryz.prog 98 #[.pointer (some ⟨Y.b, 0, none⟩), .int .i64 k, .int .i64 j] wr fun e w' => e = .returned (.tuple #[]) ∧ ∃ Y', Turn wr Yj w' Y' ∧ Y'.S = doesS Yj.S k j) := by
            have l1 := unitsTo_len (clearN Yk.S k) k j
            have l2 := clearN_len Yk.S k
            have l3 : Yk.S.players.length = Y.S.players.length := by rw [HS.out]; exact (tickTo_len Y.S k).1
            have l4 : Yj.pls.length = Y.pls.length := by
              have : Yj.S.players.length = Y.S.players.length := by rw [HSj.out]; exact l1.1.trans (l2.1.trans l3)
              simpa [YW.S] using this
            obtain ⟨p', v', hq'⟩ := at_of_lt (Y := Yj) (n := k) (by omega)
            have l5 : p.units.length ≤ p'.units.length := by
              have a := l1.2.2.2
              rw [← HSj.out, unitsN_at hq', ← SC.out, HU.out] at a
              exact a
            have hu' : p'.units[j]? = some p'.units[j] := by simp [show j < p'.units.length by omega]
            have hwj : WFS Yj.S (M + 450 * k + 90 * j) := by rw [HSj.out]; exact (HW.out.clearN k).unitsTo k j
            have := does_any wr Yj (M + 450 * k + 90 * j) k j p' v' p'.units[j] Tj.rep hwj (by omega) hq' hu'
            rw [Tj.b] at this
            exact this
          go_wp2_with fail
          refine HD.out.mono ?_
          rintro e w' ⟨rfl, Y', T', HS'⟩
          go_wp2
          exact ⟨⟨j + 1, Y', by omega, by go_num, Tj.trans T', by unfold Hid; rw [HS', HSj.out]; rfl⟩, by simp [intOf]; omega⟩
        · have hjm : j = p.units.length := by omega
          have HE : Hid (Yj.S = tickTo Y.S (k + 1)) := by
            unfold Hid
            rw [HT.out, HSj.out, ← HS.out]
            unfold playerS
            rw [← SC.out, HU.out, hjm]
          clear hjm
          go_wp2
          exact ⟨⟨k + 1, Yj, by omega, by go_num, Tj, HE⟩, by simp [intOf]; omega⟩
    · have hkl : k = Y.pls.length := by omega
      have e2 := tickTo_len Y.S k
      have hnow : Yk.now = Y.now := by rw [← HS.out] at e2; exact e2.2.1
      have hlots : Yk.lots = [] := by rw [← HS.out] at e2; rw [← hl]; exact e2.2.2
      obtain ⟨al, gl, lc, hvl, _, _, _⟩ := own_rd T.rep.lots
      rw [hlots] at hvl
      have c3 : wr.cell? ⟨Y.b, 3, none⟩ = some (.int .i64 Y.now) := by rw [← hb, ← hnow]; exact T.rep.cellTop rfl
      have c6 : wr.cell? ⟨Y.b, 6, none⟩ = some (.slice al 0 lc) := by
        have := T.rep.cellTop (j := 6) (u := Yk.vLots) rfl
        rw [hvl, hb] at this
        exact this
      have f3 : wr.frozen? ⟨Y.b, 3, none⟩ = false := by rw [← hb]; exact T.rep.frozenTop 3
      have f6 : wr.frozen? ⟨Y.b, 6, none⟩ = false := by rw [← hb]; exact T.rep.frozenTop 6
      have TE : Hid (∃ Y', Turn w Y ((wr.setCell ⟨Y.b, 3, none⟩ (.int .i64 (Y.now + 1))).setCell ⟨Y.b, 6, none⟩ (.slice none 0 0)) Y' ∧ Y'.S = tickS Y.S) := by
        have t1 := (T.now1 (Y.now + 1)).clearLots
        refine ⟨(Yk.withNow (Y.now + 1)).noLots, ?_, ?_⟩
        · rw [← hb]; exact t1
        · have e3 : (Yk.withNow (Y.now + 1)).noLots.S = { Yk.S with now := Y.now + 1, lots := [] } := rfl
          rw [e3, HS.out, hkl, ← hpl]
          rw [tickS_nil (s := Y.S) hl]
          rfl
      clear e2 hnow hlots hvl hkl hb hlen hpl HS T
      go_wp2
      go_loop [6, 7] (fun l i => l = .slice none 0 0 ∧ i = .int .i64 0) (fun _ _ => 0)
      case atStart => exact ⟨rfl, rfl⟩
      case round =>
        obtain ⟨rfl, rfl⟩ := hrel
        go_wp2_with fail
        refine (ordered_none Y.b al lc _ (by rw [World.cell?_setCell_other _ _ _ _ (by simp)]; exact c6)).mono ?_
        rintro e w' ⟨rfl, rfl⟩
        go_wp2
        go_loop [9] (fun i => i = .int .i64 0) (fun _ => 0)
        case atStart => rfl
        case round =>
          subst hrel
          go_wp2
          go_ret
          exact ⟨rfl, TE.out⟩
end Go.Proofs.YtlafddeoheambaaGreatDoor

/-
  The words of a text, said plainly.
-/
namespace Go.Proofs.YtlafddeoheambaaGreatDoor
open Go.RowKit

/-- What stands between blanks. -/
def splitB : List UInt8 → List (List UInt8)
  | [] => [[]]
  | c :: r => if c = 32 then [] :: splitB r else match splitB r with
    | [] => [[c]]
    | h :: t => (c :: h) :: t
theorem splitB_ne (l : List UInt8) : splitB l ≠ [] := by
  cases l with
  | nil => simp [splitB]
  | cons c r => simp only [splitB]; split; · simp
                split <;> simp
theorem splitB_blank (l : List UInt8) : splitB (l ++ [32]) = splitB l ++ [[]] := by
  induction l with
  | nil => simp [splitB]
  | cons c r ih =>
    simp only [List.cons_append, splitB, ih]
    split
    · simp
    · have := splitB_ne r
      cases h : splitB r with
      | nil => exact absurd h this
      | cons a t => simp
theorem splitB_other (l : List UInt8) (c : UInt8) (hc : c ≠ 32) (ws : List (List UInt8)) (x : List UInt8) (h : splitB l = ws ++ [x]) : splitB (l ++ [c]) = ws ++ [x ++ [c]] := by
  induction l generalizing ws x with
  | nil =>
    simp only [splitB] at h
    cases ws with
    | nil => simp at h; subst h; simp [splitB, hc]
    | cons a t => simp at h
  | cons d r ih =>
    simp only [List.cons_append, splitB] at h ⊢
    split at h
    · rename_i hd
      rw [if_pos hd]
      cases ws with
      | nil => simp at h; exact absurd h.2 (splitB_ne r)
      | cons a t =>
        simp only [List.cons_append, List.cons.injEq] at h
        rw [ih t x h.2, h.1]
        simp
    · rename_i hd
      rw [if_neg hd]
      have hne := splitB_ne r
      cases hs : splitB r with
      | nil => exact absurd hs hne
      | cons a t =>
        rw [hs] at h
        simp only at h
        cases ws with
        | nil =>
          simp at h
          obtain ⟨h1, h2⟩ := h
          subst h2
          have := ih [] a (by rw [hs]; rfl)
          rw [this]
          simp [← h1]
        | cons b u =>
          simp only [List.cons_append, List.cons.injEq] at h
          obtain ⟨h1, h2⟩ := h
          have := ih (a :: u) x (by rw [hs, h2]; rfl)
          rw [this]
          simp [h1]

def bytesOf (l : List UInt8) : ByteArray := ⟨l.toArray⟩
theorem bytesOf_toList (l : List UInt8) : (bytesOf l).data.toList = l := by simp [bytesOf]
theorem bytesOf_data (s : ByteArray) : bytesOf s.data.toList = s := by
  obtain ⟨⟨l⟩⟩ := s
  rfl
theorem bytes_ext {a b : ByteArray} (h : a.data.toList = b.data.toList) : a = b := by
  obtain ⟨⟨a⟩⟩ := a
  obtain ⟨⟨b⟩⟩ := b
  simp at h
  rw [h]
theorem bytesOf_push (x : List UInt8) (s : ByteArray) (k : Nat) (h : k < s.size) : bytesOf x ++ s.extract k (k + 1) = bytesOf (x ++ [s[k]]) := by
  apply bytes_ext
  rw [bytesOf_toList, ByteArray.data_append, Array.toList_append, Lib.extract_data, bytesOf_toList, drop_at s k h]
  simp
theorem take_snoc (s : ByteArray) (k : Nat) (h : k < s.size) : s.data.toList.take (k + 1) = s.data.toList.take k ++ [s[k]] := by
  rw [List.take_succ_eq_append_getElem (by simpa using h)]; rfl
theorem splitB_len (l : List UInt8) : (splitB l).length ≤ l.length + 1 := by
  induction l with
  | nil => simp [splitB]
  | cons c r ih =>
    simp only [splitB]
    split
    · simp; omega
    · cases h : splitB r with
      | nil => simp
      | cons a t => rw [h] at ih; simp at ih ⊢; omega
theorem splitB_sizes (l : List UInt8) : ∀ x ∈ splitB l, x.length ≤ l.length := by
  induction l with
  | nil => intro x hx; simp [splitB] at hx; simp [hx]
  | cons c r ih =>
    intro x hx
    simp only [splitB] at hx
    split at hx
    · rcases List.mem_cons.1 hx with rfl | hx
      · simp
      · have := ih x hx; simp; omega
    · cases h : splitB r with
      | nil => exact absurd h (splitB_ne r)
      | cons a t =>
        rw [h] at hx ih
        rcases List.mem_cons.1 hx with rfl | hx
        · have := ih a (by simp); simp; omega
        · have := ih x (by simp [hx]); simp; omega

end Go.Proofs.YtlafddeoheambaaGreatDoor

/-
  The function Words of package hazeref: it returns what stands between blanks, in new memory.
-/
namespace Go.Proofs.YtlafddeoheambaaGreatDoor
open Go.RowKit

theorem Tryz.infoString : (Tryz.prog.info? 9).map (fun i => (i.zero, i.size, i.bytes)) = some (some (.string ⟨#[]⟩), 1, 16) := by kernel_rfl
def strs (l : List (List UInt8)) : List Value := l.map (fun b => .string (bytesOf b))

theorem own_any {w : World} {base : Nat} {e : TypeId} {size : Nat} {v : Value} {n : Nat} {xs : List Value} (h : w.ownsRow base e size v n xs) : w.ownsRow 0 e size v n xs := by
  obtain ⟨h1, h2⟩ := h
  refine ⟨h1, ?_⟩
  rcases h2 with h2 | ⟨g, cap, cur, hv, _, r⟩
  · exact .inl h2
  · exact .inr ⟨g, cap, cur, hv, Nat.zero_le _, r⟩
theorem hidOf' {p : Prop} (h : p) : Hid p := h
theorem own_base {w : World} {base : Nat} {e : TypeId} {size g cap n : Nat} {xs : List Value} (h : w.ownsRow base e size (.slice (some ⟨g, 0, none⟩) n cap) n xs) : base ≤ g := by
  rcases h.2 with ⟨h, _⟩ | ⟨g', cap', cur, e1, hb, _⟩
  · cases h
  · injection e1 with e1
    injection e1 with e1
    injection e1 with e1
    subst e1
    exact hb
theorem own_at {w : World} {base : Nat} {e : TypeId} {size g cap n : Nat} {xs : List Value} (h : w.ownsRow 0 e size (.slice (some ⟨g, 0, none⟩) n cap) n xs) (hb : base ≤ g) : w.ownsRow base e size (.slice (some ⟨g, 0, none⟩) n cap) n xs := by
  obtain ⟨h1, h2⟩ := h
  refine ⟨h1, ?_⟩
  rcases h2 with ⟨h, _⟩ | ⟨g', cap', cur, e1, _, r⟩
  · cases h
  · have e2 := e1
    injection e1 with e1
    injection e1 with e1
    injection e1 with e1
    subst e1
    exact .inr ⟨g, cap', cur, e2, hb, r⟩
theorem bytesOf_size (l : List UInt8) : (bytesOf l).size = l.length := by show l.toArray.size = _; simp
theorem own_cell' {w : World} {base : Nat} {e : TypeId} {size g cap n : Nat} {xs : List Value} (h : w.ownsRow base e size (.slice (some ⟨g, 0, none⟩) n cap) n xs) {j : Nat} {u : Value} (hu : xs[j]? = some u) : w.cell? ⟨g, j, none⟩ = some u := own_cell (own_any h) hu
theorem own_frozen' {w : World} {base : Nat} {e : TypeId} {size g cap n : Nat} {xs : List Value} (h : w.ownsRow base e size (.slice (some ⟨g, 0, none⟩) n cap) n xs) (j : Nat) : w.frozen? ⟨g, j, none⟩ = false := own_frozen (own_any h) j
theorem ownsRow_alloc {w : World} {base : Nat} {e : TypeId} {size : Nat} {v : Value} {n : Nat} {xs : List Value} (h : w.ownsRow base e size v n xs) (o : Obj) : (w.alloc o).ownsRow base e size v n xs := by
  obtain ⟨h1, h2⟩ := h
  refine ⟨h1, ?_⟩
  rcases h2 with h2 | ⟨g, cap, cur, hv, hb, hg, r⟩
  · exact .inl h2
  · refine .inr ⟨g, cap, cur, hv, hb, ?_, r⟩
    have hlt : g < w.heap.size := (Array.getElem?_eq_some_iff.1 hg).1
    rw [Below.heap_alloc _ _ _ hlt, hg]

set_option maxRecDepth 100000 in
set_option maxHeartbeats 4000000 in
theorem words_any (s : ByteArray) (w : World) (hs : s.size ≤ 2000000) :
    Calls Tryz.prog 90 #[.string s] w fun e w' => ∃ g cap, e = .returned (.slice (some ⟨g, 0, none⟩) (splitB s.data.toList).length cap) ∧ Below w.heap.size w w' ∧
      w'.ownsRow w.heap.size 9 1 (.slice (some ⟨g, 0, none⟩) (splitB s.data.toList).length cap) (splitB s.data.toList).length (strs (splitB s.data.toList)) := by
  obtain ⟨i0, hi, hz0, hz1, hz2⟩ := info_parts Tryz.infoString
  go_enter Tryz.func90, Tryz.ntmps90
  go_wp2
  go_loopw [3, 4] (fun l i w' => ∃ (k g cap : Nat) (ws : List (List UInt8)) (x : List UInt8), k ≤ s.size ∧ i = .int .i64 k ∧ l = .slice (some ⟨g, 0, none⟩) (ws.length + 1) cap ∧ Below w.heap.size w w' ∧ Hid (splitB (s.data.toList.take k) = ws ++ [x]) ∧ ws.length ≤ k ∧
      Hid (w'.ownsRow w.heap.size 9 1 (.slice (some ⟨g, 0, none⟩) (ws.length + 1) cap) (ws.length + 1) (strs (ws ++ [x])))) (fun _ i _ => s.size + 1 - (intOf i).toNat)
  case atStart =>
    refine ⟨0, w.heap.size, 1, [], [], Nat.zero_le _, rfl, rfl, (Below.refl _ _).alloc (Nat.le_refl _) _, by unfold Hid; simp [splitB], Nat.le_refl _, ?_⟩
    exact ⟨rfl, .inr ⟨w.heap.size, 1, _, rfl, Nat.le_refl _, Go.heap_alloc_new w _, by simp, by unfold maxLen; simp, rfl, rfl⟩⟩
  case round =>
    obtain ⟨k, g, cap, ws, x, hk, rfl, rfl, hb, hsp, hwk, hown⟩ := hrel
    by_cases hlt : k < s.size
    · by_cases hc : (s[k].toNat : Int) = 32
      · have hs2 : Hid (splitB (s.data.toList.take (k + 1)) = (ws ++ [x]) ++ [[]]) := by
          unfold Hid
          have e : s[k] = 32 := by apply UInt8.toNat.inj; show s[k].toNat = 32; omega
          rw [take_snoc s k hlt, e, splitB_blank, hsp.out]
        have hc' : ((s[k].toNat : Int) == 32) = true := by simpa using hc
        have hw2 : (ws ++ [x]).length = ws.length + 1 := by simp
        clear hc
        go_wp2_with (at_builtin; refine wpList_append_lies _ rfl _ _ _ rfl w.heap.size 9 i0 _ 1 16 Tryz.underlying93 hi hz0 hz1 hz2 rfl (by omega) (.slice (some ⟨g, 0, none⟩) (ws.length + 1) cap) (ws.length + 1) (strs (ws ++ [x])) rfl (by exact ownsRow_alloc hown.out _) ⟨wr.heap.size, 0, none⟩ 1 1 [.string ⟨#[]⟩] rfl rfl (by exact World.news_of_block (Go.heap_alloc_new wr _)) (by intro u hu; simp at hu; subst hu; rfl) (by omega) (by unfold maxLen; omega) (by omega) (by have := hb.size; simp; omega) (wr.heap.size + 1) (by simp) ?_; intro g' cap' w1 hown1 hgrow hat hlt')
        have hown2 : Hid (w1.ownsRow w.heap.size 9 1 (.slice (some ⟨g', 0, none⟩) ((ws ++ [x]).length + 1) cap') ((ws ++ [x]).length + 1) (strs ((ws ++ [x]) ++ [[]]))) := by
          unfold Hid
          rw [hw2]
          have e : strs ((ws ++ [x]) ++ [[]]) = strs (ws ++ [x]) ++ [.string ⟨#[]⟩] := by simp [strs, bytesOf]
          rw [e]
          exact hown1
        have hbase := own_base hown.out
        have hb2 : Below w.heap.size w w1 := by
          refine (hb.alloc hb.size _).grown hgrow (by have := hb.size; simp; omega) (fun r hr => ?_)
          have e : g = r := by simpa [Value.ownBlock] using hr
          omega
        exact ⟨⟨k + 1, g', cap', ws ++ [x], [], by omega, by go_num, by rw [hw2], hb2, hs2, by rw [hw2]; omega, hown2⟩, by simp [intOf]; omega⟩
      · have hs2 : Hid (splitB (s.data.toList.take (k + 1)) = ws ++ [x ++ [s[k]]]) := by
          unfold Hid
          rw [take_snoc s k hlt]
          exact splitB_other _ _ (fun e => hc (by rw [e]; rfl)) ws x hsp.out
        have hc' : ((s[k].toNat : Int) == 32) = false := by simpa using hc
        have c0 : wr.cell? ⟨g, ws.length, none⟩ = some (.string (bytesOf x)) := own_cell' hown.out (by simp [strs])
        have fz : wr.frozen? ⟨g, ws.length, none⟩ = false := own_frozen' hown.out _
        have hx : x.length ≤ 2000000 := by
          have h1 := splitB_sizes (s.data.toList.take k) x (by rw [hsp.out]; simp)
          have h2 : (s.data.toList.take k).length ≤ k := List.length_take_le _ _
          omega
        have hcat : ∀ w, (Op.stringOp .add (bytesOf x) (s.extract k (k + 1))).run Tryz.prog w = .ok (.string (bytesOf (x ++ [s[k]]))) w := by
          intro w
          rw [run_string_add_sum w _ _ (by rw [bytesOf_size, ByteArray.size_extract]; omega), bytesOf_push x s k hlt]
        have hin : (0 : Int) ≤ (ws.length : Int) := by omega
        clear hc
        have hown2 : Hid ((wr.setCell ⟨g, ws.length, none⟩ (.string (bytesOf (x ++ [s[k]])))).drew.ownsRow w.heap.size 9 1 (.slice (some ⟨g, 0, none⟩) (ws.length + 1) cap) (ws.length + 1) (strs (ws ++ [x ++ [s[k]]]))) := by
          have o := own_set (own_any hown.out) ws.length (.string (bytesOf (x ++ [s[k]]))) (by omega)
          have e : (strs (ws ++ [x])).set ws.length (.string (bytesOf (x ++ [s[k]]))) = strs (ws ++ [x ++ [s[k]]]) := by
            simp only [strs, List.map_append, List.map_cons, List.map_nil]
            rw [List.set_append_right _ _ (by simp)]
            simp
          rw [e] at o
          exact own_at o (own_base hown.out)
        have hb2 := hidOf' ((hb.setCell (p := ⟨g, ws.length, none⟩) (own_base hown.out) (.string (bytesOf (x ++ [s[k]])))).drew)
        clear hown
        go_wp2
        go_region
        go_wp2
        exact ⟨⟨k + 1, g, cap, ws, x ++ [s[k]], by omega, by go_num, rfl, hb2.out, hs2, by omega, hown2⟩, by simp [intOf]; omega⟩
    · have he : k = s.size := by omega
      have G : Hid (splitB s.data.toList = ws ++ [x]) := by
        unfold Hid
        rw [← hsp.out, he, List.take_of_length_le (by simp)]
      have HO := hown
      clear he hsp hown
      go_wp2
      go_ret
      rw [G.out]
      exact ⟨g, cap, by simp, hb, by simpa using HO.out⟩
end Go.Proofs.YtlafddeoheambaaGreatDoor

/-
  What an order comes to, said plainly, where no lot is open.
-/
namespace Go.Proofs.YtlafddeoheambaaGreatDoor
open Go.RowKit

theorem ixOf_at {α : Type} (p : α → Bool) (l : List α) (h : ¬ ixOf p l < 0) : ∃ k : Nat, ixOf p l = k ∧ k < l.length := by
  induction l with
  | nil => simp [ixOf] at h
  | cons a l ih =>
    simp only [ixOf] at h ⊢
    split
    · exact ⟨0, rfl, by simp⟩
    · rename_i hp
      rw [if_neg hp] at h
      split
      · rename_i hn
        rw [if_pos hn] at h
        omega
      · rename_i hn
        obtain ⟨k, e, hk⟩ := ih hn
        exact ⟨k + 1, by rw [e]; simp, by simpa using hk⟩

def plainW : List (List UInt8) := [[103, 111], [108, 101, 102, 116], [114, 105, 103, 104, 116], [98, 97, 99, 107], [100, 105, 103], [115, 101, 108, 108]]
def plainB (b : List UInt8) : Bool := amongB (plainW.map bytesOf) (bytesOf b)
def namingB (b : List UInt8) : Bool := b == [98, 117, 105, 108, 100] || b == [99, 97, 108, 108]
def bidW : List UInt8 := [98, 105, 100]

/-- The unit called a is told to b, with c. -/
def tellS (s : SWorld) (n : Nat) (p : SPlayer) (a b c : List UInt8) : Int × SWorld :=
  if unitIx p.units (bytesOf a) < 0 then (3, s)
  else match p.units[(unitIx p.units (bytesOf a)).toNat]? with
    | none => (3, s)
    | some u => (0, s.setPl n { p with units := p.units.set (unitIx p.units (bytesOf a)).toNat { u with what := bytesOf b, arg := bytesOf c } })
/-- A bid for a lot. -/
def bidS (s : SWorld) (n : Nat) (p : SPlayer) (nm : ByteArray) (k : Int) : Int × SWorld :=
  if openB s.lots nm then (if p.money < k + stakedI p.bids nm then (5, s) else (0, s.setPl n { p with bids := setB p.bids nm k })) else (3, s)
theorem bidS_nil {s : SWorld} (h : s.lots = []) (n : Nat) (p : SPlayer) (nm : ByteArray) (k : Int) : bidS s n p nm k = (3, s) := by simp [bidS, h, openB]
/-- What Order answers, and the world behind it: the text's words. -/
def wordsS (s : SWorld) (n : Nat) (p : SPlayer) (ws : List (List UInt8)) : Int × SWorld := match ws with
  | [a, b] => if nameB a && plainB b then tellS s n p a b [] else (2, s)
  | [a, b, c] =>
    if a == bidW && nameB b && decide (0 ≤ numberI c) then bidS s n p (bytesOf b) (numberI c)
    else if nameB a && nameB c && namingB b then tellS s n p a b c else (2, s)
  | _ => (2, s)
def orderS (s : SWorld) (n : Int) (text : List UInt8) : Int × SWorld :=
  if 0 ≤ n ∧ n < s.players.length then match s.players[n.toNat]? with
    | none => (1, s)
    | some p => wordsS s n.toNat p (splitB text)
  else (1, s)

end Go.Proofs.YtlafddeoheambaaGreatDoor

/-
  The functions Money and Order of package hazeref, where no lot is open.
-/
namespace Go.Proofs.YtlafddeoheambaaGreatDoor
open Go.RowKit
attribute [local go_sem] Go.wp_at_zero Go.wp_at_succ

theorem ret_t2 {a a' b b' : Int} (h1 : a = a') (h2 : b = b') : Ending.returned (.tuple #[.int .i64 a, .int .i64 b]) = .returned (.tuple #[.int .i64 a', .int .i64 b']) := by rw [h1, h2]
def moneyS (s : SWorld) (n : Int) : Int × Int := if 0 ≤ n ∧ n < s.players.length then match s.players[n.toNat]? with
    | none => (0, 1)
    | some p => (p.money, 0)
  else (0, 1)

theorem inB_pl (n : Int) (m : Nat) : inB n 0 ((m : Int) - 1) = decide (0 ≤ n ∧ n < m) := by
  simp only [inB]
  by_cases h : 0 ≤ n <;> by_cases h' : n < m <;> simp [h, h'] <;> omega

set_option maxRecDepth 100000 in
set_option maxHeartbeats 1000000 in
theorem rmoney_any (w : World) (Y : YW) (M : Int) (n : Int) (hr : RepY w Y) (hf : WFS Y.S M) :
    Calls Tryz.prog 54 #[.pointer (some ⟨Y.b, 0, none⟩), .int .i64 n] w fun e w' => e = .returned (.tuple #[.int .i64 (moneyS Y.S n).1, .int .i64 (moneyS Y.S n).2]) ∧ w' = w := by
  have hpl : Y.S.players.length = Y.pls.length := by simp [YW.S]
  have h4 := hf.pl
  rw [hpl] at h4
  rcases own_form hr.pl with ⟨_, h0, _⟩ | ⟨pb, pcap, hvp, hpc, hpm, hpb⟩
  · omega
  unfold maxLen at hpm
  have c5 : w.cell? ⟨Y.b, 5, none⟩ = some (.slice (some ⟨pb, 0, none⟩) Y.pls.length pcap) := by rw [← hvp]; exact hr.cellTop rfl
  by_cases hn : 0 ≤ n ∧ n < Y.pls.length
  · obtain ⟨hn0, hn1⟩ := hn
    obtain ⟨k, rfl⟩ := Int.eq_ofNat_of_zero_le hn0
    obtain ⟨p, v, hq⟩ := at_of_lt (Y := Y) (n := k) (by omega)
    have m0 := (hr.plCell hq hvp).1
    have hi : inB (k : Int) 0 ((Y.pls.length : Int) - 1) = true := by rw [inB_pl]; simp; omega
    have HM : Hid (moneyS Y.S k = (p.money, 0)) := by
      unfold Hid moneyS
      rw [if_pos (by rw [hpl]; omega), Int.toNat_natCast, S_at hq]
    clear hq hvp hpl
    go_enter Tryz.func54, Tryz.ntmps54
    go_wp2_with (go_at_call 88; refine (within_any _ _ _ _).mono ?_; rintro e w' ⟨rfl, rfl⟩)
    go_ret2
    exact ⟨ret_t2 (by rw [HM.out]) (by rw [HM.out]), rfl⟩
  · have hi : inB n 0 ((Y.pls.length : Int) - 1) = false := by rw [inB_pl]; exact decide_eq_false hn
    have HM : Hid (moneyS Y.S n = (0, 1)) := by
      unfold Hid moneyS
      rw [if_neg (by rw [hpl]; exact hn)]
    clear hn hpl
    go_enter Tryz.func54, Tryz.ntmps54
    go_wp2_with (go_at_call 88; refine (within_any _ _ _ _).mono ?_; rintro e w' ⟨rfl, rfl⟩)
    go_ret2
    exact ⟨ret_t2 (by rw [HM.out]) (by rw [HM.out]), rfl⟩
end Go.Proofs.YtlafddeoheambaaGreatDoor

/-
  The functions of package haze that only look: has, Money, find, between.
-/
namespace Go.Proofs.YtlafddeoheambaaGreatDoor
open Go.RowKit

def hasB (n : Int) (m : Nat) : Bool := decide (0 ≤ n) && decide (n < m)

set_option maxHeartbeats 1000000 in
theorem has_any (b : Nat) (n : Int) (m cap : Nat) (ao : Option Addr) (w : World) (hc : w.cell? ⟨b, 6, none⟩ = some (.slice ao m cap)) :
    Calls Tryz.prog 26 #[.pointer (some ⟨b, 0, none⟩), .int .i64 n] w fun e w' => e = .returned (.bool (hasB n m)) ∧ w' = w := by
  unfold hasB
  by_cases h : 0 ≤ n
  all_goals
    go_enter Tryz.func26, Tryz.ntmps26
    go_wp2
    go_ret
    exact ⟨ret_bool (by first | (simp [h]; done) | (simp; omega)), rfl⟩

set_option maxHeartbeats 1000000 in
theorem between_any (n lo hi : Int) (w : World) :
    Calls Tryz.prog 41 #[.int .i64 n, .int .i64 lo, .int .i64 hi] w fun e w' => e = .returned (.bool (inB n lo hi)) ∧ w' = w := by
  unfold inB
  by_cases h : lo ≤ n
  all_goals
    go_enter Tryz.func41, Tryz.ntmps41
    go_wp2
    go_ret
    exact ⟨ret_bool (by first | (simp [h]; done) | (simp; omega)), rfl⟩

theorem hasB_pl (n : Int) (m : Nat) : hasB n m = decide (0 ≤ n ∧ n < m) := by
  unfold hasB
  by_cases h : 0 ≤ n <;> by_cases h' : n < m <;> simp [h, h']
theorem xat_of_lt {X : XW} {n : Nat} (h : n < X.pls.length) : ∃ p v, X.pls[n]? = some (p, v) := ⟨X.pls[n].1, X.pls[n].2, by simp [h]⟩

set_option maxRecDepth 100000 in
set_option maxHeartbeats 1000000 in
theorem xmoney_any (w : World) (X : XW) (M : Int) (n : Int) (hr : RepX w X) (hf : WFS X.S M) :
    Calls Tryz.prog 14 #[.pointer (some ⟨X.b, 0, none⟩), .int .i64 n] w fun e w' => e = .returned (.tuple #[.int .i64 (moneyS X.S n).1, .int .i64 (moneyS X.S n).2]) ∧ w' = w := by
  have hpl : X.S.players.length = X.pls.length := by simp [XW.S]
  have h4 := hf.pl
  rw [hpl] at h4
  obtain ⟨pb, pcap, hvp, hpc, hpm⟩ := hr.plForm h4.1
  unfold maxLen at hpm
  have c5 : w.cell? ⟨X.b, 6, none⟩ = some (.slice (some ⟨pb, 0, none⟩) X.pls.length pcap) := by rw [← hvp]; exact hr.cellTop rfl
  have HH := hidOf (has_any X.b n X.pls.length pcap _ w c5)
  by_cases hn : 0 ≤ n ∧ n < X.pls.length
  · obtain ⟨hn0, hn1⟩ := hn
    obtain ⟨k, rfl⟩ := Int.eq_ofNat_of_zero_le hn0
    obtain ⟨p, v, hq⟩ := xat_of_lt (X := X) (n := k) (by omega)
    have m0 := (hr.plCell hq hvp).1
    have hi : hasB (k : Int) X.pls.length = true := by rw [hasB_pl]; simp; omega
    have HM : Hid (moneyS X.S k = (p.money, 0)) := by
      unfold Hid moneyS
      rw [if_pos (by rw [hpl]; omega), Int.toNat_natCast, XS_at hq]
    rw [hi] at HH
    clear hq hvp hpl
    go_enter Tryz.func14, Tryz.ntmps14
    go_wp2_with (go_at_call 26; refine HH.out.mono ?_; rintro e w' ⟨rfl, rfl⟩)
    go_ret2
    exact ⟨ret_t2 (by rw [HM.out]) (by rw [HM.out]), rfl⟩
  · have hi : hasB n X.pls.length = false := by rw [hasB_pl]; exact decide_eq_false hn
    have HM : Hid (moneyS X.S n = (0, 1)) := by
      unfold Hid moneyS
      rw [if_neg (by rw [hpl]; exact hn)]
    rw [hi] at HH
    clear hn hpl
    go_enter Tryz.func14, Tryz.ntmps14
    go_wp2_with (go_at_call 26; refine HH.out.mono ?_; rintro e w' ⟨rfl, rfl⟩)
    go_ret2
    exact ⟨ret_t2 (by rw [HM.out]) (by rw [HM.out]), rfl⟩

/-- The unit of that name. -/
def findA (us : List SUnit) (xs : List XU) (nm : ByteArray) : Option Addr := if unitIx us nm < 0 then none else (xs[(unitIx us nm).toNat]?).map (fun x => ⟨x.g, 0, none⟩)

theorem ret_ptr {a b : Option Addr} (h : a = b) : Ending.returned (.pointer a) = .returned (.pointer b) := by rw [h]
set_option maxHeartbeats 1000000 in
theorem find_any (pb po : Nat) (q : SPlayer × XV) (nm : ByteArray) (w : World) (hc : w.cell? ⟨pb, po + 1, none⟩ = some q.2.v) (hq : RepQ w q) :
    Calls Tryz.prog 29 #[.pointer (some ⟨pb, po, none⟩), .string nm] w fun e w' => e = .returned (.pointer (findA q.1.units q.2.us nm)) ∧ w' = w := by
  obtain ⟨p, v⟩ := q
  obtain ⟨hrow, hlen, hu⟩ := hq
  simp only at hc hrow hlen hu
  obtain ⟨ao, g, cap, hv, hcap, hmax, rd⟩ := own_rd hrow
  rw [hv] at hc
  unfold maxLen at hmax
  have hun : Hid (∀ k (hk : k < v.us.length), w.cell? ⟨(v.us[k]).g, 0, none⟩ = some (.string (p.units[k]'(by omega)).name)) := fun k hk => (hu k _ _ (List.getElem?_eq_getElem (by omega)) (List.getElem?_eq_getElem hk)).cell rfl
  clear hrow hu hv
  go_enter Tryz.func29, Tryz.ntmps29
  go_wp2
  go_loop [6, 12] (fun _ i => ∃ k : Nat, k ≤ v.us.length ∧ i = .int .i64 k ∧ Hid (noneTo (fun u => eqS u.name nm) p.units k)) (fun _ i => v.us.length + 1 - (intOf i).toNat)
  case atStart => exact ⟨0, Nat.zero_le _, rfl, noneTo_zero _ _⟩
  case round =>
    obtain ⟨k, hk, rfl, hn⟩ := hrel
    by_cases hlt : k < v.us.length
    · have hlt' : k < p.units.length := by omega
      obtain rfl := rd.base (by omega)
      have c0 : w.cell? ⟨g, k, none⟩ = some (.pointer (some ⟨v.us[k].g, 0, none⟩)) := rd.cell k _ (by simp [hlt, ptrV])
      have c1 := hun.out k hlt
      cases he : eqS p.units[k].name nm
      · have he' : (p.units[k].name.toList == nm.toList) = false := he
        have hn' : Hid _ := noneTo_succ hn.out hlt' he
        clear he hn
        go_wp2
        exact ⟨⟨k + 1, by omega, by go_num, hn'⟩, by simp [intOf]; omega⟩
      · have he' : (p.units[k].name.toList == nm.toList) = true := he
        have G : Hid (_ = _) := ixOf_hit (fun u : SUnit => eqS u.name nm) p.units k hlt' hn.out he
        have G2 : Hid (findA p.units v.us nm = some ⟨v.us[k].g, 0, none⟩) := by
          unfold Hid findA unitIx
          rw [G.out, if_neg (by omega)]
          simp [hlt]
        clear he hn G
        go_wp2
        go_ret
        exact ⟨ret_ptr G2.out.symm, rfl⟩
    · have G : Hid (_ = _) := ixOf_miss (fun u : SUnit => eqS u.name nm) p.units (noneTo_all hn.out (by omega))
      have G2 : Hid (findA p.units v.us nm = none) := by
        unfold Hid findA unitIx
        rw [G.out, if_pos (by omega)]
      clear G
      go_wp2
      go_ret
      exact ⟨ret_ptr G2.out.symm, rfl⟩
end Go.Proofs.YtlafddeoheambaaGreatDoor
