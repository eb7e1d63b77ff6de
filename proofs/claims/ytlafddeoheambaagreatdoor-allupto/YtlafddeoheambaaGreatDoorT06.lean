/-
  The function does of package hazeref: what a unit's order leaves of the world.
-/
import Derived.Test.YtlafddeoheambaaGreatDoorT05
import Derived.Deep.RegionLaw
import Derived.Deep.QuietTactic
import Derived.BigQuiet
import Derived.Deep.AppendLies
set_option linter.unusedVariables false
namespace Go.Proofs.YtlafddeoheambaaGreatDoor
open Go.RowKit
attribute [local go_sem] Go.wp_at_zero Go.wp_at_succ

set_option maxRecDepth 100000 in
set_option maxHeartbeats 4000000 in
theorem does_build (w : World) (Y : YW) (M : Int) (n k : Nat) (p : SPlayer) (v : PV) (u : SUnit) (hr : RepY w Y) (hf : WF Y M) (hM : M ≤ 1000000000000) (hq : Y.pls[n]? = some (p, v)) (hu : p.units[k]? = some u) (h0 : (u.what.toList == [103, 111]) = false) (h1 : (u.what.toList == [108, 101, 102, 116]) = false) (h2 : (u.what.toList == [98, 97, 99, 107]) = false) (h3 : (u.what.toList == [114, 105, 103, 104, 116]) = false) (h4 : (u.what.toList == [100, 105, 103]) = false) (h5 : (u.what.toList == [115, 101, 108, 108]) = false) (h6 : (u.what.toList == [99, 97, 108, 108]) = false) (h7 : (u.what.toList == [98, 117, 105, 108, 100]) = true) :
    Calls Tryz.prog 98 #[.pointer (some ⟨Y.b, 0, none⟩), .int .i64 n, .int .i64 k] w fun e w' => e = .returned (.tuple #[]) ∧ ∃ Y', Turn w Y w' Y' ∧ Y'.S = doesS Y.S n k := by
  obtain ⟨hn, he⟩ := at_some hq
  obtain ⟨hk, heu⟩ := at_some hu
  have hmem : (p, v) ∈ Y.pls := by rw [← he]; exact List.getElem_mem hn
  have humem : u ∈ p.units := by rw [← heu]; exact List.getElem_mem hk
  clear he heu
  rcases own_form hr.pl with ⟨_, h0, _⟩ | ⟨pb, pcap, hvp, hpc, hpm, hpb⟩
  · omega
  have hun := (hr.eachAt hq).units
  rcases own_form hun with ⟨_, h0, _⟩ | ⟨ub, ucap, hvu, huc, hum, hub⟩
  · simp only at h0; omega
  simp only at hvu huc
  clear hun
  unfold maxLen at hpm hum
  have c5 : w.cell? ⟨Y.b, 5, none⟩ = some (.slice (some ⟨pb, 0, none⟩) Y.pls.length pcap) := by rw [← hvp]; exact hr.cellTop rfl
  obtain ⟨m0, m1, _, _⟩ := hr.plCell hq hvp
  rw [hvu] at m1
  obtain ⟨d0, d1, d2, d3, d4, d5, d6⟩ := (hr.eachAt hq).uCell hu hvu
  have fu := (hr.eachAt hq).uFrozen hvu
  have f5 := fu (k * 7 + 5)
  have f6 := fu (k * 7 + 6)
  clear fu
  have T1 : Hid (Turn w Y ((w.setCell ⟨ub, k * 7 + 5, none⟩ (.string ⟨#[]⟩)).setCell ⟨ub, k * 7 + 6, none⟩ (.string ⟨#[]⟩)) (Y.setQ n ({ p with units := p.units.set k { u with what := emptyB, arg := emptyB } }, v))) := by
    unfold Hid
    have t1 := (Turn.refl hr).unit1 hq hu hvu 5 { u with what := emptyB } (.string ⟨#[]⟩) (by omega) rfl
    have t2 := t1.unit1 (setQ_at hq) (set_at hu) (by simpa using hvu) 6 { u with what := emptyB, arg := emptyB } (.string ⟨#[]⟩) (by omega) rfl
    rw [setQ_setQ] at t2
    simpa using t2
  have hfull : Full (Y.setQ n ({ p with units := p.units.set k { u with what := emptyB, arg := emptyB } }, v)) := hf.full.setQ hq (by simp)
  obtain ⟨ux0, ux1, uy0, uy1⟩ := hf.ux _ hmem _ humem
  obtain ⟨uh0, uh1⟩ := hf.uh _ hmem _ humem
  obtain ⟨uc0, uc1⟩ := hf.uc _ hmem _ humem
  obtain ⟨mo0, mo1⟩ := hf.mo _ hmem
  have hwd := hf.wd
  have hht := hf.ht
  have HS : Hid _ := doesS_at hq hu
  have HQ : Hid (Y.pls[n]? = some (p, v)) := hq
  have HU : Hid (p.units[k]? = some u) := hu
  have HVP : Hid (Y.vPl = .slice (some ⟨pb, 0, none⟩) Y.pls.length pcap) := hvp
  have HVU : Hid (v.u = .slice (some ⟨ub, 0, none⟩) p.units.length ucap) := hvu
  clear hq hu hvp hvu
  go_enter Tryz.func98, Tryz.ntmps98
  go_wp2_with fail
  refine (ahead_any _ (Y.setQ n ({ p with units := p.units.set k { u with what := emptyB, arg := emptyB } }, v)) _ _ _ _ _ _ _ T1.out.rep hfull (by omega) (by omega) (by omega) (by show 0 ≤ Y.width ∧ Y.width ≤ 100; omega) (by show 0 ≤ Y.height ∧ Y.height ≤ 100; omega)).mono ?_
  rintro e w3 ⟨rfl, hb3⟩
  have T3 : Hid (Turn w Y w3 (Y.setQ n ({ p with units := p.units.set k { u with what := emptyB, arg := emptyB } }, v))) := T1.out.below hb3
  obtain ⟨Y1, hY1⟩ : ∃ Y1, Y1 = Y.setQ n ({ p with units := p.units.set k { u with what := emptyB, arg := emptyB } }, v) := ⟨_, rfl⟩
  rw [← hY1] at T3
  clear hb3 T1 d0 d1 d2 d3 d4 d5 d6 m0 m1 c5 f5 f6 hfull
  have hq1 : Y1.pls[n]? = some ({ p with units := p.units.set k { u with what := emptyB, arg := emptyB } }, v) := by rw [hY1]; exact setQ_at HQ.out
  have hu1 : (p.units.set k { u with what := emptyB, arg := emptyB })[k]? = some { u with what := emptyB, arg := emptyB } := set_at HU.out
  have hvp1 : Y1.vPl = .slice (some ⟨pb, 0, none⟩) Y1.pls.length pcap := by rw [hY1]; simpa [YW.setQ] using HVP.out
  have hvu1 : v.u = .slice (some ⟨ub, 0, none⟩) (p.units.set k { u with what := emptyB, arg := emptyB }).length ucap := by simpa using HVU.out
  have hS1 : Y1.S = Y.S.setPl n { p with units := p.units.set k { u with what := emptyB, arg := emptyB } } := by rw [hY1, S_setQ]
  have HS1 : Hid (doesS Y.S n k = actS Y1.S n k { p with units := p.units.set k { u with what := emptyB, arg := emptyB } } { u with what := emptyB, arg := emptyB } u.what u.arg) := by unfold Hid; rw [hS1]; exact HS.out
  have hfree : freeB (Y.setQ n ({ p with units := p.units.set k { u with what := emptyB, arg := emptyB } }, v)) = fun x y => freeS Y1.S x y := by rw [hY1]; rfl
  rw [hfree]
  obtain ⟨m0, m1, m2, _⟩ := T3.out.rep.plCell hq1 hvp1
  have m1r : Hid (w3.cell? ⟨pb, n * 4 + 1, none⟩ = some v.u) := m1
  rw [HVU.out] at m1
  obtain ⟨d0, d1, d2, d3, d4, d5, d6⟩ := (T3.out.rep.eachAt hq1).uCell hu1 hvu1
  simp only at m0 d0 d1 d2 d3 d4 d5 d6
  have fu := (T3.out.rep.eachAt hq1).uFrozen hvu1
  have fp := T3.out.rep.plFrozen hvp1
  have HQ1 : Hid _ := hq1
  have HU1 : Hid _ := hu1
  have HVP1 : Hid _ := hvp1
  have HVU1 : Hid _ := hvu1
  have HO : Hid (Y1.ore = Y.ore) := by unfold Hid; rw [hY1]; rfl
  clear hq1 hu1 hvp1 hvu1 hS1 hfree hY1 HS
  have hne := T3.out.rep.apart HQ1.out HVP1.out HVU1.out
  have hne' : pb ≠ ub := fun e => hne e.symm
  have hcU : Hid (∀ wx : World, wx.heap = w3.heap → Calls Tryz.prog 97 #[.pointer (some ⟨pb, n * 4, none⟩), .string u.arg] wx fun e w' => e = .returned (.int .i64 (unitIx (p.units.set k { u with what := emptyB, arg := emptyB }) u.arg)) ∧ w' = wx) := by
    intro wx hx
    have hry := T3.out.rep.heapEq hx
    exact unit_any pb (n * 4) (p.units.set k { u with what := emptyB, arg := emptyB }) v.u u.arg wx (hry.plCell HQ1.out HVP1.out).2.1 (hry.eachAt HQ1.out).units
  have hcS : Hid (∀ wx : World, wx.heap = w3.heap → Calls Tryz.prog 94 #[.pointer (some ⟨pb, n * 4, none⟩), .string ⟨#[]⟩] wx fun e w' => e = .returned (.int .i64 (stakedI p.bids emptyB)) ∧ w' = wx) := by
    intro wx hx
    have hry := T3.out.rep.heapEq hx
    exact staked_any pb (n * 4) p.bids v.b emptyB wx (hry.plCell HQ1.out HVP1.out).2.2.1 (hry.eachAt HQ1.out).bids (hf.bi _ hmem).1 (by have hbl : p.bids.length ≤ 1000 := (hf.bi _ hmem).2; exact Nat.le_trans hbl (by omega))
  have bsl : p.bids.length ≤ 1000 := (hf.bi _ hmem).2
  obtain ⟨bst0, bst1⟩ := stakedI_bd p.bids emptyB (hf.bi _ hmem).1
  by_cases hA : unitIx (p.units.set k { u with what := emptyB, arg := emptyB }) u.arg < 0
  · by_cases hB : p.units.length < 5
    · have hBi : (p.units.length : Int) < 5 := by omega
      by_cases hC : 50 ≤ p.money - stakedI p.bids emptyB
      · cases hD : freeS Y1.S (u.x + dxI u.head) (u.y + dyI u.head)
        · have HF : Hid (doesS Y.S n k = Y1.S) := HS1.out.trans (actS_build_no _ _ _ _ _ _ _ h0 h1 h2 h3 h4 h5 h6 h7 (fun h => by rw [show freeS Y1.S (u.x + dxI u.head) (u.y + dyI u.head) = true from h.2.2.2] at hD; cases hD))
          go_wp2_with fail
          go_quiet ((first | (go_at_call 97; exact Calls.quiet_of_same (hcU.out _ rfl)) | (go_at_call 94; exact Calls.quiet_of_same (hcS.out _ rfl))))
          go_wp2
          go_end0
          exact ⟨rfl, _, T3.out.drewN _, HF.out.symm⟩
        · have HF : Hid _ := hidOf (HS1.out.trans (actS_build _ _ _ _ _ _ _ h0 h1 h2 h3 h4 h5 h6 h7 hA (by simpa using hB) hC hD))
          have T2 := hidOf (T3.out.money1 HQ1.out HVP1.out (p.money - 50))
          obtain ⟨i0, hi, hz0, hz1, hz2⟩ := info_parts Tryz.infoUnit
          go_wp2_with fail
          go_quiet ((first | (go_at_call 97; exact Calls.quiet_of_same (hcU.out _ rfl)) | (go_at_call 94; exact Calls.quiet_of_same (hcS.out _ rfl))))
          go_wp2
          have T5 := hidOf (T2.out.drewN nq)
          obtain ⟨w5, hw5⟩ : ∃ w5, w5 = (w3.drewN nq).setCell ⟨pb, n * 4, none⟩ (.int .i64 (p.money - 50)) := ⟨_, rfl⟩
          rw [← hw5]
          have T6 : Hid (Turn w Y w5 (Y1.setQ n ({ p with money := p.money - 50, units := p.units.set k { u with what := emptyB, arg := emptyB } }, v))) := by rw [hw5]; exact T5.out
          have hvp2 : (Y1.setQ n ({ p with money := p.money - 50, units := p.units.set k { u with what := emptyB, arg := emptyB } }, v)).vPl = .slice (some ⟨pb, 0, none⟩) (Y1.setQ n ({ p with money := p.money - 50, units := p.units.set k { u with what := emptyB, arg := emptyB } }, v)).pls.length pcap := by simpa [YW.setQ] using HVP1.out
          clear T5 T2 hw5 m0 m1 m2 m1r d0 d1 d2 d3 d4 d5 d6 fu fp hcU hcS
          obtain ⟨_, m1, _, _⟩ := T6.out.rep.plCell (setQ_at HQ1.out) hvp2
          rw [HVU.out] at m1
          obtain ⟨_, _, _, d3, _⟩ := (T6.out.rep.eachAt (setQ_at HQ1.out)).uCell HU1.out HVU1.out
          simp only at d3
          have HVP2 := hidOf hvp2
          clear hvp2
          have hownX : Hid (∀ (wx : World) (o : Obj), wx.heap = w5.heap.push o → wx.ownsRow 0 158 7 (.slice (some ⟨ub, 0, none⟩) p.units.length ucap) p.units.length ((p.units.set k { u with what := emptyB, arg := emptyB }).flatMap unitCells)) := by
            intro wx o hx
            have := rowAfter T6.out.rep (setQ_at HQ1.out) wx o hx
            simp only [HVU.out, List.length_set] at this
            exact this
          have fz := T6.out.rep.plFrozen HVP2.out (n * 4 + 1)
          have hpb5 := hidOf (T6.out.rep.lt pb (foot_p (by rw [HVP2.out]; simp [blk_slice])))
          have hub5 := hidOf (T6.out.rep.lt ub (foot_e (List.getElem_mem (at_some (setQ_at (q' := ({ p with money := p.money - 50, units := p.units.set k { u with what := emptyB, arg := emptyB } }, v)) HQ1.out)).1) (by rw [(at_some (setQ_at HQ1.out)).2]; simp [pvFoot, HVU.out, blk_slice])))
          have a1 : ∀ o, (w5.alloc o).cell? ⟨pb, n * 4 + 1, none⟩ = some (.slice (some ⟨ub, 0, none⟩) p.units.length ucap) := fun o => by rw [World.cell?_alloc_past _ _ _ hpb5.out]; exact m1
          have a2 : ∀ o, (w5.alloc o).cell? ⟨ub, k * 7 + 3, none⟩ = some (.int .i64 u.head) := fun o => by rw [World.cell?_alloc_past _ _ _ hub5.out]; exact d3
          go_region_law (refine step_append_lies _ (by rfl) _ _ _ (by rfl) 0 158 i0 _ 7 80 Tryz.underlying159 hi hz0 hz1 hz2 (by rfl) (by omega) (.slice (some ⟨ub, 0, none⟩) p.units.length ucap) p.units.length ((p.units.set k { u with what := emptyB, arg := emptyB }).flatMap unitCells) (by rfl) (by exact hownX.out _ _ rfl) ⟨w5.heap.size, 0, none⟩ 1 1 [.string u.arg, .int .i64 (u.x + dxI u.head), .int .i64 (u.y + dyI u.head), .int .i64 u.head, .int .i64 0, .string ⟨#[]⟩, .string ⟨#[]⟩] (by rfl) (by rfl) (by exact World.news_of_block (Go.heap_alloc_new w5 _)) (by intro u hu; simp at hu; rcases hu with rfl | rfl | rfl | rfl | rfl | rfl | rfl <;> rfl) (by omega) (by unfold maxLen; omega) (by omega) (by omega) (w5.heap.size + 1) (by simp) ?_; intro g cap w6 hown6 hgrow hat hlt; obtain ⟨q1, q2⟩ := addKeep (ub := ub) (((Below.refl _ w5).alloc (Nat.le_refl _) _).drew) hgrow hpb5.out hne' (n * 4 + 1); rw [m1] at q1; rw [fz] at q2)
          all_goals
            go_wp2
            go_end0
            exact ⟨rfl, buildEnd (p.units.set k { u with what := emptyB, arg := emptyB }) { name := u.arg, x := u.x + dxI u.head, y := u.y + dyI u.head, head := u.head, cargo := 0, what := emptyB, arg := emptyB } (by simp) T6.out HQ1.out HVP2.out HVU.out (((Below.refl _ w5).alloc (Nat.le_refl _) _).drew) hgrow hown6 hat HF.out⟩
      · have HF : Hid (doesS Y.S n k = Y1.S) := HS1.out.trans (actS_build_no _ _ _ _ _ _ _ h0 h1 h2 h3 h4 h5 h6 h7 (fun h => hC h.2.2.1))
        have hC' : decide (50 ≤ p.money - stakedI p.bids emptyB) = false := by simpa using hC
        clear hC
        go_wp2_with fail
        go_quiet ((first | (go_at_call 97; exact Calls.quiet_of_same (hcU.out _ rfl)) | (go_at_call 94; exact Calls.quiet_of_same (hcS.out _ rfl))))
        go_wp2
        go_end0
        exact ⟨rfl, _, T3.out.drewN _, HF.out.symm⟩
    · have HF : Hid (doesS Y.S n k = Y1.S) := HS1.out.trans (actS_build_no _ _ _ _ _ _ _ h0 h1 h2 h3 h4 h5 h6 h7 (fun h => hB (by have h' := h.2.1; simpa using h')))
      have hB' : decide ((p.units.length : Int) < 5) = false := decide_eq_false (by omega)
      clear hB
      go_wp2_with fail
      go_quiet ((first | (go_at_call 97; exact Calls.quiet_of_same (hcU.out _ rfl)) | (go_at_call 94; exact Calls.quiet_of_same (hcS.out _ rfl))))
      go_wp2
      go_end0
      exact ⟨rfl, _, T3.out.drewN _, HF.out.symm⟩
  · have HF : Hid (doesS Y.S n k = Y1.S) := HS1.out.trans (actS_build_no _ _ _ _ _ _ _ h0 h1 h2 h3 h4 h5 h6 h7 (fun h => hA h.1))
    have hA' : decide (unitIx (p.units.set k { u with what := emptyB, arg := emptyB }) u.arg < 0) = false := by simpa using hA
    clear hA
    go_wp2_with fail
    go_quiet ((first | (go_at_call 97; exact Calls.quiet_of_same (hcU.out _ rfl)) | (go_at_call 94; exact Calls.quiet_of_same (hcS.out _ rfl))))
    go_wp2
    go_end0
    exact ⟨rfl, _, T3.out.drewN _, HF.out.symm⟩
end Go.Proofs.YtlafddeoheambaaGreatDoor

/-
  The function does of package hazeref: what a unit's order leaves of the world.
-/
namespace Go.Proofs.YtlafddeoheambaaGreatDoor
open Go.RowKit
attribute [local go_sem] Go.wp_at_zero Go.wp_at_succ

set_option maxRecDepth 100000 in
set_option maxHeartbeats 4000000 in
theorem does_call (w : World) (Y : YW) (M : Int) (n k : Nat) (p : SPlayer) (v : PV) (u : SUnit) (hr : RepY w Y) (hf : WF Y M) (hM : M ≤ 1000000000000) (hq : Y.pls[n]? = some (p, v)) (hu : p.units[k]? = some u) (h0 : (u.what.toList == [103, 111]) = false) (h1 : (u.what.toList == [108, 101, 102, 116]) = false) (h2 : (u.what.toList == [98, 97, 99, 107]) = false) (h3 : (u.what.toList == [114, 105, 103, 104, 116]) = false) (h4 : (u.what.toList == [100, 105, 103]) = false) (h5 : (u.what.toList == [115, 101, 108, 108]) = false) (h6 : (u.what.toList == [99, 97, 108, 108]) = true) :
    Calls Tryz.prog 98 #[.pointer (some ⟨Y.b, 0, none⟩), .int .i64 n, .int .i64 k] w fun e w' => e = .returned (.tuple #[]) ∧ ∃ Y', Turn w Y w' Y' ∧ Y'.S = doesS Y.S n k := by
  obtain ⟨hn, he⟩ := at_some hq
  obtain ⟨hk, heu⟩ := at_some hu
  have hmem : (p, v) ∈ Y.pls := by rw [← he]; exact List.getElem_mem hn
  have humem : u ∈ p.units := by rw [← heu]; exact List.getElem_mem hk
  clear he heu
  rcases own_form hr.pl with ⟨_, h0, _⟩ | ⟨pb, pcap, hvp, hpc, hpm, hpb⟩
  · omega
  have hun := (hr.eachAt hq).units
  rcases own_form hun with ⟨_, h0, _⟩ | ⟨ub, ucap, hvu, huc, hum, hub⟩
  · simp only at h0; omega
  simp only at hvu huc
  clear hun
  unfold maxLen at hpm hum
  have c5 : w.cell? ⟨Y.b, 5, none⟩ = some (.slice (some ⟨pb, 0, none⟩) Y.pls.length pcap) := by rw [← hvp]; exact hr.cellTop rfl
  obtain ⟨m0, m1, _, _⟩ := hr.plCell hq hvp
  rw [hvu] at m1
  obtain ⟨d0, d1, d2, d3, d4, d5, d6⟩ := (hr.eachAt hq).uCell hu hvu
  have fu := (hr.eachAt hq).uFrozen hvu
  have f5 := fu (k * 7 + 5)
  have f6 := fu (k * 7 + 6)
  clear fu
  have T1 : Hid (Turn w Y ((w.setCell ⟨ub, k * 7 + 5, none⟩ (.string ⟨#[]⟩)).setCell ⟨ub, k * 7 + 6, none⟩ (.string ⟨#[]⟩)) (Y.setQ n ({ p with units := p.units.set k { u with what := emptyB, arg := emptyB } }, v))) := by
    unfold Hid
    have t1 := (Turn.refl hr).unit1 hq hu hvu 5 { u with what := emptyB } (.string ⟨#[]⟩) (by omega) rfl
    have t2 := t1.unit1 (setQ_at hq) (set_at hu) (by simpa using hvu) 6 { u with what := emptyB, arg := emptyB } (.string ⟨#[]⟩) (by omega) rfl
    rw [setQ_setQ] at t2
    simpa using t2
  have hfull : Full (Y.setQ n ({ p with units := p.units.set k { u with what := emptyB, arg := emptyB } }, v)) := hf.full.setQ hq (by simp)
  obtain ⟨ux0, ux1, uy0, uy1⟩ := hf.ux _ hmem _ humem
  obtain ⟨uh0, uh1⟩ := hf.uh _ hmem _ humem
  obtain ⟨uc0, uc1⟩ := hf.uc _ hmem _ humem
  obtain ⟨mo0, mo1⟩ := hf.mo _ hmem
  have hwd := hf.wd
  have hht := hf.ht
  have HS : Hid _ := doesS_at hq hu
  have HQ : Hid (Y.pls[n]? = some (p, v)) := hq
  have HU : Hid (p.units[k]? = some u) := hu
  have HVP : Hid (Y.vPl = .slice (some ⟨pb, 0, none⟩) Y.pls.length pcap) := hvp
  have HVU : Hid (v.u = .slice (some ⟨ub, 0, none⟩) p.units.length ucap) := hvu
  clear hq hu hvp hvu
  go_enter Tryz.func98, Tryz.ntmps98
  go_wp2_with fail
  refine (ahead_any _ (Y.setQ n ({ p with units := p.units.set k { u with what := emptyB, arg := emptyB } }, v)) _ _ _ _ _ _ _ T1.out.rep hfull (by omega) (by omega) (by omega) (by show 0 ≤ Y.width ∧ Y.width ≤ 100; omega) (by show 0 ≤ Y.height ∧ Y.height ≤ 100; omega)).mono ?_
  rintro e w3 ⟨rfl, hb3⟩
  have T3 : Hid (Turn w Y w3 (Y.setQ n ({ p with units := p.units.set k { u with what := emptyB, arg := emptyB } }, v))) := T1.out.below hb3
  obtain ⟨Y1, hY1⟩ : ∃ Y1, Y1 = Y.setQ n ({ p with units := p.units.set k { u with what := emptyB, arg := emptyB } }, v) := ⟨_, rfl⟩
  rw [← hY1] at T3
  clear hb3 T1 d0 d1 d2 d3 d4 d5 d6 m0 m1 c5 f5 f6 hfull
  have hq1 : Y1.pls[n]? = some ({ p with units := p.units.set k { u with what := emptyB, arg := emptyB } }, v) := by rw [hY1]; exact setQ_at HQ.out
  have hu1 : (p.units.set k { u with what := emptyB, arg := emptyB })[k]? = some { u with what := emptyB, arg := emptyB } := set_at HU.out
  have hvp1 : Y1.vPl = .slice (some ⟨pb, 0, none⟩) Y1.pls.length pcap := by rw [hY1]; simpa [YW.setQ] using HVP.out
  have hvu1 : v.u = .slice (some ⟨ub, 0, none⟩) (p.units.set k { u with what := emptyB, arg := emptyB }).length ucap := by simpa using HVU.out
  have hS1 : Y1.S = Y.S.setPl n { p with units := p.units.set k { u with what := emptyB, arg := emptyB } } := by rw [hY1, S_setQ]
  have HS1 : Hid (doesS Y.S n k = actS Y1.S n k { p with units := p.units.set k { u with what := emptyB, arg := emptyB } } { u with what := emptyB, arg := emptyB } u.what u.arg) := by unfold Hid; rw [hS1]; exact HS.out
  have hfree : freeB (Y.setQ n ({ p with units := p.units.set k { u with what := emptyB, arg := emptyB } }, v)) = fun x y => freeS Y1.S x y := by rw [hY1]; rfl
  rw [hfree]
  obtain ⟨m0, m1, m2, _⟩ := T3.out.rep.plCell hq1 hvp1
  have m1r : Hid (w3.cell? ⟨pb, n * 4 + 1, none⟩ = some v.u) := m1
  rw [HVU.out] at m1
  obtain ⟨d0, d1, d2, d3, d4, d5, d6⟩ := (T3.out.rep.eachAt hq1).uCell hu1 hvu1
  simp only at m0 d0 d1 d2 d3 d4 d5 d6
  have fu := (T3.out.rep.eachAt hq1).uFrozen hvu1
  have fp := T3.out.rep.plFrozen hvp1
  have HQ1 : Hid _ := hq1
  have HU1 : Hid _ := hu1
  have HVP1 : Hid _ := hvp1
  have HVU1 : Hid _ := hvu1
  have HO : Hid (Y1.ore = Y.ore) := by unfold Hid; rw [hY1]; rfl
  clear hq1 hu1 hvp1 hvu1 hS1 hfree hY1 HS
  have hne := T3.out.rep.apart HQ1.out HVP1.out HVU1.out
  have hne' : pb ≠ ub := fun e => hne e.symm
  have hcall : Hid (Calls Tryz.prog 97 #[.pointer (some ⟨pb, n * 4, none⟩), .string u.arg] w3 fun e w' => e = .returned (.int .i64 (unitIx (p.units.set k { u with what := emptyB, arg := emptyB }) u.arg)) ∧ w' = w3) :=
    unit_any pb (n * 4) (p.units.set k { u with what := emptyB, arg := emptyB }) v.u u.arg w3 m1r.out (T3.out.rep.eachAt HQ1.out).units
  by_cases hx : unitIx (p.units.set k { u with what := emptyB, arg := emptyB }) u.arg < 0
  · have HX : Hid _ := hx
    go_wp2_with fail
    refine hcall.out.mono ?_
    rintro e w' ⟨rfl, rfl⟩
    go_wp2
    go_end0
    exact ⟨rfl, _, T3.out.unit1 HQ1.out HU1.out HVU1.out 0 { u with name := u.arg, what := emptyB, arg := emptyB } _ (by omega) rfl, by rw [S_setQ]; exact (HS1.out.trans (actS_call _ _ _ _ _ _ _ h0 h1 h2 h3 h4 h5 h6 HX.out)).symm⟩
  · have HX : Hid _ := hx
    go_wp2_with fail
    refine hcall.out.mono ?_
    rintro e w' ⟨rfl, rfl⟩
    go_wp2
    go_end0
    exact ⟨rfl, _, T3.out, (HS1.out.trans (actS_call_no _ _ _ _ _ _ _ h0 h1 h2 h3 h4 h5 h6 HX.out)).symm⟩
end Go.Proofs.YtlafddeoheambaaGreatDoor
