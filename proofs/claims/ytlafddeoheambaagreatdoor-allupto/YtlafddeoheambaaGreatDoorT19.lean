/-
  The function Order of package hazeref, where no lot is open: a text of two words.
-/
import Derived.Test.YtlafddeoheambaaGreatDoorT07
import Derived.Deep.QuietTactic
import Derived.BigQuiet
set_option linter.unusedVariables false
namespace Go.Proofs.YtlafddeoheambaaGreatDoor
open Go.RowKit
attribute [local go_sem] Go.wp_at_zero Go.wp_at_succ
set_option maxRecDepth 100000 in
set_option maxHeartbeats 4000000 in
theorem rorder_two (w : World) (Y : YW) (M : Int) (k : Nat) (p : SPlayer) (v : PV) (text : ByteArray) (hr : RepY w Y) (hf : WFS Y.S M) (hs : text.size ≤ 2000000) (hq : Y.pls[k]? = some (p, v)) (a b : List UInt8) (hws : splitB text.data.toList = [a, b]) :
    Calls Tryz.prog 52 #[.pointer (some ⟨Y.b, 0, none⟩), .int .i64 k, .string text] w fun e w' => e = .returned (.int .i64 (wordsS Y.S k p (splitB text.data.toList)).1) ∧ ∃ Y', Turn w Y w' Y' ∧ Y'.S = (wordsS Y.S k p (splitB text.data.toList)).2 := by
  obtain ⟨hn, he⟩ := at_some hq
  have hmem : (p, v) ∈ Y.pls := by rw [← he]; exact List.getElem_mem hn
  clear he
  have hw := WF.of hf
  rcases own_form hr.pl with ⟨_, h0, _⟩ | ⟨pb, pcap, hvp, hpc, hpm, hpb⟩
  · omega
  unfold maxLen at hpm
  have c5 : w.cell? ⟨Y.b, 5, none⟩ = some (.slice (some ⟨pb, 0, none⟩) Y.pls.length pcap) := by rw [← hvp]; exact hr.cellTop rfl
  have hi : inB (k : Int) 0 ((Y.pls.length : Int) - 1) = true := by rw [inB_pl]; simp; omega
  have h4 := hw.pl
  have HW := hidOf (words_any text w hs)
  rw [hws] at HW
  rw [hws]
  have hsz : ∀ x ∈ splitB text.data.toList, x.length ≤ 2000000 := by
    intro x hx
    have h1 := splitB_sizes _ x hx
    have h2 : text.data.toList.length = text.size := by simp
    omega
  rw [hws] at hsz
  have HQ := hidOf hq
  have HVP := hidOf hvp
  clear hq hvp hws
  go_enter Tryz.func52, Tryz.ntmps52
  go_wp2_with fail
  refine (within_any _ _ _ _).mono ?_
  rintro e w' ⟨rfl, h⟩
  rw [h]
  clear h w'
  go_wp2_with fail
  refine HW.out.mono ?_
  rintro e w1 ⟨g, cap, rfl, hb, hown⟩
  have T1 := hidOf ((Turn.refl hr).below hb)
  have e0 : w1.cell? ⟨g, 0, none⟩ = some (.string (bytesOf a)) := own_cell' hown rfl
  have s0 : (bytesOf a).size ≤ maxLen := by rw [bytesOf_size]; have := hsz a (by simp); unfold maxLen; omega
  have e1 : w1.cell? ⟨g, 1, none⟩ = some (.string (bytesOf b)) := own_cell' hown rfl
  cases ha : nameB a
  · have HR : Hid (wordsS Y.S k p [a, b] = (2, Y.S)) := by unfold Hid wordsS; simp [ha]
    go_wp2_with fail
    refine (name_any (bytesOf a) _ s0).mono ?_
    rintro e w' ⟨rfl, h⟩
    rw [h, bytesOf_toList, ha]
    clear h w'
    go_wp2
    go_ret
    exact ⟨ret_int (by rw [HR.out]), Y, T1.out, by rw [HR.out]⟩
  · have hg1 : g < w1.heap.size := by
      rcases own_form (own_any hown) with ⟨h, _⟩ | ⟨g', c', e', _, _, hlt⟩
      · cases h
      · injection e' with e'; injection e' with e'; injection e' with e'; omega
    have e1' : ∀ o, (w1.alloc o).cell? ⟨g, 1, none⟩ = some (.string (bytesOf b)) := fun o => by rw [World.cell?_alloc_past _ _ _ hg1]; exact e1
    have HA : Hid (∀ wx : World, wx.heap = w1.heap.push (.cells #[.string ⟨#[103, 111]⟩, .string ⟨#[108, 101, 102, 116]⟩, .string ⟨#[114, 105, 103, 104, 116]⟩, .string ⟨#[98, 97, 99, 107]⟩, .string ⟨#[100, 105, 103]⟩, .string ⟨#[115, 101, 108, 108]⟩] 9) →
        Calls Tryz.prog 96 #[.slice (some ⟨w1.heap.size, 0, none⟩) 6 6, .string (bytesOf b)] wx fun e w' => e = .returned (.bool (plainB b)) ∧ w' = wx) := by
      intro wx hx
      refine among_any _ (plainW.map bytesOf) (bytesOf b) wx ⟨rfl, .inr ⟨w1.heap.size, 6, #[.string ⟨#[103, 111]⟩, .string ⟨#[108, 101, 102, 116]⟩, .string ⟨#[114, 105, 103, 104, 116]⟩, .string ⟨#[98, 97, 99, 107]⟩, .string ⟨#[100, 105, 103]⟩, .string ⟨#[115, 101, 108, 108]⟩], rfl, Nat.zero_le _, ?_, Nat.le_refl _, by unfold maxLen; simp, rfl, rfl⟩⟩
      rw [hx]
      exact Go.heap_alloc_new w1 _
    go_wp2_with fail
    refine (name_any (bytesOf a) _ s0).mono ?_
    rintro e w' ⟨rfl, h⟩
    rw [h, bytesOf_toList, ha]
    clear h w'
    go_wp2_with fail
    refine (HA.out _ rfl).mono ?_
    rintro e w' ⟨rfl, h⟩
    rw [h]
    clear h w'
    have T2 : Hid (∀ o, Turn w Y (w1.alloc o) Y) := fun o => T1.out.below ((Below.refl _ _).alloc (Nat.le_refl _) _)
    obtain ⟨w2, hw2⟩ : ∃ w2, w2 = w1.alloc (.cells #[.string ⟨#[103, 111]⟩, .string ⟨#[108, 101, 102, 116]⟩, .string ⟨#[114, 105, 103, 104, 116]⟩, .string ⟨#[98, 97, 99, 107]⟩, .string ⟨#[100, 105, 103]⟩, .string ⟨#[115, 101, 108, 108]⟩] 9) := ⟨_, rfl⟩
    rw [← hw2]
    have T3 : Hid (Turn w Y w2 Y) := by rw [hw2]; exact T2.out _
    have f1 : w2.cell? ⟨g, 1, none⟩ = some (.string (bytesOf b)) := by rw [hw2]; exact e1' _
    have f0 : w2.cell? ⟨g, 0, none⟩ = some (.string (bytesOf a)) := by rw [hw2, World.cell?_alloc_past _ _ _ hg1]; exact e0
    clear T2 hw2 e1 e1' e0 HA hown c5 HW hb
    cases hp : plainB b
    · have HR : Hid (wordsS Y.S k p [a, b] = (2, Y.S)) := by unfold Hid wordsS; simp [hp]
      go_wp2
      go_ret
      exact ⟨ret_int (by rw [HR.out]), Y, T3.out, by rw [HR.out]⟩
    · have HR : Hid (wordsS Y.S k p [a, b] = tellS Y.S k p a b []) := by unfold Hid wordsS; simp [ha, hp]
      have HU : Hid (Calls Tryz.prog 97 #[.pointer (some ⟨pb, k * 4, none⟩), .string (bytesOf a)] w2 fun e w' => e = .returned (.int .i64 (unitIx p.units (bytesOf a))) ∧ w' = w2) :=
        unit_any pb (k * 4) p.units v.u (bytesOf a) w2 (T3.out.rep.plCell HQ.out HVP.out).2.1 (T3.out.rep.eachAt HQ.out).units
      by_cases hx : unitIx p.units (bytesOf a) < 0
      · have HT : Hid (wordsS Y.S k p [a, b] = (3, Y.S)) := by unfold Hid; rw [HR.out]; unfold tellS; rw [if_pos hx]
        go_wp2_with fail
        refine HU.out.mono ?_
        rintro e w' ⟨rfl, h⟩
        rw [h]
        clear h w'
        go_wp2
        go_ret
        exact ⟨ret_int (by rw [HT.out]), Y, T3.out, by rw [HT.out]⟩
      · obtain ⟨i, hi2, hil⟩ := ixOf_at _ _ hx
        have hu : p.units[i]? = some p.units[i] := by simp [hil]
        obtain ⟨u, hu'⟩ : ∃ u, p.units[i]? = some u := ⟨_, hu⟩
        clear hu
        rcases own_form (T3.out.rep.eachAt HQ.out).units with ⟨_, h0, _⟩ | ⟨ub, ucap, hvu, huc, hum, hub⟩
        · simp only at h0; omega
        simp only at hvu huc
        unfold maxLen at hum
        have m1 := (T3.out.rep.plCell HQ.out HVP.out).2.1
        rw [hvu] at m1
        obtain ⟨_, _, _, _, _, d5, d6⟩ := (T3.out.rep.eachAt HQ.out).uCell hu' hvu
        have fu := (T3.out.rep.eachAt HQ.out).uFrozen hvu
        have z5 := fu (i * 7 + 5)
        have z6 := fu (i * 7 + 6)
        clear fu
        have TE := hidOf (T3.out.unit2 HQ.out hu' hvu 5 6 { u with what := bytesOf b } { u with what := bytesOf b, arg := bytesOf [] } (.string (bytesOf b)) (.string ⟨#[]⟩) (by omega) (by omega) rfl rfl)
        have HT : Hid (wordsS Y.S k p [a, b] = (0, Y.S.setPl k { p with units := p.units.set i { u with what := bytesOf b, arg := bytesOf [] } })) := by
          unfold Hid
          rw [HR.out]
          unfold tellS
          have e2 : (unitIx p.units (bytesOf a)).toNat = i := by unfold unitIx; rw [hi2]; simp
          rw [if_neg hx, e2, hu']
        have hne := T3.out.rep.apart HQ.out HVP.out hvu
        have hne' : pb ≠ ub := fun e => hne e.symm
        have HU2 := hidOf hu'
        have hix : Hid (unitIx p.units (bytesOf a) = i) := hi2
        clear hu' hvu hx hi2
        go_wp2_with fail
        refine HU.out.mono ?_
        rintro e w' ⟨rfl, h⟩
        rw [h, hix.out]
        clear h w'
        go_wp2
        go_region
        go_wp2
        go_ret
        exact ⟨ret_int (by rw [HT.out]), _, TE.out.drew, by rw [S_setQ, HT.out]⟩
end Go.Proofs.YtlafddeoheambaaGreatDoor

/-
  The function Order of package hazeref, where no lot is open: a text of three words.
-/
namespace Go.Proofs.YtlafddeoheambaaGreatDoor
open Go.RowKit
attribute [local go_sem] Go.wp_at_zero Go.wp_at_succ
set_option maxRecDepth 100000 in
set_option maxHeartbeats 4000000 in
theorem rorder_three (w : World) (Y : YW) (M : Int) (k : Nat) (p : SPlayer) (v : PV) (text : ByteArray) (hr : RepY w Y) (hf : WFS Y.S M) (hs : text.size ≤ 2000000) (hq : Y.pls[k]? = some (p, v)) (a b c : List UInt8) (hws : splitB text.data.toList = [a, b, c]) (hbid : (a == bidW) = false) :
    Calls Tryz.prog 52 #[.pointer (some ⟨Y.b, 0, none⟩), .int .i64 k, .string text] w fun e w' => e = .returned (.int .i64 (wordsS Y.S k p (splitB text.data.toList)).1) ∧ ∃ Y', Turn w Y w' Y' ∧ Y'.S = (wordsS Y.S k p (splitB text.data.toList)).2 := by
  obtain ⟨hn, he⟩ := at_some hq
  have hmem : (p, v) ∈ Y.pls := by rw [← he]; exact List.getElem_mem hn
  clear he
  have hw := WF.of hf
  rcases own_form hr.pl with ⟨_, h0, _⟩ | ⟨pb, pcap, hvp, hpc, hpm, hpb⟩
  · omega
  unfold maxLen at hpm
  have c5 : w.cell? ⟨Y.b, 5, none⟩ = some (.slice (some ⟨pb, 0, none⟩) Y.pls.length pcap) := by rw [← hvp]; exact hr.cellTop rfl
  have hi : inB (k : Int) 0 ((Y.pls.length : Int) - 1) = true := by rw [inB_pl]; simp; omega
  have h4 := hw.pl
  have HW := hidOf (words_any text w hs)
  rw [hws] at HW
  rw [hws]
  have hsz : ∀ x ∈ splitB text.data.toList, x.length ≤ 2000000 := by
    intro x hx
    have h1 := splitB_sizes _ x hx
    have h2 : text.data.toList.length = text.size := by simp
    omega
  rw [hws] at hsz
  have HQ := hidOf hq
  have HVP := hidOf hvp
  clear hq hvp hws
  go_enter Tryz.func52, Tryz.ntmps52
  go_wp2_with fail
  refine (within_any _ _ _ _).mono ?_
  rintro e w' ⟨rfl, h⟩
  rw [h]
  clear h w'
  go_wp2_with fail
  refine HW.out.mono ?_
  rintro e w1 ⟨g, cap, rfl, hb, hown⟩
  have T1 := hidOf ((Turn.refl hr).below hb)
  have e0 : w1.cell? ⟨g, 0, none⟩ = some (.string (bytesOf a)) := own_cell' hown rfl
  have s0 : (bytesOf a).size ≤ maxLen := by rw [bytesOf_size]; have := hsz a (by simp); unfold maxLen; omega
  have e1 : w1.cell? ⟨g, 1, none⟩ = some (.string (bytesOf b)) := own_cell' hown rfl
  have e2 : w1.cell? ⟨g, 2, none⟩ = some (.string (bytesOf c)) := own_cell' hown rfl
  have nb : ((bytesOf a).toList == [98, 105, 100]) = false := by rw [Lib.toList_data, bytesOf_toList]; exact hbid
  cases ha : nameB a
  · have HR : Hid (wordsS Y.S k p [a, b, c] = (2, Y.S)) := by unfold Hid wordsS; simp [hbid, ha]
    go_wp2_with fail
    refine (name_any (bytesOf a) _ s0).mono ?_
    rintro e w' ⟨rfl, h⟩
    rw [h, bytesOf_toList, ha]
    clear h w'
    go_wp2
    go_ret
    exact ⟨ret_int (by rw [HR.out]), Y, T1.out, by rw [HR.out]⟩
  · have hg1 : g < w1.heap.size := by
      rcases own_form (own_any hown) with ⟨h, _⟩ | ⟨g', c', e', _, _, hlt⟩
      · cases h
      · injection e' with e'; injection e' with e'; injection e' with e'; omega
    have e1' : ∀ o, (w1.alloc o).cell? ⟨g, 1, none⟩ = some (.string (bytesOf b)) := fun o => by rw [World.cell?_alloc_past _ _ _ hg1]; exact e1
    have e2' : ∀ o, (w1.alloc o).cell? ⟨g, 2, none⟩ = some (.string (bytesOf c)) := fun o => by rw [World.cell?_alloc_past _ _ _ hg1]; exact e2
    have s2 : (bytesOf c).size ≤ maxLen := by rw [bytesOf_size]; have := hsz c (by simp); unfold maxLen; omega
    have HA : Hid (∀ wx : World, wx.heap = w1.heap.push (.cells #[.string ⟨#[103, 111]⟩, .string ⟨#[108, 101, 102, 116]⟩, .string ⟨#[114, 105, 103, 104, 116]⟩, .string ⟨#[98, 97, 99, 107]⟩, .string ⟨#[100, 105, 103]⟩, .string ⟨#[115, 101, 108, 108]⟩] 9) →
        Calls Tryz.prog 96 #[.slice (some ⟨w1.heap.size, 0, none⟩) 6 6, .string (bytesOf b)] wx fun e w' => e = .returned (.bool (plainB b)) ∧ w' = wx) := by
      intro wx hx
      refine among_any _ (plainW.map bytesOf) (bytesOf b) wx ⟨rfl, .inr ⟨w1.heap.size, 6, #[.string ⟨#[103, 111]⟩, .string ⟨#[108, 101, 102, 116]⟩, .string ⟨#[114, 105, 103, 104, 116]⟩, .string ⟨#[98, 97, 99, 107]⟩, .string ⟨#[100, 105, 103]⟩, .string ⟨#[115, 101, 108, 108]⟩], rfl, Nat.zero_le _, ?_, Nat.le_refl _, by unfold maxLen; simp, rfl, rfl⟩⟩
      rw [hx]
      exact Go.heap_alloc_new w1 _
    go_wp2_with fail
    refine (name_any (bytesOf a) _ s0).mono ?_
    rintro e w' ⟨rfl, h⟩
    rw [h, bytesOf_toList, ha]
    clear h w'
    go_wp2_with fail
    refine (HA.out _ rfl).mono ?_
    rintro e w' ⟨rfl, h⟩
    rw [h]
    clear h w'
    have T2 : Hid (∀ o, Turn w Y (w1.alloc o) Y) := fun o => T1.out.below ((Below.refl _ _).alloc (Nat.le_refl _) _)
    obtain ⟨w2, hw2⟩ : ∃ w2, w2 = w1.alloc (.cells #[.string ⟨#[103, 111]⟩, .string ⟨#[108, 101, 102, 116]⟩, .string ⟨#[114, 105, 103, 104, 116]⟩, .string ⟨#[98, 97, 99, 107]⟩, .string ⟨#[100, 105, 103]⟩, .string ⟨#[115, 101, 108, 108]⟩] 9) := ⟨_, rfl⟩
    rw [← hw2]
    have T3 : Hid (Turn w Y w2 Y) := by rw [hw2]; exact T2.out _
    have f1 : w2.cell? ⟨g, 1, none⟩ = some (.string (bytesOf b)) := by rw [hw2]; exact e1' _
    have f2 : w2.cell? ⟨g, 2, none⟩ = some (.string (bytesOf c)) := by rw [hw2]; exact e2' _
    have f0 : w2.cell? ⟨g, 0, none⟩ = some (.string (bytesOf a)) := by rw [hw2, World.cell?_alloc_past _ _ _ hg1]; exact e0
    clear T2 hw2 e1 e1' e2 e2' e0 HA hown c5 HW hb
    cases hcn : nameB c
    · have HR : Hid (wordsS Y.S k p [a, b, c] = (2, Y.S)) := by unfold Hid wordsS; simp [hbid, hcn]
      cases hpl : plainB b
      all_goals
        go_wp2_with fail
        refine (name_any (bytesOf c) _ s2).mono ?_
        rintro e w' ⟨rfl, h⟩
        rw [h, bytesOf_toList, hcn]
        clear h w'
        go_wp2
        go_ret
        exact ⟨ret_int (by rw [HR.out]), Y, T3.out, by rw [HR.out]⟩
    · cases hnm : namingB b
      · have HR : Hid (wordsS Y.S k p [a, b, c] = (2, Y.S)) := by unfold Hid wordsS; simp [hbid, hnm]
        have n1 : ((bytesOf b).toList == [98, 117, 105, 108, 100]) = false := by rw [Lib.toList_data, bytesOf_toList]; simp [namingB] at hnm; simpa using hnm.1
        have n2 : ((bytesOf b).toList == [99, 97, 108, 108]) = false := by rw [Lib.toList_data, bytesOf_toList]; simp [namingB] at hnm; simpa using hnm.2
        cases hpl : plainB b
        all_goals
          go_wp2_with fail
          refine (name_any (bytesOf c) _ s2).mono ?_
          rintro e w' ⟨rfl, h⟩
          rw [h, bytesOf_toList, hcn]
          clear h w'
          go_wp2
          go_ret
          exact ⟨ret_int (by rw [HR.out]), Y, T3.out, by rw [HR.out]⟩
      · have HR : Hid (wordsS Y.S k p [a, b, c] = tellS Y.S k p a b c) := by unfold Hid wordsS; simp [hbid, ha, hcn, hnm]
        have HU : Hid (Calls Tryz.prog 97 #[.pointer (some ⟨pb, k * 4, none⟩), .string (bytesOf a)] w2 fun e w' => e = .returned (.int .i64 (unitIx p.units (bytesOf a))) ∧ w' = w2) :=
          unit_any pb (k * 4) p.units v.u (bytesOf a) w2 (T3.out.rep.plCell HQ.out HVP.out).2.1 (T3.out.rep.eachAt HQ.out).units
        have n12 : ((bytesOf b).toList == [98, 117, 105, 108, 100]) = true ∨ (((bytesOf b).toList == [98, 117, 105, 108, 100]) = false ∧ ((bytesOf b).toList == [99, 97, 108, 108]) = true) := by
          rw [Lib.toList_data, bytesOf_toList]
          cases h1 : (b == [98, 117, 105, 108, 100])
          · right; simp [namingB, h1] at hnm; exact ⟨rfl, by simpa using hnm⟩
          · exact .inl rfl
        by_cases hx : unitIx p.units (bytesOf a) < 0
        · have HT : Hid (wordsS Y.S k p [a, b, c] = (3, Y.S)) := by unfold Hid; rw [HR.out]; unfold tellS; rw [if_pos hx]
          cases hpl : plainB b
          all_goals
            rcases n12 with n1 | ⟨n1, n2⟩
            all_goals
              go_wp2_with fail
              refine (name_any (bytesOf c) _ s2).mono ?_
              rintro e w' ⟨rfl, h⟩
              rw [h, bytesOf_toList, hcn]
              clear h w'
              go_wp2_with fail
              refine HU.out.mono ?_
              rintro e w' ⟨rfl, h⟩
              rw [h]
              clear h w'
              go_wp2
              go_ret
              exact ⟨ret_int (by rw [HT.out]), Y, T3.out, by rw [HT.out]⟩
        · obtain ⟨i, hi2, hil⟩ := ixOf_at _ _ hx
          have hu : p.units[i]? = some p.units[i] := by simp [hil]
          obtain ⟨u, hu'⟩ : ∃ u, p.units[i]? = some u := ⟨_, hu⟩
          clear hu
          rcases own_form (T3.out.rep.eachAt HQ.out).units with ⟨_, h0, _⟩ | ⟨ub, ucap, hvu, huc, hum, hub⟩
          · simp only at h0; omega
          simp only at hvu huc
          unfold maxLen at hum
          have m1 := (T3.out.rep.plCell HQ.out HVP.out).2.1
          rw [hvu] at m1
          obtain ⟨_, _, _, _, _, d5, d6⟩ := (T3.out.rep.eachAt HQ.out).uCell hu' hvu
          have fu := (T3.out.rep.eachAt HQ.out).uFrozen hvu
          have z5 := fu (i * 7 + 5)
          have z6 := fu (i * 7 + 6)
          clear fu
          have TE := hidOf (T3.out.unit2 HQ.out hu' hvu 5 6 { u with what := bytesOf b } { u with what := bytesOf b, arg := bytesOf c } (.string (bytesOf b)) (.string (bytesOf c)) (by omega) (by omega) rfl rfl)
          have HT : Hid (wordsS Y.S k p [a, b, c] = (0, Y.S.setPl k { p with units := p.units.set i { u with what := bytesOf b, arg := bytesOf c } })) := by
            unfold Hid
            rw [HR.out]
            unfold tellS
            have e2 : (unitIx p.units (bytesOf a)).toNat = i := by unfold unitIx; rw [hi2]; simp
            rw [if_neg hx, e2, hu']
          have hne := T3.out.rep.apart HQ.out HVP.out hvu
          have hne' : pb ≠ ub := fun e => hne e.symm
          have hix : Hid (unitIx p.units (bytesOf a) = i) := hi2
          clear hu' hvu hx hi2
          cases hpl : plainB b
          all_goals
            rcases n12 with n1 | ⟨n1, n2⟩
            all_goals
              go_wp2_with fail
              refine (name_any (bytesOf c) _ s2).mono ?_
              rintro e w' ⟨rfl, h⟩
              rw [h, bytesOf_toList, hcn]
              clear h w'
              go_wp2_with fail
              refine HU.out.mono ?_
              rintro e w' ⟨rfl, h⟩
              rw [h, hix.out]
              clear h w'
              go_wp2
              go_region
              go_wp2
              go_ret
              exact ⟨ret_int (by rw [HT.out]), _, TE.out.drew, by rw [S_setQ, HT.out]⟩
end Go.Proofs.YtlafddeoheambaaGreatDoor
