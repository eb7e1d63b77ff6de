/-
  The function Order of package hazeref, where no lot is open: a text of three words, the first one bid.
-/
import Derived.Test.YtlafddeoheambaaGreatDoorT07
import Derived.Deep.QuietTactic
import Derived.BigQuiet
import Derived.Test.YtlafddeoheambaaGreatDoorT18
import Derived.Test.YtlafddeoheambaaGreatDoorT19
set_option linter.unusedVariables false
namespace Go.Proofs.YtlafddeoheambaaGreatDoor
open Go.RowKit
attribute [local go_sem] Go.wp_at_zero Go.wp_at_succ
theorem wordsS_nobid {s : SWorld} {n : Nat} {p : SPlayer} {a b c : List UInt8} (h : (a == bidW && nameB b && decide (0 ≤ numberI c)) = false) : wordsS s n p [a, b, c] = if nameB a && nameB c && namingB b then tellS s n p a b c else (2, s) := by
  simp only [wordsS, h]
  rfl
set_option maxRecDepth 100000 in
set_option maxHeartbeats 4000000 in
theorem rorder_bid (w : World) (Y : YW) (M : Int) (k : Nat) (p : SPlayer) (v : PV) (text : ByteArray) (b c : List UInt8) (hr : RepY w Y) (hf : WFS Y.S M) (hl : Y.lots = [] ∨ ¬ (nameB b = true ∧ 0 ≤ numberI c)) (hs : text.size ≤ 2000000) (hq : Y.pls[k]? = some (p, v)) (hws : splitB text.data.toList = [bidW, b, c]) :
    Calls Tryz.prog 52 #[.pointer (some ⟨Y.b, 0, none⟩), .int .i64 k, .string text] w fun e w' => e = .returned (.int .i64 (wordsS Y.S k p (splitB text.data.toList)).1) ∧ ∃ Y', Turn w Y w' Y' ∧ Y'.S = (wordsS Y.S k p (splitB text.data.toList)).2 := by
  have HLo := hidOf hl
  clear hl
  obtain ⟨hn, he⟩ := at_some hq
  have hmem : (p, v) ∈ Y.pls := by rw [← he]; exact List.getElem_mem hn
  clear he
  have hw := WF.of hf
  rcases own_form hr.pl with ⟨_, h0, _⟩ | ⟨pb, pcap, hvp, hpc, hpm, hpb⟩
  · omega
  unfold maxLen at hpm
  have c5 : w.cell? ⟨Y.b, 5, none⟩ = some (.slice (some ⟨pb, 0, none⟩) Y.pls.length pcap) := by rw [← hvp]; exact hr.cellTop rfl
  have hi : inB (k : Int) 0 ((Y.pls.length : Int) - 1) = true := by rw [inB_pl]; simp; omega
  have h4 := hw.pl
  have HW := hidOf (words_any text w hs)
  rw [hws] at HW
  rw [hws]
  have hsz : ∀ x ∈ splitB text.data.toList, x.length ≤ 2000000 := by
    intro x hx
    have h1 := splitB_sizes _ x hx
    have h2 : text.data.toList.length = text.size := by simp
    omega
  rw [hws] at hsz
  have HQ := hidOf hq
  have HVP := hidOf hvp
  clear hq hvp hws
  go_enter Tryz.func52, Tryz.ntmps52
  go_wp2_with fail
  refine (within_any _ _ _ _).mono ?_
  rintro e w' ⟨rfl, h⟩
  rw [h]
  clear h w'
  go_wp2_with fail
  refine HW.out.mono ?_
  rintro e w1 ⟨g, cap, rfl, hb, hown⟩
  have T1 := hidOf ((Turn.refl hr).below hb)
  have e0 : w1.cell? ⟨g, 0, none⟩ = some (.string (bytesOf bidW)) := own_cell' hown rfl
  have s0 : (bytesOf bidW).size ≤ maxLen := by rw [bytesOf_size]; have := hsz bidW (by simp); unfold maxLen; omega
  have e1 : w1.cell? ⟨g, 1, none⟩ = some (.string (bytesOf b)) := own_cell' hown rfl
  have e2 : w1.cell? ⟨g, 2, none⟩ = some (.string (bytesOf c)) := own_cell' hown rfl
  have nb : ((bytesOf bidW).toList == [98, 105, 100]) = true := by rw [Lib.toList_data, bytesOf_toList]; rfl
  have ha : nameB bidW = true := by decide
  have s1 : (bytesOf b).size ≤ maxLen := by rw [bytesOf_size]; have := hsz b (by simp); unfold maxLen; omega
  have hg1 : g < w1.heap.size := by
    rcases own_form (own_any hown) with ⟨h, _⟩ | ⟨g', c', e', _, _, hlt⟩
    · cases h
    · injection e' with e'; injection e' with e'; injection e' with e'; omega
  have e1' : ∀ o, (w1.alloc o).cell? ⟨g, 1, none⟩ = some (.string (bytesOf b)) := fun o => by rw [World.cell?_alloc_past _ _ _ hg1]; exact e1
  have e2' : ∀ o, (w1.alloc o).cell? ⟨g, 2, none⟩ = some (.string (bytesOf c)) := fun o => by rw [World.cell?_alloc_past _ _ _ hg1]; exact e2
  have s2 : (bytesOf c).size ≤ maxLen := by rw [bytesOf_size]; have := hsz c (by simp); unfold maxLen; omega
  have HA : Hid (∀ wx : World, wx.heap = w1.heap.push (.cells #[.string ⟨#[103, 111]⟩, .string ⟨#[108, 101, 102, 116]⟩, .string ⟨#[114, 105, 103, 104, 116]⟩, .string ⟨#[98, 97, 99, 107]⟩, .string ⟨#[100, 105, 103]⟩, .string ⟨#[115, 101, 108, 108]⟩] 9) →
      Calls Tryz.prog 96 #[.slice (some ⟨w1.heap.size, 0, none⟩) 6 6, .string (bytesOf b)] wx fun e w' => e = .returned (.bool (plainB b)) ∧ w' = wx) := by
    intro wx hx
    refine among_any _ (plainW.map bytesOf) (bytesOf b) wx ⟨rfl, .inr ⟨w1.heap.size, 6, #[.string ⟨#[103, 111]⟩, .string ⟨#[108, 101, 102, 116]⟩, .string ⟨#[114, 105, 103, 104, 116]⟩, .string ⟨#[98, 97, 99, 107]⟩, .string ⟨#[100, 105, 103]⟩, .string ⟨#[115, 101, 108, 108]⟩], rfl, Nat.zero_le _, ?_, Nat.le_refl _, by unfold maxLen; simp, rfl, rfl⟩⟩
    rw [hx]
    exact Go.heap_alloc_new w1 _
  by_cases hbb : nameB b = true ∧ 0 ≤ numberI c
  · have hl : Y.lots = [] := HLo.out.resolve_right (fun h => h hbb)
    have HR : Hid (wordsS Y.S k p [bidW, b, c] = (3, Y.S)) := by unfold Hid wordsS; simp [hbb.1, hbb.2, bidS_nil (s := Y.S) hl]
    obtain ⟨hb1, hb2⟩ := hbb
    obtain ⟨al, gl, lc, hvl, _, _, _⟩ := own_rd T1.out.rep.lots
    have HL := hidOf (open_any Y.b Y.lots Y.vLots (bytesOf b) w1 (T1.out.rep.cellTop rfl) T1.out.rep.lots)
    rw [hl] at HL
    clear hvl
    go_wp2_with fail
    refine (name_any (bytesOf bidW) _ s0).mono ?_
    rintro e w' ⟨rfl, h⟩
    rw [h, bytesOf_toList, ha]
    clear h w'
    go_wp2_with fail
    refine (name_any (bytesOf b) _ s1).mono ?_
    rintro e w' ⟨rfl, h⟩
    rw [h, bytesOf_toList, hb1]
    clear h w'
    go_wp2_with fail
    refine (number_any (bytesOf c) _ s2).mono ?_
    rintro e w' ⟨rfl, h⟩
    rw [h, bytesOf_toList]
    clear h w'
    go_wp2_with fail
    refine HL.out.mono ?_
    rintro e w' ⟨rfl, h⟩
    rw [h]
    clear h w'
    have ho : openB [] (bytesOf b) = false := rfl
    rw [ho]
    go_wp2
    go_ret
    exact ⟨ret_int (by rw [HR.out]), Y, T1.out, by rw [HR.out]⟩
  · have hbid : Hid ((bidW == bidW && nameB b && decide (0 ≤ numberI c)) = false) := by
      unfold Hid
      cases h1 : nameB b
      · simp
      · simp [h1] at hbb
        simp; exact hbb
    have hcase : nameB b = false ∨ (nameB b = true ∧ decide (0 ≤ numberI c) = false) := by
      cases h1 : nameB b
      · exact .inl rfl
      · simp [h1] at hbb; exact .inr ⟨rfl, by simpa using hbb⟩
    clear hbb
    rcases hcase with h1 | ⟨h1, h2⟩
    all_goals
      go_wp2_with fail
      refine (name_any (bytesOf bidW) _ s0).mono ?_
      rintro e w' ⟨rfl, h⟩
      rw [h, bytesOf_toList, ha]
      clear h w'
      go_wp2_with fail
      refine (name_any (bytesOf b) _ s1).mono ?_
      rintro e w' ⟨rfl, h⟩
      rw [h, bytesOf_toList, h1]
      clear h w'
      go_wp2_with fail
      refine (number_any (bytesOf c) _ s2).mono ?_
      rintro e w' ⟨rfl, h⟩
      rw [h, bytesOf_toList]
      clear h w'
      go_wp2_with fail
      refine (HA.out _ rfl).mono ?_
      rintro e w' ⟨rfl, h⟩
      rw [h]
      clear h w'
      have T2 : Hid (∀ o, Turn w Y (w1.alloc o) Y) := fun o => T1.out.below ((Below.refl _ _).alloc (Nat.le_refl _) _)
      obtain ⟨w2, hw2⟩ : ∃ w2, w2 = w1.alloc (.cells #[.string ⟨#[103, 111]⟩, .string ⟨#[108, 101, 102, 116]⟩, .string ⟨#[114, 105, 103, 104, 116]⟩, .string ⟨#[98, 97, 99, 107]⟩, .string ⟨#[100, 105, 103]⟩, .string ⟨#[115, 101, 108, 108]⟩] 9) := ⟨_, rfl⟩
      rw [← hw2]
      have T3 : Hid (Turn w Y w2 Y) := by rw [hw2]; exact T2.out _
      have f1 : w2.cell? ⟨g, 1, none⟩ = some (.string (bytesOf b)) := by rw [hw2]; exact e1' _
      have f2 : w2.cell? ⟨g, 2, none⟩ = some (.string (bytesOf c)) := by rw [hw2]; exact e2' _
      have f0 : w2.cell? ⟨g, 0, none⟩ = some (.string (bytesOf bidW)) := by rw [hw2, World.cell?_alloc_past _ _ _ hg1]; exact e0
      clear T2 hw2 e1 e1' e2 e2' e0 HA hown c5 HW hb
      cases hcn : nameB c
      · have HR : Hid (wordsS Y.S k p [bidW, b, c] = (2, Y.S)) := by unfold Hid; rw [wordsS_nobid hbid.out]; simp [hcn]
        cases hpl : plainB b
        all_goals
          go_wp2_with fail
          refine (name_any (bytesOf c) _ s2).mono ?_
          rintro e w' ⟨rfl, h⟩
          rw [h, bytesOf_toList, hcn]
          clear h w'
          go_wp2
          go_ret
          exact ⟨ret_int (by rw [HR.out]), Y, T3.out, by rw [HR.out]⟩
      · cases hnm : namingB b
        · have HR : Hid (wordsS Y.S k p [bidW, b, c] = (2, Y.S)) := by unfold Hid; rw [wordsS_nobid hbid.out]; simp [hnm]
          have n1 : ((bytesOf b).toList == [98, 117, 105, 108, 100]) = false := by rw [Lib.toList_data, bytesOf_toList]; simp [namingB] at hnm; simpa using hnm.1
          have n2 : ((bytesOf b).toList == [99, 97, 108, 108]) = false := by rw [Lib.toList_data, bytesOf_toList]; simp [namingB] at hnm; simpa using hnm.2
          cases hpl : plainB b
          all_goals
            go_wp2_with fail
            refine (name_any (bytesOf c) _ s2).mono ?_
            rintro e w' ⟨rfl, h⟩
            rw [h, bytesOf_toList, hcn]
            clear h w'
            go_wp2
            go_ret
            exact ⟨ret_int (by rw [HR.out]), Y, T3.out, by rw [HR.out]⟩
        · have HR : Hid (wordsS Y.S k p [bidW, b, c] = tellS Y.S k p bidW b c) := by unfold Hid; rw [wordsS_nobid hbid.out]; simp [ha, hcn, hnm]
          have HU : Hid (Calls Tryz.prog 97 #[.pointer (some ⟨pb, k * 4, none⟩), .string (bytesOf bidW)] w2 fun e w' => e = .returned (.int .i64 (unitIx p.units (bytesOf bidW))) ∧ w' = w2) :=
            unit_any pb (k * 4) p.units v.u (bytesOf bidW) w2 (T3.out.rep.plCell HQ.out HVP.out).2.1 (T3.out.rep.eachAt HQ.out).units
          have n12 : ((bytesOf b).toList == [98, 117, 105, 108, 100]) = true ∨ (((bytesOf b).toList == [98, 117, 105, 108, 100]) = false ∧ ((bytesOf b).toList == [99, 97, 108, 108]) = true) := by
            rw [Lib.toList_data, bytesOf_toList]
            cases h1 : (b == [98, 117, 105, 108, 100])
            · right; simp [namingB, h1] at hnm; exact ⟨rfl, by simpa using hnm⟩
            · exact .inl rfl
          by_cases hx : unitIx p.units (bytesOf bidW) < 0
          · have HT : Hid (wordsS Y.S k p [bidW, b, c] = (3, Y.S)) := by unfold Hid; rw [HR.out]; unfold tellS; rw [if_pos hx]
            cases hpl : plainB b
            all_goals
              rcases n12 with n1 | ⟨n1, n2⟩
              all_goals
                go_wp2_with fail
                refine (name_any (bytesOf c) _ s2).mono ?_
                rintro e w' ⟨rfl, h⟩
                rw [h, bytesOf_toList, hcn]
                clear h w'
                go_wp2_with fail
                refine HU.out.mono ?_
                rintro e w' ⟨rfl, h⟩
                rw [h]
                clear h w'
                go_wp2
                go_ret
                exact ⟨ret_int (by rw [HT.out]), Y, T3.out, by rw [HT.out]⟩
          · obtain ⟨i, hi2, hil⟩ := ixOf_at _ _ hx
            have hu : p.units[i]? = some p.units[i] := by simp [hil]
            obtain ⟨u, hu'⟩ : ∃ u, p.units[i]? = some u := ⟨_, hu⟩
            clear hu
            rcases own_form (T3.out.rep.eachAt HQ.out).units with ⟨_, h0, _⟩ | ⟨ub, ucap, hvu, huc, hum, hub⟩
            · simp only at h0; omega
            simp only at hvu huc
            unfold maxLen at hum
            have m1 := (T3.out.rep.plCell HQ.out HVP.out).2.1
            rw [hvu] at m1
            obtain ⟨_, _, _, _, _, d5, d6⟩ := (T3.out.rep.eachAt HQ.out).uCell hu' hvu
            have fu := (T3.out.rep.eachAt HQ.out).uFrozen hvu
            have z5 := fu (i * 7 + 5)
            have z6 := fu (i * 7 + 6)
            clear fu
            have TE := hidOf (T3.out.unit2 HQ.out hu' hvu 5 6 { u with what := bytesOf b } { u with what := bytesOf b, arg := bytesOf c } (.string (bytesOf b)) (.string (bytesOf c)) (by omega) (by omega) rfl rfl)
            have HT : Hid (wordsS Y.S k p [bidW, b, c] = (0, Y.S.setPl k { p with units := p.units.set i { u with what := bytesOf b, arg := bytesOf c } })) := by
              unfold Hid
              rw [HR.out]
              unfold tellS
              have e2 : (unitIx p.units (bytesOf bidW)).toNat = i := by unfold unitIx; rw [hi2]; simp
              rw [if_neg hx, e2, hu']
            have hne := T3.out.rep.apart HQ.out HVP.out hvu
            have hne' : pb ≠ ub := fun e => hne e.symm
            have hix : Hid (unitIx p.units (bytesOf bidW) = i) := hi2
            clear hu' hvu hx hi2
            cases hpl : plainB b
            all_goals
              rcases n12 with n1 | ⟨n1, n2⟩
              all_goals
                go_wp2_with fail
                refine (name_any (bytesOf c) _ s2).mono ?_
                rintro e w' ⟨rfl, h⟩
                rw [h, bytesOf_toList, hcn]
                clear h w'
                go_wp2_with fail
                refine HU.out.mono ?_
                rintro e w' ⟨rfl, h⟩
                rw [h, hix.out]
                clear h w'
                go_wp2
                go_region
                go_wp2
                go_ret
                exact ⟨ret_int (by rw [HT.out]), _, TE.out.drew, by rw [S_setQ, HT.out]⟩
end Go.Proofs.YtlafddeoheambaaGreatDoor

/-
  The function Order of package hazeref, where no lot is open, whatever the text.
-/
namespace Go.Proofs.YtlafddeoheambaaGreatDoor
open Go.RowKit

set_option maxRecDepth 100000 in
set_option maxHeartbeats 1000000 in
theorem rorder_arg (w : World) (Y : YW) (M : Int) (n : Int) (text : ByteArray) (hr : RepY w Y) (hf : WFS Y.S M) (hn : ¬ (0 ≤ n ∧ n < Y.pls.length)) :
    Calls Tryz.prog 52 #[.pointer (some ⟨Y.b, 0, none⟩), .int .i64 n, .string text] w fun e w' => e = .returned (.int .i64 1) ∧ w' = w := by
  have h4 := (WF.of hf).pl
  rcases own_form hr.pl with ⟨_, h0, _⟩ | ⟨pb, pcap, hvp, hpc, hpm, hpb⟩
  · omega
  unfold maxLen at hpm
  have c5 : w.cell? ⟨Y.b, 5, none⟩ = some (.slice (some ⟨pb, 0, none⟩) Y.pls.length pcap) := by rw [← hvp]; exact hr.cellTop rfl
  have hi : inB n 0 ((Y.pls.length : Int) - 1) = false := by rw [inB_pl]; exact decide_eq_false hn
  clear hn hvp
  go_enter Tryz.func52, Tryz.ntmps52
  go_wp2_with (go_at_call 88; refine (within_any _ _ _ _).mono ?_; rintro e w' ⟨rfl, rfl⟩)
  go_ret
  exact ⟨rfl, rfl⟩

/-- Whatever the text, where a bid is known. -/
theorem rorder_with (w : World) (Y : YW) (M : Int) (n : Int) (text : ByteArray) (hr : RepY w Y) (hf : WFS Y.S M) (hs : text.size ≤ 2000000)
    (hb : ∀ (k : Nat) (p : SPlayer) (v : PV) (b c : List UInt8), Y.pls[k]? = some (p, v) → splitB text.data.toList = [bidW, b, c] → nameB b = true ∧ 0 ≤ numberI c → Calls Tryz.prog 52 #[.pointer (some ⟨Y.b, 0, none⟩), .int .i64 k, .string text] w fun e w' => e = .returned (.int .i64 (wordsS Y.S k p (splitB text.data.toList)).1) ∧ ∃ Y', Turn w Y w' Y' ∧ Y'.S = (wordsS Y.S k p (splitB text.data.toList)).2) :
    Calls Tryz.prog 52 #[.pointer (some ⟨Y.b, 0, none⟩), .int .i64 n, .string text] w fun e w' => e = .returned (.int .i64 (orderS Y.S n text.data.toList).1) ∧ ∃ Y', Turn w Y w' Y' ∧ Y'.S = (orderS Y.S n text.data.toList).2 := by
  have hpl : Y.S.players.length = Y.pls.length := by simp [YW.S]
  by_cases hn : 0 ≤ n ∧ n < Y.pls.length
  · obtain ⟨hn0, hn1⟩ := hn
    obtain ⟨k, rfl⟩ := Int.eq_ofNat_of_zero_le hn0
    obtain ⟨p, v, hq⟩ := at_of_lt (Y := Y) (n := k) (by omega)
    have e : orderS Y.S k text.data.toList = wordsS Y.S k p (splitB text.data.toList) := by
      unfold orderS
      rw [if_pos (by rw [hpl]; omega), Int.toNat_natCast, S_at hq]
    rw [e]
    have hne := splitB_ne text.data.toList
    match hws : splitB text.data.toList with
    | [] => exact absurd hws hne
    | [a] => rw [← hws]; exact rorder_bad w Y M k p v text hr hf hs hq a [] hws (.inl rfl)
    | [a, b] => rw [← hws]; exact rorder_two w Y M k p v text hr hf hs hq a b hws
    | [a, b, c] =>
      rw [← hws]
      cases hw : (a == bidW)
      · exact rorder_three w Y M k p v text hr hf hs hq a b c hws hw
      · rw [beq_iff_eq] at hw
        subst hw
        by_cases hbb : nameB b = true ∧ 0 ≤ numberI c
        · exact hb k p v b c hq hws hbb
        · exact rorder_bid w Y M k p v text b c hr hf (.inr hbb) hs hq hws
    | a :: b :: c :: d :: r => rw [← hws]; exact rorder_bad w Y M k p v text hr hf hs hq a (b :: c :: d :: r) hws (.inr (by simp))
  · have e : orderS Y.S n text.data.toList = (1, Y.S) := by
      unfold orderS
      rw [if_neg (by rw [hpl]; exact hn)]
    rw [e]
    refine (rorder_arg w Y M n text hr hf hn).mono ?_
    rintro e w' ⟨rfl, rfl⟩
    exact ⟨rfl, Y, Turn.refl hr, rfl⟩
theorem rorder_any (w : World) (Y : YW) (M : Int) (n : Int) (text : ByteArray) (hr : RepY w Y) (hf : WFS Y.S M) (hl : Y.lots = []) (hs : text.size ≤ 2000000) :
    Calls Tryz.prog 52 #[.pointer (some ⟨Y.b, 0, none⟩), .int .i64 n, .string text] w fun e w' => e = .returned (.int .i64 (orderS Y.S n text.data.toList).1) ∧ ∃ Y', Turn w Y w' Y' ∧ Y'.S = (orderS Y.S n text.data.toList).2 :=
  rorder_with w Y M n text hr hf hs (fun k p v b c hq hws _ => rorder_bid w Y M k p v text b c hr hf (.inl hl) hs hq hws)
end Go.Proofs.YtlafddeoheambaaGreatDoor
