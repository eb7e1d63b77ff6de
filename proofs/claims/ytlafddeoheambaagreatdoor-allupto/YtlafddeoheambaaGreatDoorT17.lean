/-
  The function Parse of the program's package orders.
-/
import Derived.Test.YtlafddeoheambaaGreatDoorT16
import Derived.Test.YtlafddeoheambaaGreatDoorT02
import Derived.Test.YtlafddeoheambaaGreatDoorT07
set_option linter.unusedVariables false
namespace Go.Proofs.YtlafddeoheambaaGreatDoor
open Go.RowKit

def parseV (ws : List (List UInt8)) : Array Value := match ws with
  | [a, b] => checkV (kindP b) (bytesOf a) ⟨#[]⟩ 0
  | [a, b, c] => if decide (0 ≤ numberI c) && (a == bidW && nameB b) then #[.agg (ordC 9 ⟨#[]⟩ (bytesOf b) (numV (numberI c))), .bool true]
    else if nameB c then checkV (kindN b) (bytesOf a) (bytesOf c) 0 else #[.agg zeroO, .bool false]
  | _ => #[.agg zeroO, .bool false]

theorem res4 {w : World} {g : Nat} {a b c d : Value} {t : TypeId} (h : w.heap[g]? = some (.cells #[a, b, c, d] t)) :
    (w.cell? ⟨g, 0, none⟩ = some a ∧ w.cell? ⟨g, 1, none⟩ = some b ∧ w.cell? ⟨g, 2, none⟩ = some c ∧ w.cell? ⟨g, 3, none⟩ = some d) ∧ w.frozen? ⟨g, 0, none⟩ = false ∧ w.frozen? ⟨g, 1, none⟩ = false ∧ w.frozen? ⟨g, 2, none⟩ = false ∧ w.frozen? ⟨g, 3, none⟩ = false := by
  refine ⟨⟨?_, ?_, ?_, ?_⟩, ?_, ?_, ?_, ?_⟩
  all_goals first
    | (rw [cell_of_row _ _ _ _ _ _ h]; rfl)
    | exact frozen_of_row _ _ _ _ _ h

structure PF (H g : Nat) (x y z : List UInt8) (w : World) : Prop where
  o : w.heap[H]? = some (.cells #[.int .i64 0, .string ⟨#[]⟩, .string ⟨#[]⟩, .int .i64 0] 69)
  a : w.cell? ⟨g, 0, none⟩ = some (.string (bytesOf x))
  b : w.cell? ⟨g, 1, none⟩ = some (.string (bytesOf y))
  c : w.cell? ⟨g, 2, none⟩ = some (.string (bytesOf z))
theorem PF.same {H g : Nat} {x y z : List UInt8} {w w' : World} (h : PF H g x y z w) (hb : w'.heap = w.heap) : PF H g x y z w' :=
  ⟨by rw [hb]; exact h.o, (World.cell?_of_block (by rw [hb])).trans h.a, (World.cell?_of_block (by rw [hb])).trans h.b, (World.cell?_of_block (by rw [hb])).trans h.c⟩
theorem PF.below {H g : Nat} {x y z : List UInt8} {w w' : World} (h : PF H g x y z w) (hb : Below w.heap.size w w') : PF H g x y z w' :=
  ⟨by rw [hb.block H (Array.getElem?_eq_some_iff.1 h.o).1]; exact h.o, (hb.cell (block_lt_of_cell h.a)).trans h.a, (hb.cell (block_lt_of_cell h.b)).trans h.b, (hb.cell (block_lt_of_cell h.c)).trans h.c⟩
theorem checkV_form (k : Int) (u n : ByteArray) (num : Int) : ∃ k' u' n' m' t, checkV k u n num = #[.agg #[.int .i64 k', .string u', .string n', .int .i64 m'], .bool t] := by
  unfold checkV
  split
  · exact ⟨_, _, _, _, _, rfl⟩
  · exact ⟨_, _, _, _, _, rfl⟩

set_option maxRecDepth 100000 in
set_option maxHeartbeats 4000000 in
theorem xparse_any (s : ByteArray) (w : World) (hs : s.size ≤ 2000000) :
    Calls Tryz.prog 27 #[.string s] w fun e w' => e = .returned (.tuple (parseV (splitB s.data.toList))) ∧ Below w.heap.size w w' := by
  have hsz := splitB_sizes s.data.toList
  have hlen : s.data.toList.length = s.size := by simp
  have hne := splitB_ne s.data.toList
  go_enter Tryz.func27, Tryz.ntmps27
  go_wp2_with fail
  refine (xwords_any s _ hs).mono ?_
  rintro e w1 ⟨hb, h⟩
  have b1 : w1.heap[w.heap.size]? = some (.cells #[.int .i64 0, .string ⟨#[]⟩, .string ⟨#[]⟩, .int .i64 0] 69) := by
    rw [hb.block w.heap.size (by simp)]
    exact Go.heap_alloc_new w _
  have HB : Hid (Below w.heap.size w w1) := by
    refine ((Below.refl _ _).alloc (Nat.le_refl _) _).trans (hb.mono ?_)
    simp
  clear hb
  obtain ⟨⟨d0, d1, d2, d3⟩, f0, f1, f2, f3⟩ := res4 b1
  obtain ⟨ws, hws⟩ : ∃ ws, splitB s.data.toList = ws := ⟨_, rfl⟩
  rw [hws] at h hsz hne
  have HWS : Hid (splitB s.data.toList = ws) := hws
  clear hws
  rcases h with ⟨hl, g, cap, rfl, hown⟩ | ⟨hl, rfl⟩
  · rcases ws with _ | ⟨a, _ | ⟨b, _ | ⟨c, _ | ⟨x, r⟩⟩⟩⟩
    · exact absurd rfl hne
    · have HV : Hid (parseV (splitB s.data.toList) = #[.agg zeroO, .bool false]) := by unfold Hid; rw [HWS.out]; rfl
      clear hown hsz hlen hne
      simp only [List.length_cons, List.length_nil]
      go_wp2
      refine bodyPost_ret (results_row_tmp rfl _ _ w.heap.size 69 zeroO (0, 0) _ rfl (set4 b1 _ _ _ _) Tryz.underlying69 rfl Tryz.sizeOrder) rfl ?_
      exact ⟨ret_tuple (by rw [HV.out]; rfl), below_set4 HB.out (by omega) _ _ _ _⟩
    · have e0 : w1.cell? ⟨g, 0, none⟩ = some (.string (bytesOf a)) := own_cell' hown rfl
      have e1 : w1.cell? ⟨g, 1, none⟩ = some (.string (bytesOf b)) := own_cell' hown rfl
      have sa : (bytesOf a).size ≤ 2000000 := by rw [bytesOf_size]; have := hsz a (by simp); omega
      have HV : Hid (parseV (splitB s.data.toList) = checkV (kindP b) (bytesOf a) ⟨#[]⟩ 0) := by unfold Hid; rw [HWS.out]; rfl
      have HK : (bytesOf b).toList = b := by rw [Lib.toList_data, bytesOf_toList]
      clear hown hsz hlen hne
      obtain ⟨k', u', n', m', t, hcv0⟩ := checkV_form (kindP b) (bytesOf a) ⟨#[]⟩ 0
      have hcv := hidOf2 hcv0
      clear hcv0
      have HC : Hid (∀ wx : World, wx.heap = w1.heap → Calls Tryz.prog 61 #[.agg #[.int .i64 (kindP b), .string (bytesOf a), .string ⟨#[]⟩, .int .i64 0]] wx fun e w' => e = .returned (.tuple #[.agg #[.int .i64 k', .string u', .string n', .int .i64 m'], .bool t]) ∧ Hid (Below wx.heap.size wx w') ∧ w'.heap[w.heap.size]? = some (.cells #[.int .i64 0, .string ⟨#[]⟩, .string ⟨#[]⟩, .int .i64 0] 69)) := by
        intro wx hx
        refine (xchecked_any _ _ _ _ wx sa).mono ?_
        rintro e w' ⟨rfl, hb⟩
        refine ⟨by rw [hcv.out], hb, ?_⟩
        rw [hb.block w.heap.size (by rw [hx]; exact (Array.getElem?_eq_some_iff.1 b1).1), hx]
        exact b1
      simp only [List.length_cons, List.length_nil]
      go_wp2_with fail
      go_region_with (first
        | (go_at_call 62; refine (plain_any _ _).mono ?_; rintro e w2 ⟨rfl, h⟩; rw [h, HK]; clear h w2)
        | (go_at_call 61; refine (HC.out w1.drew rfl).mono ?_; rintro e w2 ⟨rfl, hb2, b2⟩; obtain ⟨⟨x0, x1, x2, x3⟩, y0, y1, y2, y3⟩ := res4 b2))
      all_goals
        go_wp2
        refine bodyPost_ret (results_row_tmp rfl _ _ w.heap.size 69 #[.int .i64 k', .string u', .string n', .int .i64 m'] (0, 0) _ rfl (set4 b2 _ _ _ _) Tryz.underlying69 rfl Tryz.sizeOrder) rfl ?_
        exact ⟨ret_tuple (by rw [HV.out, hcv.out]; rfl), below_set4 (HB.out.drew.trans (hb2.out.mono HB.out.size)) (Nat.le_refl _) _ _ _ _⟩
    · have sb : (bytesOf b).size ≤ 2000000 := by rw [bytesOf_size]; have := hsz b (by simp); omega
      have sc : (bytesOf c).size ≤ 2000000 := by rw [bytesOf_size]; have := hsz c (by simp); omega
      have sa : (bytesOf a).size ≤ 2000000 := by rw [bytesOf_size]; have := hsz a (by simp); omega
      have HP : Hid (PF w.heap.size g a b c w1) := ⟨b1, own_cell' hown rfl, own_cell' hown rfl, own_cell' hown rfl⟩
      have e2 : w1.cell? ⟨g, 2, none⟩ = some (.string (bytesOf c)) := own_cell' hown rfl
      have KB : (bytesOf b).toList = b := by rw [Lib.toList_data, bytesOf_toList]
      have KA : (bytesOf a).toList = a := by rw [Lib.toList_data, bytesOf_toList]
      clear hown hsz hlen hne b1 d0 d1 d2 d3 f0 f1 f2 f3
      simp only [List.length_cons, List.length_nil]
      go_wp2_with fail
      refine (xnumber_any (bytesOf c) _ sc).mono ?_
      rintro e w2 ⟨rfl, hb2⟩
      rw [bytesOf_toList]
      have HP2 : Hid (PF w.heap.size g a b c w2) := HP.out.below hb2
      have HB2 : Hid (Below w.heap.size w w2) := HB.out.trans (hb2.mono HB.out.size)
      clear HP HB hb2 e2
      have e0 := HP2.out.a
      have e1 := HP2.out.b
      have e2 := HP2.out.c
      obtain ⟨⟨d0, d1, d2, d3⟩, f0, f1, f2, f3⟩ := res4 HP2.out.o
      cases hok : decide (0 ≤ numberI c)
      · have HF : Hid ((decide (0 ≤ numberI c) && (a == bidW && nameB b)) = false) := by unfold Hid; rw [hok]; rfl
        go_wp2_with fail
        refine (isName_any (bytesOf c) _ sc).mono ?_
        rintro e w4 ⟨rfl, hb4⟩
        rw [bytesOf_toList]
        have HP4 := hidOf2 (HP2.out.below hb4)
        have HB4 : Hid (Below w.heap.size w w4) := HB2.out.trans (hb4.mono HB2.out.size)
        clear hb4 HP2 HB2 e0 e1 e2 d0 d1 d2 d3 f0 f1 f2 f3
        have e0 := HP4.out.a
        have e1 := HP4.out.b
        have e2 := HP4.out.c
        obtain ⟨⟨d0, d1, d2, d3⟩, f0, f1, f2, f3⟩ := res4 HP4.out.o
        cases hc : nameB c
        · have HV : Hid (parseV (splitB s.data.toList) = #[.agg zeroO, .bool false]) := by
            unfold Hid
            rw [HWS.out]
            simp only [parseV]
            rw [HF.out, hc]
            rfl
          go_wp2
          refine bodyPost_ret (results_row_tmp rfl _ _ w.heap.size 69 zeroO (0, 0) _ rfl (set4 HP4.out.o _ _ _ _) Tryz.underlying69 rfl Tryz.sizeOrder) rfl ?_
          exact ⟨ret_tuple (by rw [HV.out]; rfl), below_set4 HB4.out (Nat.le_refl _) _ _ _ _⟩
        · have HV : Hid (parseV (splitB s.data.toList) = checkV (kindN b) (bytesOf a) (bytesOf c) 0) := by
            unfold Hid
            rw [HWS.out]
            simp only [parseV]
            rw [HF.out, hc]
            rfl
          obtain ⟨k', u', n', m', t, hcv0⟩ := checkV_form (kindN b) (bytesOf a) (bytesOf c) 0
          have hcv := hidOf2 hcv0
          clear hcv0
          have HC : Hid (∀ wx : World, wx.heap = w4.heap → Calls Tryz.prog 61 #[.agg #[.int .i64 (kindN b), .string (bytesOf a), .string (bytesOf c), .int .i64 0]] wx fun e w' => e = .returned (.tuple #[.agg #[.int .i64 k', .string u', .string n', .int .i64 m'], .bool t]) ∧ Hid (Below wx.heap.size wx w') ∧ Hid (PF w.heap.size g a b c w')) := by
            intro wx hx
            refine (xchecked_any _ _ _ _ wx sa).mono ?_
            rintro e w' ⟨rfl, hb⟩
            refine ⟨by rw [hcv.out], hb, ?_⟩
            exact (HP4.out.same hx).below hb
          go_wp2_with fail
          go_region_with (first
            | (go_at_call 64; refine (naming_any _ _).mono ?_; rintro e w5 ⟨rfl, h⟩; rw [h, KB]; clear h w5)
            | (go_at_call 61; refine (HC.out w4.drew rfl).mono ?_; rintro e w5 ⟨rfl, hb5, hp5⟩; have z0 := hp5.out.a; have z1 := hp5.out.b; have z2 := hp5.out.c; obtain ⟨⟨x0, x1, x2, x3⟩, y0, y1, y2, y3⟩ := res4 hp5.out.o))
          all_goals
            go_wp2
            refine bodyPost_ret (results_row_tmp rfl _ _ w.heap.size 69 #[.int .i64 k', .string u', .string n', .int .i64 m'] (0, 0) _ rfl (set4 hp5.out.o _ _ _ _) Tryz.underlying69 rfl Tryz.sizeOrder) rfl ?_
            exact ⟨ret_tuple (by rw [HV.out, hcv.out]; rfl), below_set4 (HB4.out.drew.trans (hb5.out.mono HB4.out.size)) (Nat.le_refl _) _ _ _ _⟩
      · cases hab : (a == [98, 105, 100])
        · have HF : Hid ((decide (0 ≤ numberI c) && (a == bidW && nameB b)) = false) := by unfold Hid bidW; rw [hok, hab]; rfl
          go_wp2_with fail
          refine (isName_any (bytesOf c) _ sc).mono ?_
          rintro e w4 ⟨rfl, hb4⟩
          rw [bytesOf_toList]
          have HP4 := hidOf2 (HP2.out.below hb4)
          have HB4 : Hid (Below w.heap.size w w4) := HB2.out.trans (hb4.mono HB2.out.size)
          clear hb4 HP2 HB2 e0 e1 e2 d0 d1 d2 d3 f0 f1 f2 f3
          have e0 := HP4.out.a
          have e1 := HP4.out.b
          have e2 := HP4.out.c
          obtain ⟨⟨d0, d1, d2, d3⟩, f0, f1, f2, f3⟩ := res4 HP4.out.o
          cases hc : nameB c
          · have HV : Hid (parseV (splitB s.data.toList) = #[.agg zeroO, .bool false]) := by
              unfold Hid
              rw [HWS.out]
              simp only [parseV]
              rw [HF.out, hc]
              rfl
            go_wp2
            refine bodyPost_ret (results_row_tmp rfl _ _ w.heap.size 69 zeroO (0, 0) _ rfl (set4 HP4.out.o _ _ _ _) Tryz.underlying69 rfl Tryz.sizeOrder) rfl ?_
            exact ⟨ret_tuple (by rw [HV.out]; rfl), below_set4 HB4.out (Nat.le_refl _) _ _ _ _⟩
          · have HV : Hid (parseV (splitB s.data.toList) = checkV (kindN b) (bytesOf a) (bytesOf c) 0) := by
              unfold Hid
              rw [HWS.out]
              simp only [parseV]
              rw [HF.out, hc]
              rfl
            obtain ⟨k', u', n', m', t, hcv0⟩ := checkV_form (kindN b) (bytesOf a) (bytesOf c) 0
            have hcv := hidOf2 hcv0
            clear hcv0
            have HC : Hid (∀ wx : World, wx.heap = w4.heap → Calls Tryz.prog 61 #[.agg #[.int .i64 (kindN b), .string (bytesOf a), .string (bytesOf c), .int .i64 0]] wx fun e w' => e = .returned (.tuple #[.agg #[.int .i64 k', .string u', .string n', .int .i64 m'], .bool t]) ∧ Hid (Below wx.heap.size wx w') ∧ Hid (PF w.heap.size g a b c w')) := by
              intro wx hx
              refine (xchecked_any _ _ _ _ wx sa).mono ?_
              rintro e w' ⟨rfl, hb⟩
              refine ⟨by rw [hcv.out], hb, ?_⟩
              exact (HP4.out.same hx).below hb
            go_wp2_with fail
            go_region_with (first
              | (go_at_call 64; refine (naming_any _ _).mono ?_; rintro e w5 ⟨rfl, h⟩; rw [h, KB]; clear h w5)
              | (go_at_call 61; refine (HC.out w4.drew rfl).mono ?_; rintro e w5 ⟨rfl, hb5, hp5⟩; have z0 := hp5.out.a; have z1 := hp5.out.b; have z2 := hp5.out.c; obtain ⟨⟨x0, x1, x2, x3⟩, y0, y1, y2, y3⟩ := res4 hp5.out.o))
            all_goals
              go_wp2
              refine bodyPost_ret (results_row_tmp rfl _ _ w.heap.size 69 #[.int .i64 k', .string u', .string n', .int .i64 m'] (0, 0) _ rfl (set4 hp5.out.o _ _ _ _) Tryz.underlying69 rfl Tryz.sizeOrder) rfl ?_
              exact ⟨ret_tuple (by rw [HV.out, hcv.out]; rfl), below_set4 (HB4.out.drew.trans (hb5.out.mono HB4.out.size)) (Nat.le_refl _) _ _ _ _⟩
        · go_wp2_with fail
          refine (isName_any (bytesOf b) _ sb).mono ?_
          rintro e w3 ⟨rfl, hb3⟩
          rw [bytesOf_toList]
          have HP3 := hidOf2 (HP2.out.below hb3)
          have HB3 : Hid (Below w.heap.size w w3) := HB2.out.trans (hb3.mono HB2.out.size)
          clear hb3 HP2 HB2 e0 e1 e2 d0 d1 d2 d3 f0 f1 f2 f3
          have e0 := HP3.out.a
          have e1 := HP3.out.b
          have e2 := HP3.out.c
          obtain ⟨⟨d0, d1, d2, d3⟩, f0, f1, f2, f3⟩ := res4 HP3.out.o
          cases hnb : nameB b
          · have HF : Hid ((decide (0 ≤ numberI c) && (a == bidW && nameB b)) = false) := by unfold Hid bidW; rw [hok, hab, hnb]; rfl
            go_wp2_with fail
            refine (isName_any (bytesOf c) _ sc).mono ?_
            rintro e w4 ⟨rfl, hb4⟩
            rw [bytesOf_toList]
            have HP4 := hidOf2 (HP3.out.below hb4)
            have HB4 : Hid (Below w.heap.size w w4) := HB3.out.trans (hb4.mono HB3.out.size)
            clear hb4 HP3 HB3 e0 e1 e2 d0 d1 d2 d3 f0 f1 f2 f3
            have e0 := HP4.out.a
            have e1 := HP4.out.b
            have e2 := HP4.out.c
            obtain ⟨⟨d0, d1, d2, d3⟩, f0, f1, f2, f3⟩ := res4 HP4.out.o
            cases hc : nameB c
            · have HV : Hid (parseV (splitB s.data.toList) = #[.agg zeroO, .bool false]) := by
                unfold Hid
                rw [HWS.out]
                simp only [parseV]
                rw [HF.out, hc]
                rfl
              go_wp2
              refine bodyPost_ret (results_row_tmp rfl _ _ w.heap.size 69 zeroO (0, 0) _ rfl (set4 HP4.out.o _ _ _ _) Tryz.underlying69 rfl Tryz.sizeOrder) rfl ?_
              exact ⟨ret_tuple (by rw [HV.out]; rfl), below_set4 HB4.out (Nat.le_refl _) _ _ _ _⟩
            · have HV : Hid (parseV (splitB s.data.toList) = checkV (kindN b) (bytesOf a) (bytesOf c) 0) := by
                unfold Hid
                rw [HWS.out]
                simp only [parseV]
                rw [HF.out, hc]
                rfl
              obtain ⟨k', u', n', m', t, hcv0⟩ := checkV_form (kindN b) (bytesOf a) (bytesOf c) 0
              have hcv := hidOf2 hcv0
              clear hcv0
              have HC : Hid (∀ wx : World, wx.heap = w4.heap → Calls Tryz.prog 61 #[.agg #[.int .i64 (kindN b), .string (bytesOf a), .string (bytesOf c), .int .i64 0]] wx fun e w' => e = .returned (.tuple #[.agg #[.int .i64 k', .string u', .string n', .int .i64 m'], .bool t]) ∧ Hid (Below wx.heap.size wx w') ∧ Hid (PF w.heap.size g a b c w')) := by
                intro wx hx
                refine (xchecked_any _ _ _ _ wx sa).mono ?_
                rintro e w' ⟨rfl, hb⟩
                refine ⟨by rw [hcv.out], hb, ?_⟩
                exact (HP4.out.same hx).below hb
              go_wp2_with fail
              go_region_with (first
                | (go_at_call 64; refine (naming_any _ _).mono ?_; rintro e w5 ⟨rfl, h⟩; rw [h, KB]; clear h w5)
                | (go_at_call 61; refine (HC.out w4.drew rfl).mono ?_; rintro e w5 ⟨rfl, hb5, hp5⟩; have z0 := hp5.out.a; have z1 := hp5.out.b; have z2 := hp5.out.c; obtain ⟨⟨x0, x1, x2, x3⟩, y0, y1, y2, y3⟩ := res4 hp5.out.o))
              all_goals
                go_wp2
                refine bodyPost_ret (results_row_tmp rfl _ _ w.heap.size 69 #[.int .i64 k', .string u', .string n', .int .i64 m'] (0, 0) _ rfl (set4 hp5.out.o _ _ _ _) Tryz.underlying69 rfl Tryz.sizeOrder) rfl ?_
                exact ⟨ret_tuple (by rw [HV.out, hcv.out]; rfl), below_set4 (HB4.out.drew.trans (hb5.out.mono HB4.out.size)) (Nat.le_refl _) _ _ _ _⟩
          · have HV : Hid (parseV (splitB s.data.toList) = #[.agg (ordC 9 ⟨#[]⟩ (bytesOf b) (numV (numberI c))), .bool true]) := by
              unfold Hid
              rw [HWS.out]
              simp only [parseV]
              unfold bidW
              rw [hok, hab, hnb]
              rfl
            go_wp2
            refine bodyPost_ret (results_row_tmp rfl _ _ w.heap.size 69 (ordC 9 ⟨#[]⟩ (bytesOf b) (numV (numberI c))) (0, 0) _ rfl (set4 HP3.out.o _ _ _ _) Tryz.underlying69 rfl Tryz.sizeOrder) rfl ?_
            exact ⟨ret_tuple (by rw [HV.out]; rfl), below_set4 HB3.out (Nat.le_refl _) _ _ _ _⟩
    · simp at hl
  · have HV : Hid (parseV (splitB s.data.toList) = #[.agg zeroO, .bool false]) := by
      unfold Hid
      rw [HWS.out]
      rcases ws with _ | ⟨a, _ | ⟨b, _ | ⟨c, _ | ⟨x, r⟩⟩⟩⟩ <;> first | rfl | (simp at hl)
    clear hsz hlen hne hl
    go_wp2
    refine bodyPost_ret (results_row_tmp rfl _ _ w.heap.size 69 zeroO (0, 0) _ rfl (set4 b1 _ _ _ _) Tryz.underlying69 rfl Tryz.sizeOrder) rfl ?_
    exact ⟨ret_tuple (by rw [HV.out]; rfl), below_set4 HB.out (by omega) _ _ _ _⟩
end Go.Proofs.YtlafddeoheambaaGreatDoor
