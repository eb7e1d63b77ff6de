/-
  The function Close of package lots: who gets a lot, and for how much, in one pass.
-/
import Derived.Test.YtlafddeoheambaaGreatDoorT43
import Derived.Deep.RegionHeld3
import Derived.BigQuiet
set_option linter.unusedVariables false
namespace Go.Proofs.YtlafddeoheambaaGreatDoor
open Go.RowKit

/-- A lot's cells. -/
structure LotAt (w : World) (g o : Nat) (l : XLot) : Prop where
  c0 : w.cell? ⟨g, o, none⟩ = some (.string l.name)
  c1 : w.cell? ⟨g, o + 1, none⟩ = some (.int .i64 l.ends)
  c2 : w.cell? ⟨g, o + 2, none⟩ = some (.int .i64 l.least)
  c3 : w.cell? ⟨g, o + 3, none⟩ = some (.int .i64 (l.bid 0))
  c4 : w.cell? ⟨g, o + 4, none⟩ = some (.int .i64 (l.bid 1))
  c5 : w.cell? ⟨g, o + 5, none⟩ = some (.int .i64 (l.bid 2))
  c6 : w.cell? ⟨g, o + 6, none⟩ = some (.int .i64 (l.bid 3))
theorem LotAt.below {w w' : World} {g o : Nat} {l : XLot} (h : LotAt w g o l) (hb : Below w.heap.size w w') : LotAt w' g o l := by
  have lt := block_lt_of_cell h.c0
  exact ⟨(hb.cell (p := ⟨g, o, none⟩) lt).trans h.c0, (hb.cell (p := ⟨g, o + 1, none⟩) lt).trans h.c1, (hb.cell (p := ⟨g, o + 2, none⟩) lt).trans h.c2, (hb.cell (p := ⟨g, o + 3, none⟩) lt).trans h.c3, (hb.cell (p := ⟨g, o + 4, none⟩) lt).trans h.c4, (hb.cell (p := ⟨g, o + 5, none⟩) lt).trans h.c5, (hb.cell (p := ⟨g, o + 6, none⟩) lt).trans h.c6⟩
theorem lot_at {w : World} {g cap : Nat} {l : List XLot} (h : w.ownsRow 0 108 7 (.slice (some ⟨g, 0, none⟩) l.length cap) l.length (l.flatMap xlotCells)) {k : Nat} {x : XLot} (hk : l[k]? = some x) : LotAt w g (k * 7) x := by
  obtain ⟨hl, rfl⟩ := at_some hk
  have f := fun j (hj : j < 7) => flat_at xlotCells 7 (fun _ => rfl) l k j hl hj
  have c := fun j (hj : j < 7) u (hu : (xlotCells l[k])[j]? = some u) => own_cell h ((f j hj).trans hu)
  exact ⟨c 0 (by omega) _ rfl, c 1 (by omega) _ rfl, c 2 (by omega) _ rfl, c 3 (by omega) _ rfl, c 4 (by omega) _ rfl, c 5 (by omega) _ rfl, c 6 (by omega) _ rfl⟩
/-- The sale so far, in a block of its own. -/
structure SaleAt (w w' : World) (nm : ByteArray) (who price : Int) : Prop where
  b : Below w.heap.size w w'
  s : w'.heap[w.heap.size + 1]? = some (.cells #[.string nm, .int .i64 who, .int .i64 price] 137 (0, 0))
  z : w'.heap[w.heap.size]? = some (.cells #[.string ⟨#[]⟩, .int .i64 0, .int .i64 0] 137 (0, 0))
theorem SaleAt.drewN {w w' : World} {nm : ByteArray} {who price : Int} (h : SaleAt w w' nm who price) (n : Nat) : SaleAt w (w'.drewN n) nm who price := ⟨⟨h.b.os, h.b.tape, h.b.output, h.b.size, h.b.block⟩, h.s, h.z⟩
theorem SaleAt.first (w : World) (nm : ByteArray) : SaleAt w ((w.alloc (.cells #[.string ⟨#[]⟩, .int .i64 0, .int .i64 0] 137)).alloc (.cells #[.string nm, .int .i64 (-1), .int .i64 0] 137)) nm (-1) 0 := by
  have s1 : (w.alloc (.cells #[.string ⟨#[]⟩, .int .i64 0, .int .i64 0] 137)).heap.size = w.heap.size + 1 := by simp
  have h1 := Go.heap_alloc_new w (.cells #[.string ⟨#[]⟩, .int .i64 0, .int .i64 0] 137)
  have h2 := Go.heap_alloc_new (w.alloc (.cells #[.string ⟨#[]⟩, .int .i64 0, .int .i64 0] 137)) (.cells #[.string nm, .int .i64 (-1), .int .i64 0] 137)
  rw [s1] at h2
  exact ⟨((Below.refl _ w).alloc (Nat.le_refl _) _).alloc (by simp) _, h2, by rw [Below.heap_alloc _ _ _ (by simp), h1]⟩
theorem SaleAt.cells {w w' : World} {nm : ByteArray} {who price : Int} (h : SaleAt w w' nm who price) : w'.cell? ⟨w.heap.size + 1, 0, none⟩ = some (.string nm) ∧ w'.cell? ⟨w.heap.size + 1, 1, none⟩ = some (.int .i64 who) ∧ w'.cell? ⟨w.heap.size + 1, 2, none⟩ = some (.int .i64 price) ∧ (∀ j, w'.frozen? ⟨w.heap.size + 1, j, none⟩ = false) ∧ (∀ j, w'.frozen? ⟨w.heap.size, j, none⟩ = false) ∧ w'.cell? ⟨w.heap.size, 0, none⟩ = some (.string ⟨#[]⟩) ∧ w'.cell? ⟨w.heap.size, 1, none⟩ = some (.int .i64 0) ∧ w'.cell? ⟨w.heap.size, 2, none⟩ = some (.int .i64 0) :=
  ⟨by rw [cell_of_row _ _ _ _ _ _ h.s]; rfl, by rw [cell_of_row _ _ _ _ _ _ h.s]; rfl, by rw [cell_of_row _ _ _ _ _ _ h.s]; rfl, fun j => by simp [World.frozen?, h.s], fun j => by simp [World.frozen?, h.z], by rw [cell_of_row _ _ _ _ _ _ h.z]; rfl, by rw [cell_of_row _ _ _ _ _ _ h.z]; rfl, by rw [cell_of_row _ _ _ _ _ _ h.z]; rfl⟩
theorem SaleAt.set {w w' : World} {nm : ByteArray} {who price : Int} (h : SaleAt w w' nm who price) (a b : Int) : SaleAt w ((w'.setCell ⟨w.heap.size + 1, 1, none⟩ (.int .i64 a)).setCell ⟨w.heap.size + 1, 2, none⟩ (.int .i64 b)) nm a b := by
  refine ⟨(h.b.setCell (p := ⟨w.heap.size + 1, 1, none⟩) (by show w.heap.size ≤ w.heap.size + 1; omega) _).setCell (p := ⟨w.heap.size + 1, 2, none⟩) (by show w.heap.size ≤ w.heap.size + 1; omega) _, ?_, ?_⟩
  · rw [cells_set (cells_set h.s)]
    rfl
  · rw [setCell_far _ _ _ _ _ (by omega), setCell_far _ _ _ _ _ (by omega), h.z]
theorem SaleAt.set2 {w w' : World} {nm : ByteArray} {who price : Int} (h : SaleAt w w' nm who price) (b : Int) : SaleAt w (w'.setCell ⟨w.heap.size + 1, 2, none⟩ (.int .i64 b)) nm who b := by
  refine ⟨h.b.setCell (p := ⟨w.heap.size + 1, 2, none⟩) (by show w.heap.size ≤ w.heap.size + 1; omega) _, ?_, ?_⟩
  · rw [cells_set h.s]
    rfl
  · rw [setCell_far _ _ _ _ _ (by omega), h.z]
theorem close_bd (bid : Nat → Int) (least : Int) (n : Nat) : -1 ≤ (closeTo bid least n).1 ∧ (closeTo bid least n).1 < n := by
  induction n with
  | zero => exact ⟨Int.le_refl _, show (-1 : Int) < 0 by omega⟩
  | succ n ih =>
    simp only [closeTo]
    repeat' split
    all_goals (push_cast; omega)

theorem Tryz.sizeSale : (Tryz.prog.info? 137).map (·.size) = some 3 := by kernel_rfl
theorem ix0_any (a b c d : Int) (w : World) : (Instr.index 106 (.agg #[.int .i64 a, .int .i64 b, .int .i64 c, .int .i64 d]) (.int .i64 0)).run Tryz.prog w = .ok (.int .i64 a) w := by
  simp [Instr.index, run_underlying Tryz.underlying106, asIntOf, go_sem]
theorem ix1_any (a b c d : Int) (w : World) : (Instr.index 106 (.agg #[.int .i64 a, .int .i64 b, .int .i64 c, .int .i64 d]) (.int .i64 1)).run Tryz.prog w = .ok (.int .i64 b) w := by
  simp [Instr.index, run_underlying Tryz.underlying106, asIntOf, go_sem]
theorem ix2_any (a b c d : Int) (w : World) : (Instr.index 106 (.agg #[.int .i64 a, .int .i64 b, .int .i64 c, .int .i64 d]) (.int .i64 2)).run Tryz.prog w = .ok (.int .i64 c) w := by
  simp [Instr.index, run_underlying Tryz.underlying106, asIntOf, go_sem]
theorem ix3_any (a b c d : Int) (w : World) : (Instr.index 106 (.agg #[.int .i64 a, .int .i64 b, .int .i64 c, .int .i64 d]) (.int .i64 3)).run Tryz.prog w = .ok (.int .i64 d) w := by
  simp [Instr.index, run_underlying Tryz.underlying106, asIntOf, go_sem]

set_option maxRecDepth 100000 in
set_option maxHeartbeats 8000000 in
theorem lclose_any (w : World) (g o : Nat) (l : XLot) (h : LotAt w g o l) :
    Calls Tryz.prog 73 #[.pointer (some ⟨g, o, none⟩)] w fun e w' => e = .returned (.agg #[.string l.name, .int .i64 (closeTo l.bid l.least 4).1, .int .i64 (closeTo l.bid l.least 4).2.1]) ∧ Below w.heap.size w w' := by
  have HL : Hid (∀ wx, Below w.heap.size w wx → LotAt wx g o l) := fun wx hb => h.below hb
  obtain ⟨c0, c1, c2, c3, c4, c5, c6⟩ := h
  have HF := hidOf (SaleAt.first w l.name)
  have hgl := block_lt_of_cell c0
  go_enter Tryz.func73, Tryz.ntmps73
  go_wp2_with fail
  clear c0 c1 c2 c3 c4 c5 c6
  go_loopw [4, 5, 6, 16, 20, 31, 43, 52] (fun hi _ _ i _ _ _ _ w' => ∃ m : Nat, m ≤ 4 ∧ i = .int .i64 m ∧ hi = .int .i64 (closeTo l.bid l.least m).2.2 ∧ Hid (SaleAt w w' l.name (closeTo l.bid l.least m).1 (closeTo l.bid l.least m).2.1)) (fun _ _ _ i _ _ _ _ _ => 5 - (intOf i).toNat)
  case atStart => exact ⟨0, by omega, rfl, rfl, HF⟩
  case round =>
    obtain ⟨m, hm, rfl, rfl, hS⟩ := hrel
    clear HF
    obtain ⟨s0, s1, s2, sf, zf, z0, z1, z2⟩ := hS.out.cells
    have c2 := (HL.out wr hS.out.b).c2
    by_cases hm4 : m < 4
    · have hm4' : (m : Int) < 4 := by omega
      have hstep : closeTo l.bid l.least (m + 1) = (if l.bid m = 0 ∨ l.bid m < l.least then closeTo l.bid l.least m else if (closeTo l.bid l.least m).1 = -1 then ((m : Int), l.least, l.bid m) else if (closeTo l.bid l.least m).2.2 < l.bid m then ((m : Int), (closeTo l.bid l.least m).2.2, l.bid m) else if (closeTo l.bid l.least m).2.1 < l.bid m then ((closeTo l.bid l.least m).1, l.bid m, (closeTo l.bid l.least m).2.2) else closeTo l.bid l.least m) := rfl
      obtain ⟨⟨wh, pr, hg⟩, hr⟩ : ∃ r, r = closeTo l.bid l.least m := ⟨_, rfl⟩
      rw [← hr] at hstep hS s1 s2
      rw [← hr]
      simp only at hstep hS s1 s2 ⊢
      have HStep := hidOf hstep
      have HR := hidOf hr
      clear hr hstep
      have hcs : m = 0 ∨ m = 1 ∨ m = 2 ∨ m = 3 := by omega
      rcases hcs with rfl | rfl | rfl | rfl
      · have HStep : Hid (closeTo l.bid l.least (0 + 1) = (if l.bid 0 = 0 ∨ l.bid 0 < l.least then (wh, pr, hg) else if wh = -1 then (((0 : Nat) : Int), l.least, l.bid 0) else if hg < l.bid 0 then (((0 : Nat) : Int), hg, l.bid 0) else if pr < l.bid 0 then (wh, l.bid 0, hg) else (wh, pr, hg))) := HStep
        go_wp2_with fail
        rw [ix0_any]
        by_cases h0 : (l.bid 0) = 0
        · have HN : Hid (closeTo l.bid l.least (0 + 1) = (wh, pr, hg)) := by unfold Hid; rw [HStep.out, if_pos (.inl h0)]
          have e0 : ((l.bid 0) == 0) = true := by simpa using h0
          clear HStep h0
          go_wp2
          exact ⟨⟨0 + 1, by omega, by go_num, by rw [HN.out], by rw [HN.out]; exact hS⟩, by simp [intOf]⟩
        · have e0 : ((l.bid 0) == 0) = false := by simpa using h0
          by_cases h1 : (l.bid 0) < l.least
          · have HN : Hid (closeTo l.bid l.least (0 + 1) = (wh, pr, hg)) := by unfold Hid; rw [HStep.out, if_pos (.inr h1)]
            have e1 : decide ((l.bid 0) < l.least) = true := decide_eq_true h1
            clear HStep h0 h1
            go_wp2
            exact ⟨⟨0 + 1, by omega, by go_num, by rw [HN.out], by rw [HN.out]; exact hS⟩, by simp [intOf]⟩
          · have e1 : decide ((l.bid 0) < l.least) = false := decide_eq_false h1
            have HStep2 : Hid (closeTo l.bid l.least (0 + 1) = (if wh = -1 then (((0 : Nat) : Int), l.least, (l.bid 0)) else if hg < (l.bid 0) then (((0 : Nat) : Int), hg, (l.bid 0)) else if pr < (l.bid 0) then (wh, (l.bid 0), hg) else (wh, pr, hg))) := by unfold Hid; rw [HStep.out, if_neg (by omega)]
            clear HStep h0 h1
            by_cases h2 : wh = -1
            · have HN : Hid (closeTo l.bid l.least (0 + 1) = (((0 : Nat) : Int), l.least, (l.bid 0))) := by unfold Hid; rw [HStep2.out, if_pos h2]
              subst h2
              have hS2 := hidOf (hS.out.set 0 l.least)
              clear HStep2
              go_wp2_with fail
              go_region
              all_goals
                go_wp2
                exact ⟨⟨0 + 1, by omega, by go_num, by rw [HN.out], by rw [HN.out]; exact hS2.out.drewN _⟩, by simp [intOf]⟩
            · have e2 : (wh == -1) = false := by simpa using h2
              by_cases h3 : hg < (l.bid 0)
              · have HN : Hid (closeTo l.bid l.least (0 + 1) = (((0 : Nat) : Int), hg, (l.bid 0))) := by unfold Hid; rw [HStep2.out, if_neg h2, if_pos h3]
                have e3 : decide (hg < (l.bid 0)) = true := decide_eq_true h3
                have hS2 := hidOf (hS.out.set 0 hg)
                clear HStep2 h2 h3
                go_wp2
                exact ⟨⟨0 + 1, by omega, by go_num, by rw [HN.out], by rw [HN.out]; exact hS2⟩, by simp [intOf]⟩
              · have e3 : decide (hg < (l.bid 0)) = false := decide_eq_false h3
                by_cases h4 : pr < (l.bid 0)
                · have HN : Hid (closeTo l.bid l.least (0 + 1) = (wh, (l.bid 0), hg)) := by unfold Hid; rw [HStep2.out, if_neg h2, if_neg h3, if_pos h4]
                  have e4 : decide (pr < (l.bid 0)) = true := decide_eq_true h4
                  have hS2 := hidOf (hS.out.set2 (l.bid 0))
                  clear HStep2 h2 h3 h4
                  go_wp2
                  exact ⟨⟨0 + 1, by omega, by go_num, by rw [HN.out], by rw [HN.out]; exact hS2⟩, by simp [intOf]⟩
                · have HN : Hid (closeTo l.bid l.least (0 + 1) = (wh, pr, hg)) := by unfold Hid; rw [HStep2.out, if_neg h2, if_neg h3, if_neg h4]
                  have e4 : decide (pr < (l.bid 0)) = false := decide_eq_false h4
                  clear HStep2 h2 h3 h4
                  go_wp2
                  exact ⟨⟨0 + 1, by omega, by go_num, by rw [HN.out], by rw [HN.out]; exact hS⟩, by simp [intOf]⟩
      · have HStep : Hid (closeTo l.bid l.least (1 + 1) = (if l.bid 1 = 0 ∨ l.bid 1 < l.least then (wh, pr, hg) else if wh = -1 then (((1 : Nat) : Int), l.least, l.bid 1) else if hg < l.bid 1 then (((1 : Nat) : Int), hg, l.bid 1) else if pr < l.bid 1 then (wh, l.bid 1, hg) else (wh, pr, hg))) := HStep
        go_wp2_with fail
        rw [ix1_any]
        by_cases h0 : (l.bid 1) = 0
        · have HN : Hid (closeTo l.bid l.least (1 + 1) = (wh, pr, hg)) := by unfold Hid; rw [HStep.out, if_pos (.inl h0)]
          have e0 : ((l.bid 1) == 0) = true := by simpa using h0
          clear HStep h0
          go_wp2
          exact ⟨⟨1 + 1, by omega, by go_num, by rw [HN.out], by rw [HN.out]; exact hS⟩, by simp [intOf]⟩
        · have e0 : ((l.bid 1) == 0) = false := by simpa using h0
          by_cases h1 : (l.bid 1) < l.least
          · have HN : Hid (closeTo l.bid l.least (1 + 1) = (wh, pr, hg)) := by unfold Hid; rw [HStep.out, if_pos (.inr h1)]
            have e1 : decide ((l.bid 1) < l.least) = true := decide_eq_true h1
            clear HStep h0 h1
            go_wp2
            exact ⟨⟨1 + 1, by omega, by go_num, by rw [HN.out], by rw [HN.out]; exact hS⟩, by simp [intOf]⟩
          · have e1 : decide ((l.bid 1) < l.least) = false := decide_eq_false h1
            have HStep2 : Hid (closeTo l.bid l.least (1 + 1) = (if wh = -1 then (((1 : Nat) : Int), l.least, (l.bid 1)) else if hg < (l.bid 1) then (((1 : Nat) : Int), hg, (l.bid 1)) else if pr < (l.bid 1) then (wh, (l.bid 1), hg) else (wh, pr, hg))) := by unfold Hid; rw [HStep.out, if_neg (by omega)]
            clear HStep h0 h1
            by_cases h2 : wh = -1
            · have HN : Hid (closeTo l.bid l.least (1 + 1) = (((1 : Nat) : Int), l.least, (l.bid 1))) := by unfold Hid; rw [HStep2.out, if_pos h2]
              subst h2
              have hS2 := hidOf (hS.out.set 1 l.least)
              clear HStep2
              go_wp2_with fail
              go_region
              all_goals
                go_wp2
                exact ⟨⟨1 + 1, by omega, by go_num, by rw [HN.out], by rw [HN.out]; exact hS2.out.drewN _⟩, by simp [intOf]⟩
            · have e2 : (wh == -1) = false := by simpa using h2
              by_cases h3 : hg < (l.bid 1)
              · have HN : Hid (closeTo l.bid l.least (1 + 1) = (((1 : Nat) : Int), hg, (l.bid 1))) := by unfold Hid; rw [HStep2.out, if_neg h2, if_pos h3]
                have e3 : decide (hg < (l.bid 1)) = true := decide_eq_true h3
                have hS2 := hidOf (hS.out.set 1 hg)
                clear HStep2 h2 h3
                go_wp2
                exact ⟨⟨1 + 1, by omega, by go_num, by rw [HN.out], by rw [HN.out]; exact hS2⟩, by simp [intOf]⟩
              · have e3 : decide (hg < (l.bid 1)) = false := decide_eq_false h3
                by_cases h4 : pr < (l.bid 1)
                · have HN : Hid (closeTo l.bid l.least (1 + 1) = (wh, (l.bid 1), hg)) := by unfold Hid; rw [HStep2.out, if_neg h2, if_neg h3, if_pos h4]
                  have e4 : decide (pr < (l.bid 1)) = true := decide_eq_true h4
                  have hS2 := hidOf (hS.out.set2 (l.bid 1))
                  clear HStep2 h2 h3 h4
                  go_wp2
                  exact ⟨⟨1 + 1, by omega, by go_num, by rw [HN.out], by rw [HN.out]; exact hS2⟩, by simp [intOf]⟩
                · have HN : Hid (closeTo l.bid l.least (1 + 1) = (wh, pr, hg)) := by unfold Hid; rw [HStep2.out, if_neg h2, if_neg h3, if_neg h4]
                  have e4 : decide (pr < (l.bid 1)) = false := decide_eq_false h4
                  clear HStep2 h2 h3 h4
                  go_wp2
                  exact ⟨⟨1 + 1, by omega, by go_num, by rw [HN.out], by rw [HN.out]; exact hS⟩, by simp [intOf]⟩
      · have HStep : Hid (closeTo l.bid l.least (2 + 1) = (if l.bid 2 = 0 ∨ l.bid 2 < l.least then (wh, pr, hg) else if wh = -1 then (((2 : Nat) : Int), l.least, l.bid 2) else if hg < l.bid 2 then (((2 : Nat) : Int), hg, l.bid 2) else if pr < l.bid 2 then (wh, l.bid 2, hg) else (wh, pr, hg))) := HStep
        go_wp2_with fail
        rw [ix2_any]
        by_cases h0 : (l.bid 2) = 0
        · have HN : Hid (closeTo l.bid l.least (2 + 1) = (wh, pr, hg)) := by unfold Hid; rw [HStep.out, if_pos (.inl h0)]
          have e0 : ((l.bid 2) == 0) = true := by simpa using h0
          clear HStep h0
          go_wp2
          exact ⟨⟨2 + 1, by omega, by go_num, by rw [HN.out], by rw [HN.out]; exact hS⟩, by simp [intOf]⟩
        · have e0 : ((l.bid 2) == 0) = false := by simpa using h0
          by_cases h1 : (l.bid 2) < l.least
          · have HN : Hid (closeTo l.bid l.least (2 + 1) = (wh, pr, hg)) := by unfold Hid; rw [HStep.out, if_pos (.inr h1)]
            have e1 : decide ((l.bid 2) < l.least) = true := decide_eq_true h1
            clear HStep h0 h1
            go_wp2
            exact ⟨⟨2 + 1, by omega, by go_num, by rw [HN.out], by rw [HN.out]; exact hS⟩, by simp [intOf]⟩
          · have e1 : decide ((l.bid 2) < l.least) = false := decide_eq_false h1
            have HStep2 : Hid (closeTo l.bid l.least (2 + 1) = (if wh = -1 then (((2 : Nat) : Int), l.least, (l.bid 2)) else if hg < (l.bid 2) then (((2 : Nat) : Int), hg, (l.bid 2)) else if pr < (l.bid 2) then (wh, (l.bid 2), hg) else (wh, pr, hg))) := by unfold Hid; rw [HStep.out, if_neg (by omega)]
            clear HStep h0 h1
            by_cases h2 : wh = -1
            · have HN : Hid (closeTo l.bid l.least (2 + 1) = (((2 : Nat) : Int), l.least, (l.bid 2))) := by unfold Hid; rw [HStep2.out, if_pos h2]
              subst h2
              have hS2 := hidOf (hS.out.set 2 l.least)
              clear HStep2
              go_wp2_with fail
              go_region
              all_goals
                go_wp2
                exact ⟨⟨2 + 1, by omega, by go_num, by rw [HN.out], by rw [HN.out]; exact hS2.out.drewN _⟩, by simp [intOf]⟩
            · have e2 : (wh == -1) = false := by simpa using h2
              by_cases h3 : hg < (l.bid 2)
              · have HN : Hid (closeTo l.bid l.least (2 + 1) = (((2 : Nat) : Int), hg, (l.bid 2))) := by unfold Hid; rw [HStep2.out, if_neg h2, if_pos h3]
                have e3 : decide (hg < (l.bid 2)) = true := decide_eq_true h3
                have hS2 := hidOf (hS.out.set 2 hg)
                clear HStep2 h2 h3
                go_wp2
                exact ⟨⟨2 + 1, by omega, by go_num, by rw [HN.out], by rw [HN.out]; exact hS2⟩, by simp [intOf]⟩
              · have e3 : decide (hg < (l.bid 2)) = false := decide_eq_false h3
                by_cases h4 : pr < (l.bid 2)
                · have HN : Hid (closeTo l.bid l.least (2 + 1) = (wh, (l.bid 2), hg)) := by unfold Hid; rw [HStep2.out, if_neg h2, if_neg h3, if_pos h4]
                  have e4 : decide (pr < (l.bid 2)) = true := decide_eq_true h4
                  have hS2 := hidOf (hS.out.set2 (l.bid 2))
                  clear HStep2 h2 h3 h4
                  go_wp2
                  exact ⟨⟨2 + 1, by omega, by go_num, by rw [HN.out], by rw [HN.out]; exact hS2⟩, by simp [intOf]⟩
                · have HN : Hid (closeTo l.bid l.least (2 + 1) = (wh, pr, hg)) := by unfold Hid; rw [HStep2.out, if_neg h2, if_neg h3, if_neg h4]
                  have e4 : decide (pr < (l.bid 2)) = false := decide_eq_false h4
                  clear HStep2 h2 h3 h4
                  go_wp2
                  exact ⟨⟨2 + 1, by omega, by go_num, by rw [HN.out], by rw [HN.out]; exact hS⟩, by simp [intOf]⟩
      · have HStep : Hid (closeTo l.bid l.least (3 + 1) = (if l.bid 3 = 0 ∨ l.bid 3 < l.least then (wh, pr, hg) else if wh = -1 then (((3 : Nat) : Int), l.least, l.bid 3) else if hg < l.bid 3 then (((3 : Nat) : Int), hg, l.bid 3) else if pr < l.bid 3 then (wh, l.bid 3, hg) else (wh, pr, hg))) := HStep
        go_wp2_with fail
        rw [ix3_any]
        by_cases h0 : (l.bid 3) = 0
        · have HN : Hid (closeTo l.bid l.least (3 + 1) = (wh, pr, hg)) := by unfold Hid; rw [HStep.out, if_pos (.inl h0)]
          have e0 : ((l.bid 3) == 0) = true := by simpa using h0
          clear HStep h0
          go_wp2
          exact ⟨⟨3 + 1, by omega, by go_num, by rw [HN.out], by rw [HN.out]; exact hS⟩, by simp [intOf]⟩
        · have e0 : ((l.bid 3) == 0) = false := by simpa using h0
          by_cases h1 : (l.bid 3) < l.least
          · have HN : Hid (closeTo l.bid l.least (3 + 1) = (wh, pr, hg)) := by unfold Hid; rw [HStep.out, if_pos (.inr h1)]
            have e1 : decide ((l.bid 3) < l.least) = true := decide_eq_true h1
            clear HStep h0 h1
            go_wp2
            exact ⟨⟨3 + 1, by omega, by go_num, by rw [HN.out], by rw [HN.out]; exact hS⟩, by simp [intOf]⟩
          · have e1 : decide ((l.bid 3) < l.least) = false := decide_eq_false h1
            have HStep2 : Hid (closeTo l.bid l.least (3 + 1) = (if wh = -1 then (((3 : Nat) : Int), l.least, (l.bid 3)) else if hg < (l.bid 3) then (((3 : Nat) : Int), hg, (l.bid 3)) else if pr < (l.bid 3) then (wh, (l.bid 3), hg) else (wh, pr, hg))) := by unfold Hid; rw [HStep.out, if_neg (by omega)]
            clear HStep h0 h1
            by_cases h2 : wh = -1
            · have HN : Hid (closeTo l.bid l.least (3 + 1) = (((3 : Nat) : Int), l.least, (l.bid 3))) := by unfold Hid; rw [HStep2.out, if_pos h2]
              subst h2
              have hS2 := hidOf (hS.out.set 3 l.least)
              clear HStep2
              go_wp2_with fail
              go_region
              all_goals
                go_wp2
                exact ⟨⟨3 + 1, by omega, by go_num, by rw [HN.out], by rw [HN.out]; exact hS2.out.drewN _⟩, by simp [intOf]⟩
            · have e2 : (wh == -1) = false := by simpa using h2
              by_cases h3 : hg < (l.bid 3)
              · have HN : Hid (closeTo l.bid l.least (3 + 1) = (((3 : Nat) : Int), hg, (l.bid 3))) := by unfold Hid; rw [HStep2.out, if_neg h2, if_pos h3]
                have e3 : decide (hg < (l.bid 3)) = true := decide_eq_true h3
                have hS2 := hidOf (hS.out.set 3 hg)
                clear HStep2 h2 h3
                go_wp2
                exact ⟨⟨3 + 1, by omega, by go_num, by rw [HN.out], by rw [HN.out]; exact hS2⟩, by simp [intOf]⟩
              · have e3 : decide (hg < (l.bid 3)) = false := decide_eq_false h3
                by_cases h4 : pr < (l.bid 3)
                · have HN : Hid (closeTo l.bid l.least (3 + 1) = (wh, (l.bid 3), hg)) := by unfold Hid; rw [HStep2.out, if_neg h2, if_neg h3, if_pos h4]
                  have e4 : decide (pr < (l.bid 3)) = true := decide_eq_true h4
                  have hS2 := hidOf (hS.out.set2 (l.bid 3))
                  clear HStep2 h2 h3 h4
                  go_wp2
                  exact ⟨⟨3 + 1, by omega, by go_num, by rw [HN.out], by rw [HN.out]; exact hS2⟩, by simp [intOf]⟩
                · have HN : Hid (closeTo l.bid l.least (3 + 1) = (wh, pr, hg)) := by unfold Hid; rw [HStep2.out, if_neg h2, if_neg h3, if_neg h4]
                  have e4 : decide (pr < (l.bid 3)) = false := decide_eq_false h4
                  clear HStep2 h2 h3 h4
                  go_wp2
                  exact ⟨⟨3 + 1, by omega, by go_num, by rw [HN.out], by rw [HN.out]; exact hS⟩, by simp [intOf]⟩
    · have hm5 : m = 4 := by omega
      subst hm5
      obtain ⟨⟨wh, pr, hg⟩, hr⟩ : ∃ r, r = closeTo l.bid l.least 4 := ⟨_, rfl⟩
      rw [← hr] at hS s1 s2 ⊢
      simp only at hS s1 s2 ⊢
      have HBl := hidOf hS.out.b
      have hlt : decide ((((4 : Nat) : Int)) < 4) = false := by decide
      have h3 : Hid ((((wr.setCell ⟨w.heap.size, 0, none⟩ (.string l.name)).setCell ⟨w.heap.size, 1, none⟩ (.int .i64 wh)).setCell ⟨w.heap.size, 2, none⟩ (.int .i64 pr)).heap[w.heap.size]? = some (.cells #[.string l.name, .int .i64 wh, .int .i64 pr] 137 (0, 0))) := by
        unfold Hid
        rw [cells_set (cells_set (cells_set hS.out.z))]
        rfl
      have HR := hidOf hr
      clear hr
      go_wp2
      refine bodyPost_ret (results_cell_row rfl _ _ w.heap.size 137 _ (0, 0) _ rfl h3.out Tryz.underlying137 rfl Tryz.sizeSale) rfl ?_
      refine ⟨by rw [← HR.out], ?_⟩
      exact ((HBl.out.setCell (p := ⟨w.heap.size, 0, none⟩) (Nat.le_refl _) _).setCell (p := ⟨w.heap.size, 1, none⟩) (Nat.le_refl _) _).setCell (p := ⟨w.heap.size, 2, none⟩) (Nat.le_refl _) _
end Go.Proofs.YtlafddeoheambaaGreatDoor
