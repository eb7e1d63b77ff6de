/-
  The functions amountsFit and apart of package haze.
-/
import Derived.Test.YtlafddeoheambaaGreatDoorT09
import Derived.Test.YtlafddeoheambaaGreatDoorT11
import Derived.Test.YtlafddeoheambaaGreatDoorT07
import Derived.Deep.QuietTactic
set_option linter.unusedVariables false
namespace Go.Proofs.YtlafddeoheambaaGreatDoor
open Go.RowKit

/-- The first k amounts fit. -/
def fitTo (l : List SSpot) (k : Nat) : Prop := ∀ j (hj : j < l.length), j < k → inB l[j].amount 1 99 = true
theorem fitTo_all {l : List SSpot} {k : Nat} (h : fitTo l k) (hk : ¬ k < l.length) : l.all (fun s => inB s.amount 1 99) = true := by
  rw [List.all_eq_true]
  intro s hs
  obtain ⟨j, hj, rfl⟩ := List.mem_iff_getElem.1 hs
  exact h j hj (by omega)
theorem fitTo_no {l : List SSpot} {k : Nat} (hk : k < l.length) (h : inB l[k].amount 1 99 = false) : l.all (fun s => inB s.amount 1 99) = false := by
  rw [List.all_eq_false]
  exact ⟨l[k], List.getElem_mem hk, by simp [h]⟩

set_option maxRecDepth 100000 in
set_option maxHeartbeats 2000000 in
theorem amounts_any (w : World) (v : Value) (l : List SSpot) (hv : SpIn w v l) (hl : l.length ≤ 2000000) :
    Calls Tryz.prog 106 #[v] w fun e w' => e = .returned (.bool (l.all (fun s => inB s.amount 1 99))) ∧ Below w.heap.size w w' := by
  obtain ⟨ao, cap, rfl, hsrc⟩ := hv
  go_enter Tryz.func106, Tryz.ntmps106
  go_wp2
  go_loopw [4, 7] (fun _ i w' => ∃ k : Nat, k ≤ l.length ∧ i = .int .i64 k ∧ Below w.heap.size w w' ∧ Hid (fitTo l k)) (fun _ i _ => l.length + 1 - (intOf i).toNat)
  case atStart => exact ⟨0, Nat.zero_le _, rfl, Below.refl _ _, fun j hj h => absurd h (by omega)⟩
  case round =>
    obtain ⟨k, hk, rfl, hb, hf⟩ := hrel
    have HB := hidOf hb
    by_cases hlt : k < l.length
    · obtain ⟨b, off, rfl, hbl, hc⟩ := hsrc (by omega)
      have f := fun j (hj : j < 3) => flat_at spotCells 3 (fun _ => rfl) l k j hlt hj
      have d0 : wr.cell? ⟨b, off + k * 3, none⟩ = some (.int .i64 l[k].x) := (hb.cell hbl).trans (hc (k * 3 + 0) _ (f 0 (by omega)))
      have d1 : wr.cell? ⟨b, off + k * 3 + 1, none⟩ = some (.int .i64 l[k].y) := (hb.cell hbl).trans (hc (k * 3 + 1) _ (f 1 (by omega)))
      have d2 : wr.cell? ⟨b, off + k * 3 + 2, none⟩ = some (.int .i64 l[k].amount) := (hb.cell hbl).trans (hc (k * 3 + 2) _ (f 2 (by omega)))
      have HB2 := hidOf (fun o => hb.alloc hb.size o)
      clear hb hc f
      cases hx : inB l[k].amount 1 99
      · have G := hidOf (fitTo_no hlt hx)
        go_wp2_with (go_at_call 41; refine (between_any _ _ _ _).mono ?_; rintro e w' ⟨rfl, h⟩; rw [h, hx]; clear h w')
        go_ret
        exact ⟨ret_bool G.out.symm, HB2.out _⟩
      · have G : Hid (fitTo l (k + 1)) := fun j hj hjk => by
          by_cases e : j = k
          · subst e; exact hx
          · exact hf.out j hj (by omega)
        go_wp2_with (go_at_call 41; refine (between_any _ _ _ _).mono ?_; rintro e w' ⟨rfl, h⟩; rw [h, hx]; clear h w')
        exact ⟨⟨k + 1, by omega, by go_num, HB2.out _, G⟩, by simp [intOf]; omega⟩
    · have G := hidOf (fitTo_all hf.out hlt)
      go_wp2
      go_ret
      exact ⟨ret_bool G.out.symm, HB.out⟩
/-- What the map of the spots seen so far holds. -/
def seenB (pre : List SSpot) (x y : Int) : Bool := pre.any (fun a => decide (a.x = x) && decide (a.y = y))
def SeenOK (pre : List SSpot) (l : List CE) : Prop := ∀ x y, look x y l = if seenB pre x y then some 1 else none
theorem SeenOK.add {pre : List SSpot} {l : List CE} (h : SeenOK pre l) (s : SSpot) (c : Nat) : SeenOK (pre ++ [s]) (cput s.x s.y 1 c l) := by
  intro x y
  rw [look_put]
  by_cases e : x = s.x ∧ y = s.y
  · simp [seenB, e]
  · rw [if_neg e, h x y]
    have : seenB (pre ++ [s]) x y = seenB pre x y := by
      simp only [seenB, List.any_append, List.any_cons, List.any_nil, Bool.or_false]
      have : (decide (s.x = x) && decide (s.y = y)) = false := by
        simp only [Bool.and_eq_false_iff, decide_eq_false_iff_not]
        omega
      rw [this]
      simp
    rw [this]
theorem seen_same (pre : List SSpot) (s : SSpot) : pre.any (fun a => sameXY a s) = seenB pre s.x s.y := rfl

set_option maxRecDepth 100000 in
set_option maxHeartbeats 4000000 in
theorem xapart_any (w : World) (v : Value) (l : List SSpot) (W H : Int) (hv : SpIn w v l) (hl : l.length ≤ 2000000) (hW : 3 ≤ W ∧ W ≤ 10) (hH : 3 ≤ H ∧ H ≤ 10) (hin : ∀ s ∈ l, (-9223372036854775808 ≤ s.x ∧ s.x ≤ 9223372036854775807) ∧ (-9223372036854775808 ≤ s.y ∧ s.y ≤ 9223372036854775807)) :
    Calls Tryz.prog 105 #[.agg #[.int .i64 W, .int .i64 H], v] w fun e w' => e = .returned (.bool (apartB l W H)) ∧ Below w.heap.size w w' := by
  obtain ⟨ao, cap, rfl, hsrc⟩ := hv
  have hmm : ∀ wx : World, (Instr.makeMap 79 none).run Tryz.prog wx = .ok (.map (some wx.heap.size)) (wx.alloc (.map #[] 0)) := fun wx => rfl
  go_enter Tryz.func105, Tryz.ntmps105
  go_wp2
  clear hmm
  go_loopw [7, 8, 12] (fun _ _ i w' => ∃ (k : Nat) (ls : List CE) (c : Nat), k ≤ l.length ∧ i = .int .i64 k ∧ Below w.heap.size w w' ∧ w'.heap[w.heap.size]? = some (.cells #[.int .i64 W, .int .i64 H] 78 (0, 0)) ∧ MapD w' (w.heap.size + 1) ls c ∧ Hid (SeenOK (l.take k) ls) ∧ Hid (apartB l W H = apartGo W H (l.take k) (l.drop k))) (fun _ _ i _ => l.length + 1 - (intOf i).toNat)
  case atStart =>
    refine ⟨0, [], 0, Nat.zero_le _, rfl, ?_, ?_, ⟨⟨?_, by simp⟩, by simp [keysD]⟩, ?_, by unfold Hid; simp [apartB]⟩
    · exact (((Below.refl _ w).alloc (Nat.le_refl _) _)).alloc (by simp) _
    · rw [Below.heap_alloc _ _ _ (by simp)]
      exact Go.heap_alloc_new w _
    · have e : (w.alloc (.cells #[.int .i64 W, .int .i64 H] 78)).heap.size = w.heap.size + 1 := by simp
      rw [← e]
      exact Go.heap_alloc_new _ _
    · intro x y
      simp [look, seenB]
  case round =>
    obtain ⟨k, ls, c, hk, rfl, hb, hsd, hm, hso, ha⟩ := hrel
    have HB := hidOf hb
    by_cases hlt : k < l.length
    · obtain ⟨b, off, rfl, hbl, hc⟩ := hsrc (by omega)
      have f := fun j (hj : j < 3) => flat_at spotCells 3 (fun _ => rfl) l k j hlt hj
      have d0 : wr.cell? ⟨b, off + k * 3, none⟩ = some (.int .i64 l[k].x) := (hb.cell hbl).trans (hc (k * 3 + 0) _ (f 0 (by omega)))
      have d1 : wr.cell? ⟨b, off + k * 3 + 1, none⟩ = some (.int .i64 l[k].y) := (hb.cell hbl).trans (hc (k * 3 + 1) _ (f 1 (by omega)))
      have d2 : wr.cell? ⟨b, off + k * 3 + 2, none⟩ = some (.int .i64 l[k].amount) := (hb.cell hbl).trans (hc (k * 3 + 2) _ (f 2 (by omega)))
      have st := apart_step W H l k hlt
      have hi := hin l[k] (List.getElem_mem hlt)
      have HHo := hidOf (fun wx => hold_any W H l[k].x l[k].y wx hi.1 hi.2 hW hH)
      obtain ⟨o, ho⟩ : ∃ o : Obj, o = .cells #[.int .i64 l[k].x, .int .i64 l[k].y, .int .i64 l[k].amount] 63 := ⟨_, rfl⟩
      have ha1 := hb.alloc hb.size o
      have hsz : w.heap.size + 1 < wr.heap.size := lt_of_some hm.is.1
      have s0 : ∀ o, (wr.alloc o).cell? ⟨w.heap.size, 0, none⟩ = some (.int .i64 W) := fun o => by
        rw [World.cell?_alloc_past _ _ _ (by show w.heap.size < _; omega), cell_of_row _ _ _ _ _ _ hsd]; rfl
      have s1 : ∀ o, (wr.alloc o).cell? ⟨w.heap.size, 1, none⟩ = some (.int .i64 H) := fun o => by
        rw [World.cell?_alloc_past _ _ _ (by show w.heap.size < _; omega), cell_of_row _ _ _ _ _ _ hsd]; rfl
      have HSd := hidOf hsd
      have HM := hidOf hm
      have HZ := hidOf hsz
      cases hho : (inB l[k].x 0 (W - 1) && inB l[k].y 0 (H - 1))
      · have G : Hid (apartB l W H = false) := by unfold Hid; rw [ha.out, st]; simp [okSpot, hho]
        rw [hho] at HHo
        clear hb hc f hsd hm ha1 ho hsz
        go_wp2_with (first | (go_at_call 58; refine (at_any _ _ _).mono ?_; rintro e w' ⟨rfl, h⟩; rw [h]; clear h w') | (go_at_call 130; refine (HHo.out _).mono ?_; rintro e w2 ⟨rfl, hb2⟩))
        go_ret
        exact ⟨ret_bool G.out.symm, (HB.out.alloc HB.out.size _).trans (hb2.mono (Nat.le_trans HB.out.size (by simp)))⟩
      · rw [hho] at HHo
        have bx : 0 ≤ l[k].x ∧ l[k].x ≤ 9 := by simp [inB] at hho; omega
        have bY : 0 ≤ l[k].y ∧ l[k].y ≤ 9 := by simp [inB] at hho; omega
        have hlook := hso.out l[k].x l[k].y
        have HH2 : Hid (∀ o, Calls Tryz.prog 130 #[.agg #[.int .i64 W, .int .i64 H], .complex .f64 (flI l[k].x) (flI l[k].y)] (wr.alloc o) fun e w2 => e = .returned (.bool true) ∧ Hid (Below w.heap.size w w2) ∧ Hid (w2.heap[w.heap.size]? = some (.cells #[.int .i64 W, .int .i64 H] 78 (0, 0))) ∧ Hid (MapD w2 (w.heap.size + 1) ls c) ∧
            (Instr.lookup 79 (.map (some (w.heap.size + 1))) (.complex .f64 (flI l[k].x) (flI l[k].y)) false).run Tryz.prog w2 = .ok (.int .i64 ((look l[k].x l[k].y ls).getD 0)) w2) := by
          intro o
          refine (HHo.out (wr.alloc o)).mono ?_
          rintro e w2 ⟨rfl, hb2⟩
          have sz : (wr.alloc o).heap.size = wr.heap.size + 1 := by simp
          have hm2 : MapD w2 (w.heap.size + 1) ls c := HM.out.same ((hb2.block _ (by rw [sz]; omega)).trans (Below.heap_alloc _ _ _ HZ.out))
          refine ⟨rfl, (hb.alloc hb.size _).trans (hb2.mono (by rw [sz]; have := hb.size; omega)), ?_, hm2, hm2.lookup l[k].x l[k].y bx bY⟩
          unfold Hid
          rw [hb2.block _ (by rw [sz]; omega), Below.heap_alloc _ _ _ (by omega)]
          exact HSd.out
        cases hsn : seenB (l.take k) l[k].x l[k].y
        · rw [hsn] at hlook
          have hlk : look l[k].x l[k].y ls = none := hlook
          simp only [hlk, Option.getD_none] at HH2
          have G : Hid (apartB l W H = apartGo W H (l.take (k + 1)) (l.drop (k + 1))) := by unfold Hid; rw [ha.out, st, seen_same, hsn]; simp [okSpot, hho]
          clear hb hc f hsd hm ha1 ho hsz hlook hlk
          go_wp2_with (first | (go_at_call 58; refine (at_any _ _ _).mono ?_; rintro e w' ⟨rfl, h⟩; rw [h]; clear h w') | (go_at_call 130; refine (HH2.out _).mono ?_; rintro e w2 ⟨rfl, hb2, hs2, hm2, hlk⟩; obtain ⟨w3, hup, hm3, hp3⟩ := hm2.out.update l[k].x l[k].y 1 bx bY; have HM3 := hidOf hm3; have HP3 := hidOf hp3; clear hm3 hp3))
          refine ⟨⟨k + 1, _, _, by omega, by go_num, ?_, ?_, HM3.out, ?_, G⟩, by simp [intOf]; omega⟩
          · have b2 := hb2.out
            exact ⟨HP3.out.os.trans b2.os, HP3.out.tape.trans b2.tape, HP3.out.output.trans b2.output, by rw [HP3.out.size]; exact b2.size, fun j hj => by rw [HP3.out.block j (by omega), b2.block j hj]⟩
          · rw [HP3.out.block _ (by omega)]
            exact hs2.out
          · unfold Hid
            rw [List.take_succ_eq_append_getElem hlt]
            exact hso.out.add l[k] c
        · rw [hsn] at hlook
          have hlk : look l[k].x l[k].y ls = some 1 := hlook
          simp only [hlk, Option.getD_some] at HH2
          have G : Hid (apartB l W H = false) := by unfold Hid; rw [ha.out, st, seen_same, hsn]; simp
          clear hb hc f hsd hm ha1 ho hsz hlook hlk
          go_wp2_with (first | (go_at_call 58; refine (at_any _ _ _).mono ?_; rintro e w' ⟨rfl, h⟩; rw [h]; clear h w') | (go_at_call 130; refine (HH2.out _).mono ?_; rintro e w2 ⟨rfl, hb2, hs2, hm2, hlk⟩))
          go_ret
          exact ⟨ret_bool G.out.symm, hb2.out⟩
    · have G : Hid (apartB l W H = true) := by
        unfold Hid
        rw [ha.out, List.drop_of_length_le (by omega)]
        rfl
      go_wp2
      go_ret
      exact ⟨ret_bool G.out.symm, HB.out⟩
end Go.Proofs.YtlafddeoheambaaGreatDoor

/-
  The function fits of package haze.
-/
namespace Go.Proofs.YtlafddeoheambaaGreatDoor
open Go.RowKit

/-- The two blocks that fits lays, and that all that was there stays. -/
structure FB (w : World) (W H S : Int) (vo vs : Value) (wx : World) : Prop where
  b : Below w.heap.size w wx
  c : wx.heap[w.heap.size]? = some (.cells #[.int .i64 W, .int .i64 H, .int .i64 S, vo, vs] 57 (0, 0))
  s : wx.heap[w.heap.size + 1]? = some (.cells #[.int .i64 W, .int .i64 H] 78 (0, 0))
theorem FB.first (w : World) (W H S : Int) (vo vs : Value) : FB w W H S vo vs ((w.alloc (.cells #[.int .i64 W, .int .i64 H, .int .i64 S, vo, vs] 57)).alloc (.cells #[.int .i64 W, .int .i64 H] 78)) := by
  refine ⟨(((Below.refl _ w).alloc (Nat.le_refl _) _)).alloc (by simp) _, ?_, ?_⟩
  · rw [Below.heap_alloc _ _ _ (by simp)]
    exact Go.heap_alloc_new w _
  · have e : (w.alloc (.cells #[.int .i64 W, .int .i64 H, .int .i64 S, vo, vs] 57)).heap.size = w.heap.size + 1 := by simp
    rw [← e]
    exact Go.heap_alloc_new _ _
theorem FB.below {w wx w' : World} {W H S : Int} {vo vs : Value} (h : FB w W H S vo vs wx) (hb : Below wx.heap.size wx w') : FB w W H S vo vs w' :=
  ⟨h.b.trans (hb.mono h.b.size), by rw [hb.block _ (lt_of_some h.c)]; exact h.c, by rw [hb.block _ (lt_of_some h.s)]; exact h.s⟩
theorem FB.cells {w wx : World} {W H S : Int} {vo vs : Value} (h : FB w W H S vo vs wx) : wx.cell? ⟨w.heap.size, 0, none⟩ = some (.int .i64 W) ∧ wx.cell? ⟨w.heap.size, 1, none⟩ = some (.int .i64 H) ∧ wx.cell? ⟨w.heap.size, 2, none⟩ = some (.int .i64 S) ∧ wx.cell? ⟨w.heap.size, 3, none⟩ = some vo ∧ wx.cell? ⟨w.heap.size, 4, none⟩ = some vs ∧ wx.cell? ⟨w.heap.size + 1, 0, none⟩ = some (.int .i64 W) ∧ wx.cell? ⟨w.heap.size + 1, 1, none⟩ = some (.int .i64 H) := by
  refine ⟨?_, ?_, ?_, ?_, ?_, ?_, ?_⟩
  all_goals first
    | (rw [cell_of_row _ _ _ _ _ _ h.c]; rfl)
    | (rw [cell_of_row _ _ _ _ _ _ h.s]; rfl)

def I64s (l : List SSpot) : Prop := ∀ s ∈ l, (-9223372036854775808 ≤ s.x ∧ s.x ≤ 9223372036854775807) ∧ (-9223372036854775808 ≤ s.y ∧ s.y ≤ 9223372036854775807)

set_option maxRecDepth 100000 in
set_option maxHeartbeats 4000000 in
theorem fits_any (w : World) (W H S : Int) (vo vs : Value) (ore starts : List SSpot) (ho : SpIn w vo ore) (hs : SpIn w vs starts) (hl : starts.length ≤ 2000000) (hlo : ore.length ≤ 2000000) (io : I64s ore) (is : I64s starts) :
    Calls Tryz.prog 57 #[.agg #[.int .i64 W, .int .i64 H, .int .i64 S, vo, vs]] w fun e w' => e = .returned (.bool (newB W H S ore starts)) ∧ Below w.heap.size w w' := by
  have HF0 := hidOf (FB.first w W H S vo vs)
  obtain ⟨ao, co, evo, hso⟩ := ho
  obtain ⟨aS, cS, evs, hss⟩ := hs
  have HIo : Hid (∀ wx, FB w W H S vo vs wx → SpIn wx vo ore) := fun wx h => SpIn.below (w := w) ⟨ao, co, evo, hso⟩ h.b
  have HIs : Hid (∀ wx, FB w W H S vo vs wx → SpIn wx vs starts) := fun wx h => SpIn.below (w := w) ⟨aS, cS, evs, hss⟩ h.b
  clear hso hss
  cases h1 : inB W 3 10
  · have G : Hid (newB W H S ore starts = false) := by unfold Hid newB; rw [h1]; simp
    subst evo evs
    go_enter Tryz.func57, Tryz.ntmps57
    go_wp2_with (first | (go_at_call 41; refine (between_any _ _ _ _).mono ?_; rintro e w' ⟨rfl, h⟩; rw [h]; clear h w'))
    go_ret
    exact ⟨ret_bool G.out.symm, HF0.out.b⟩
  cases h2 : inB H 3 10
  · have G : Hid (newB W H S ore starts = false) := by unfold Hid newB; rw [h1, h2]; simp
    subst evo evs
    go_enter Tryz.func57, Tryz.ntmps57
    go_wp2_with (first | (go_at_call 41; refine (between_any _ _ _ _).mono ?_; rintro e w' ⟨rfl, h⟩; rw [h]; clear h w'))
    go_ret
    exact ⟨ret_bool G.out.symm, HF0.out.b⟩
  cases h3 : inB S 1 4
  · have G : Hid (newB W H S ore starts = false) := by unfold Hid newB; rw [h1, h2, h3]; simp
    subst evo evs
    go_enter Tryz.func57, Tryz.ntmps57
    go_wp2_with (first | (go_at_call 41; refine (between_any _ _ _ _).mono ?_; rintro e w' ⟨rfl, h⟩; rw [h]; clear h w'))
    go_ret
    exact ⟨ret_bool G.out.symm, HF0.out.b⟩
  cases h4 : inB (starts.length : Int) 2 4
  · have G : Hid (newB W H S ore starts = false) := by unfold Hid newB; rw [h1, h2, h3, h4]; simp
    subst evo evs
    go_enter Tryz.func57, Tryz.ntmps57
    go_wp2_with (first | (go_at_call 41; refine (between_any _ _ _ _).mono ?_; rintro e w' ⟨rfl, h⟩; rw [h]; clear h w'))
    go_ret
    exact ⟨ret_bool G.out.symm, HF0.out.b⟩
  by_cases h5 : (ore.length : Int) ≤ 6
  rotate_left
  · have h5' : ¬ (ore.length ≤ 6) := by omega
    have G : Hid (newB W H S ore starts = false) := by unfold Hid newB; simp [h5']
    subst evo evs
    go_enter Tryz.func57, Tryz.ntmps57
    go_wp2_with (first | (go_at_call 41; refine (between_any _ _ _ _).mono ?_; rintro e w' ⟨rfl, h⟩; rw [h]; clear h w'))
    go_ret
    exact ⟨ret_bool G.out.symm, HF0.out.b⟩
  have h5' : ore.length ≤ 6 := by omega
  have hWH : (3 ≤ W ∧ W ≤ 10) ∧ (3 ≤ H ∧ H ≤ 10) := by simp [inB] at h1 h2; exact ⟨h1, h2⟩
  have HA1 : Hid (∀ wx, FB w W H S vo vs wx → Calls Tryz.prog 105 #[.agg #[.int .i64 W, .int .i64 H], vs] wx fun e w' => e = .returned (.bool (apartB starts W H)) ∧ Hid (FB w W H S vo vs w')) := fun wx hx =>
    (xapart_any wx vs starts W H (HIs.out wx hx) hl hWH.1 hWH.2 is).mono (fun e w' ⟨h1, h2⟩ => ⟨h1, hx.below h2⟩)
  have HA2 : Hid (∀ wx, FB w W H S vo vs wx → Calls Tryz.prog 105 #[.agg #[.int .i64 W, .int .i64 H], vo] wx fun e w' => e = .returned (.bool (apartB ore W H)) ∧ Hid (FB w W H S vo vs w')) := fun wx hx =>
    (xapart_any wx vo ore W H (HIo.out wx hx) hlo hWH.1 hWH.2 io).mono (fun e w' ⟨h1, h2⟩ => ⟨h1, hx.below h2⟩)
  have HA3 : Hid (∀ wx, FB w W H S vo vs wx → Calls Tryz.prog 106 #[vo] wx fun e w' => e = .returned (.bool (ore.all (fun s => inB s.amount 1 99))) ∧ Hid (FB w W H S vo vs w')) := fun wx hx =>
    (amounts_any wx vo ore (HIo.out wx hx) hlo).mono (fun e w' ⟨h1, h2⟩ => ⟨h1, hx.below h2⟩)
  clear hWH
  subst evo evs
  cases h6 : apartB starts W H
  · have G : Hid (newB W H S ore starts = false) := by unfold Hid newB; rw [h6]; simp
    go_enter Tryz.func57, Tryz.ntmps57
    go_wp2_with (first | (go_at_call 41; refine (between_any _ _ _ _).mono ?_; rintro e w' ⟨rfl, h⟩; rw [h]; clear h w') | (go_at_call 105; refine (HA1.out _ HF0.out).mono ?_; rintro e w1 ⟨rfl, hb1⟩; obtain ⟨f0, f1, f2, f3, f4, g0, g1⟩ := hb1.out.cells))
    go_ret
    exact ⟨ret_bool G.out.symm, hb1.out.b⟩
  cases h7 : apartB ore W H
  · have G : Hid (newB W H S ore starts = false) := by unfold Hid newB; rw [h7]; simp
    go_enter Tryz.func57, Tryz.ntmps57
    go_wp2_with (first | (go_at_call 41; refine (between_any _ _ _ _).mono ?_; rintro e w' ⟨rfl, h⟩; rw [h]; clear h w') | (go_at_call 105; refine (HA2.out _ hb1.out).mono ?_; rintro e w2 ⟨rfl, hb2⟩; obtain ⟨p0, p1, p2, p3, p4, q0, q1⟩ := hb2.out.cells) | (go_at_call 105; refine (HA1.out _ HF0.out).mono ?_; rintro e w1 ⟨rfl, hb1⟩; obtain ⟨f0, f1, f2, f3, f4, g0, g1⟩ := hb1.out.cells))
    go_ret
    exact ⟨ret_bool G.out.symm, hb2.out.b⟩
  have G : Hid (newB W H S ore starts = ore.all (fun s => inB s.amount 1 99)) := by unfold Hid newB; rw [h1, h2, h3, h4, h6, h7]; simp [h5']
  go_enter Tryz.func57, Tryz.ntmps57
  go_wp2_with (first | (go_at_call 41; refine (between_any _ _ _ _).mono ?_; rintro e w' ⟨rfl, h⟩; rw [h]; clear h w') | (go_at_call 106; refine (HA3.out _ hb2.out).mono ?_; rintro e w3 ⟨rfl, hb3⟩) | (go_at_call 105; refine (HA2.out _ hb1.out).mono ?_; rintro e w2 ⟨rfl, hb2⟩; obtain ⟨p0, p1, p2, p3, p4, q0, q1⟩ := hb2.out.cells) | (go_at_call 105; refine (HA1.out _ HF0.out).mono ?_; rintro e w1 ⟨rfl, hb1⟩; obtain ⟨f0, f1, f2, f3, f4, g0, g1⟩ := hb1.out.cells))
  go_ret
  exact ⟨ret_bool G.out.symm, hb3.out.b⟩
end Go.Proofs.YtlafddeoheambaaGreatDoor

/-
  The function move of package haze.
-/
namespace Go.Proofs.YtlafddeoheambaaGreatDoor
open Go.RowKit

def moveS (s : SWorld) (n k : Nat) (p : SPlayer) (u : SUnit) : SWorld :=
  if freeS s (u.x + dxI u.head) (u.y + dyI u.head) then s.setPl n { p with units := p.units.set k { u with x := u.x + dxI u.head, y := u.y + dyI u.head } } else s

set_option maxRecDepth 100000 in
set_option maxHeartbeats 2000000 in
theorem move_any (w : World) (X : XW) (n k : Nat) (p : SPlayer) (v : XV) (u : SUnit) (x : XU) (ha : AtX w X n k p v u x) (ho : OkX X) (hb : BdX X u) :
    Calls Tryz.prog 67 #[.pointer (some ⟨X.b, 0, none⟩), .int .i64 n, .pointer (some ⟨x.g, 0, none⟩)] w fun e w' => e = .returned (.tuple #[]) ∧ ∃ X', TurnX w X w' X' ∧ OkX X' ∧ X'.S = moveS X.S n k p u := by
  have HA := hidOf (freeAhead_any w X ha.rep hb.w hb.h u x ha.unit hb.x hb.y)
  have HX := hidOf ha
  have bx := hb.x
  have bY := hb.y
  have HO := hidOf ho
  cases hF : freeV X.width X.height (u.x + dxI u.head) (u.y + dyI u.head) X.ls
  · rw [hF] at HA
    have HS : Hid (moveS X.S n k p u = X.S) := by unfold Hid moveS; rw [← freeV_S HO.out, hF]; rfl
    clear ha ho hF
    go_enter Tryz.func67, Tryz.ntmps67
    go_wp2_with (go_at_call 107; refine HA.out.mono ?_; rintro e w1 ⟨rfl, hb1⟩)
    refine bodyPost_ret (results_none rfl _ _ _) rfl ?_
    exact ⟨rfl, X, (TurnX.refl HX.out.rep).below hb1, HO.out, HS.out.symm⟩
  · rw [hF] at HA
    have HS : Hid (moveS X.S n k p u = X.S.setPl n { p with units := p.units.set k { u with x := u.x + dxI u.head, y := u.y + dyI u.head } }) := by unfold Hid moveS; rw [← freeV_S HO.out, hF]; rfl
    have hF' : freeV X.width X.height (u.x + dxI u.head) (u.y + dyI u.head) X.ls = true := hF
    unfold freeV at hF'
    simp only [Bool.and_eq_true] at hF'
    have HL : Hid (look (u.x + dxI u.head) (u.y + dyI u.head) X.ls = none) := by
      have := hF'.2
      unfold Hid
      cases hl : look (u.x + dxI u.head) (u.y + dyI u.head) X.ls with
      | none => rfl
      | some m => rw [hl] at this; cases this
    have hw := hb.w
    have hh := hb.h
    have nx : 0 ≤ u.x + dxI u.head ∧ u.x + dxI u.head ≤ 9 := by have := hF'.1.1; simp [inB] at this; omega
    have ny : 0 ≤ u.y + dyI u.head ∧ u.y + dyI u.head ≤ 9 := by have := hF'.1.2; simp [inB] at this; omega
    clear ha ho hF hF' hw hh
    go_enter Tryz.func67, Tryz.ntmps67
    go_wp2_with (go_at_call 107; refine HA.out.mono ?_; rintro e w1 ⟨rfl, hb1⟩)
    have T1 := hidOf ((TurnX.refl HX.out.rep).below hb1)
    have A1 : Hid (AtX w1 X n k p v u x) := ⟨HX.out.q, HX.out.u, HX.out.x, T1.out.rep⟩
    clear hb1
    have c4 : w1.cell? ⟨X.b, 5, none⟩ = some (.map (some X.ms)) := T1.out.rep.cellTop rfl
    have d1 : w1.cell? ⟨x.g, 1, none⟩ = some (.complex .f64 (flI u.x) (flI u.y)) := A1.out.unit.cell rfl
    have HM := hidOf T1.out.rep.st.drew
    have hst := run_store_c
    go_region_law (refine step_delete_c rfl _ _ 79 88 rfl 3 Tryz.underlying79 Tryz.underlying88 X.ms X.cs X.ls rfl HM.out u.x u.y rfl bx bY ?_; intro w2 hm2 hp2)
    all_goals
      have T2 := hidOf (T1.out.drew.st1 hp2 hm2)
      have A2 : Hid (AtX w2 (X.withLs (cdel u.x u.y X.ls) X.cs) n k p v u x) := ⟨HX.out.q, HX.out.u, HX.out.x, T2.out.rep⟩
      have e4 : w2.cell? ⟨X.b, 5, none⟩ = some (.map (some X.ms)) := T2.out.rep.cellTop rfl
      have HM2 := hidOf hm2
      clear c4 d1 HM hm2 hp2
      go_wp2_with (at_mapUpdate; refine wpList_update_c _ rfl _ _ _ 79 rfl 88 3 Tryz.underlying79 Tryz.underlying88 X.ms X.cs (cdel u.x u.y X.ls) rfl HM2.out (u.x + dxI u.head) (u.y + dyI u.head) n rfl rfl nx ny ?_; intro w3 hm3 hp3; have T3 := hidOf (T2.out.st1 hp3 hm3); have A3 := hidOf (AtX.mk (w := w3) (X := (X.withLs (cdel u.x u.y X.ls) X.cs).withLs (cput (u.x + dxI u.head) (u.y + dyI u.head) n X.cs (cdel u.x u.y X.ls)) (cclock (u.x + dxI u.head) (u.y + dyI u.head) (cdel u.x u.y X.ls) X.cs)) HX.out.q HX.out.u HX.out.x T3.out.rep); have g1 : w3.cell? ⟨x.g, 1, none⟩ = some (.complex .f64 (flI u.x) (flI u.y)) := A3.out.unit.cell rfl; have fz : w3.frozen? ⟨x.g, 1, none⟩ = false := A3.out.unit.frozen 1; clear hm3 hp3)
      go_end0
      refine ⟨rfl, _, T3.out.unit1 A3.out.q A3.out.u A3.out.x 1 { u with x := u.x + dxI u.head, y := u.y + dyI u.head } x _ rfl rfl A3.out.unit.head A3.out.unit.what, ⟨?_, HO.out.ore, HO.out.dist, lotQ HO.out.lot HX.out.q rfl⟩, ?_⟩
      · have hst := HO.out.st.go HX.out.rep.st.keys (posL_at (XS_at HX.out.q)) (posP_at HX.out.u) HL.out X.cs
        simp only [XW.setQ, XW.withLs, List.map_set]
        rw [posL_set]
        have e : posP { p with units := p.units.set k { u with x := u.x + dxI u.head, y := u.y + dyI u.head } } = (posP p).set k (u.x + dxI u.head, u.y + dyI u.head) := by simp [posP, List.map_set]
        rw [e]
        exact hst
      · rw [HS.out, XS_setQ]
        rfl
end Go.Proofs.YtlafddeoheambaaGreatDoor

/-
  The function dig of package haze.
-/
namespace Go.Proofs.YtlafddeoheambaaGreatDoor
open Go.RowKit

def digS (s : SWorld) (n k : Nat) (p : SPlayer) (u : SUnit) : SWorld :=
  if u.cargo < 9 then (if digB s.ore u.x u.y then { s.setPl n { p with units := p.units.set k { u with cargo := u.cargo + 1 } } with ore := digL u.x u.y s.ore } else s) else s

theorem AtX.ore1 {w w' : World} {X : XW} {n k : Nat} {p : SPlayer} {v : XV} {u : SUnit} {x : XU} (h : AtX w X n k p v u x) {l : List CE} {c : Nat} (hr : RepX w' (X.withLo l c)) : AtX w' (X.withLo l c) n k p v u x := ⟨h.q, h.u, h.x, hr⟩
theorem TurnX.withOre {w w1 : World} {X X1 : XW} (h : TurnX w X w1 X1) (l : List SSpot) : TurnX w X w1 (X1.withOre l) := by
  have hr : RepX w1 (X1.withOre l) := ⟨h.rep.top, h.rep.ore, h.rep.st, h.rep.pl, h.rep.lot, h.rep.each, ⟨h.rep.roles.b, h.rep.roles.mo, h.rep.roles.ms, h.rep.roles.pl, h.rep.roles.lot, h.rep.roles.row, h.rep.roles.unit⟩⟩
  exact ⟨hr, h.kept, h.ext, h.b, h.rows⟩
theorem st_same {X : XW} {l : List CE} (h : StOK (posL (X.pls.map (·.1))) l) {n k : Nat} {p : SPlayer} {v : XV} {u : SUnit} (hq : X.pls[n]? = some (p, v)) (hu : p.units[k]? = some u) (p' : SPlayer) (v' : XV) (u' : SUnit) (hx : u'.x = u.x) (hy : u'.y = u.y) (h' : p'.units = p.units.set k u') :
    StOK (posL ((X.setQ n (p', v')).pls.map (·.1))) l := by
  have e := posL_same (ps := X.pls.map (·.1)) (XS_at hq) hu p' u' hx hy h'
  simp only [XW.setQ, List.map_set]
  rw [e]
  exact h
theorem oreAt_mem {o : List SSpot} {x y a : Int} (h : oreAt o x y = some a) : ∃ s ∈ o, s.amount = a := by
  simp only [oreAt, Option.map_eq_some_iff] at h
  obtain ⟨s, hs, e⟩ := h
  exact ⟨s, List.mem_of_find?_eq_some hs, e⟩

set_option maxRecDepth 100000 in
set_option maxHeartbeats 4000000 in
theorem xdig_any (w : World) (X : XW) (n k : Nat) (p : SPlayer) (v : XV) (u : SUnit) (x : XU) (ha : AtX w X n k p v u x) (ho : OkX X) (hb : BdX X u) (hc : 0 ≤ u.cargo ∧ u.cargo ≤ 9) (hor : ∀ s ∈ X.ore, 0 ≤ s.amount ∧ s.amount ≤ 99) :
    Calls Tryz.prog 71 #[.pointer (some ⟨X.b, 0, none⟩), .pointer (some ⟨x.g, 0, none⟩)] w fun e w' => e = .returned (.tuple #[]) ∧ ∃ X', TurnX w X w' X' ∧ OkX X' ∧ X'.S = digS X.S n k p u := by
  have HX := hidOf ha
  have bx := hb.x
  have bY := hb.y
  have HO := hidOf ho
  have c3 : w.cell? ⟨X.b, 4, none⟩ = some (.map (some X.mo)) := ha.rep.cellTop rfl
  have d1 : w.cell? ⟨x.g, 1, none⟩ = some (.complex .f64 (flI u.x) (flI u.y)) := ha.unit.cell rfl
  have d3 : w.cell? ⟨x.g, 3, none⟩ = some (.int .i64 u.cargo) := ha.unit.cell rfl
  have fz : w.frozen? ⟨x.g, 3, none⟩ = false := ha.unit.frozen 3
  cases hl : look u.x u.y X.lo with
  | none =>
    have l0 : ∀ m, (Instr.lookup 79 (.map (some X.mo)) (.complex .f64 (flI u.x) (flI u.y)) false).run Tryz.prog (w.drewN m) = .ok (.int .i64 0) (w.drewN m) := fun m => by
      have := (ha.rep.ore.same (w' := w.drewN m) rfl).lookup u.x u.y bx bY
      rw [hl] at this
      exact this
    have HS : Hid (digS X.S n k p u = X.S) := by
      unfold Hid digS
      have : digB X.S.ore u.x u.y = false := by rw [digB_at, show oreAt X.S.ore u.x u.y = look u.x u.y X.lo from (ho.ore _ _).symm, hl]; rfl
      rw [this]
      simp
    clear ha ho hl
    go_enter Tryz.func71, Tryz.ntmps71
    go_wp2_with fail
    go_quiet (fail)
    go_wp2
    refine bodyPost_ret (results_none rfl _ _ _) rfl ?_
    exact ⟨rfl, X, (TurnX.refl HX.out.rep).drewN _, HO.out, HS.out.symm⟩
  | some a =>
    have h0 : oreAt X.ore u.x u.y = some a := by rw [← ho.ore]; exact hl
    have a0 : 0 < a := oreAt_pos h0
    have a9 : a ≤ 99 := by obtain ⟨s, hs, e⟩ := oreAt_mem h0; have := (hor s hs).2; omega
    have hdig : Hid (digB X.ore u.x u.y = true) := by unfold Hid; rw [digB_at, h0]; rfl
    have l0 : ∀ m, (Instr.lookup 79 (.map (some X.mo)) (.complex .f64 (flI u.x) (flI u.y)) false).run Tryz.prog (w.drewN m) = .ok (.int .i64 a) (w.drewN m) := fun m => by
      have := (ha.rep.ore.same (w' := w.drewN m) rfl).lookup u.x u.y bx bY
      rw [hl] at this
      exact this
    have hz0 : (a == 0) = false := beq_eq_false_iff_ne.2 (by omega)
    have HL := hidOf hl
    clear ha ho hl h0 hor
    by_cases hcg : u.cargo < 9
    · have HS : Hid (digS X.S n k p u = { X.S.setPl n { p with units := p.units.set k { u with cargo := u.cargo + 1 } } with ore := digL u.x u.y X.S.ore }) := by
        unfold Hid digS
        rw [if_pos hcg, show digB X.S.ore u.x u.y = true from hdig.out]
        rfl
      have hcg' : (9 ≤ u.cargo) = False := by simp; omega
      go_enter Tryz.func71, Tryz.ntmps71
      go_wp2_with fail
      go_quiet (fail)
      go_wp2
      have T2 := hidOf (((TurnX.refl HX.out.rep).drewN nq).unit1 HX.out.q HX.out.u HX.out.x 3 { u with cargo := u.cargo + 1 } x (.int .i64 (u.cargo + 1)) rfl rfl HX.out.unit.head HX.out.unit.what)
      obtain ⟨w2, hw2⟩ : ∃ w2, w2 = (w.drewN nq).setCell ⟨x.g, 3, none⟩ (.int .i64 (u.cargo + 1)) := ⟨_, rfl⟩
      rw [← hw2] at T2 ⊢
      clear hw2 c3 d1 d3 fz l0
      have hq2 : (X.setQ n ({ p with units := p.units.set k { u with cargo := u.cargo + 1 } }, { v with us := v.us.set k x })).pls[n]? = some ({ p with units := p.units.set k { u with cargo := u.cargo + 1 } }, { v with us := v.us.set k x }) := set_at HX.out.q
      have A2 : Hid (AtX w2 (X.setQ n ({ p with units := p.units.set k { u with cargo := u.cargo + 1 } }, { v with us := v.us.set k x })) n k { p with units := p.units.set k { u with cargo := u.cargo + 1 } } { v with us := v.us.set k x } { u with cargo := u.cargo + 1 } x) := ⟨hq2, set_at HX.out.u, set_at HX.out.x, T2.out.rep⟩
      clear hq2
      have c3 : w2.cell? ⟨X.b, 4, none⟩ = some (.map (some X.mo)) := T2.out.rep.cellTop rfl
      have d1 : w2.cell? ⟨x.g, 1, none⟩ = some (.complex .f64 (flI u.x) (flI u.y)) := A2.out.unit.cell rfl
      have hm2 := T2.out.rep.ore.drew
      have l0 := hm2.lookup u.x u.y bx bY
      obtain ⟨w3, hup, hm3, hp3⟩ := hm2.update u.x u.y (a - 1) bx bY
      have l0' : (Instr.lookup 79 (.map (some X.mo)) (.complex .f64 (flI u.x) (flI u.y)) false).run Tryz.prog w2.drew = .ok (.int .i64 a) w2.drew := by
        have e : look u.x u.y (X.setQ n ({ p with units := p.units.set k { u with cargo := u.cargo + 1 } }, { v with us := v.us.set k x })).lo = some a := HL.out
        rw [e] at l0
        exact l0
      have hup' : (Instr.mapUpdate 79 (.map (some X.mo)) (.complex .f64 (flI u.x) (flI u.y)) (.int .i64 (a - 1))).run Tryz.prog w2.drew = .ok () w3 := hup
      have HM3 : Hid (MapD w3 X.mo (cput u.x u.y (a - 1) X.co X.lo) (cclock u.x u.y X.lo X.co)) := hm3
      have HP3 := hidOf hp3
      clear l0 hup hm2 hm3 hp3
      by_cases ha1 : a = 1
      · have hz1 : (a - 1 == 0) = true := by simp; omega
        have HA1 := hidOf ha1
        clear ha1
        go_region
        all_goals
          have T3 := hidOf (T2.out.drew.ore1 HP3.out HM3.out)
          have A3 := hidOf (A2.out.ore1 T3.out.rep)
          clear c3 d1 l0' hup'
          have c3 : w3.cell? ⟨X.b, 4, none⟩ = some (.map (some X.mo)) := T3.out.rep.cellTop rfl
          have d1 : w3.cell? ⟨x.g, 1, none⟩ = some (.complex .f64 (flI u.x) (flI u.y)) := A3.out.unit.cell rfl
          have l3 : ∀ m, (Instr.lookup 79 (.map (some X.mo)) (.complex .f64 (flI u.x) (flI u.y)) false).run Tryz.prog (w3.drewN m) = .ok (.int .i64 (a - 1)) (w3.drewN m) := fun m => by
            have := (HM3.out.same (w' := w3.drewN m) rfl).lookup u.x u.y bx bY
            rw [look_put] at this
            simpa using this
          go_wp2_with fail
          go_quiet (fail)
          go_wp2_with fail
          have HM4 : Hid _ := hidOf (HM3.out.same (w' := (w3.drewN nq).drew) rfl)
          go_region_law (refine step_delete_c rfl _ _ 79 88 rfl 3 Tryz.underlying79 Tryz.underlying88 X.mo _ _ rfl HM4.out u.x u.y rfl bx bY ?_; intro w4 hm4 hp4)
          all_goals
            go_wp2
            go_end0
            refine ⟨rfl, _, ((T3.out.drewN nq).drew.ore1 hp4 hm4).withOre (digL u.x u.y X.ore), ⟨?_, ?_, oreD_dig HO.out.dist, lotQ HO.out.lot HX.out.q rfl⟩, ?_⟩
            · exact st_same HO.out.st HX.out.q HX.out.u _ _ { u with cargo := u.cargo + 1 } rfl rfl rfl
            · have := HO.out.ore.dig HO.out.dist HX.out.rep.ore.keys HL.out X.co
              rw [if_pos HA1.out] at this
              exact this
            · rw [HS.out]
              simp [XW.withOre, XW.withLo, XW.setQ, XW.S, SWorld.setPl, List.map_set]
      · have hz1 : (a - 1 == 0) = false := beq_eq_false_iff_ne.2 (by omega)
        have HA1 := hidOf ha1
        clear ha1
        go_region
        all_goals
          have T3 := hidOf (T2.out.drew.ore1 HP3.out HM3.out)
          have A3 := hidOf (A2.out.ore1 T3.out.rep)
          clear c3 d1 l0' hup'
          have c3 : w3.cell? ⟨X.b, 4, none⟩ = some (.map (some X.mo)) := T3.out.rep.cellTop rfl
          have d1 : w3.cell? ⟨x.g, 1, none⟩ = some (.complex .f64 (flI u.x) (flI u.y)) := A3.out.unit.cell rfl
          have l3 : ∀ m, (Instr.lookup 79 (.map (some X.mo)) (.complex .f64 (flI u.x) (flI u.y)) false).run Tryz.prog (w3.drewN m) = .ok (.int .i64 (a - 1)) (w3.drewN m) := fun m => by
            have := (HM3.out.same (w' := w3.drewN m) rfl).lookup u.x u.y bx bY
            rw [look_put] at this
            simpa using this
          go_wp2_with fail
          go_quiet (fail)
          go_wp2
          go_end0
          refine ⟨rfl, _, (T3.out.drewN nq).withOre (digL u.x u.y X.ore), ⟨?_, ?_, oreD_dig HO.out.dist, lotQ HO.out.lot HX.out.q rfl⟩, ?_⟩
          · exact st_same HO.out.st HX.out.q HX.out.u _ _ { u with cargo := u.cargo + 1 } rfl rfl rfl
          · have := HO.out.ore.dig HO.out.dist HX.out.rep.ore.keys HL.out X.co
            rw [if_neg HA1.out] at this
            exact this
          · rw [HS.out]
            simp [XW.withOre, XW.withLo, XW.setQ, XW.S, SWorld.setPl, List.map_set]
    · have HS : Hid (digS X.S n k p u = X.S) := by
        unfold Hid digS
        rw [if_neg hcg]
      have hcg' : (9 ≤ u.cargo) = True := by simp; omega
      go_enter Tryz.func71, Tryz.ntmps71
      go_wp2_with fail
      go_quiet (fail)
      go_wp2
      refine bodyPost_ret (results_none rfl _ _ _) rfl ?_
      exact ⟨rfl, X, (TurnX.refl HX.out.rep).drewN _, HO.out, HS.out.symm⟩
end Go.Proofs.YtlafddeoheambaaGreatDoor

/-
  append onto a list of one's own: but for the block that the new list lies in, all is as it was.
-/
namespace Go.Proofs.YtlafddeoheambaaGreatDoor
open Go.RowKit

section
variable {P : Program} {w : World}
theorem append_only (t ty : TypeId) (base : Nat) (e : TypeId) (i : TypeInfo) (z : Value) (size bytes : Nat) (ht : P.underlying t = some (.slice e)) (hi : P.info? e = some i) (hz : i.zero = some z)
    (hsize : i.size = size)
    (v : Value) (n : Nat) (xs : List Value) (hown : w.ownsRow base e size v n xs)
    (ad : Addr) (m c : Nat) (news : List Value) (hl : news.length = m * size) (hnews : ∀ j u, news[j]? = some u → w.cell? (ad.add j) = some u) (h1 : ∀ u ∈ news, u.oneCell' = true)
    (h63 : n + m ≤ maxLen) (hby : i.bytes = bytes) (hbytes : (n + m) * bytes ≤ 140737488355328) {g cap : Nat} {w' : World}
    (hr : (Builtin.append_ #[t, t] ty #[v, .slice (some ad) m c]).run P w = .ok (.slice (some ⟨g, 0, none⟩) (n + m) cap) w') (hg : w.grownBy w' v.ownBlock) (hat : v.ownBlock = some g ∨ g = w.heap.size) : w.grownBy w' (some g) := by
  rcases hat with h | h
  · rw [← h]; exact hg
  · refine ⟨hg.os, hg.tape, hg.output, hg.size, fun k hk hne => ?_⟩
    by_cases e1 : some k = v.ownBlock
    · subst hsize
      subst hby
      have hsmall : n + m ≤ 9223372036854775807 := by simp only [maxLen] at h63; omega
      rcases hown.2 with ⟨rfl, rfl⟩ | ⟨g', cap', cur, rfl, _, hb, hnc, hcm, hcs, _⟩
      · simp [Value.ownBlock] at e1
      · by_cases hroom : n + m ≤ cap'
        · have hfit : n * i.size + news.length ≤ cur.size := by rw [hl, hcs, ← Nat.add_mul]; exact Nat.mul_le_mul_right _ hroom
          have hr2 := run_append_room (P := P) w t ty e i ht hi g' n cap' cur hb ad m c news hl hnews h1 hroom hfit
          rw [hr2] at hr
          injection hr with hr _
          injection hr with hr _ _
          injection hr with hr
          injection hr with hr _ _
          have := (Array.getElem?_eq_some_iff.1 hb).1
          omega
        · have hr2 := run_append_grow (P := P) w t ty e i z ht hi hz ⟨g', 0, none⟩ n cap' xs hown.1 (hown.cells (g := g') rfl) ad m c news hl hnews (by omega) (by omega) (growslice_fits (by omega) hbytes)
          rw [hr2] at hr
          injection hr with _ hr
          rw [← hr]
          exact Below.heap_alloc w.drew _ k hk
    · exact hg.block k hk e1
theorem step_append_only {ops : Array Oper} {o : Oper} {a : Act} {K : Act → World → Prop} {Q : Exit → Act → World → Prop} {E : Prop} (hgd : o.guard = none) (s x : Operand) (t : TypeId)
    (ho : o.op = .call { callee := .builtin .append, args := #[s, x], argTypes := #[t, t] })
    (base : Nat) (e : TypeId) (i : TypeInfo) (z : Value) (size bytes : Nat) (ht : P.underlying t = some (.slice e)) (hi : P.info? e = some i) (hz : i.zero = some z)
    (hsize : i.size = size) (hby : i.bytes = bytes) (hzs : z.cells.size = size) (hsz : 0 < size)
    (v : Value) (n : Nat) (xs : List Value) (hs : a.eval s = v) (hown : w.ownsRow base e size v n xs)
    (ad : Addr) (m c : Nat) (news : List Value) (hx : a.eval x = .slice (some ad) m c) (hl : news.length = m * size) (hnews : ∀ j u, news[j]? = some u → w.cell? (ad.add j) = some u) (h1 : ∀ u ∈ news, u.oneCell' = true)
    (hm : 0 < m) (h63 : n + m ≤ maxLen) (hbytes : (n + m) * bytes ≤ 140737488355328) (hbase : base ≤ w.heap.size) (H : Nat) (hH : w.heap.size = H)
    (h : ∀ g cap w', w'.ownsRow base e size (.slice (some ⟨g, 0, none⟩) (n + m) cap) (n + m) (xs ++ news) → w.grownBy w' v.ownBlock → (v.ownBlock = some g ∨ g = H) → w.grownBy w' (some g) → K (a.put o.dst (.slice (some ⟨g, 0, none⟩) (n + m) cap)) w') :
    if Region.wanted o (yielded ops a.tmps) = true then Oper.wp P o a w K Q else E := by
  have hw : Region.wanted o (yielded ops a.tmps) = true := by simp [Region.wanted, hgd]
  rw [if_pos hw]
  obtain ⟨g, cap, w', hr, h2, h3, h4, h5⟩ := run_append_lies (P := P) w t o.type base e i z size bytes ht hi hz hsize hby hzs hsz v n xs hown ad m c news hl hnews h1 hm h63 hbytes hbase H hH
  have h6 := append_only t o.type base e i z size bytes ht hi hz hsize v n xs hown ad m c news hl hnews h1 h63 hby hbytes hr h3 (by rw [hH]; exact h4)
  unfold Oper.wp execOp
  simp only [ho, resolve, invoke, builtin, Sem.run_bind, Sem.run_pure, Result.andThen_ok, List.map_toArray, List.map_cons, List.map_nil, hs, hx, hr]
  exact h g cap w' h2 h3 h4 h6
end
end Go.Proofs.YtlafddeoheambaaGreatDoor
