/-
  The functions amountsFit and apart of package haze.
-/
import Derived.Test.YtdpmadoccimgcaaT18
import Derived.Test.YtdpmadoccimgcaaT13
set_option linter.unusedVariables false
namespace Go.Proofs.Ytdpmadoccimgcaa
open Go.RowKit

/-- The first k amounts fit. -/
def fitTo (l : List SSpot) (k : Nat) : Prop := ∀ j (hj : j < l.length), j < k → inB l[j].amount 1 99 = true
theorem fitTo_all {l : List SSpot} {k : Nat} (h : fitTo l k) (hk : ¬ k < l.length) : l.all (fun s => inB s.amount 1 99) = true := by
  rw [List.all_eq_true]
  intro s hs
  obtain ⟨j, hj, rfl⟩ := List.mem_iff_getElem.1 hs
  exact h j hj (by omega)
theorem fitTo_no {l : List SSpot} {k : Nat} (hk : k < l.length) (h : inB l[k].amount 1 99 = false) : l.all (fun s => inB s.amount 1 99) = false := by
  rw [List.all_eq_false]
  exact ⟨l[k], List.getElem_mem hk, by simp [h]⟩

set_option maxRecDepth 100000 in
set_option maxHeartbeats 2000000 in
theorem amounts_any (w : World) (v : Value) (l : List SSpot) (hv : SpIn w v l) (hl : l.length ≤ 2000000) :
    Calls Try.prog 53 #[v] w fun e w' => e = .returned (.bool (l.all (fun s => inB s.amount 1 99))) ∧ Below w.heap.size w w' := by
  obtain ⟨ao, cap, rfl, hsrc⟩ := hv
  go_enter Try.func53, Try.ntmps53
  go_wp2
  go_loopw [4, 7] (fun _ i w' => ∃ k : Nat, k ≤ l.length ∧ i = .int .i64 k ∧ Below w.heap.size w w' ∧ Hid (fitTo l k)) (fun _ i _ => l.length + 1 - (intOf i).toNat)
  case atStart => exact ⟨0, Nat.zero_le _, rfl, Below.refl _ _, fun j hj h => absurd h (by omega)⟩
  case round =>
    obtain ⟨k, hk, rfl, hb, hf⟩ := hrel
    have HB := hidOf hb
    by_cases hlt : k < l.length
    · obtain ⟨b, off, rfl, hbl, hc⟩ := hsrc (by omega)
      have f := fun j (hj : j < 3) => flat_at spotCells 3 (fun _ => rfl) l k j hlt hj
      have d0 : wr.cell? ⟨b, off + k * 3, none⟩ = some (.int .i64 l[k].x) := (hb.cell hbl).trans (hc (k * 3 + 0) _ (f 0 (by omega)))
      have d1 : wr.cell? ⟨b, off + k * 3 + 1, none⟩ = some (.int .i64 l[k].y) := (hb.cell hbl).trans (hc (k * 3 + 1) _ (f 1 (by omega)))
      have d2 : wr.cell? ⟨b, off + k * 3 + 2, none⟩ = some (.int .i64 l[k].amount) := (hb.cell hbl).trans (hc (k * 3 + 2) _ (f 2 (by omega)))
      have HB2 := hidOf (fun o => hb.alloc hb.size o)
      clear hb hc f
      cases hx : inB l[k].amount 1 99
      · have G := hidOf (fitTo_no hlt hx)
        go_wp2_with (go_at_call 51; refine (between_any _ _ _ _).mono ?_; rintro e w' ⟨rfl, h⟩; rw [h, hx]; clear h w')
        go_ret
        exact ⟨ret_bool G.out.symm, HB2.out _⟩
      · have G : Hid (fitTo l (k + 1)) := fun j hj hjk => by
          by_cases e : j = k
          · subst e; exact hx
          · exact hf.out j hj (by omega)
        go_wp2_with (go_at_call 51; refine (between_any _ _ _ _).mono ?_; rintro e w' ⟨rfl, h⟩; rw [h, hx]; clear h w')
        exact ⟨⟨k + 1, by omega, by go_num, HB2.out _, G⟩, by simp [intOf]; omega⟩
    · have G := hidOf (fitTo_all hf.out hlt)
      go_wp2
      go_ret
      exact ⟨ret_bool G.out.symm, HB.out⟩
/-- What the map of the spots seen so far holds. -/
def seenB (pre : List SSpot) (x y : Int) : Bool := pre.any (fun a => decide (a.x = x) && decide (a.y = y))
def SeenOK (pre : List SSpot) (l : List CE) : Prop := ∀ x y, look x y l = if seenB pre x y then some 1 else none
theorem SeenOK.add {pre : List SSpot} {l : List CE} (h : SeenOK pre l) (s : SSpot) (c : Nat) : SeenOK (pre ++ [s]) (cput s.x s.y 1 c l) := by
  intro x y
  rw [look_put]
  by_cases e : x = s.x ∧ y = s.y
  · simp [seenB, e]
  · rw [if_neg e, h x y]
    have : seenB (pre ++ [s]) x y = seenB pre x y := by
      simp only [seenB, List.any_append, List.any_cons, List.any_nil, Bool.or_false]
      have : (decide (s.x = x) && decide (s.y = y)) = false := by
        simp only [Bool.and_eq_false_iff, decide_eq_false_iff_not]
        omega
      rw [this]
      simp
    rw [this]
theorem seen_same (pre : List SSpot) (s : SSpot) : pre.any (fun a => sameXY a s) = seenB pre s.x s.y := rfl

set_option maxRecDepth 100000 in
set_option maxHeartbeats 4000000 in
theorem xapart_any (w : World) (v : Value) (l : List SSpot) (W H : Int) (hv : SpIn w v l) (hl : l.length ≤ 2000000) (hW : 3 ≤ W ∧ W ≤ 10) (hH : 3 ≤ H ∧ H ≤ 10) (hin : ∀ s ∈ l, (-9223372036854775808 ≤ s.x ∧ s.x ≤ 9223372036854775807) ∧ (-9223372036854775808 ≤ s.y ∧ s.y ≤ 9223372036854775807)) :
    Calls Try.prog 52 #[.agg #[.int .i64 W, .int .i64 H], v] w fun e w' => e = .returned (.bool (apartB l W H)) ∧ Below w.heap.size w w' := by
  obtain ⟨ao, cap, rfl, hsrc⟩ := hv
  have hmm : ∀ wx : World, (Instr.makeMap 70 none).run Try.prog wx = .ok (.map (some wx.heap.size)) (wx.alloc (.map #[] 0)) := fun wx => rfl
  go_enter Try.func52, Try.ntmps52
  go_wp2
  clear hmm
  go_loopw [7, 8, 12] (fun _ _ i w' => ∃ (k : Nat) (ls : List CE) (c : Nat), k ≤ l.length ∧ i = .int .i64 k ∧ Below w.heap.size w w' ∧ w'.heap[w.heap.size]? = some (.cells #[.int .i64 W, .int .i64 H] 69 (0, 0)) ∧ MapD w' (w.heap.size + 1) ls c ∧ Hid (SeenOK (l.take k) ls) ∧ Hid (apartB l W H = apartGo W H (l.take k) (l.drop k))) (fun _ _ i _ => l.length + 1 - (intOf i).toNat)
  case atStart =>
    refine ⟨0, [], 0, Nat.zero_le _, rfl, ?_, ?_, ⟨⟨?_, by simp⟩, by simp [keysD]⟩, ?_, by unfold Hid; simp [apartB]⟩
    · exact (((Below.refl _ w).alloc (Nat.le_refl _) _)).alloc (by simp) _
    · rw [Below.heap_alloc _ _ _ (by simp)]
      exact Go.heap_alloc_new w _
    · have e : (w.alloc (.cells #[.int .i64 W, .int .i64 H] 69)).heap.size = w.heap.size + 1 := by simp
      rw [← e]
      exact Go.heap_alloc_new _ _
    · intro x y
      simp [look, seenB]
  case round =>
    obtain ⟨k, ls, c, hk, rfl, hb, hsd, hm, hso, ha⟩ := hrel
    have HB := hidOf hb
    by_cases hlt : k < l.length
    · obtain ⟨b, off, rfl, hbl, hc⟩ := hsrc (by omega)
      have f := fun j (hj : j < 3) => flat_at spotCells 3 (fun _ => rfl) l k j hlt hj
      have d0 : wr.cell? ⟨b, off + k * 3, none⟩ = some (.int .i64 l[k].x) := (hb.cell hbl).trans (hc (k * 3 + 0) _ (f 0 (by omega)))
      have d1 : wr.cell? ⟨b, off + k * 3 + 1, none⟩ = some (.int .i64 l[k].y) := (hb.cell hbl).trans (hc (k * 3 + 1) _ (f 1 (by omega)))
      have d2 : wr.cell? ⟨b, off + k * 3 + 2, none⟩ = some (.int .i64 l[k].amount) := (hb.cell hbl).trans (hc (k * 3 + 2) _ (f 2 (by omega)))
      have st := apart_step W H l k hlt
      have hi := hin l[k] (List.getElem_mem hlt)
      have HHo := hidOf (fun wx => hold_any W H l[k].x l[k].y wx hi.1 hi.2 hW hH)
      obtain ⟨o, ho⟩ : ∃ o : Obj, o = .cells #[.int .i64 l[k].x, .int .i64 l[k].y, .int .i64 l[k].amount] 51 := ⟨_, rfl⟩
      have ha1 := hb.alloc hb.size o
      have hsz : w.heap.size + 1 < wr.heap.size := lt_of_some hm.is.1
      have s0 : ∀ o, (wr.alloc o).cell? ⟨w.heap.size, 0, none⟩ = some (.int .i64 W) := fun o => by
        rw [World.cell?_alloc_past _ _ _ (by show w.heap.size < _; omega), cell_of_row _ _ _ _ _ _ hsd]; rfl
      have s1 : ∀ o, (wr.alloc o).cell? ⟨w.heap.size, 1, none⟩ = some (.int .i64 H) := fun o => by
        rw [World.cell?_alloc_past _ _ _ (by show w.heap.size < _; omega), cell_of_row _ _ _ _ _ _ hsd]; rfl
      have HSd := hidOf hsd
      have HM := hidOf hm
      have HZ := hidOf hsz
      cases hho : (inB l[k].x 0 (W - 1) && inB l[k].y 0 (H - 1))
      · have G : Hid (apartB l W H = false) := by unfold Hid; rw [ha.out, st]; simp [okSpot, hho]
        rw [hho] at HHo
        clear hb hc f hsd hm ha1 ho hsz
        go_wp2_with (first | (go_at_call 27; refine (at_any _ _ _).mono ?_; rintro e w' ⟨rfl, h⟩; rw [h]; clear h w') | (go_at_call 73; refine (HHo.out _).mono ?_; rintro e w2 ⟨rfl, hb2⟩))
        go_ret
        exact ⟨ret_bool G.out.symm, (HB.out.alloc HB.out.size _).trans (hb2.mono (Nat.le_trans HB.out.size (by simp)))⟩
      · rw [hho] at HHo
        have bx : 0 ≤ l[k].x ∧ l[k].x ≤ 9 := by simp [inB] at hho; omega
        have bY : 0 ≤ l[k].y ∧ l[k].y ≤ 9 := by simp [inB] at hho; omega
        have hlook := hso.out l[k].x l[k].y
        have HH2 : Hid (∀ o, Calls Try.prog 73 #[.agg #[.int .i64 W, .int .i64 H], .complex .f64 (flI l[k].x) (flI l[k].y)] (wr.alloc o) fun e w2 => e = .returned (.bool true) ∧ Hid (Below w.heap.size w w2) ∧ Hid (w2.heap[w.heap.size]? = some (.cells #[.int .i64 W, .int .i64 H] 69 (0, 0))) ∧ Hid (MapD w2 (w.heap.size + 1) ls c) ∧
            (Instr.lookup 70 (.map (some (w.heap.size + 1))) (.complex .f64 (flI l[k].x) (flI l[k].y)) false).run Try.prog w2 = .ok (.int .i64 ((look l[k].x l[k].y ls).getD 0)) w2) := by
          intro o
          refine (HHo.out (wr.alloc o)).mono ?_
          rintro e w2 ⟨rfl, hb2⟩
          have sz : (wr.alloc o).heap.size = wr.heap.size + 1 := by simp
          have hm2 : MapD w2 (w.heap.size + 1) ls c := HM.out.same ((hb2.block _ (by rw [sz]; omega)).trans (Below.heap_alloc _ _ _ HZ.out))
          refine ⟨rfl, (hb.alloc hb.size _).trans (hb2.mono (by rw [sz]; have := hb.size; omega)), ?_, hm2, hm2.lookup l[k].x l[k].y bx bY⟩
          unfold Hid
          rw [hb2.block _ (by rw [sz]; omega), Below.heap_alloc _ _ _ (by omega)]
          exact HSd.out
        cases hsn : seenB (l.take k) l[k].x l[k].y
        · rw [hsn] at hlook
          have hlk : look l[k].x l[k].y ls = none := hlook
          simp only [hlk, Option.getD_none] at HH2
          have G : Hid (apartB l W H = apartGo W H (l.take (k + 1)) (l.drop (k + 1))) := by unfold Hid; rw [ha.out, st, seen_same, hsn]; simp [okSpot, hho]
          clear hb hc f hsd hm ha1 ho hsz hlook hlk
          go_wp2_with (first | (go_at_call 27; refine (at_any _ _ _).mono ?_; rintro e w' ⟨rfl, h⟩; rw [h]; clear h w') | (go_at_call 73; refine (HH2.out _).mono ?_; rintro e w2 ⟨rfl, hb2, hs2, hm2, hlk⟩; obtain ⟨w3, hup, hm3, hp3⟩ := hm2.out.update l[k].x l[k].y 1 bx bY; have HM3 := hidOf hm3; have HP3 := hidOf hp3; clear hm3 hp3))
          refine ⟨⟨k + 1, _, _, by omega, by go_num, ?_, ?_, HM3.out, ?_, G⟩, by simp [intOf]; omega⟩
          · have b2 := hb2.out
            exact ⟨HP3.out.os.trans b2.os, HP3.out.tape.trans b2.tape, HP3.out.output.trans b2.output, by rw [HP3.out.size]; exact b2.size, fun j hj => by rw [HP3.out.block j (by omega), b2.block j hj]⟩
          · rw [HP3.out.block _ (by omega)]
            exact hs2.out
          · unfold Hid
            rw [List.take_succ_eq_append_getElem hlt]
            exact hso.out.add l[k] c
        · rw [hsn] at hlook
          have hlk : look l[k].x l[k].y ls = some 1 := hlook
          simp only [hlk, Option.getD_some] at HH2
          have G : Hid (apartB l W H = false) := by unfold Hid; rw [ha.out, st, seen_same, hsn]; simp
          clear hb hc f hsd hm ha1 ho hsz hlook hlk
          go_wp2_with (first | (go_at_call 27; refine (at_any _ _ _).mono ?_; rintro e w' ⟨rfl, h⟩; rw [h]; clear h w') | (go_at_call 73; refine (HH2.out _).mono ?_; rintro e w2 ⟨rfl, hb2, hs2, hm2, hlk⟩))
          go_ret
          exact ⟨ret_bool G.out.symm, hb2.out⟩
    · have G : Hid (apartB l W H = true) := by
        unfold Hid
        rw [ha.out, List.drop_of_length_le (by omega)]
        rfl
      go_wp2
      go_ret
      exact ⟨ret_bool G.out.symm, HB.out⟩
end Go.Proofs.Ytdpmadoccimgcaa

/-
  The function fits of package haze.
-/
namespace Go.Proofs.Ytdpmadoccimgcaa
open Go.RowKit

/-- The two blocks that fits lays, and that all that was there stays. -/
structure FB (w : World) (W H S : Int) (vo vs : Value) (wx : World) : Prop where
  b : Below w.heap.size w wx
  c : wx.heap[w.heap.size]? = some (.cells #[.int .i64 W, .int .i64 H, .int .i64 S, vo, vs] 32 (0, 0))
  s : wx.heap[w.heap.size + 1]? = some (.cells #[.int .i64 W, .int .i64 H] 69 (0, 0))
theorem FB.first (w : World) (W H S : Int) (vo vs : Value) : FB w W H S vo vs ((w.alloc (.cells #[.int .i64 W, .int .i64 H, .int .i64 S, vo, vs] 32)).alloc (.cells #[.int .i64 W, .int .i64 H] 69)) := by
  refine ⟨(((Below.refl _ w).alloc (Nat.le_refl _) _)).alloc (by simp) _, ?_, ?_⟩
  · rw [Below.heap_alloc _ _ _ (by simp)]
    exact Go.heap_alloc_new w _
  · have e : (w.alloc (.cells #[.int .i64 W, .int .i64 H, .int .i64 S, vo, vs] 32)).heap.size = w.heap.size + 1 := by simp
    rw [← e]
    exact Go.heap_alloc_new _ _
theorem FB.below {w wx w' : World} {W H S : Int} {vo vs : Value} (h : FB w W H S vo vs wx) (hb : Below wx.heap.size wx w') : FB w W H S vo vs w' :=
  ⟨h.b.trans (hb.mono h.b.size), by rw [hb.block _ (lt_of_some h.c)]; exact h.c, by rw [hb.block _ (lt_of_some h.s)]; exact h.s⟩
theorem FB.cells {w wx : World} {W H S : Int} {vo vs : Value} (h : FB w W H S vo vs wx) : wx.cell? ⟨w.heap.size, 0, none⟩ = some (.int .i64 W) ∧ wx.cell? ⟨w.heap.size, 1, none⟩ = some (.int .i64 H) ∧ wx.cell? ⟨w.heap.size, 2, none⟩ = some (.int .i64 S) ∧ wx.cell? ⟨w.heap.size, 3, none⟩ = some vo ∧ wx.cell? ⟨w.heap.size, 4, none⟩ = some vs ∧ wx.cell? ⟨w.heap.size + 1, 0, none⟩ = some (.int .i64 W) ∧ wx.cell? ⟨w.heap.size + 1, 1, none⟩ = some (.int .i64 H) := by
  refine ⟨?_, ?_, ?_, ?_, ?_, ?_, ?_⟩
  all_goals first
    | (rw [cell_of_row _ _ _ _ _ _ h.c]; rfl)
    | (rw [cell_of_row _ _ _ _ _ _ h.s]; rfl)

def I64s (l : List SSpot) : Prop := ∀ s ∈ l, (-9223372036854775808 ≤ s.x ∧ s.x ≤ 9223372036854775807) ∧ (-9223372036854775808 ≤ s.y ∧ s.y ≤ 9223372036854775807)

set_option maxRecDepth 100000 in
set_option maxHeartbeats 4000000 in
theorem fits_any (w : World) (W H S : Int) (vo vs : Value) (ore starts : List SSpot) (ho : SpIn w vo ore) (hs : SpIn w vs starts) (hl : starts.length ≤ 2000000) (hlo : ore.length ≤ 2000000) (io : I64s ore) (is : I64s starts) :
    Calls Try.prog 26 #[.agg #[.int .i64 W, .int .i64 H, .int .i64 S, vo, vs]] w fun e w' => e = .returned (.bool (newB W H S ore starts)) ∧ Below w.heap.size w w' := by
  have HF0 := hidOf (FB.first w W H S vo vs)
  obtain ⟨ao, co, evo, hso⟩ := ho
  obtain ⟨aS, cS, evs, hss⟩ := hs
  have HIo : Hid (∀ wx, FB w W H S vo vs wx → SpIn wx vo ore) := fun wx h => SpIn.below (w := w) ⟨ao, co, evo, hso⟩ h.b
  have HIs : Hid (∀ wx, FB w W H S vo vs wx → SpIn wx vs starts) := fun wx h => SpIn.below (w := w) ⟨aS, cS, evs, hss⟩ h.b
  clear hso hss
  cases h1 : inB W 3 10
  · have G : Hid (newB W H S ore starts = false) := by unfold Hid newB; rw [h1]; simp
    subst evo evs
    go_enter Try.func26, Try.ntmps26
    go_wp2_with (first | (go_at_call 51; refine (between_any _ _ _ _).mono ?_; rintro e w' ⟨rfl, h⟩; rw [h]; clear h w'))
    go_ret
    exact ⟨ret_bool G.out.symm, HF0.out.b⟩
  cases h2 : inB H 3 10
  · have G : Hid (newB W H S ore starts = false) := by unfold Hid newB; rw [h1, h2]; simp
    subst evo evs
    go_enter Try.func26, Try.ntmps26
    go_wp2_with (first | (go_at_call 51; refine (between_any _ _ _ _).mono ?_; rintro e w' ⟨rfl, h⟩; rw [h]; clear h w'))
    go_ret
    exact ⟨ret_bool G.out.symm, HF0.out.b⟩
  cases h3 : inB S 1 4
  · have G : Hid (newB W H S ore starts = false) := by unfold Hid newB; rw [h1, h2, h3]; simp
    subst evo evs
    go_enter Try.func26, Try.ntmps26
    go_wp2_with (first | (go_at_call 51; refine (between_any _ _ _ _).mono ?_; rintro e w' ⟨rfl, h⟩; rw [h]; clear h w'))
    go_ret
    exact ⟨ret_bool G.out.symm, HF0.out.b⟩
  cases h4 : inB (starts.length : Int) 2 4
  · have G : Hid (newB W H S ore starts = false) := by unfold Hid newB; rw [h1, h2, h3, h4]; simp
    subst evo evs
    go_enter Try.func26, Try.ntmps26
    go_wp2_with (first | (go_at_call 51; refine (between_any _ _ _ _).mono ?_; rintro e w' ⟨rfl, h⟩; rw [h]; clear h w'))
    go_ret
    exact ⟨ret_bool G.out.symm, HF0.out.b⟩
  by_cases h5 : (ore.length : Int) ≤ 6
  rotate_left
  · have h5' : ¬ (ore.length ≤ 6) := by omega
    have G : Hid (newB W H S ore starts = false) := by unfold Hid newB; simp [h5']
    subst evo evs
    go_enter Try.func26, Try.ntmps26
    go_wp2_with (first | (go_at_call 51; refine (between_any _ _ _ _).mono ?_; rintro e w' ⟨rfl, h⟩; rw [h]; clear h w'))
    go_ret
    exact ⟨ret_bool G.out.symm, HF0.out.b⟩
  have h5' : ore.length ≤ 6 := by omega
  have hWH : (3 ≤ W ∧ W ≤ 10) ∧ (3 ≤ H ∧ H ≤ 10) := by simp [inB] at h1 h2; exact ⟨h1, h2⟩
  have HA1 : Hid (∀ wx, FB w W H S vo vs wx → Calls Try.prog 52 #[.agg #[.int .i64 W, .int .i64 H], vs] wx fun e w' => e = .returned (.bool (apartB starts W H)) ∧ Hid (FB w W H S vo vs w')) := fun wx hx =>
    (xapart_any wx vs starts W H (HIs.out wx hx) hl hWH.1 hWH.2 is).mono (fun e w' ⟨h1, h2⟩ => ⟨h1, hx.below h2⟩)
  have HA2 : Hid (∀ wx, FB w W H S vo vs wx → Calls Try.prog 52 #[.agg #[.int .i64 W, .int .i64 H], vo] wx fun e w' => e = .returned (.bool (apartB ore W H)) ∧ Hid (FB w W H S vo vs w')) := fun wx hx =>
    (xapart_any wx vo ore W H (HIo.out wx hx) hlo hWH.1 hWH.2 io).mono (fun e w' ⟨h1, h2⟩ => ⟨h1, hx.below h2⟩)
  have HA3 : Hid (∀ wx, FB w W H S vo vs wx → Calls Try.prog 53 #[vo] wx fun e w' => e = .returned (.bool (ore.all (fun s => inB s.amount 1 99))) ∧ Hid (FB w W H S vo vs w')) := fun wx hx =>
    (amounts_any wx vo ore (HIo.out wx hx) hlo).mono (fun e w' ⟨h1, h2⟩ => ⟨h1, hx.below h2⟩)
  clear hWH
  subst evo evs
  cases h6 : apartB starts W H
  · have G : Hid (newB W H S ore starts = false) := by unfold Hid newB; rw [h6]; simp
    go_enter Try.func26, Try.ntmps26
    go_wp2_with (first | (go_at_call 51; refine (between_any _ _ _ _).mono ?_; rintro e w' ⟨rfl, h⟩; rw [h]; clear h w') | (go_at_call 52; refine (HA1.out _ HF0.out).mono ?_; rintro e w1 ⟨rfl, hb1⟩; obtain ⟨f0, f1, f2, f3, f4, g0, g1⟩ := hb1.out.cells))
    go_ret
    exact ⟨ret_bool G.out.symm, hb1.out.b⟩
  cases h7 : apartB ore W H
  · have G : Hid (newB W H S ore starts = false) := by unfold Hid newB; rw [h7]; simp
    go_enter Try.func26, Try.ntmps26
    go_wp2_with (first | (go_at_call 51; refine (between_any _ _ _ _).mono ?_; rintro e w' ⟨rfl, h⟩; rw [h]; clear h w') | (go_at_call 52; refine (HA2.out _ hb1.out).mono ?_; rintro e w2 ⟨rfl, hb2⟩; obtain ⟨p0, p1, p2, p3, p4, q0, q1⟩ := hb2.out.cells) | (go_at_call 52; refine (HA1.out _ HF0.out).mono ?_; rintro e w1 ⟨rfl, hb1⟩; obtain ⟨f0, f1, f2, f3, f4, g0, g1⟩ := hb1.out.cells))
    go_ret
    exact ⟨ret_bool G.out.symm, hb2.out.b⟩
  have G : Hid (newB W H S ore starts = ore.all (fun s => inB s.amount 1 99)) := by unfold Hid newB; rw [h1, h2, h3, h4, h6, h7]; simp [h5']
  go_enter Try.func26, Try.ntmps26
  go_wp2_with (first | (go_at_call 51; refine (between_any _ _ _ _).mono ?_; rintro e w' ⟨rfl, h⟩; rw [h]; clear h w') | (go_at_call 53; refine (HA3.out _ hb2.out).mono ?_; rintro e w3 ⟨rfl, hb3⟩) | (go_at_call 52; refine (HA2.out _ hb1.out).mono ?_; rintro e w2 ⟨rfl, hb2⟩; obtain ⟨p0, p1, p2, p3, p4, q0, q1⟩ := hb2.out.cells) | (go_at_call 52; refine (HA1.out _ HF0.out).mono ?_; rintro e w1 ⟨rfl, hb1⟩; obtain ⟨f0, f1, f2, f3, f4, g0, g1⟩ := hb1.out.cells))
  go_ret
  exact ⟨ret_bool G.out.symm, hb3.out.b⟩
end Go.Proofs.Ytdpmadoccimgcaa
