/-
  The function step of package hazelaw: View.
-/
import Derived.Test.YtlafddeoheambaaGreatDoorT50
import Derived.Test.YtlafddeoheambaaGreatDoorT09
import Derived.Test.YtlafddeoheambaaGreatDoorT03
import Derived.Test.YtlafddeoheambaaGreatDoorT07
import Derived.Deep.QuietTactic
import Derived.BigQuiet
import Derived.Test.YtlafddeoheambaaGreatDoorT49
import Derived.Test.YtlafddeoheambaaGreatDoorT51
import Derived.Laws.ResultCell
set_option linter.unusedVariables false
namespace Go.Proofs.YtlafddeoheambaaGreatDoor
open Go.RowKit

theorem Stp.below {w w2 w3 : World} {L : LW} {cs : Array Value} {X : XW} {Y : YW} (h : Stp w L cs X Y w2) (hb : Below w2.heap.size w2 w3) : Stp w L cs X Y w3 := ⟨by rw [hb.block _ (lt_of_some h.box)]; exact h.box, by rw [hb.block _ (lt_of_some h.pair)]; exact h.pair⟩

set_option maxRecDepth 100000 in
set_option maxHeartbeats 4000000 in
theorem step_view (w : World) (L : LW) (e : Int) (k g cap : Nat) (X : XW) (Y : YW) (h : StepIn w L e k g cap X Y) (W H S : Int) (vo vs : Value) (p : Int) (t : ByteArray) (a b : Int) (hvo : ∃ a n c, vo = .slice a n c) (hvs : ∃ a n c, vs = .slice a n c) (ht : Tab w) (hgt : 3 ∉ L.foot) :
    Calls Tryz.prog 24 #[.pointer (some ⟨L.b, 0, none⟩), .agg (stepCells 5 e W H S vo vs p t a b)] w fun e w' => e = .returned (.bool true) ∧ ∃ L', LTurn w L w' L' ∧ SyncL L'.ps ∧ L'.ps.length = L.ps.length := by
  obtain ⟨o1, o2, o3, rfl⟩ := hvo
  obtain ⟨s1, s2, s3, rfl⟩ := hvs
  obtain ⟨hk, _⟩ := at_some h.q
  have c0 : w.cell? ⟨L.b, 0, none⟩ = some (.slice (some ⟨g, 0, none⟩) L.ps.length cap) := by rw [← h.v, cell_of_row _ _ _ _ _ _ h.rep.top]; rfl
  have hrow := h.rep.row
  rw [h.v] at hrow
  have f := fun j (hj : j < 2) => flat_at pairCells 2 (fun _ => rfl) L.ps k j hk hj
  have eq : L.ps[k] = (X, Y) := (at_some h.q).2
  rw [eq] at f
  have g0 : w.cell? ⟨g, k * 2, none⟩ = some (.pointer (some ⟨X.b, 0, none⟩)) := own_cell hrow (f 0 (by omega))
  have g1 : w.cell? ⟨g, k * 2 + 1, none⟩ = some (.pointer (some ⟨Y.b, 0, none⟩)) := own_cell hrow (f 1 (by omega))
  have hcap := h.cap
  have HPk := hidOf (fun wx => pick_any e L.ps.length wx h.bd.1 h.bd.2 (by omega) (by omega))
  rw [h.pk] at HPk
  have hk2 : (k : Int) < (L.ps.length : Int) := by omega
  have HI := hidOf h
  have hlb := h.rep.lt L.b lfoot_b
  have hlg := h.rep.lt g (lfoot_r (by rw [h.v]; simp [blk_slice]))
  have HF := hidOf (Stp.first w L (stepCells 5 e W H S (.slice o1 o2 o3) (.slice s1 s2 s3) p t a b) X Y)
  have hbl : Below w.heap.size w ((w.alloc (.cells (stepCells 5 e W H S (.slice o1 o2 o3) (.slice s1 s2 s3) p t a b) 60)).alloc (.cells #[.pointer (some ⟨X.b, 0, none⟩), .pointer (some ⟨Y.b, 0, none⟩)] 119)).drew := (((Below.refl _ w).alloc (Nat.le_refl _) _).alloc (by simp) _).drew
  have HL2 := hidOf ((LTurn.refl h.rep).below hbl)
  have x0 : (w.alloc (.cells (stepCells 5 e W H S (.slice o1 o2 o3) (.slice s1 s2 s3) p t a b) 60)).cell? ⟨L.b, 0, none⟩ = some (.slice (some ⟨g, 0, none⟩) L.ps.length cap) := by rw [World.cell?_alloc_past _ _ _ hlb]; exact c0
  have x1 : (w.alloc (.cells (stepCells 5 e W H S (.slice o1 o2 o3) (.slice s1 s2 s3) p t a b) 60)).cell? ⟨w.heap.size, 1, none⟩ = some (.int .i64 e) := by rw [cell_of_row _ _ _ _ _ _ (Go.heap_alloc_new w _)]; rfl
  have x2 : (w.alloc (.cells (stepCells 5 e W H S (.slice o1 o2 o3) (.slice s1 s2 s3) p t a b) 60)).cell? ⟨g, k * 2, none⟩ = some (.pointer (some ⟨X.b, 0, none⟩)) := by rw [World.cell?_alloc_past _ _ _ hlg]; exact g0
  have x3 : (w.alloc (.cells (stepCells 5 e W H S (.slice o1 o2 o3) (.slice s1 s2 s3) p t a b) 60)).cell? ⟨g, k * 2 + 1, none⟩ = some (.pointer (some ⟨Y.b, 0, none⟩)) := by rw [World.cell?_alloc_past _ _ _ hlg]; exact g1
  have hsz : (w.alloc (.cells (stepCells 5 e W H S (.slice o1 o2 o3) (.slice s1 s2 s3) p t a b) 60)).heap.size = w.heap.size + 1 := by simp
  clear h hrow f eq hbl c0 g0 g1
  unfold stepCells at *
  go_enter Tryz.func24, Tryz.ntmps24
  go_wp2_with fail
  obtain ⟨w1, hw1⟩ : ∃ w1, w1 = w.alloc (.cells #[.int .i64 5, .int .i64 e, .int .i64 W, .int .i64 H, .int .i64 S, .slice o1 o2 o3, .slice s1 s2 s3, .int .i64 p, .string t, .int .i64 a, .int .i64 b] 60) := ⟨_, rfl⟩
  rw [← hw1] at x0 x1 x2 x3 hsz HF HL2 ⊢
  clear hw1
  go_region_held3 (fun w' => w'.cell? ⟨L.b, 0, none⟩ = some (.slice (some ⟨g, 0, none⟩) L.ps.length cap) ∧ w'.cell? ⟨w.heap.size, 1, none⟩ = some (.int .i64 e) ∧ w'.cell? ⟨g, k * 2, none⟩ = some (.pointer (some ⟨X.b, 0, none⟩)) ∧ w'.cell? ⟨g, k * 2 + 1, none⟩ = some (.pointer (some ⟨Y.b, 0, none⟩))) (first | assumption | (refine keepL ?_; assumption) | go_keep) (first | (go_at_call 50; refine (HPk.out _).mono ?_; rintro e' w' ⟨rfl, h⟩; rw [h]; clear h w'))
  all_goals
    obtain ⟨w2, hw2⟩ : ∃ w2, w2 = (w1.alloc (.cells #[.pointer (some ⟨X.b, 0, none⟩), .pointer (some ⟨Y.b, 0, none⟩)] 119)).drew := ⟨_, rfl⟩
    rw [← hw2] at HF HL2 ⊢
    clear hw2 x0 x1 x2 x3
    have b0 : w2.cell? ⟨w.heap.size, 0, none⟩ = some (.int .i64 5) := by rw [cell_of_row _ _ _ _ _ _ HF.out.box]; rfl
    have b7 : w2.cell? ⟨w.heap.size, 7, none⟩ = some (.int .i64 p) := by rw [cell_of_row _ _ _ _ _ _ HF.out.box]; rfl
    have b8 : w2.cell? ⟨w.heap.size, 8, none⟩ = some (.string t) := by rw [cell_of_row _ _ _ _ _ _ HF.out.box]; rfl
    have q0 : w2.cell? ⟨w.heap.size + 1, 0, none⟩ = some (.pointer (some ⟨X.b, 0, none⟩)) := by rw [cell_of_row _ _ _ _ _ _ HF.out.pair]; rfl
    have q1 : w2.cell? ⟨w.heap.size + 1, 1, none⟩ = some (.pointer (some ⟨Y.b, 0, none⟩)) := by rw [cell_of_row _ _ _ _ _ _ HF.out.pair]; rfl
    have HX2 := hidOf (HL2.out.rep.x k _ HI.out.q)
    have HY2 := hidOf (HL2.out.rep.y k _ HI.out.q)
    have hmem := List.mem_of_getElem? HI.out.q
    have HO := hidOf (HI.out.sync.o _ hmem)
    have HE := hidOf (HI.out.sync.s _ hmem)
    have HG := hidOf (HI.out.sync.g _ hmem)
    have HNw := hidOf (HI.out.sync.n _ hmem)
    have HSa := hidOf (HI.out.sync.sl _ hmem)
    clear hmem
    have HTb := hidOf (ht.same (HL2.out.kept.block _ ht.lt hgt))
    have HCx := hidOf (xview_l w2 X p HX2.out HTb.out HO.out (by rw [HE.out]; exact HG.out) HNw.out HSa.out)
    have hor : Y.ore = X.ore := (congrArg SWorld.ore HE.out).symm
    have HCy := hidOf (fun wx hx => rview_l wx Y p hx HG.out (by rw [hor]; exact HO.out.dist) (by rw [← HE.out]; exact news_short HNw.out HSa.out))
    rw [HE.out] at HCx
    clear hor
    go_wp2_with (first | (go_at_call 49; refine (num_any _ _).mono ?_; rintro e' w' ⟨rfl, h⟩; rw [h]; clear h w') | (go_at_call 38; refine HCx.out.mono ?_; rintro e' w3 ⟨rfl, hb3⟩; have HF3 := hidOf (HF.out.below hb3); have b7' : w3.cell? ⟨w.heap.size, 7, none⟩ = some (.int .i64 p) := (by rw [cell_of_row _ _ _ _ _ _ HF3.out.box]; rfl); have q1' : w3.cell? ⟨w.heap.size + 1, 1, none⟩ = some (.pointer (some ⟨Y.b, 0, none⟩)) := (by rw [cell_of_row _ _ _ _ _ _ HF3.out.pair]; rfl); have HY3 := hidOf (HY2.out.below hb3)) | (go_at_call 55; refine (HCy.out _ HY3.out).mono ?_; rintro e' w4 ⟨rfl, hb4⟩))
    go_ret
    exact ⟨rfl, L, (HL2.out.below hb3).below hb4, HI.out.sync, rfl⟩
end Go.Proofs.YtlafddeoheambaaGreatDoor

/-
  The function still of package hazelaw: spots that were lent stand as they did; then they are written over.
-/
namespace Go.Proofs.YtlafddeoheambaaGreatDoor
open Go.RowKit

/-- A row of cells, whatever they hold. -/
def RowIs (w : World) (g n : Nat) : Prop := ∃ cur : Array Value, w.heap[g]? = some (.cells cur 63 (0, 0)) ∧ cur.size = n
theorem RowIs.cell {w : World} {g n : Nat} (h : RowIs w g n) (j : Nat) (hj : j < n) : ∃ v, w.cell? ⟨g, j, none⟩ = some v := by
  obtain ⟨cur, h1, h2⟩ := h
  refine ⟨cur[j]'(by omega), ?_⟩
  simp [World.cell?, h1, h2, hj]
theorem RowIs.frozen {w : World} {g n : Nat} (h : RowIs w g n) (j : Nat) : w.frozen? ⟨g, j, none⟩ = false := by
  obtain ⟨cur, h1, h2⟩ := h
  simp [World.frozen?, h1]
theorem RowIs.set {w : World} {g n : Nat} (h : RowIs w g n) (j : Nat) (u : Value) : RowIs (w.setCell ⟨g, j, none⟩ u) g n := by
  obtain ⟨cur, h1, h2⟩ := h
  refine ⟨cur.setIfInBounds j u, ?_, by simpa using h2⟩
  simp only [World.setCell, Array.getElem?_modify, h1]
  simp
theorem RowIs.of {w : World} {g n cap : Nat} {xs : List Value} (h : w.ownsRow 0 63 3 (.slice (some ⟨g, 0, none⟩) n cap) n xs) (hc : cap = n) : RowIs w g (n * 3) := by
  rcases h.2 with ⟨h, _⟩ | ⟨g', cap', cur, e1, _, hb, _, _, hs, _⟩
  · cases h
  · injection e1 with e1 _ e3
    injection e1 with e1
    injection e1 with e1
    subst e1 e3 hc
    exact ⟨cur, hb, hs⟩
theorem RowIs.drewN {w : World} {g n : Nat} (h : RowIs w g n) (m : Nat) : RowIs (w.drewN m) g n := h

set_option maxRecDepth 100000 in
set_option maxHeartbeats 2000000 in
theorem still_any (w : World) (g : Nat) (v : Value) (l : List SSpot) (hv : SpIn w v l) (hl : l.length ≤ 2000000)
    (ho : w.ownsRow 0 63 3 (.slice (some ⟨g, 0, none⟩) (l.length + 2) (l.length + 2)) (l.length + 2) ((lentL l).flatMap spotCells)) :
    Calls Tryz.prog 48 #[.slice (some ⟨g, 0, none⟩) (l.length + 2) (l.length + 2), v] w fun e w' => e = .returned (.bool true) ∧ Kept [g] w w' := by
  obtain ⟨ao, cap, rfl, hsrc⟩ := hv
  have hrow := hidB (RowIs.of ho rfl)
  have fl := fun k j (hk : k < (lentL l).length) (hj : j < 3) => flat_at spotCells 3 (fun _ => rfl) (lentL l) k j hk hj
  have hll : (lentL l).length = l.length + 2 := by simp [lentL]
  have g0 : (lentL l)[l.length]'(by omega) = ⟨77, 0, 0⟩ := by simp [lentL]
  have g1 : (lentL l)[l.length + 1]'(by omega) = ⟨78, 0, 0⟩ := by simp [lentL]
  have c0 : w.cell? ⟨g, l.length * 3, none⟩ = some (.int .i64 77) := own_cell ho (by have := fl l.length 0 (by omega) (by omega); rw [g0] at this; exact this)
  have c1 : w.cell? ⟨g, (l.length + 1) * 3, none⟩ = some (.int .i64 78) := own_cell ho (by have := fl (l.length + 1) 0 (by omega) (by omega); rw [g1] at this; exact this)
  have HO := hidB ho
  have HG : Hid (∀ k (hk : k < l.length), (lentL l)[k]'(by omega) = l[k]) := by
    intro k hk
    simp [lentL, List.getElem_append_left hk]
  have FL := hidB fl
  clear ho fl g0 g1
  go_enter Tryz.func48, Tryz.ntmps48
  go_wp2
  go_loopw [5, 6] (fun o i w' => ∃ k n : Nat, k ≤ l.length ∧ o = .bool true ∧ i = .int .i64 k ∧ w' = w.drewN n) (fun _ i _ => l.length + 1 - (intOf i).toNat)
  case atStart => exact ⟨0, 0, Nat.zero_le _, rfl, rfl, rfl⟩
  case round =>
    obtain ⟨k, n, hk, rfl, rfl, rfl⟩ := hrel
    by_cases hlt : k < l.length
    · obtain ⟨b, off, rfl, hb, hc⟩ := hsrc (by omega)
      have f := fun j (hj : j < 3) => flat_at spotCells 3 (fun _ => rfl) l k j hlt hj
      have d0 : w.cell? ⟨b, off + k * 3, none⟩ = some (.int .i64 l[k].x) := hc (k * 3 + 0) _ (f 0 (by omega))
      have d1 : w.cell? ⟨b, off + k * 3 + 1, none⟩ = some (.int .i64 l[k].y) := hc (k * 3 + 1) _ (f 1 (by omega))
      have d2 : w.cell? ⟨b, off + k * 3 + 2, none⟩ = some (.int .i64 l[k].amount) := hc (k * 3 + 2) _ (f 2 (by omega))
      have a0 : w.cell? ⟨g, k * 3, none⟩ = some (.int .i64 l[k].x) := own_cell HO.out (by have h := FL.out k 0 (by omega) (by omega); rw [HG.out k hlt] at h; exact h)
      have a1 : w.cell? ⟨g, k * 3 + 1, none⟩ = some (.int .i64 l[k].y) := own_cell HO.out (by have h := FL.out k 1 (by omega) (by omega); rw [HG.out k hlt] at h; exact h)
      have a2 : w.cell? ⟨g, k * 3 + 2, none⟩ = some (.int .i64 l[k].amount) := own_cell HO.out (by have h := FL.out k 2 (by omega) (by omega); rw [HG.out k hlt] at h; exact h)
      clear f hc
      have i0 : (0 : Int) ≤ (k : Int) := by omega
      have i1 : (k : Int) < (l.length : Int) := by omega
      have i2 : (k : Int) < (l.length : Int) + 2 := by omega
      go_wp2
      go_quiet (fail)
      go_wp2
      exact ⟨⟨k + 1, n + nq, by omega, rfl, by go_num, rfl⟩, by simp [intOf]; omega⟩
    · clear c0 c1 hsrc hll HO HG FL
      go_wp2
      go_loopw [7] (fun i w' => ∃ k : Nat, k ≤ l.length + 2 ∧ i = .int .i64 k ∧ Hid (RowIs w' g ((l.length + 2) * 3)) ∧ Hid (Kept [g] w w')) (fun i _ => l.length + 3 - (intOf i).toNat)
      case atStart => exact ⟨0, Nat.zero_le _, rfl, hrow.out.drewN n, ⟨rfl, rfl, rfl, Nat.le_refl _, fun _ _ _ => rfl⟩⟩
      case round =>
        obtain ⟨j, hj, rfl, hr1, hk1⟩ := hrel
        by_cases hlt1 : j < l.length + 2
        · obtain ⟨v0, e0⟩ := hr1.out.cell (j * 3) (by omega)
          obtain ⟨v1, e1⟩ := hr1.out.cell (j * 3 + 1) (by omega)
          obtain ⟨v2, e2⟩ := hr1.out.cell (j * 3 + 2) (by omega)
          have fz := hr1.out.frozen
          have hr2 := hidB (((hr1.out.set (j * 3) (.int .i64 1)).set (j * 3 + 1) (.int .i64 1)).set (j * 3 + 2) (.int .i64 9))
          have hk2 := hidB (((hk1.out.setCell g (j * 3) (.int .i64 1) (.inl (by simp))).setCell g (j * 3 + 1) (.int .i64 1) (.inl (by simp))).setCell g (j * 3 + 2) (.int .i64 9) (.inl (by simp)))
          go_wp2
          exact ⟨⟨j + 1, by omega, by go_num, hr2, hk2⟩, by simp [intOf]; omega⟩
        · go_wp2
          go_ret
          exact ⟨rfl, hk1.out⟩
end Go.Proofs.YtlafddeoheambaaGreatDoor

/-
  The function begins of package hazelaw.
-/
namespace Go.Proofs.YtlafddeoheambaaGreatDoor
open Go.RowKit

/-- A list of spots that is handed in: nil, or somewhere. -/
def SpA (w : World) (v : Value) (l : List SSpot) : Prop := SpIn w v l ∧ ((v = .slice none 0 0 ∧ l = []) ∨ ∃ ad c, v = .slice (some ad) l.length c)
theorem SpA.form {w : World} {v : Value} {l : List SSpot} (h : SpA w v l) : ∃ a n c, v = .slice a n c := by
  obtain ⟨ao, cap, e, _⟩ := h.1
  exact ⟨_, _, _, e⟩
theorem SpA.below {w w' : World} {v : Value} {l : List SSpot} (h : SpA w v l) (hb : Below w.heap.size w w') : SpA w' v l := ⟨h.1.below hb, h.2⟩
theorem part_any {w : World} {v : Value} {l : List SSpot} (h : SpA w v l) (hl : l.length ≤ 2000000) (g : Nat) : ∃ a n c, (∀ wx : World, Calls Tryz.prog 46 #[.slice (some ⟨g, 0, none⟩) (l.length + 2) (l.length + 2), v] wx fun e w' => e = .returned (.slice a n c) ∧ w' = wx) ∧
    ∀ wx : World, wx.ownsRow 0 63 3 (.slice (some ⟨g, 0, none⟩) (l.length + 2) (l.length + 2)) (l.length + 2) ((lentL l).flatMap spotCells) → SpIn wx (.slice a n c) l := by
  rcases h.2 with ⟨rfl, rfl⟩ | ⟨ad, c, rfl⟩
  · exact ⟨none, 0, 0, fun wx => part_nil wx _, fun wx _ => nil_in wx⟩
  · exact ⟨some ⟨g, 0, none⟩, l.length, l.length + 2, fun wx => part_some wx g l.length c ad hl, fun wx h => lent_in h⟩
/-- The box of the configuration, and that all that was there stays. -/
structure BG (w : World) (cs : Array Value) (wx : World) : Prop where
  b : Below w.heap.size w wx
  c : wx.heap[w.heap.size]? = some (.cells cs 57 (0, 0))
theorem BG.first (w : World) (cs : Array Value) : BG w cs (w.alloc (.cells cs 57)) := ⟨(Below.refl _ w).alloc (Nat.le_refl _) _, Go.heap_alloc_new w _⟩
theorem BG.below {w wx w' : World} {cs : Array Value} (h : BG w cs wx) (hb : Below wx.heap.size wx w') : BG w cs w' := ⟨h.b.trans (hb.mono h.b.size), by rw [hb.block _ (lt_of_some h.c)]; exact h.c⟩
theorem BG.kept {w wx w' : World} {cs : Array Value} {g : Nat} (h : BG w cs wx) (hk : Kept [g] wx w') (hg : w.heap.size < g) : BG w cs w' :=
  ⟨⟨hk.os.trans h.b.os, hk.tape.trans h.b.tape, hk.output.trans h.b.output, Nat.le_trans h.b.size hk.size, fun k hk' => by rw [hk.block k (Nat.lt_of_lt_of_le hk' h.b.size) (by simp; omega), h.b.block k hk']⟩, by rw [hk.block _ (lt_of_some h.c) (by simp; omega)]; exact h.c⟩
theorem BG.cells {w wx : World} {W H S : Int} {vo vs : Value} (h : BG w #[.int .i64 W, .int .i64 H, .int .i64 S, vo, vs] wx) : wx.cell? ⟨w.heap.size, 0, none⟩ = some (.int .i64 W) ∧ wx.cell? ⟨w.heap.size, 1, none⟩ = some (.int .i64 H) ∧ wx.cell? ⟨w.heap.size, 2, none⟩ = some (.int .i64 S) ∧ wx.cell? ⟨w.heap.size, 3, none⟩ = some vo ∧ wx.cell? ⟨w.heap.size, 4, none⟩ = some vs := by
  refine ⟨?_, ?_, ?_, ?_, ?_⟩
  all_goals (rw [cell_of_row _ _ _ _ _ _ h.c]; rfl)
theorem Tryz.infoPair : (Tryz.prog.info? 119).map (fun i => (i.zero, i.size, i.bytes)) = some (some (.agg #[.pointer none, .pointer none]), 2, 16) := by kernel_rfl
theorem row_kept {w w' : World} {g g' : Nat} {l : List SSpot} (h : w.ownsRow 0 63 3 (.slice (some ⟨g, 0, none⟩) (l.length + 2) (l.length + 2)) (l.length + 2) ((lentL l).flatMap spotCells)) (hk : Kept [g'] w w') (hne : g ≠ g') : w'.ownsRow 0 63 3 (.slice (some ⟨g, 0, none⟩) (l.length + 2) (l.length + 2)) (l.length + 2) ((lentL l).flatMap spotCells) :=
  own_same h (fun r hr => by
    have e : r = g := by have h' : r ∈ blk (.slice (some ⟨g, 0, none⟩) (l.length + 2) (l.length + 2)) := hr; simpa [blk_slice] using h'
    exact hk.block r (own_lt h r hr) (by simp [e, hne]))
theorem row_below {w w' : World} {g : Nat} {l : List SSpot} (h : w.ownsRow 0 63 3 (.slice (some ⟨g, 0, none⟩) (l.length + 2) (l.length + 2)) (l.length + 2) ((lentL l).flatMap spotCells)) (hb : Below w.heap.size w w') : w'.ownsRow 0 63 3 (.slice (some ⟨g, 0, none⟩) (l.length + 2) (l.length + 2)) (l.length + 2) ((lentL l).flatMap spotCells) :=
  own_same h (fun r hr => hb.block r (own_lt h r hr))

set_option maxRecDepth 100000 in
set_option maxHeartbeats 8000000 in
theorem begins_any (w : World) (L : LW) (hr : LRep w L) (hS : SyncL L.ps) (hn : L.ps.length ≤ 2000000) (W H S : Int) (vo vs : Value) (ore starts : List SSpot) (ho : SpA w vo ore) (hs : SpA w vs starts) (hl : starts.length ≤ 2000000) (hlo : ore.length ≤ 2000000) (io : I64s ore) (is : I64s starts) (m : Nat) (hm : m = if newB W H S ore starts then 1 else 0) :
    Calls Tryz.prog 22 #[.pointer (some ⟨L.b, 0, none⟩), .agg #[.int .i64 W, .int .i64 H, .int .i64 S, vo, vs]] w fun e w' => e = .returned (.bool true) ∧ ∃ L', LTurn w L w' L' ∧ SyncL L'.ps ∧ L'.ps.length = L.ps.length + m := by
  have B1 := hidOf (BG.first w #[.int .i64 W, .int .i64 H, .int .i64 S, vo, vs])
  have HIo : Hid (∀ wx, BG w #[.int .i64 W, .int .i64 H, .int .i64 S, vo, vs] wx → SpA wx vo ore) := fun wx h => ho.below h.b
  have HIs : Hid (∀ wx, BG w #[.int .i64 W, .int .i64 H, .int .i64 S, vo, vs] wx → SpA wx vs starts) := fun wx h => hs.below h.b
  have HLr : Hid (∀ wx, BG w #[.int .i64 W, .int .i64 H, .int .i64 S, vo, vs] wx → LTurn w L wx L) := fun wx h => (LTurn.refl hr).below h.b
  have HP1 := hidOf (part_any ho hlo)
  have HP2 := hidOf (part_any hs hl)
  have HS := hidOf hS
  have HR := hidOf hr
  have HMm := hidOf hm
  obtain ⟨o1, o2, o3, rfl⟩ := ho.form
  obtain ⟨s1, s2, s3, rfl⟩ := hs.form
  clear ho hs hr hS hm
  go_enter Tryz.func22, Tryz.ntmps22
  go_wp2_with fail
  refine (lent_any _ _ ore (HIo.out _ B1.out).1 hlo).mono ?_
  rintro e w2 ⟨rfl, hb2, ro2⟩
  have B2 := hidOf (B1.out.below hb2)
  have RO2 := hidOf ro2
  have hz1 : (w.alloc (.cells #[.int .i64 W, .int .i64 H, .int .i64 S, .slice o1 o2 o3, .slice s1 s2 s3] 57)).heap.size = w.heap.size + 1 := by simp
  rw [hz1] at RO2 ⊢
  clear hb2 ro2 hz1
  obtain ⟨c0, c1, c2, c3, c4⟩ := B2.out.cells
  go_wp2_with fail
  refine (lent_any _ _ starts (HIs.out _ B2.out).1 hl).mono ?_
  rintro e w3 ⟨rfl, hb3, ro3⟩
  obtain ⟨g2, hg2⟩ : ∃ g2, g2 = w2.heap.size := ⟨_, rfl⟩
  rw [← hg2] at ro3 ⊢
  have B3 := hidOf (B2.out.below hb3)
  have RO3 := hidOf (row_below RO2.out hb3)
  have RS3 := hidOf ro3
  have HG2 : Hid (w.heap.size + 1 < g2) := by unfold Hid; rw [hg2]; exact own_lt RO2.out _ (by simp [blk_slice])
  clear hb3 ro3 RO2 c0 c1 c2 c3 c4 hg2
  obtain ⟨c0, c1, c2, c3, c4⟩ := B3.out.cells
  obtain ⟨a1, n1, k1, hp1, hi1⟩ := HP1.out (w.heap.size + 1)
  obtain ⟨a2, n2, k2, hp2, hi2⟩ := HP2.out g2
  have HC1 := hidOf hp1
  have HC2 := hidOf hp2
  have HI1 := hidOf hi1
  have HI2 := hidOf hi2
  clear hp1 hp2 hi1 hi2
  have l3 := lt_of_some B3.out.c
  have y0 : ∀ o, (w3.alloc o).cell? ⟨w.heap.size, 3, none⟩ = some (.slice o1 o2 o3) := fun o => by rw [World.cell?_alloc_past _ _ _ l3]; exact c3
  have y1 : ∀ o, (w3.alloc o).cell? ⟨w.heap.size, 4, none⟩ = some (.slice s1 s2 s3) := fun o => by rw [World.cell?_alloc_past _ _ _ l3]; exact c4
  go_wp2_with fail
  refine (HC1.out _).mono ?_
  rintro e w' ⟨rfl, h⟩
  rw [h]
  clear h w'
  go_wp2_with fail
  refine (HC2.out _).mono ?_
  rintro e w' ⟨rfl, h⟩
  rw [h]
  clear h w'
  go_wp2_with fail
  have hb4 : Below w3.heap.size w3 (w3.alloc (.cells #[.int .i64 W, .int .i64 H, .int .i64 S, .slice a1 n1 k1, .slice a2 n2 k2] 57)) := (Below.refl _ w3).alloc (Nat.le_refl _) _
  have B4 := hidOf (B3.out.below hb4)
  have RO4 := hidOf (row_below RO3.out hb4)
  have RS4 := hidOf (row_below RS3.out hb4)
  obtain ⟨w4, hw4⟩ : ∃ w4, w4 = w3.alloc (.cells #[.int .i64 W, .int .i64 H, .int .i64 S, .slice a1 n1 k1, .slice a2 n2 k2] 57) := ⟨_, rfl⟩
  rw [← hw4] at B4 RO4 RS4 ⊢
  clear hw4 hb4 y0 y1 c0 c1 c2 c3 c4 l3 B3 RO3 RS3
  refine (xnew_any w4 W H S _ _ ore starts (HI1.out _ RO4.out) (HI2.out _ RS4.out) hl hlo io is).mono ?_
  rintro e w5 ⟨hb5, hx⟩
  have B5 := hidOf (B4.out.below hb5)
  have HB45 := hidOf hb5.size
  have RO5 := hidOf (row_below RO4.out hb5)
  have RS5 := hidOf (row_below RS4.out hb5)
  have H45 := hidOf (own_lt RS4.out g2 (by simp [blk_slice]))
  have H1g := hidOf (own_lt RO4.out (w.heap.size + 1) (by simp [blk_slice]))
  clear hb5 RO4 RS4
  have HY := hidOf (rnew_any w5 W H S _ _ ore starts (HIo.out _ B5.out).1 (HIs.out _ B5.out).1 hl hlo)
  obtain ⟨c0, c1, c2, c3, c4⟩ := B5.out.cells
  rcases hx with ⟨hN, rfl⟩ | ⟨hN, X, rfl, hX, hXo, hXs, hXl, hXf⟩
  · have HN := hidOf hN
    clear hN
    go_wp2_with fail
    refine HY.out.mono ?_
    rintro e w6 ⟨hb6, hy⟩
    have B6 := hidOf (B5.out.below hb6)
    have RO6 := hidOf (row_below RO5.out hb6)
    have RS6 := hidOf (row_below RS5.out hb6)
    clear c0 c1 c2 c3 c4
    rcases hy with ⟨_, rfl⟩ | ⟨hN', _⟩
    rotate_left
    · rw [HN.out] at hN'; cases hN'
    obtain ⟨c0, c1, c2, c3, c4⟩ := B6.out.cells
    go_wp2_with fail
    refine (still_any w6 (w.heap.size + 1) _ ore (HIo.out _ B6.out).1 hlo RO6.out).mono ?_
    rintro e w7 ⟨rfl, k7⟩
    have B7 := hidOf (B6.out.kept k7 (by omega))
    have RS7 := hidOf (row_kept RS6.out k7 (by have := HG2.out; omega))
    clear c0 c1 c2 c3 c4
    obtain ⟨c0, c1, c2, c3, c4⟩ := B7.out.cells
    go_wp2_with fail
    refine (still_any w7 g2 _ starts (HIs.out _ B7.out).1 hl RS7.out).mono ?_
    rintro e w8 ⟨rfl, k8⟩
    have B8 := hidOf (B7.out.kept k8 (by have := HG2.out; omega))
    go_wp2_with (go_at_call 49; refine (num_any _ _).mono ?_; rintro e w' ⟨rfl, h⟩; rw [h]; clear h w')
    go_ret
    exact ⟨rfl, L, HLr.out _ B8.out, HS.out, by rw [HMm.out, HN.out]; rfl⟩
  · have HN := hidOf hN
    clear hN
    go_wp2_with fail
    refine HY.out.mono ?_
    rintro e w6 ⟨hb6, hy⟩
    have B6 := hidOf (B5.out.below hb6)
    have RO6 := hidOf (row_below RO5.out hb6)
    have RS6 := hidOf (row_below RS5.out hb6)
    have HX6 := hidOf (hX.below hb6)
    clear c0 c1 c2 c3 c4
    rcases hy with ⟨hN', _⟩ | ⟨_, Y, rfl, hY, hYs, hYf⟩
    · rw [HN.out] at hN'; cases hN'
    obtain ⟨c0, c1, c2, c3, c4⟩ := B6.out.cells
    go_wp2_with fail
    refine (still_any w6 (w.heap.size + 1) _ ore (HIo.out _ B6.out).1 hlo RO6.out).mono ?_
    rintro e w7 ⟨rfl, k7⟩
    have B7 := hidOf (B6.out.kept k7 (by omega))
    have RS7 := hidOf (row_kept RS6.out k7 (by have := HG2.out; omega))
    clear c0 c1 c2 c3 c4
    obtain ⟨c0, c1, c2, c3, c4⟩ := B7.out.cells
    go_wp2_with fail
    refine (still_any w7 g2 _ starts (HIs.out _ B7.out).1 hl RS7.out).mono ?_
    rintro e w8 ⟨rfl, k8⟩
    have B8 := hidOf (B7.out.kept k8 (by have := HG2.out; omega))
    have l4 : w4.heap.size ≤ w5.heap.size := HB45.out
    have hg1 := H1g.out
    have hg2 := H45.out
    have k78 : ∀ r, w4.heap.size ≤ r → r < w6.heap.size → w8.heap[r]? = w6.heap[r]? := fun r h1 h2 => by
      rw [k8.block r (Nat.lt_of_lt_of_le h2 k7.size) (by simp; omega), k7.block r h2 (by simp; omega)]
    have HX8 := hidOf (HX6.out.same (fun r hr => k78 r (hXf r hr) (HX6.out.lt r hr)))
    have HY8 := hidOf (hY.same (fun r hr => k78 r (by have := hYf r hr; omega) (hY.lt r hr)))
    have HL8 := hidOf (HLr.out _ B8.out)
    have HFx : Hid (∀ r ∈ X.foot, r ∉ L.foot ∧ w.heap.size ≤ r) := fun r hr => by
      have h1 := hXf r hr
      have h2 := B4.out.b.size
      exact ⟨fun hm => by have := HR.out.lt r hm; omega, by omega⟩
    have HFy : Hid (∀ r ∈ Y.foot, r ∉ L.foot ∧ w.heap.size ≤ r) := fun r hr => by
      have h1 := hYf r hr
      have h2 := B4.out.b.size
      exact ⟨fun hm => by have := HR.out.lt r hm; omega, by omega⟩
    have HFxy : Hid (∀ r ∈ X.foot, r ∉ Y.foot) := fun r hr hm => by
      have h1 := hX.lt r hr
      have h2 := hYf r hm
      omega
    have HXo := hidOf hXo
    have HXY : Hid (X.S = Y.S) := hXs.trans hYs.symm
    have HNx : Hid (NewsOK X) := news_new hXs hXl
    have HSx : Hid (SaleOK X.sales) := by unfold Hid; rw [hXl]; exact SaleOK.nil
    have HGo : Hid (GoodL Y.S) := by unfold Hid; rw [hYs]; exact GoodL.new HN.out
    obtain ⟨al, gl, cl, hvl, hcl, hml, _⟩ := own_rd HL8.out.rep.row
    unfold maxLen at hml
    have v0 : w8.cell? ⟨L.b, 0, none⟩ = some (.slice al L.ps.length cl) := by rw [← hvl, cell_of_row _ _ _ _ _ _ HL8.out.rep.top]; rfl
    have fz : w8.frozen? ⟨L.b, 0, none⟩ = false := by simp [World.frozen?, HL8.out.rep.top]
    have hlb := HL8.out.rep.lt L.b lfoot_b
    have v1 : ∀ o, (w8.alloc o).cell? ⟨L.b, 0, none⟩ = some (.slice al L.ps.length cl) := fun o => by rw [World.cell?_alloc_past _ _ _ hlb]; exact v0
    have HOw : Hid (∀ o, (w8.alloc o).ownsRow 0 119 2 (.slice al L.ps.length cl) L.ps.length (L.ps.flatMap pairCells)) := fun o => by
      have h1 := HL8.out.rep.row
      rw [hvl] at h1
      exact own_same h1 (fun r hr => Below.heap_alloc _ _ _ (own_lt h1 r hr))
    have hne : Hid ((Value.slice al L.ps.length cl).ownBlock ≠ some L.b) := by
      intro e
      have e1 := HL8.out.rep.rr L.b (by rw [hvl]; simp [blk, e])
      rw [HL8.out.rep.rb] at e1
      cases e1
    have HVL := hidOf hvl
    obtain ⟨i0, hi0, hz0, hz1, hz2⟩ := info_parts Tryz.infoPair
    clear c0 c1 c2 c3 c4 hX hXo hXs hXl hXf hY hYs hYf k7 k8 k78 hvl hg1 hg2 l4
    go_wp2_with (first | (go_at_call 49; refine (num_any _ _).mono ?_; rintro e w' ⟨rfl, h⟩; rw [h]; clear h w') | (at_builtin; refine wpList_append_lies _ rfl _ _ _ rfl 0 119 i0 _ 2 16 Tryz.underlying51 hi0 hz0 hz1 hz2 rfl (by omega) (.slice al L.ps.length cl) L.ps.length (L.ps.flatMap pairCells) rfl (by exact HOw.out _) ⟨w8.heap.size, 0, none⟩ 1 1 (pairCells (X, Y)) rfl rfl (by exact World.news_of_block (Go.heap_alloc_new w8 _)) (by intro u hu; simp [pairCells] at hu; rcases hu with rfl | rfl <;> rfl) (by omega) (by unfold maxLen; omega) (by omega) (by omega) (w8.heap.size + 1) (by simp) ?_; intro gr cap w9 hown9 hgrow hat hlt9; obtain ⟨q1, q2⟩ := keepOther ((Below.refl _ w8).alloc (Nat.le_refl _) _) hgrow hlb (Ne.symm hne.out) 0; rw [v0] at q1; rw [fz] at q2))
    go_ret
    have hb9 : Below w8.heap.size w8 (w8.alloc (.cells #[.pointer (some ⟨X.b, 0, none⟩), .pointer (some ⟨Y.b, 0, none⟩)] 119)) := (Below.refl _ w8).alloc (Nat.le_refl _) _
    have T9 := (HL8.out.below hb9).add (HX8.out.below hb9) (HY8.out.below hb9) HFx.out HFy.out HFxy.out (by rw [HVL.out]; exact hgrow) gr cap _ rfl hown9 (by rw [HVL.out]; rcases hat with h | h; exact .inl h; exact .inr (by rw [h]; simp))
    refine ⟨rfl, _, T9, ⟨?_, ?_, ?_, ?_, ?_⟩, by rw [HMm.out, HN.out]; simp [LW.add]⟩
    all_goals
      intro q hq
      have hq' : q ∈ L.ps ∨ q = (X, Y) := by
        have := List.mem_append.1 hq
        simpa using this
      rcases hq' with h | rfl
    · exact HS.out.s q h
    · exact HXY.out
    · exact HS.out.o q h
    · exact HXo.out
    · exact HS.out.g q h
    · exact HGo.out
    · exact HS.out.n q h
    · exact HNx.out
    · exact HS.out.sl q h
    · exact HSx.out
end Go.Proofs.YtlafddeoheambaaGreatDoor

/-
  The function step of package hazelaw, whole; the function field.
-/
namespace Go.Proofs.YtlafddeoheambaaGreatDoor
open Go.RowKit

/-- A step, as it is read. -/
structure StepD where
  kd : Int
  e : Int
  W : Int
  H : Int
  S : Int
  vo : Value
  vs : Value
  ore : List SSpot
  starts : List SSpot
  p : Int
  t : ByteArray
  a : Int
  b : Int
def StepD.cells (d : StepD) : Array Value := stepCells d.kd d.e d.W d.H d.S d.vo d.vs d.p d.t d.a d.b
structure StepD.ok (w : World) (d : StepD) : Prop where
  e : -9223372036854775808 ≤ d.e ∧ d.e ≤ 9223372036854775807
  o : SpA w d.vo d.ore
  s : SpA w d.vs d.starts
  lo : d.ore.length ≤ 2000000
  ls : d.starts.length ≤ 2000000
  io : I64s d.ore
  is : I64s d.starts
  t : d.t.size ≤ 2000000

set_option maxRecDepth 100000 in
set_option maxHeartbeats 4000000 in
theorem step_new (w : World) (L : LW) (hr : LRep w L) (hS : SyncL L.ps) (hn : L.ps.length ≤ 2000000) (d : StepD) (hd : d.ok w) (hk : d.kd = 1) (m : Nat) (hm : m = if newB d.W d.H d.S d.ore d.starts then 1 else 0) :
    Calls Tryz.prog 24 #[.pointer (some ⟨L.b, 0, none⟩), .agg d.cells] w fun e w' => e = .returned (.bool true) ∧ ∃ L', LTurn w L w' L' ∧ SyncL L'.ps ∧ L'.ps.length = L.ps.length + m := by
  obtain ⟨kd, e, W, H, S, vo, vs, ore, starts, p, t, a, b⟩ := d
  simp only at hk hm
  subst hk
  obtain ⟨o1, o2, o3, rfl⟩ := hd.o.form
  obtain ⟨s1, s2, s3, rfl⟩ := hd.s.form
  have hb : Below w.heap.size w (w.alloc (.cells (stepCells 1 e W H S (.slice o1 o2 o3) (.slice s1 s2 s3) p t a b) 60)) := (Below.refl _ w).alloc (Nat.le_refl _) _
  have HBg := hidOf (begins_any _ L (hr.below hb) hS hn W H S _ _ ore starts (hd.o.below hb) (hd.s.below hb) hd.ls hd.lo hd.io hd.is m hm)
  have HT := hidOf ((LTurn.refl hr).below hb)
  clear hd hb hr hS hm
  unfold StepD.cells stepCells at *
  go_enter Tryz.func24, Tryz.ntmps24
  go_wp2_with (go_at_call 22; refine HBg.out.mono ?_; rintro e' w1 ⟨rfl, h5⟩)
  go_ret
  obtain ⟨L', t1, t2, t3⟩ := h5
  exact ⟨rfl, L', HT.out.trans t1, t2, t3⟩

/-- Any step. -/
theorem step_any (w : World) (L : LW) (hr : LRep w L) (hS : SyncL L.ps) (h1 : 1 ≤ L.ps.length) (hn : L.ps.length ≤ 2000000) (d : StepD) (hd : d.ok w) (hk : d.kd ≤ 7) (ht : Tab w) (hgt : 3 ∉ L.foot) :
    Calls Tryz.prog 24 #[.pointer (some ⟨L.b, 0, none⟩), .agg d.cells] w fun e w' => e = .returned (.bool true) ∧ ∃ L', LTurn w L w' L' ∧ SyncL L'.ps ∧ L.ps.length ≤ L'.ps.length ∧ L'.ps.length ≤ L.ps.length + 1 := by
  by_cases k1 : d.kd = 1
  · refine (step_new w L hr hS hn d hd k1 _ rfl).mono ?_
    rintro e w' ⟨rfl, L', t1, t2, t3⟩
    refine ⟨rfl, L', t1, t2, by omega, ?_⟩
    rw [t3]
    split <;> omega
  · obtain ⟨pk0, pk1⟩ := pickI_bd d.e L.ps.length (by omega)
    obtain ⟨k, hpk⟩ := Int.eq_ofNat_of_zero_le pk0
    have hkl : k < L.ps.length := by omega
    obtain ⟨X, Y, hq⟩ : ∃ X Y, L.ps[k] = (X, Y) := ⟨L.ps[k].1, L.ps[k].2, rfl⟩
    rcases own_form hr.row with ⟨_, h0, _⟩ | ⟨g, cap, hv, hc, hcm, _⟩
    · omega
    unfold maxLen at hcm
    have hin : StepIn w L d.e k g cap X Y := ⟨hr, hS, hv, ⟨hc, hcm⟩, hpk, hd.e, by simp [hkl, hq]⟩
    have fin : ∀ {e : Ending} {w' : World}, (e = .returned (.bool true) ∧ ∃ L', LTurn w L w' L' ∧ SyncL L'.ps ∧ L'.ps.length = L.ps.length) → (e = .returned (.bool true) ∧ ∃ L', LTurn w L w' L' ∧ SyncL L'.ps ∧ L.ps.length ≤ L'.ps.length ∧ L'.ps.length ≤ L.ps.length + 1) := by
      rintro e w' ⟨h1, L', t1, t2, t3⟩
      exact ⟨h1, L', t1, t2, by omega, by omega⟩
    unfold StepD.cells
    by_cases k2 : d.kd = 2
    · rw [k2]
      cases hb : bidsB d.t.data.toList
      · exact (step_order w L d.e k g cap X Y hin d.W d.H d.S d.vo d.vs d.p d.t d.a d.b hd.o.form hd.s.form hd.t hb).mono (fun e w' h => fin h)
      · exact (step_bid w L d.e k g cap X Y hin d.W d.H d.S d.vo d.vs d.p d.t d.a d.b hd.o.form hd.s.form hd.t hb).mono (fun e w' h => fin h)
    · by_cases k3 : d.kd = 3
      · rw [k3]
        exact (step_tick w L d.e k g cap X Y hin d.W d.H d.S d.vo d.vs d.p d.t d.a d.b hd.o.form hd.s.form).mono (fun e w' h => fin h)
      · by_cases k4 : d.kd = 4
        · rw [k4]
          exact (step_money w L d.e k g cap X Y hin d.W d.H d.S d.vo d.vs d.p d.t d.a d.b hd.o.form hd.s.form).mono (fun e w' h => fin h)
        · by_cases k5 : d.kd = 5
          · rw [k5]
            exact (step_view w L d.e k g cap X Y hin d.W d.H d.S d.vo d.vs d.p d.t d.a d.b hd.o.form hd.s.form ht hgt).mono (fun e w' h => fin h)
          by_cases k6 : d.kd = 6
          · rw [k6]
            exact (step_offer w L d.e k g cap X Y hin d.W d.H d.S d.vo d.vs d.p d.t d.a d.b hd.o.form hd.s.form hd.t).mono (fun e w' h => fin h)
          by_cases k7 : d.kd = 7
          · rw [k7]
            cases hb : bidsB d.t.data.toList
            · exact (step_nobid7 w L d.e k g cap X Y hin d.W d.H d.S d.vo d.vs d.p d.t d.a d.b hd.o.form hd.s.form hd.t hb).mono (fun e w' h => fin h)
            · exact (step_order7 w L d.e k g cap X Y hin d.W d.H d.S d.vo d.vs d.p d.t d.a d.b hd.o.form hd.s.form hd.t hb).mono (fun e w' h => fin h)
          exact (step_other w L d.e k g cap X Y hin d.kd d.W d.H d.S d.vo d.vs d.p d.t d.a d.b hd.o.form hd.s.form (by omega)).mono (fun e w' h => fin h)

theorem Tryz.sizeConfig : (Tryz.prog.info? 57).map (·.size) = some 5 := by kernel_rfl
theorem three (w : World) (o1 o2 o3 : Obj) : (((w.alloc o1).alloc o2).alloc o3).heap[w.heap.size]? = some o1 ∧ (((w.alloc o1).alloc o2).alloc o3).heap[w.heap.size + 1]? = some o2 ∧ (((w.alloc o1).alloc o2).alloc o3).heap[w.heap.size + 1 + 1]? = some o3 ∧ Below w.heap.size w (((w.alloc o1).alloc o2).alloc o3) := by
  have s1 : (w.alloc o1).heap.size = w.heap.size + 1 := by simp
  have s2 : ((w.alloc o1).alloc o2).heap.size = w.heap.size + 1 + 1 := by simp
  have h1 := Go.heap_alloc_new w o1
  have h2 := Go.heap_alloc_new (w.alloc o1) o2
  have h3 := Go.heap_alloc_new ((w.alloc o1).alloc o2) o3
  rw [s1] at h2
  rw [s2] at h3
  refine ⟨?_, ?_, h3, (((Below.refl _ w).alloc (Nat.le_refl _) o1).alloc (by omega) o2).alloc (by omega) o3⟩
  · rw [Below.heap_alloc _ _ _ (by omega), Below.heap_alloc _ _ _ (by omega), h1]
  · rw [Below.heap_alloc _ _ _ (by omega), h2]
def fieldOre : List SSpot := [⟨1, 0, 3⟩]
def fieldStarts : List SSpot := [⟨0, 0, 0⟩, ⟨4, 3, 0⟩]
set_option maxRecDepth 100000 in
set_option maxHeartbeats 2000000 in
theorem field_any (w : World) : Calls Tryz.prog 23 #[] w fun e w' => Below w.heap.size w w' ∧ ∃ vo vs, e = .returned (.agg #[.int .i64 5, .int .i64 4, .int .i64 1, vo, vs]) ∧ SpA w' vo fieldOre ∧ SpA w' vs fieldStarts := by
  go_enter Tryz.func23, Tryz.ntmps23
  go_wp2
  obtain ⟨h1, h2, h3, hb⟩ := three w (.cells #[.int .i64 5, .int .i64 4, .int .i64 1, .slice (some ⟨w.heap.size + 1, 0, none⟩) 1 1, .slice (some ⟨w.heap.size + 1 + 1, 0, none⟩) 2 2] 57) (.cells #[.int .i64 1, .int .i64 0, .int .i64 3] 63) (.cells #[.int .i64 0, .int .i64 0, .int .i64 0, .int .i64 4, .int .i64 3, .int .i64 0] 63)
  refine bodyPost_ret (results_cell_row rfl _ _ w.heap.size 57 _ (0, 0) _ rfl h1 Tryz.underlying57 rfl Tryz.sizeConfig) rfl ?_
  refine ⟨hb, _, _, rfl, ⟨⟨_, _, rfl, fun _ => ⟨_, 0, rfl, lt_of_some h2, fun j u hu => ?_⟩⟩, .inr ⟨_, _, rfl⟩⟩, ⟨⟨_, _, rfl, fun _ => ⟨_, 0, rfl, lt_of_some h3, fun j u hu => ?_⟩⟩, .inr ⟨_, _, rfl⟩⟩⟩
  · rw [Nat.zero_add, cell_of_row _ _ _ _ _ _ h2]
    simpa [fieldOre, spotCells] using hu
  · rw [Nat.zero_add, cell_of_row _ _ _ _ _ _ h3]
    simpa [fieldStarts, spotCells] using hu
end Go.Proofs.YtlafddeoheambaaGreatDoor

/-
  The scripts that are handed in, and the list of worlds that plays holds.
-/
namespace Go.Proofs.YtlafddeoheambaaGreatDoor
open Go.RowKit
/-- A script that is handed in. -/
def ScIn (w : World) (v : Value) (ds : List StepD) : Prop :=
  ∃ ao cap, v = .slice ao ds.length cap ∧ (0 < ds.length → ∃ b off, ao = some ⟨b, off, none⟩ ∧ b < w.heap.size ∧ ∀ j u, (ds.flatMap (fun d => d.cells.toList))[j]? = some u → w.cell? ⟨b, off + j, none⟩ = some u)
structure PlayIn (w wx : World) (L : LW) : Prop where
  rep : LRep wx L
  b : Below w.heap.size w wx
  is : L.b = w.heap.size
  foot : ∀ r ∈ L.foot, w.heap.size ≤ r
theorem PlayIn.turn {w wx w' : World} {L L' : LW} (h : PlayIn w wx L) (T : LTurn wx L w' L') : PlayIn w w' L' := by
  refine ⟨T.rep, ⟨T.kept.os.trans h.b.os, T.kept.tape.trans h.b.tape, T.kept.output.trans h.b.output, Nat.le_trans h.b.size T.kept.size, fun k hk => ?_⟩, T.b.trans h.is, fun r hr => ?_⟩
  · rw [T.kept.block k (Nat.lt_of_lt_of_le hk h.b.size) (fun hm => by have := h.foot k hm; omega), h.b.block k hk]
  · rcases T.ext r hr with h' | h'
    · exact h.foot r h'
    · have := h.b.size; omega
theorem PlayIn.cell {w wx : World} {L : LW} (h : PlayIn w wx L) : ∃ al cl, wx.cell? ⟨w.heap.size, 0, none⟩ = some (.slice al L.ps.length cl) := by
  obtain ⟨al, gl, cl, hvl, _, _, _⟩ := own_rd h.rep.row
  exact ⟨al, cl, by rw [← hvl, ← h.is, cell_of_row _ _ _ _ _ _ h.rep.top]; rfl⟩
theorem PlayIn.tab {w wx : World} {L : LW} (h : PlayIn w wx L) (ht : Tab w) : 3 ∉ L.foot := fun hm => by have := h.foot _ hm; have := ht.lt; omega
theorem StepD.ok.below {w w' : World} {d : StepD} (h : d.ok w) (hb : Below w.heap.size w w') : d.ok w' := ⟨h.e, h.o.below hb, h.s.below hb, h.lo, h.ls, h.io, h.is, h.t⟩
def firstL (H : Nat) : LW := { b := H, v := .slice none 0 0, ps := [], R := fun _ => .top }
theorem firstL_in (w : World) : PlayIn w (w.alloc (.cells #[.slice none 0 0] 53)) (firstL w.heap.size) := by
  refine ⟨⟨Go.heap_alloc_new w _, ⟨rfl, .inl ⟨rfl, rfl⟩⟩, by simp [firstL], by simp [firstL], rfl, by simp [firstL, blk, Value.ownBlock], by simp [firstL], by simp [firstL]⟩, (Below.refl _ w).alloc (Nat.le_refl _) _, rfl, ?_⟩
  intro r hr
  simp [LW.foot, firstL, blk, Value.ownBlock] at hr
  omega
theorem spA_nil (w : World) : SpA w (.slice none 0 0) [] := ⟨nil_in w, .inl ⟨rfl, rfl⟩⟩
def lookD (k i p : Int) : StepD := { kd := k, e := i, W := 0, H := 0, S := 0, vo := .slice none 0 0, vs := .slice none 0 0, ore := [], starts := [], p := p, t := ⟨#[]⟩, a := 0, b := 0 }
theorem lookD_ok (w : World) (k i p : Int) (hi : 0 ≤ i ∧ i ≤ 9000000) : (lookD k i p).ok w :=
  ⟨by simp only [lookD]; omega, spA_nil w, spA_nil w, by simp [lookD], by simp [lookD], by intro s hs; simp [lookD] at hs, by intro s hs; simp [lookD] at hs, by show (ByteArray.mk #[]).size ≤ 2000000; decide⟩
theorem field_new : newB 5 4 1 fieldOre fieldStarts = true := by decide

theorem step_look (w : World) (L : LW) (hr : LRep w L) (hS : SyncL L.ps) (h1 : 1 ≤ L.ps.length) (hn : L.ps.length ≤ 2000000) (d : StepD) (hd : d.ok w) (hk : d.kd = 4 ∨ (d.kd = 5 ∧ Tab w ∧ 3 ∉ L.foot)) :
    Calls Tryz.prog 24 #[.pointer (some ⟨L.b, 0, none⟩), .agg d.cells] w fun e w' => e = .returned (.bool true) ∧ ∃ L', LTurn w L w' L' ∧ SyncL L'.ps ∧ L'.ps.length = L.ps.length := by
  obtain ⟨pk0, pk1⟩ := pickI_bd d.e L.ps.length (by omega)
  obtain ⟨k, hpk⟩ := Int.eq_ofNat_of_zero_le pk0
  have hkl : k < L.ps.length := by omega
  obtain ⟨X, Y, hq⟩ : ∃ X Y, L.ps[k] = (X, Y) := ⟨L.ps[k].1, L.ps[k].2, rfl⟩
  rcases own_form hr.row with ⟨_, h0, _⟩ | ⟨g, cap, hv, hc, hcm, _⟩
  · omega
  unfold maxLen at hcm
  have hin : StepIn w L d.e k g cap X Y := ⟨hr, hS, hv, ⟨hc, hcm⟩, hpk, hd.e, by simp [hkl, hq]⟩
  unfold StepD.cells
  rcases hk with hk | ⟨hk, ht, hgt⟩
  · rw [hk]
    exact step_money w L d.e k g cap X Y hin d.W d.H d.S d.vo d.vs d.p d.t d.a d.b hd.o.form hd.s.form
  · rw [hk]
    exact step_view w L d.e k g cap X Y hin d.W d.H d.S d.vo d.vs d.p d.t d.a d.b hd.o.form hd.s.form ht hgt

end Go.Proofs.YtlafddeoheambaaGreatDoor
