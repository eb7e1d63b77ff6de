/-
  The function step of package hazelaw: Offer, and orders of the kind Bid.
-/
import Derived.Test.YtlafddeoheambaaGreatDoorT50
set_option linter.unusedVariables false
namespace Go.Proofs.YtlafddeoheambaaGreatDoor
open Go.RowKit

set_option maxRecDepth 100000 in
set_option maxHeartbeats 4000000 in
theorem step_order7 (w : World) (L : LW) (e : Int) (k g cap : Nat) (X : XW) (Y : YW) (h : StepIn w L e k g cap X Y) (W H S : Int) (vo vs : Value) (p : Int) (t : ByteArray) (a b : Int) (hvo : ∃ a n c, vo = .slice a n c) (hvs : ∃ a n c, vs = .slice a n c) (hs : t.size ≤ 2000000) (hb : bidsB t.data.toList = true) :
    Calls Tryz.prog 24 #[.pointer (some ⟨L.b, 0, none⟩), .agg (stepCells 7 e W H S vo vs p t a b)] w fun e w' => e = .returned (.bool true) ∧ ∃ L', LTurn w L w' L' ∧ SyncL L'.ps ∧ L'.ps.length = L.ps.length := by
  obtain ⟨o1, o2, o3, rfl⟩ := hvo
  obtain ⟨s1, s2, s3, rfl⟩ := hvs
  obtain ⟨hk, _⟩ := at_some h.q
  have c0 : w.cell? ⟨L.b, 0, none⟩ = some (.slice (some ⟨g, 0, none⟩) L.ps.length cap) := by rw [← h.v, cell_of_row _ _ _ _ _ _ h.rep.top]; rfl
  have hrow := h.rep.row
  rw [h.v] at hrow
  have f := fun j (hj : j < 2) => flat_at pairCells 2 (fun _ => rfl) L.ps k j hk hj
  have eq : L.ps[k] = (X, Y) := (at_some h.q).2
  rw [eq] at f
  have g0 : w.cell? ⟨g, k * 2, none⟩ = some (.pointer (some ⟨X.b, 0, none⟩)) := own_cell hrow (f 0 (by omega))
  have g1 : w.cell? ⟨g, k * 2 + 1, none⟩ = some (.pointer (some ⟨Y.b, 0, none⟩)) := own_cell hrow (f 1 (by omega))
  have hcap := h.cap
  have HPk := hidOf (fun wx => pick_any e L.ps.length wx h.bd.1 h.bd.2 (by omega) (by omega))
  rw [h.pk] at HPk
  have hk2 : (k : Int) < (L.ps.length : Int) := by omega
  have HI := hidOf h
  have hlb := h.rep.lt L.b lfoot_b
  have hlg := h.rep.lt g (lfoot_r (by rw [h.v]; simp [blk_slice]))
  have HF := hidOf (Stp.first w L (stepCells 7 e W H S (.slice o1 o2 o3) (.slice s1 s2 s3) p t a b) X Y)
  have hbl : Below w.heap.size w ((w.alloc (.cells (stepCells 7 e W H S (.slice o1 o2 o3) (.slice s1 s2 s3) p t a b) 60)).alloc (.cells #[.pointer (some ⟨X.b, 0, none⟩), .pointer (some ⟨Y.b, 0, none⟩)] 119)).drew := (((Below.refl _ w).alloc (Nat.le_refl _) _).alloc (by simp) _).drew
  have HL2 := hidOf ((LTurn.refl h.rep).below hbl)
  have HBd := hidOf (fun wx => bids_any t wx (by unfold maxLen; omega))
  rw [hb] at HBd
  have x0 : (w.alloc (.cells (stepCells 7 e W H S (.slice o1 o2 o3) (.slice s1 s2 s3) p t a b) 60)).cell? ⟨L.b, 0, none⟩ = some (.slice (some ⟨g, 0, none⟩) L.ps.length cap) := by rw [World.cell?_alloc_past _ _ _ hlb]; exact c0
  have x1 : (w.alloc (.cells (stepCells 7 e W H S (.slice o1 o2 o3) (.slice s1 s2 s3) p t a b) 60)).cell? ⟨w.heap.size, 1, none⟩ = some (.int .i64 e) := by rw [cell_of_row _ _ _ _ _ _ (Go.heap_alloc_new w _)]; rfl
  have x2 : (w.alloc (.cells (stepCells 7 e W H S (.slice o1 o2 o3) (.slice s1 s2 s3) p t a b) 60)).cell? ⟨g, k * 2, none⟩ = some (.pointer (some ⟨X.b, 0, none⟩)) := by rw [World.cell?_alloc_past _ _ _ hlg]; exact g0
  have x3 : (w.alloc (.cells (stepCells 7 e W H S (.slice o1 o2 o3) (.slice s1 s2 s3) p t a b) 60)).cell? ⟨g, k * 2 + 1, none⟩ = some (.pointer (some ⟨Y.b, 0, none⟩)) := by rw [World.cell?_alloc_past _ _ _ hlg]; exact g1
  have hsz : (w.alloc (.cells (stepCells 7 e W H S (.slice o1 o2 o3) (.slice s1 s2 s3) p t a b) 60)).heap.size = w.heap.size + 1 := by simp
  clear h hrow f eq hbl c0 g0 g1
  unfold stepCells at *
  go_enter Tryz.func24, Tryz.ntmps24
  go_wp2_with fail
  obtain ⟨w1, hw1⟩ : ∃ w1, w1 = w.alloc (.cells #[.int .i64 7, .int .i64 e, .int .i64 W, .int .i64 H, .int .i64 S, .slice o1 o2 o3, .slice s1 s2 s3, .int .i64 p, .string t, .int .i64 a, .int .i64 b] 60) := ⟨_, rfl⟩
  rw [← hw1] at x0 x1 x2 x3 hsz HF HL2 ⊢
  clear hw1
  go_region_held3 (fun w' => w'.cell? ⟨L.b, 0, none⟩ = some (.slice (some ⟨g, 0, none⟩) L.ps.length cap) ∧ w'.cell? ⟨w.heap.size, 1, none⟩ = some (.int .i64 e) ∧ w'.cell? ⟨g, k * 2, none⟩ = some (.pointer (some ⟨X.b, 0, none⟩)) ∧ w'.cell? ⟨g, k * 2 + 1, none⟩ = some (.pointer (some ⟨Y.b, 0, none⟩))) (first | assumption | (refine keepL ?_; assumption) | go_keep) (first | (go_at_call 50; refine (HPk.out _).mono ?_; rintro e' w' ⟨rfl, h⟩; rw [h]; clear h w'))
  all_goals
    obtain ⟨w2, hw2⟩ : ∃ w2, w2 = (w1.alloc (.cells #[.pointer (some ⟨X.b, 0, none⟩), .pointer (some ⟨Y.b, 0, none⟩)] 119)).drew := ⟨_, rfl⟩
    rw [← hw2] at HF HL2 ⊢
    clear hw2 x0 x1 x2 x3
    have b0 : w2.cell? ⟨w.heap.size, 0, none⟩ = some (.int .i64 7) := by rw [cell_of_row _ _ _ _ _ _ HF.out.box]; rfl
    have b7 : w2.cell? ⟨w.heap.size, 7, none⟩ = some (.int .i64 p) := by rw [cell_of_row _ _ _ _ _ _ HF.out.box]; rfl
    have b8 : w2.cell? ⟨w.heap.size, 8, none⟩ = some (.string t) := by rw [cell_of_row _ _ _ _ _ _ HF.out.box]; rfl
    have q0 : w2.cell? ⟨w.heap.size + 1, 0, none⟩ = some (.pointer (some ⟨X.b, 0, none⟩)) := by rw [cell_of_row _ _ _ _ _ _ HF.out.pair]; rfl
    have q1 : w2.cell? ⟨w.heap.size + 1, 1, none⟩ = some (.pointer (some ⟨Y.b, 0, none⟩)) := by rw [cell_of_row _ _ _ _ _ _ HF.out.pair]; rfl
    have HX2 := hidOf (HL2.out.rep.x k _ HI.out.q)
    have HY2 := hidOf (HL2.out.rep.y k _ HI.out.q)
    have hmem := List.mem_of_getElem? HI.out.q
    have HO := hidOf (HI.out.sync.o _ hmem)
    have HE := hidOf (HI.out.sync.s _ hmem)
    have HG := hidOf (HI.out.sync.g _ hmem)
    have HNw := hidOf (HI.out.sync.n _ hmem)
    have HSa := hidOf (HI.out.sync.sl _ hmem)
    clear hmem
    have HCx := hidOf (xorder_l w2 X p t HX2.out HO.out (by rw [HE.out]; exact HG.out) HNw.out HSa.out hs)
    have HCy := hidOf (fun wx hx => rorder_l wx Y p t hx HG.out hs)
    rw [HE.out] at HCx
    go_wp2_with (first | (go_at_call 51; refine (HBd.out _).mono ?_; rintro e' w' ⟨rfl, h⟩; rw [h]; clear h w') | (go_at_call 49; refine (num_any _ _).mono ?_; rintro e' w' ⟨rfl, h⟩; rw [h]; clear h w') | (go_at_call 10; refine HCx.out.mono ?_; rintro e' w3 ⟨rfl, X', T', O', S', N'⟩; have HF3 := hidOf (HF.out.x HI.out.repX T'); have b7' : w3.cell? ⟨w.heap.size, 7, none⟩ = some (.int .i64 p) := (by rw [cell_of_row _ _ _ _ _ _ HF3.out.box]; rfl); have b8' : w3.cell? ⟨w.heap.size, 8, none⟩ = some (.string t) := (by rw [cell_of_row _ _ _ _ _ _ HF3.out.box]; rfl); have q1' : w3.cell? ⟨w.heap.size + 1, 1, none⟩ = some (.pointer (some ⟨Y.b, 0, none⟩)) := (by rw [cell_of_row _ _ _ _ _ _ HF3.out.pair]; rfl); have HY3 := hidOf ((HL2.out.rep.turnX HI.out.q T').rep.yOf HI.out.q)) | (go_at_call 52; refine (HCy.out _ HY3.out).mono ?_; rintro e' w4 ⟨rfl, Y', U', V'⟩))
    go_ret
    obtain ⟨L', t1, t2, t3⟩ := pairTurnL HL2.out.rep HI.out.sync HI.out.q T' O' U' (by rw [S', V']) (by rw [V']; exact HG.out.order _ _ (by simpa using hs)) N'
    exact ⟨rfl, L', HL2.out.trans t1, t2, t3⟩

set_option maxRecDepth 100000 in
set_option maxHeartbeats 4000000 in
theorem step_nobid7 (w : World) (L : LW) (e : Int) (k g cap : Nat) (X : XW) (Y : YW) (h : StepIn w L e k g cap X Y) (W H S : Int) (vo vs : Value) (p : Int) (t : ByteArray) (a b : Int) (hvo : ∃ a n c, vo = .slice a n c) (hvs : ∃ a n c, vs = .slice a n c) (hs : t.size ≤ 2000000) (hb : bidsB t.data.toList = false) :
    Calls Tryz.prog 24 #[.pointer (some ⟨L.b, 0, none⟩), .agg (stepCells 7 e W H S vo vs p t a b)] w fun e w' => e = .returned (.bool true) ∧ ∃ L', LTurn w L w' L' ∧ SyncL L'.ps ∧ L'.ps.length = L.ps.length := by
  obtain ⟨o1, o2, o3, rfl⟩ := hvo
  obtain ⟨s1, s2, s3, rfl⟩ := hvs
  obtain ⟨hk, _⟩ := at_some h.q
  have c0 : w.cell? ⟨L.b, 0, none⟩ = some (.slice (some ⟨g, 0, none⟩) L.ps.length cap) := by rw [← h.v, cell_of_row _ _ _ _ _ _ h.rep.top]; rfl
  have hrow := h.rep.row
  rw [h.v] at hrow
  have f := fun j (hj : j < 2) => flat_at pairCells 2 (fun _ => rfl) L.ps k j hk hj
  have eq : L.ps[k] = (X, Y) := (at_some h.q).2
  rw [eq] at f
  have g0 : w.cell? ⟨g, k * 2, none⟩ = some (.pointer (some ⟨X.b, 0, none⟩)) := own_cell hrow (f 0 (by omega))
  have g1 : w.cell? ⟨g, k * 2 + 1, none⟩ = some (.pointer (some ⟨Y.b, 0, none⟩)) := own_cell hrow (f 1 (by omega))
  have hcap := h.cap
  have HPk := hidOf (fun wx => pick_any e L.ps.length wx h.bd.1 h.bd.2 (by omega) (by omega))
  rw [h.pk] at HPk
  have hk2 : (k : Int) < (L.ps.length : Int) := by omega
  have HI := hidOf h
  have hlb := h.rep.lt L.b lfoot_b
  have hlg := h.rep.lt g (lfoot_r (by rw [h.v]; simp [blk_slice]))
  have HF := hidOf (Stp.first w L (stepCells 7 e W H S (.slice o1 o2 o3) (.slice s1 s2 s3) p t a b) X Y)
  have hbl : Below w.heap.size w ((w.alloc (.cells (stepCells 7 e W H S (.slice o1 o2 o3) (.slice s1 s2 s3) p t a b) 60)).alloc (.cells #[.pointer (some ⟨X.b, 0, none⟩), .pointer (some ⟨Y.b, 0, none⟩)] 119)).drew := (((Below.refl _ w).alloc (Nat.le_refl _) _).alloc (by simp) _).drew
  have HL2 := hidOf ((LTurn.refl h.rep).below hbl)
  have HBd := hidOf (fun wx => bids_any t wx (by unfold maxLen; omega))
  rw [hb] at HBd
  have x0 : (w.alloc (.cells (stepCells 7 e W H S (.slice o1 o2 o3) (.slice s1 s2 s3) p t a b) 60)).cell? ⟨L.b, 0, none⟩ = some (.slice (some ⟨g, 0, none⟩) L.ps.length cap) := by rw [World.cell?_alloc_past _ _ _ hlb]; exact c0
  have x1 : (w.alloc (.cells (stepCells 7 e W H S (.slice o1 o2 o3) (.slice s1 s2 s3) p t a b) 60)).cell? ⟨w.heap.size, 1, none⟩ = some (.int .i64 e) := by rw [cell_of_row _ _ _ _ _ _ (Go.heap_alloc_new w _)]; rfl
  have x2 : (w.alloc (.cells (stepCells 7 e W H S (.slice o1 o2 o3) (.slice s1 s2 s3) p t a b) 60)).cell? ⟨g, k * 2, none⟩ = some (.pointer (some ⟨X.b, 0, none⟩)) := by rw [World.cell?_alloc_past _ _ _ hlg]; exact g0
  have x3 : (w.alloc (.cells (stepCells 7 e W H S (.slice o1 o2 o3) (.slice s1 s2 s3) p t a b) 60)).cell? ⟨g, k * 2 + 1, none⟩ = some (.pointer (some ⟨Y.b, 0, none⟩)) := by rw [World.cell?_alloc_past _ _ _ hlg]; exact g1
  have hsz : (w.alloc (.cells (stepCells 7 e W H S (.slice o1 o2 o3) (.slice s1 s2 s3) p t a b) 60)).heap.size = w.heap.size + 1 := by simp
  clear h hrow f eq hbl c0 g0 g1
  unfold stepCells at *
  go_enter Tryz.func24, Tryz.ntmps24
  go_wp2_with fail
  obtain ⟨w1, hw1⟩ : ∃ w1, w1 = w.alloc (.cells #[.int .i64 7, .int .i64 e, .int .i64 W, .int .i64 H, .int .i64 S, .slice o1 o2 o3, .slice s1 s2 s3, .int .i64 p, .string t, .int .i64 a, .int .i64 b] 60) := ⟨_, rfl⟩
  rw [← hw1] at x0 x1 x2 x3 hsz HF HL2 ⊢
  clear hw1
  go_region_held3 (fun w' => w'.cell? ⟨L.b, 0, none⟩ = some (.slice (some ⟨g, 0, none⟩) L.ps.length cap) ∧ w'.cell? ⟨w.heap.size, 1, none⟩ = some (.int .i64 e) ∧ w'.cell? ⟨g, k * 2, none⟩ = some (.pointer (some ⟨X.b, 0, none⟩)) ∧ w'.cell? ⟨g, k * 2 + 1, none⟩ = some (.pointer (some ⟨Y.b, 0, none⟩))) (first | assumption | (refine keepL ?_; assumption) | go_keep) (first | (go_at_call 50; refine (HPk.out _).mono ?_; rintro e' w' ⟨rfl, h⟩; rw [h]; clear h w'))
  all_goals
    obtain ⟨w2, hw2⟩ : ∃ w2, w2 = (w1.alloc (.cells #[.pointer (some ⟨X.b, 0, none⟩), .pointer (some ⟨Y.b, 0, none⟩)] 119)).drew := ⟨_, rfl⟩
    rw [← hw2] at HF HL2 ⊢
    clear hw2 x0 x1 x2 x3
    have b0 : w2.cell? ⟨w.heap.size, 0, none⟩ = some (.int .i64 7) := by rw [cell_of_row _ _ _ _ _ _ HF.out.box]; rfl
    have b7 : w2.cell? ⟨w.heap.size, 7, none⟩ = some (.int .i64 p) := by rw [cell_of_row _ _ _ _ _ _ HF.out.box]; rfl
    have b8 : w2.cell? ⟨w.heap.size, 8, none⟩ = some (.string t) := by rw [cell_of_row _ _ _ _ _ _ HF.out.box]; rfl
    have q0 : w2.cell? ⟨w.heap.size + 1, 0, none⟩ = some (.pointer (some ⟨X.b, 0, none⟩)) := by rw [cell_of_row _ _ _ _ _ _ HF.out.pair]; rfl
    have q1 : w2.cell? ⟨w.heap.size + 1, 1, none⟩ = some (.pointer (some ⟨Y.b, 0, none⟩)) := by rw [cell_of_row _ _ _ _ _ _ HF.out.pair]; rfl
    have HX2 := hidOf (HL2.out.rep.x k _ HI.out.q)
    have HY2 := hidOf (HL2.out.rep.y k _ HI.out.q)
    have hmem := List.mem_of_getElem? HI.out.q
    have HO := hidOf (HI.out.sync.o _ hmem)
    have HE := hidOf (HI.out.sync.s _ hmem)
    have HG := hidOf (HI.out.sync.g _ hmem)
    have HNw := hidOf (HI.out.sync.n _ hmem)
    have HSa := hidOf (HI.out.sync.sl _ hmem)
    clear hmem
    go_wp2_with (go_at_call 51; refine (HBd.out _).mono ?_; rintro e' w' ⟨rfl, h⟩; rw [h]; clear h w')
    go_ret
    exact ⟨rfl, L, HL2.out, HI.out.sync, rfl⟩

set_option maxRecDepth 100000 in
set_option maxHeartbeats 4000000 in
theorem step_offer (w : World) (L : LW) (e : Int) (k g cap : Nat) (X : XW) (Y : YW) (h : StepIn w L e k g cap X Y) (W H S : Int) (vo vs : Value) (p : Int) (t : ByteArray) (a b : Int) (hvo : ∃ a n c, vo = .slice a n c) (hvs : ∃ a n c, vs = .slice a n c) (hs : t.size ≤ 2000000) :
    Calls Tryz.prog 24 #[.pointer (some ⟨L.b, 0, none⟩), .agg (stepCells 6 e W H S vo vs p t a b)] w fun e w' => e = .returned (.bool true) ∧ ∃ L', LTurn w L w' L' ∧ SyncL L'.ps ∧ L'.ps.length = L.ps.length := by
  obtain ⟨o1, o2, o3, rfl⟩ := hvo
  obtain ⟨s1, s2, s3, rfl⟩ := hvs
  obtain ⟨hk, _⟩ := at_some h.q
  have c0 : w.cell? ⟨L.b, 0, none⟩ = some (.slice (some ⟨g, 0, none⟩) L.ps.length cap) := by rw [← h.v, cell_of_row _ _ _ _ _ _ h.rep.top]; rfl
  have hrow := h.rep.row
  rw [h.v] at hrow
  have f := fun j (hj : j < 2) => flat_at pairCells 2 (fun _ => rfl) L.ps k j hk hj
  have eq : L.ps[k] = (X, Y) := (at_some h.q).2
  rw [eq] at f
  have g0 : w.cell? ⟨g, k * 2, none⟩ = some (.pointer (some ⟨X.b, 0, none⟩)) := own_cell hrow (f 0 (by omega))
  have g1 : w.cell? ⟨g, k * 2 + 1, none⟩ = some (.pointer (some ⟨Y.b, 0, none⟩)) := own_cell hrow (f 1 (by omega))
  have hcap := h.cap
  have HPk := hidOf (fun wx => pick_any e L.ps.length wx h.bd.1 h.bd.2 (by omega) (by omega))
  rw [h.pk] at HPk
  have hk2 : (k : Int) < (L.ps.length : Int) := by omega
  have HI := hidOf h
  have hlb := h.rep.lt L.b lfoot_b
  have hlg := h.rep.lt g (lfoot_r (by rw [h.v]; simp [blk_slice]))
  have HF := hidOf (Stp.first w L (stepCells 6 e W H S (.slice o1 o2 o3) (.slice s1 s2 s3) p t a b) X Y)
  have hbl : Below w.heap.size w ((w.alloc (.cells (stepCells 6 e W H S (.slice o1 o2 o3) (.slice s1 s2 s3) p t a b) 60)).alloc (.cells #[.pointer (some ⟨X.b, 0, none⟩), .pointer (some ⟨Y.b, 0, none⟩)] 119)).drew := (((Below.refl _ w).alloc (Nat.le_refl _) _).alloc (by simp) _).drew
  have HL2 := hidOf ((LTurn.refl h.rep).below hbl)
  have x0 : (w.alloc (.cells (stepCells 6 e W H S (.slice o1 o2 o3) (.slice s1 s2 s3) p t a b) 60)).cell? ⟨L.b, 0, none⟩ = some (.slice (some ⟨g, 0, none⟩) L.ps.length cap) := by rw [World.cell?_alloc_past _ _ _ hlb]; exact c0
  have x1 : (w.alloc (.cells (stepCells 6 e W H S (.slice o1 o2 o3) (.slice s1 s2 s3) p t a b) 60)).cell? ⟨w.heap.size, 1, none⟩ = some (.int .i64 e) := by rw [cell_of_row _ _ _ _ _ _ (Go.heap_alloc_new w _)]; rfl
  have x2 : (w.alloc (.cells (stepCells 6 e W H S (.slice o1 o2 o3) (.slice s1 s2 s3) p t a b) 60)).cell? ⟨g, k * 2, none⟩ = some (.pointer (some ⟨X.b, 0, none⟩)) := by rw [World.cell?_alloc_past _ _ _ hlg]; exact g0
  have x3 : (w.alloc (.cells (stepCells 6 e W H S (.slice o1 o2 o3) (.slice s1 s2 s3) p t a b) 60)).cell? ⟨g, k * 2 + 1, none⟩ = some (.pointer (some ⟨Y.b, 0, none⟩)) := by rw [World.cell?_alloc_past _ _ _ hlg]; exact g1
  have hsz : (w.alloc (.cells (stepCells 6 e W H S (.slice o1 o2 o3) (.slice s1 s2 s3) p t a b) 60)).heap.size = w.heap.size + 1 := by simp
  clear h hrow f eq hbl c0 g0 g1
  unfold stepCells at *
  go_enter Tryz.func24, Tryz.ntmps24
  go_wp2_with fail
  obtain ⟨w1, hw1⟩ : ∃ w1, w1 = w.alloc (.cells #[.int .i64 6, .int .i64 e, .int .i64 W, .int .i64 H, .int .i64 S, .slice o1 o2 o3, .slice s1 s2 s3, .int .i64 p, .string t, .int .i64 a, .int .i64 b] 60) := ⟨_, rfl⟩
  rw [← hw1] at x0 x1 x2 x3 hsz HF HL2 ⊢
  clear hw1
  go_region_held3 (fun w' => w'.cell? ⟨L.b, 0, none⟩ = some (.slice (some ⟨g, 0, none⟩) L.ps.length cap) ∧ w'.cell? ⟨w.heap.size, 1, none⟩ = some (.int .i64 e) ∧ w'.cell? ⟨g, k * 2, none⟩ = some (.pointer (some ⟨X.b, 0, none⟩)) ∧ w'.cell? ⟨g, k * 2 + 1, none⟩ = some (.pointer (some ⟨Y.b, 0, none⟩))) (first | assumption | (refine keepL ?_; assumption) | go_keep) (first | (go_at_call 50; refine (HPk.out _).mono ?_; rintro e' w' ⟨rfl, h⟩; rw [h]; clear h w'))
  all_goals
    obtain ⟨w2, hw2⟩ : ∃ w2, w2 = (w1.alloc (.cells #[.pointer (some ⟨X.b, 0, none⟩), .pointer (some ⟨Y.b, 0, none⟩)] 119)).drew := ⟨_, rfl⟩
    rw [← hw2] at HF HL2 ⊢
    clear hw2 x0 x1 x2 x3
    have b0 : w2.cell? ⟨w.heap.size, 0, none⟩ = some (.int .i64 6) := by rw [cell_of_row _ _ _ _ _ _ HF.out.box]; rfl
    have b7 : w2.cell? ⟨w.heap.size, 7, none⟩ = some (.int .i64 p) := by rw [cell_of_row _ _ _ _ _ _ HF.out.box]; rfl
    have b8 : w2.cell? ⟨w.heap.size, 8, none⟩ = some (.string t) := by rw [cell_of_row _ _ _ _ _ _ HF.out.box]; rfl
    have q0 : w2.cell? ⟨w.heap.size + 1, 0, none⟩ = some (.pointer (some ⟨X.b, 0, none⟩)) := by rw [cell_of_row _ _ _ _ _ _ HF.out.pair]; rfl
    have q1 : w2.cell? ⟨w.heap.size + 1, 1, none⟩ = some (.pointer (some ⟨Y.b, 0, none⟩)) := by rw [cell_of_row _ _ _ _ _ _ HF.out.pair]; rfl
    have HX2 := hidOf (HL2.out.rep.x k _ HI.out.q)
    have HY2 := hidOf (HL2.out.rep.y k _ HI.out.q)
    have hmem := List.mem_of_getElem? HI.out.q
    have HO := hidOf (HI.out.sync.o _ hmem)
    have HE := hidOf (HI.out.sync.s _ hmem)
    have HG := hidOf (HI.out.sync.g _ hmem)
    have HNw := hidOf (HI.out.sync.n _ hmem)
    have HSa := hidOf (HI.out.sync.sl _ hmem)
    clear hmem
    have b9 : w2.cell? ⟨w.heap.size, 9, none⟩ = some (.int .i64 a) := by rw [cell_of_row _ _ _ _ _ _ HF.out.box]; rfl
    have b10 : w2.cell? ⟨w.heap.size, 10, none⟩ = some (.int .i64 b) := by rw [cell_of_row _ _ _ _ _ _ HF.out.box]; rfl
    have HCx := hidOf (xoffer_c w2 X t a b HX2.out HO.out (by rw [HE.out]; exact HG.out) HNw.out HSa.out hs)
    have HCy := hidOf (fun wx hx => roffer_l wx Y t a b hx HG.out hs)
    rw [HE.out] at HCx
    go_wp2_with (first | (go_at_call 49; refine (num_any _ _).mono ?_; rintro e' w' ⟨rfl, h⟩; rw [h]; clear h w') | (go_at_call 19; refine HCx.out.mono ?_; rintro e' w3 ⟨rfl, X', T', O', S', N'⟩; have HF3 := hidOf (HF.out.x HI.out.repX T'); have b9' : w3.cell? ⟨w.heap.size, 9, none⟩ = some (.int .i64 a) := (by rw [cell_of_row _ _ _ _ _ _ HF3.out.box]; rfl); have b10' : w3.cell? ⟨w.heap.size, 10, none⟩ = some (.int .i64 b) := (by rw [cell_of_row _ _ _ _ _ _ HF3.out.box]; rfl); have b8' : w3.cell? ⟨w.heap.size, 8, none⟩ = some (.string t) := (by rw [cell_of_row _ _ _ _ _ _ HF3.out.box]; rfl); have q1' : w3.cell? ⟨w.heap.size + 1, 1, none⟩ = some (.pointer (some ⟨Y.b, 0, none⟩)) := (by rw [cell_of_row _ _ _ _ _ _ HF3.out.pair]; rfl); have HY3 := hidOf ((HL2.out.rep.turnX HI.out.q T').rep.yOf HI.out.q)) | (go_at_call 56; refine (HCy.out _ HY3.out).mono ?_; rintro e' w4 ⟨rfl, Y', U', V'⟩))
    go_ret
    obtain ⟨L', t1, t2, t3⟩ := pairTurnL HL2.out.rep HI.out.sync HI.out.q T' O' U' (by rw [S', V']) (by rw [V']; exact HG.out.offer _ _ _ hs) N'
    exact ⟨rfl, L', HL2.out.trans t1, t2, t3⟩
end Go.Proofs.YtlafddeoheambaaGreatDoor
