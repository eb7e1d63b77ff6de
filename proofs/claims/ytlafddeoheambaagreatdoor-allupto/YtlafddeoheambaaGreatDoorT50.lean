/-
  The function step of package hazelaw: the steps that speak of a pair of worlds.
-/
import Derived.Test.YtlafddeoheambaaGreatDoorT49
import Derived.Deep.RegionHeld3
set_option linter.unusedVariables false
namespace Go.Proofs.YtlafddeoheambaaGreatDoor
open Go.RowKit

def stepCells (kd e W H S : Int) (vo vs : Value) (p : Int) (t : ByteArray) (a b : Int) : Array Value := #[.int .i64 kd, .int .i64 e, .int .i64 W, .int .i64 H, .int .i64 S, vo, vs, .int .i64 p, .string t, .int .i64 a, .int .i64 b]
/-- What is known ahead of a step that speaks of a pair. -/
structure StepIn (w : World) (L : LW) (e : Int) (k g cap : Nat) (X : XW) (Y : YW) : Prop where
  rep : LRep w L
  sync : SyncL L.ps
  v : L.v = .slice (some ⟨g, 0, none⟩) L.ps.length cap
  cap : L.ps.length ≤ cap ∧ cap ≤ 9223372036854775807
  pk : pickI e L.ps.length = k
  bd : -9223372036854775808 ≤ e ∧ e ≤ 9223372036854775807
  q : L.ps[k]? = some (X, Y)
/-- The step and the pair lie in blocks of their own. -/
structure Stp (w : World) (L : LW) (cs : Array Value) (X : XW) (Y : YW) (w2 : World) : Prop where
  box : w2.heap[w.heap.size]? = some (.cells cs 60 (0, 0))
  pair : w2.heap[w.heap.size + 1]? = some (.cells #[.pointer (some ⟨X.b, 0, none⟩), .pointer (some ⟨Y.b, 0, none⟩)] 119 (0, 0))
theorem Stp.first (w : World) (L : LW) (cs : Array Value) (X : XW) (Y : YW) : Stp w L cs X Y ((w.alloc (.cells cs 60)).alloc (.cells #[.pointer (some ⟨X.b, 0, none⟩), .pointer (some ⟨Y.b, 0, none⟩)] 119)).drew := by
  have e : (w.alloc (.cells cs 60)).heap.size = w.heap.size + 1 := by simp
  refine ⟨?_, ?_⟩
  · show ((w.alloc (.cells cs 60)).alloc _).heap[w.heap.size]? = _
    rw [Below.heap_alloc _ _ _ (by omega)]
    exact Go.heap_alloc_new w _
  · rw [← e]
    exact Go.heap_alloc_new (w.alloc (.cells cs 60)) _
theorem Stp.x {w w2 w3 : World} {L : LW} {cs : Array Value} {X X' : XW} {Y : YW} (h : Stp w L cs X Y w2) (hr : RepX w X) (T : TurnX w2 X w3 X') : Stp w L cs X Y w3 := by
  have n1 : w.heap.size ∉ X.foot := fun hm => by have := hr.lt _ hm; omega
  have n2 : w.heap.size + 1 ∉ X.foot := fun hm => by have := hr.lt _ hm; omega
  exact ⟨by rw [T.kept.block _ (lt_of_some h.box) n1]; exact h.box, by rw [T.kept.block _ (lt_of_some h.pair) n2]; exact h.pair⟩
theorem StepIn.repX {w : World} {L : LW} {e : Int} {k g cap : Nat} {X : XW} {Y : YW} (h : StepIn w L e k g cap X Y) : RepX w X := h.rep.x k _ h.q
theorem LRep.yOf {w : World} {L : LW} {H i : Nat} {X X' : XW} {Y : YW} (h : LRep w (L.setX H i X' Y)) (hq : L.ps[i]? = some (X, Y)) : RepY w Y := h.y i (X', Y) (by obtain ⟨hi, _⟩ := at_some hq; simp [LW.setX, hi])
theorem keepL {w' : World} {a b c d : Addr} {u v x y : Value} {o : Obj} (h : w'.drew.cell? a = some u ∧ w'.drew.cell? b = some v ∧ w'.drew.cell? c = some x ∧ w'.drew.cell? d = some y) : (w'.alloc o).drew.cell? a = some u ∧ (w'.alloc o).drew.cell? b = some v ∧ (w'.alloc o).drew.cell? c = some x ∧ (w'.alloc o).drew.cell? d = some y :=
  ⟨keep1 o h.1, keep1 o h.2.1, keep1 o h.2.2.1, keep1 o h.2.2.2⟩

set_option maxRecDepth 100000 in
set_option maxHeartbeats 4000000 in
theorem step_tick (w : World) (L : LW) (e : Int) (k g cap : Nat) (X : XW) (Y : YW) (h : StepIn w L e k g cap X Y) (W H S : Int) (vo vs : Value) (p : Int) (t : ByteArray) (a b : Int) (hvo : ∃ a n c, vo = .slice a n c) (hvs : ∃ a n c, vs = .slice a n c) :
    Calls Tryz.prog 24 #[.pointer (some ⟨L.b, 0, none⟩), .agg (stepCells 3 e W H S vo vs p t a b)] w fun e w' => e = .returned (.bool true) ∧ ∃ L', LTurn w L w' L' ∧ SyncL L'.ps ∧ L'.ps.length = L.ps.length := by
  obtain ⟨o1, o2, o3, rfl⟩ := hvo
  obtain ⟨s1, s2, s3, rfl⟩ := hvs
  obtain ⟨hk, _⟩ := at_some h.q
  have c0 : w.cell? ⟨L.b, 0, none⟩ = some (.slice (some ⟨g, 0, none⟩) L.ps.length cap) := by rw [← h.v, cell_of_row _ _ _ _ _ _ h.rep.top]; rfl
  have hrow := h.rep.row
  rw [h.v] at hrow
  have f := fun j (hj : j < 2) => flat_at pairCells 2 (fun _ => rfl) L.ps k j hk hj
  have eq : L.ps[k] = (X, Y) := (at_some h.q).2
  rw [eq] at f
  have g0 : w.cell? ⟨g, k * 2, none⟩ = some (.pointer (some ⟨X.b, 0, none⟩)) := own_cell hrow (f 0 (by omega))
  have g1 : w.cell? ⟨g, k * 2 + 1, none⟩ = some (.pointer (some ⟨Y.b, 0, none⟩)) := own_cell hrow (f 1 (by omega))
  have hcap := h.cap
  have HPk := hidOf (fun wx => pick_any e L.ps.length wx h.bd.1 h.bd.2 (by omega) (by omega))
  rw [h.pk] at HPk
  have hk2 : (k : Int) < (L.ps.length : Int) := by omega
  have HI := hidOf h
  have hlb := h.rep.lt L.b lfoot_b
  have hlg := h.rep.lt g (lfoot_r (by rw [h.v]; simp [blk_slice]))
  have HF := hidOf (Stp.first w L (stepCells 3 e W H S (.slice o1 o2 o3) (.slice s1 s2 s3) p t a b) X Y)
  have hbl : Below w.heap.size w ((w.alloc (.cells (stepCells 3 e W H S (.slice o1 o2 o3) (.slice s1 s2 s3) p t a b) 60)).alloc (.cells #[.pointer (some ⟨X.b, 0, none⟩), .pointer (some ⟨Y.b, 0, none⟩)] 119)).drew := (((Below.refl _ w).alloc (Nat.le_refl _) _).alloc (by simp) _).drew
  have HL2 := hidOf ((LTurn.refl h.rep).below hbl)
  have x0 : (w.alloc (.cells (stepCells 3 e W H S (.slice o1 o2 o3) (.slice s1 s2 s3) p t a b) 60)).cell? ⟨L.b, 0, none⟩ = some (.slice (some ⟨g, 0, none⟩) L.ps.length cap) := by rw [World.cell?_alloc_past _ _ _ hlb]; exact c0
  have x1 : (w.alloc (.cells (stepCells 3 e W H S (.slice o1 o2 o3) (.slice s1 s2 s3) p t a b) 60)).cell? ⟨w.heap.size, 1, none⟩ = some (.int .i64 e) := by rw [cell_of_row _ _ _ _ _ _ (Go.heap_alloc_new w _)]; rfl
  have x2 : (w.alloc (.cells (stepCells 3 e W H S (.slice o1 o2 o3) (.slice s1 s2 s3) p t a b) 60)).cell? ⟨g, k * 2, none⟩ = some (.pointer (some ⟨X.b, 0, none⟩)) := by rw [World.cell?_alloc_past _ _ _ hlg]; exact g0
  have x3 : (w.alloc (.cells (stepCells 3 e W H S (.slice o1 o2 o3) (.slice s1 s2 s3) p t a b) 60)).cell? ⟨g, k * 2 + 1, none⟩ = some (.pointer (some ⟨Y.b, 0, none⟩)) := by rw [World.cell?_alloc_past _ _ _ hlg]; exact g1
  have hsz : (w.alloc (.cells (stepCells 3 e W H S (.slice o1 o2 o3) (.slice s1 s2 s3) p t a b) 60)).heap.size = w.heap.size + 1 := by simp
  clear h hrow f eq hbl c0 g0 g1
  unfold stepCells at *
  go_enter Tryz.func24, Tryz.ntmps24
  go_wp2_with fail
  obtain ⟨w1, hw1⟩ : ∃ w1, w1 = w.alloc (.cells #[.int .i64 3, .int .i64 e, .int .i64 W, .int .i64 H, .int .i64 S, .slice o1 o2 o3, .slice s1 s2 s3, .int .i64 p, .string t, .int .i64 a, .int .i64 b] 60) := ⟨_, rfl⟩
  rw [← hw1] at x0 x1 x2 x3 hsz HF HL2 ⊢
  clear hw1
  go_region_held3 (fun w' => w'.cell? ⟨L.b, 0, none⟩ = some (.slice (some ⟨g, 0, none⟩) L.ps.length cap) ∧ w'.cell? ⟨w.heap.size, 1, none⟩ = some (.int .i64 e) ∧ w'.cell? ⟨g, k * 2, none⟩ = some (.pointer (some ⟨X.b, 0, none⟩)) ∧ w'.cell? ⟨g, k * 2 + 1, none⟩ = some (.pointer (some ⟨Y.b, 0, none⟩))) (first | assumption | (refine keepL ?_; assumption) | go_keep) (first | (go_at_call 50; refine (HPk.out _).mono ?_; rintro e' w' ⟨rfl, h⟩; rw [h]; clear h w'))
  all_goals
    obtain ⟨w2, hw2⟩ : ∃ w2, w2 = (w1.alloc (.cells #[.pointer (some ⟨X.b, 0, none⟩), .pointer (some ⟨Y.b, 0, none⟩)] 119)).drew := ⟨_, rfl⟩
    rw [← hw2] at HF HL2 ⊢
    clear hw2 x0 x1 x2 x3
    have b0 : w2.cell? ⟨w.heap.size, 0, none⟩ = some (.int .i64 3) := by rw [cell_of_row _ _ _ _ _ _ HF.out.box]; rfl
    have b7 : w2.cell? ⟨w.heap.size, 7, none⟩ = some (.int .i64 p) := by rw [cell_of_row _ _ _ _ _ _ HF.out.box]; rfl
    have b8 : w2.cell? ⟨w.heap.size, 8, none⟩ = some (.string t) := by rw [cell_of_row _ _ _ _ _ _ HF.out.box]; rfl
    have q0 : w2.cell? ⟨w.heap.size + 1, 0, none⟩ = some (.pointer (some ⟨X.b, 0, none⟩)) := by rw [cell_of_row _ _ _ _ _ _ HF.out.pair]; rfl
    have q1 : w2.cell? ⟨w.heap.size + 1, 1, none⟩ = some (.pointer (some ⟨Y.b, 0, none⟩)) := by rw [cell_of_row _ _ _ _ _ _ HF.out.pair]; rfl
    have HX2 := hidOf (HL2.out.rep.x k _ HI.out.q)
    have HY2 := hidOf (HL2.out.rep.y k _ HI.out.q)
    have hmem := List.mem_of_getElem? HI.out.q
    have HO := hidOf (HI.out.sync.o _ hmem)
    have HE := hidOf (HI.out.sync.s _ hmem)
    have HG := hidOf (HI.out.sync.g _ hmem)
    have HNw := hidOf (HI.out.sync.n _ hmem)
    have HSa := hidOf (HI.out.sync.sl _ hmem)
    clear hmem
    have HCx := hidOf (xtick_l w2 X HX2.out HO.out (by rw [HE.out]; exact HG.out) HNw.out HSa.out)
    have HCy := hidOf (fun wx hx => rtick_l wx Y hx HG.out)
    rw [HE.out] at HCx
    go_wp2_with (first | (go_at_call 49; refine (num_any _ _).mono ?_; rintro e' w' ⟨rfl, h⟩; rw [h]; clear h w') | (go_at_call 11; refine HCx.out.mono ?_; rintro e' w3 ⟨rfl, X', T', O', S', N'⟩; have HF3 := hidOf (HF.out.x HI.out.repX T'); have b7' : w3.cell? ⟨w.heap.size, 7, none⟩ = some (.int .i64 p) := (by rw [cell_of_row _ _ _ _ _ _ HF3.out.box]; rfl); have b8' : w3.cell? ⟨w.heap.size, 8, none⟩ = some (.string t) := (by rw [cell_of_row _ _ _ _ _ _ HF3.out.box]; rfl); have q1' : w3.cell? ⟨w.heap.size + 1, 1, none⟩ = some (.pointer (some ⟨Y.b, 0, none⟩)) := (by rw [cell_of_row _ _ _ _ _ _ HF3.out.pair]; rfl); have HY3 := hidOf ((HL2.out.rep.turnX HI.out.q T').rep.yOf HI.out.q)) | (go_at_call 53; refine (HCy.out _ HY3.out).mono ?_; rintro e' w4 ⟨rfl, Y', U', V'⟩))
    go_ret
    obtain ⟨L', t1, t2, t3⟩ := pairTurnL HL2.out.rep HI.out.sync HI.out.q T' O' U' (by rw [S', V']) (by rw [V']; exact HG.out.tickN) N'
    exact ⟨rfl, L', HL2.out.trans t1, t2, t3⟩

set_option maxRecDepth 100000 in
set_option maxHeartbeats 4000000 in
theorem step_order (w : World) (L : LW) (e : Int) (k g cap : Nat) (X : XW) (Y : YW) (h : StepIn w L e k g cap X Y) (W H S : Int) (vo vs : Value) (p : Int) (t : ByteArray) (a b : Int) (hvo : ∃ a n c, vo = .slice a n c) (hvs : ∃ a n c, vs = .slice a n c) (hs : t.size ≤ 2000000) (hb : bidsB t.data.toList = false) :
    Calls Tryz.prog 24 #[.pointer (some ⟨L.b, 0, none⟩), .agg (stepCells 2 e W H S vo vs p t a b)] w fun e w' => e = .returned (.bool true) ∧ ∃ L', LTurn w L w' L' ∧ SyncL L'.ps ∧ L'.ps.length = L.ps.length := by
  obtain ⟨o1, o2, o3, rfl⟩ := hvo
  obtain ⟨s1, s2, s3, rfl⟩ := hvs
  obtain ⟨hk, _⟩ := at_some h.q
  have c0 : w.cell? ⟨L.b, 0, none⟩ = some (.slice (some ⟨g, 0, none⟩) L.ps.length cap) := by rw [← h.v, cell_of_row _ _ _ _ _ _ h.rep.top]; rfl
  have hrow := h.rep.row
  rw [h.v] at hrow
  have f := fun j (hj : j < 2) => flat_at pairCells 2 (fun _ => rfl) L.ps k j hk hj
  have eq : L.ps[k] = (X, Y) := (at_some h.q).2
  rw [eq] at f
  have g0 : w.cell? ⟨g, k * 2, none⟩ = some (.pointer (some ⟨X.b, 0, none⟩)) := own_cell hrow (f 0 (by omega))
  have g1 : w.cell? ⟨g, k * 2 + 1, none⟩ = some (.pointer (some ⟨Y.b, 0, none⟩)) := own_cell hrow (f 1 (by omega))
  have hcap := h.cap
  have HPk := hidOf (fun wx => pick_any e L.ps.length wx h.bd.1 h.bd.2 (by omega) (by omega))
  rw [h.pk] at HPk
  have hk2 : (k : Int) < (L.ps.length : Int) := by omega
  have HI := hidOf h
  have hlb := h.rep.lt L.b lfoot_b
  have hlg := h.rep.lt g (lfoot_r (by rw [h.v]; simp [blk_slice]))
  have HF := hidOf (Stp.first w L (stepCells 2 e W H S (.slice o1 o2 o3) (.slice s1 s2 s3) p t a b) X Y)
  have hbl : Below w.heap.size w ((w.alloc (.cells (stepCells 2 e W H S (.slice o1 o2 o3) (.slice s1 s2 s3) p t a b) 60)).alloc (.cells #[.pointer (some ⟨X.b, 0, none⟩), .pointer (some ⟨Y.b, 0, none⟩)] 119)).drew := (((Below.refl _ w).alloc (Nat.le_refl _) _).alloc (by simp) _).drew
  have HL2 := hidOf ((LTurn.refl h.rep).below hbl)
  have HBd := hidOf (fun wx => bids_any t wx (by unfold maxLen; omega))
  rw [hb] at HBd
  have x0 : (w.alloc (.cells (stepCells 2 e W H S (.slice o1 o2 o3) (.slice s1 s2 s3) p t a b) 60)).cell? ⟨L.b, 0, none⟩ = some (.slice (some ⟨g, 0, none⟩) L.ps.length cap) := by rw [World.cell?_alloc_past _ _ _ hlb]; exact c0
  have x1 : (w.alloc (.cells (stepCells 2 e W H S (.slice o1 o2 o3) (.slice s1 s2 s3) p t a b) 60)).cell? ⟨w.heap.size, 1, none⟩ = some (.int .i64 e) := by rw [cell_of_row _ _ _ _ _ _ (Go.heap_alloc_new w _)]; rfl
  have x2 : (w.alloc (.cells (stepCells 2 e W H S (.slice o1 o2 o3) (.slice s1 s2 s3) p t a b) 60)).cell? ⟨g, k * 2, none⟩ = some (.pointer (some ⟨X.b, 0, none⟩)) := by rw [World.cell?_alloc_past _ _ _ hlg]; exact g0
  have x3 : (w.alloc (.cells (stepCells 2 e W H S (.slice o1 o2 o3) (.slice s1 s2 s3) p t a b) 60)).cell? ⟨g, k * 2 + 1, none⟩ = some (.pointer (some ⟨Y.b, 0, none⟩)) := by rw [World.cell?_alloc_past _ _ _ hlg]; exact g1
  have hsz : (w.alloc (.cells (stepCells 2 e W H S (.slice o1 o2 o3) (.slice s1 s2 s3) p t a b) 60)).heap.size = w.heap.size + 1 := by simp
  clear h hrow f eq hbl c0 g0 g1
  unfold stepCells at *
  go_enter Tryz.func24, Tryz.ntmps24
  go_wp2_with fail
  obtain ⟨w1, hw1⟩ : ∃ w1, w1 = w.alloc (.cells #[.int .i64 2, .int .i64 e, .int .i64 W, .int .i64 H, .int .i64 S, .slice o1 o2 o3, .slice s1 s2 s3, .int .i64 p, .string t, .int .i64 a, .int .i64 b] 60) := ⟨_, rfl⟩
  rw [← hw1] at x0 x1 x2 x3 hsz HF HL2 ⊢
  clear hw1
  go_region_held3 (fun w' => w'.cell? ⟨L.b, 0, none⟩ = some (.slice (some ⟨g, 0, none⟩) L.ps.length cap) ∧ w'.cell? ⟨w.heap.size, 1, none⟩ = some (.int .i64 e) ∧ w'.cell? ⟨g, k * 2, none⟩ = some (.pointer (some ⟨X.b, 0, none⟩)) ∧ w'.cell? ⟨g, k * 2 + 1, none⟩ = some (.pointer (some ⟨Y.b, 0, none⟩))) (first | assumption | (refine keepL ?_; assumption) | go_keep) (first | (go_at_call 50; refine (HPk.out _).mono ?_; rintro e' w' ⟨rfl, h⟩; rw [h]; clear h w'))
  all_goals
    obtain ⟨w2, hw2⟩ : ∃ w2, w2 = (w1.alloc (.cells #[.pointer (some ⟨X.b, 0, none⟩), .pointer (some ⟨Y.b, 0, none⟩)] 119)).drew := ⟨_, rfl⟩
    rw [← hw2] at HF HL2 ⊢
    clear hw2 x0 x1 x2 x3
    have b0 : w2.cell? ⟨w.heap.size, 0, none⟩ = some (.int .i64 2) := by rw [cell_of_row _ _ _ _ _ _ HF.out.box]; rfl
    have b7 : w2.cell? ⟨w.heap.size, 7, none⟩ = some (.int .i64 p) := by rw [cell_of_row _ _ _ _ _ _ HF.out.box]; rfl
    have b8 : w2.cell? ⟨w.heap.size, 8, none⟩ = some (.string t) := by rw [cell_of_row _ _ _ _ _ _ HF.out.box]; rfl
    have q0 : w2.cell? ⟨w.heap.size + 1, 0, none⟩ = some (.pointer (some ⟨X.b, 0, none⟩)) := by rw [cell_of_row _ _ _ _ _ _ HF.out.pair]; rfl
    have q1 : w2.cell? ⟨w.heap.size + 1, 1, none⟩ = some (.pointer (some ⟨Y.b, 0, none⟩)) := by rw [cell_of_row _ _ _ _ _ _ HF.out.pair]; rfl
    have HX2 := hidOf (HL2.out.rep.x k _ HI.out.q)
    have HY2 := hidOf (HL2.out.rep.y k _ HI.out.q)
    have hmem := List.mem_of_getElem? HI.out.q
    have HO := hidOf (HI.out.sync.o _ hmem)
    have HE := hidOf (HI.out.sync.s _ hmem)
    have HG := hidOf (HI.out.sync.g _ hmem)
    have HNw := hidOf (HI.out.sync.n _ hmem)
    have HSa := hidOf (HI.out.sync.sl _ hmem)
    clear hmem
    have HCx := hidOf (xorder_l w2 X p t HX2.out HO.out (by rw [HE.out]; exact HG.out) HNw.out HSa.out hs)
    have HCy := hidOf (fun wx hx => rorder_l wx Y p t hx HG.out hs)
    rw [HE.out] at HCx
    go_wp2_with (first | (go_at_call 51; refine (HBd.out _).mono ?_; rintro e' w' ⟨rfl, h⟩; rw [h]; clear h w') | (go_at_call 49; refine (num_any _ _).mono ?_; rintro e' w' ⟨rfl, h⟩; rw [h]; clear h w') | (go_at_call 10; refine HCx.out.mono ?_; rintro e' w3 ⟨rfl, X', T', O', S', N'⟩; have HF3 := hidOf (HF.out.x HI.out.repX T'); have b7' : w3.cell? ⟨w.heap.size, 7, none⟩ = some (.int .i64 p) := (by rw [cell_of_row _ _ _ _ _ _ HF3.out.box]; rfl); have b8' : w3.cell? ⟨w.heap.size, 8, none⟩ = some (.string t) := (by rw [cell_of_row _ _ _ _ _ _ HF3.out.box]; rfl); have q1' : w3.cell? ⟨w.heap.size + 1, 1, none⟩ = some (.pointer (some ⟨Y.b, 0, none⟩)) := (by rw [cell_of_row _ _ _ _ _ _ HF3.out.pair]; rfl); have HY3 := hidOf ((HL2.out.rep.turnX HI.out.q T').rep.yOf HI.out.q)) | (go_at_call 52; refine (HCy.out _ HY3.out).mono ?_; rintro e' w4 ⟨rfl, Y', U', V'⟩))
    go_ret
    obtain ⟨L', t1, t2, t3⟩ := pairTurnL HL2.out.rep HI.out.sync HI.out.q T' O' U' (by rw [S', V']) (by rw [V']; exact HG.out.order _ _ (by simpa using hs)) N'
    exact ⟨rfl, L', HL2.out.trans t1, t2, t3⟩

set_option maxRecDepth 100000 in
set_option maxHeartbeats 4000000 in
theorem step_bid (w : World) (L : LW) (e : Int) (k g cap : Nat) (X : XW) (Y : YW) (h : StepIn w L e k g cap X Y) (W H S : Int) (vo vs : Value) (p : Int) (t : ByteArray) (a b : Int) (hvo : ∃ a n c, vo = .slice a n c) (hvs : ∃ a n c, vs = .slice a n c) (hs : t.size ≤ 2000000) (hb : bidsB t.data.toList = true) :
    Calls Tryz.prog 24 #[.pointer (some ⟨L.b, 0, none⟩), .agg (stepCells 2 e W H S vo vs p t a b)] w fun e w' => e = .returned (.bool true) ∧ ∃ L', LTurn w L w' L' ∧ SyncL L'.ps ∧ L'.ps.length = L.ps.length := by
  obtain ⟨o1, o2, o3, rfl⟩ := hvo
  obtain ⟨s1, s2, s3, rfl⟩ := hvs
  obtain ⟨hk, _⟩ := at_some h.q
  have c0 : w.cell? ⟨L.b, 0, none⟩ = some (.slice (some ⟨g, 0, none⟩) L.ps.length cap) := by rw [← h.v, cell_of_row _ _ _ _ _ _ h.rep.top]; rfl
  have hrow := h.rep.row
  rw [h.v] at hrow
  have f := fun j (hj : j < 2) => flat_at pairCells 2 (fun _ => rfl) L.ps k j hk hj
  have eq : L.ps[k] = (X, Y) := (at_some h.q).2
  rw [eq] at f
  have g0 : w.cell? ⟨g, k * 2, none⟩ = some (.pointer (some ⟨X.b, 0, none⟩)) := own_cell hrow (f 0 (by omega))
  have g1 : w.cell? ⟨g, k * 2 + 1, none⟩ = some (.pointer (some ⟨Y.b, 0, none⟩)) := own_cell hrow (f 1 (by omega))
  have hcap := h.cap
  have HPk := hidOf (fun wx => pick_any e L.ps.length wx h.bd.1 h.bd.2 (by omega) (by omega))
  rw [h.pk] at HPk
  have hk2 : (k : Int) < (L.ps.length : Int) := by omega
  have HI := hidOf h
  have hlb := h.rep.lt L.b lfoot_b
  have hlg := h.rep.lt g (lfoot_r (by rw [h.v]; simp [blk_slice]))
  have HF := hidOf (Stp.first w L (stepCells 2 e W H S (.slice o1 o2 o3) (.slice s1 s2 s3) p t a b) X Y)
  have hbl : Below w.heap.size w ((w.alloc (.cells (stepCells 2 e W H S (.slice o1 o2 o3) (.slice s1 s2 s3) p t a b) 60)).alloc (.cells #[.pointer (some ⟨X.b, 0, none⟩), .pointer (some ⟨Y.b, 0, none⟩)] 119)).drew := (((Below.refl _ w).alloc (Nat.le_refl _) _).alloc (by simp) _).drew
  have HL2 := hidOf ((LTurn.refl h.rep).below hbl)
  have HBd := hidOf (fun wx => bids_any t wx (by unfold maxLen; omega))
  rw [hb] at HBd
  have x0 : (w.alloc (.cells (stepCells 2 e W H S (.slice o1 o2 o3) (.slice s1 s2 s3) p t a b) 60)).cell? ⟨L.b, 0, none⟩ = some (.slice (some ⟨g, 0, none⟩) L.ps.length cap) := by rw [World.cell?_alloc_past _ _ _ hlb]; exact c0
  have x1 : (w.alloc (.cells (stepCells 2 e W H S (.slice o1 o2 o3) (.slice s1 s2 s3) p t a b) 60)).cell? ⟨w.heap.size, 1, none⟩ = some (.int .i64 e) := by rw [cell_of_row _ _ _ _ _ _ (Go.heap_alloc_new w _)]; rfl
  have x2 : (w.alloc (.cells (stepCells 2 e W H S (.slice o1 o2 o3) (.slice s1 s2 s3) p t a b) 60)).cell? ⟨g, k * 2, none⟩ = some (.pointer (some ⟨X.b, 0, none⟩)) := by rw [World.cell?_alloc_past _ _ _ hlg]; exact g0
  have x3 : (w.alloc (.cells (stepCells 2 e W H S (.slice o1 o2 o3) (.slice s1 s2 s3) p t a b) 60)).cell? ⟨g, k * 2 + 1, none⟩ = some (.pointer (some ⟨Y.b, 0, none⟩)) := by rw [World.cell?_alloc_past _ _ _ hlg]; exact g1
  have hsz : (w.alloc (.cells (stepCells 2 e W H S (.slice o1 o2 o3) (.slice s1 s2 s3) p t a b) 60)).heap.size = w.heap.size + 1 := by simp
  clear h hrow f eq hbl c0 g0 g1
  unfold stepCells at *
  go_enter Tryz.func24, Tryz.ntmps24
  go_wp2_with fail
  obtain ⟨w1, hw1⟩ : ∃ w1, w1 = w.alloc (.cells #[.int .i64 2, .int .i64 e, .int .i64 W, .int .i64 H, .int .i64 S, .slice o1 o2 o3, .slice s1 s2 s3, .int .i64 p, .string t, .int .i64 a, .int .i64 b] 60) := ⟨_, rfl⟩
  rw [← hw1] at x0 x1 x2 x3 hsz HF HL2 ⊢
  clear hw1
  go_region_held3 (fun w' => w'.cell? ⟨L.b, 0, none⟩ = some (.slice (some ⟨g, 0, none⟩) L.ps.length cap) ∧ w'.cell? ⟨w.heap.size, 1, none⟩ = some (.int .i64 e) ∧ w'.cell? ⟨g, k * 2, none⟩ = some (.pointer (some ⟨X.b, 0, none⟩)) ∧ w'.cell? ⟨g, k * 2 + 1, none⟩ = some (.pointer (some ⟨Y.b, 0, none⟩))) (first | assumption | (refine keepL ?_; assumption) | go_keep) (first | (go_at_call 50; refine (HPk.out _).mono ?_; rintro e' w' ⟨rfl, h⟩; rw [h]; clear h w'))
  all_goals
    obtain ⟨w2, hw2⟩ : ∃ w2, w2 = (w1.alloc (.cells #[.pointer (some ⟨X.b, 0, none⟩), .pointer (some ⟨Y.b, 0, none⟩)] 119)).drew := ⟨_, rfl⟩
    rw [← hw2] at HF HL2 ⊢
    clear hw2 x0 x1 x2 x3
    have b0 : w2.cell? ⟨w.heap.size, 0, none⟩ = some (.int .i64 2) := by rw [cell_of_row _ _ _ _ _ _ HF.out.box]; rfl
    have b7 : w2.cell? ⟨w.heap.size, 7, none⟩ = some (.int .i64 p) := by rw [cell_of_row _ _ _ _ _ _ HF.out.box]; rfl
    have b8 : w2.cell? ⟨w.heap.size, 8, none⟩ = some (.string t) := by rw [cell_of_row _ _ _ _ _ _ HF.out.box]; rfl
    have q0 : w2.cell? ⟨w.heap.size + 1, 0, none⟩ = some (.pointer (some ⟨X.b, 0, none⟩)) := by rw [cell_of_row _ _ _ _ _ _ HF.out.pair]; rfl
    have q1 : w2.cell? ⟨w.heap.size + 1, 1, none⟩ = some (.pointer (some ⟨Y.b, 0, none⟩)) := by rw [cell_of_row _ _ _ _ _ _ HF.out.pair]; rfl
    have HX2 := hidOf (HL2.out.rep.x k _ HI.out.q)
    have HY2 := hidOf (HL2.out.rep.y k _ HI.out.q)
    have hmem := List.mem_of_getElem? HI.out.q
    have HO := hidOf (HI.out.sync.o _ hmem)
    have HE := hidOf (HI.out.sync.s _ hmem)
    have HG := hidOf (HI.out.sync.g _ hmem)
    have HNw := hidOf (HI.out.sync.n _ hmem)
    have HSa := hidOf (HI.out.sync.sl _ hmem)
    clear hmem
    go_wp2_with (go_at_call 51; refine (HBd.out _).mono ?_; rintro e' w' ⟨rfl, h⟩; rw [h]; clear h w')
    go_ret
    exact ⟨rfl, L, HL2.out, HI.out.sync, rfl⟩

set_option maxRecDepth 100000 in
set_option maxHeartbeats 4000000 in
theorem step_money (w : World) (L : LW) (e : Int) (k g cap : Nat) (X : XW) (Y : YW) (h : StepIn w L e k g cap X Y) (W H S : Int) (vo vs : Value) (p : Int) (t : ByteArray) (a b : Int) (hvo : ∃ a n c, vo = .slice a n c) (hvs : ∃ a n c, vs = .slice a n c) :
    Calls Tryz.prog 24 #[.pointer (some ⟨L.b, 0, none⟩), .agg (stepCells 4 e W H S vo vs p t a b)] w fun e w' => e = .returned (.bool true) ∧ ∃ L', LTurn w L w' L' ∧ SyncL L'.ps ∧ L'.ps.length = L.ps.length := by
  obtain ⟨o1, o2, o3, rfl⟩ := hvo
  obtain ⟨s1, s2, s3, rfl⟩ := hvs
  obtain ⟨hk, _⟩ := at_some h.q
  have c0 : w.cell? ⟨L.b, 0, none⟩ = some (.slice (some ⟨g, 0, none⟩) L.ps.length cap) := by rw [← h.v, cell_of_row _ _ _ _ _ _ h.rep.top]; rfl
  have hrow := h.rep.row
  rw [h.v] at hrow
  have f := fun j (hj : j < 2) => flat_at pairCells 2 (fun _ => rfl) L.ps k j hk hj
  have eq : L.ps[k] = (X, Y) := (at_some h.q).2
  rw [eq] at f
  have g0 : w.cell? ⟨g, k * 2, none⟩ = some (.pointer (some ⟨X.b, 0, none⟩)) := own_cell hrow (f 0 (by omega))
  have g1 : w.cell? ⟨g, k * 2 + 1, none⟩ = some (.pointer (some ⟨Y.b, 0, none⟩)) := own_cell hrow (f 1 (by omega))
  have hcap := h.cap
  have HPk := hidOf (fun wx => pick_any e L.ps.length wx h.bd.1 h.bd.2 (by omega) (by omega))
  rw [h.pk] at HPk
  have hk2 : (k : Int) < (L.ps.length : Int) := by omega
  have HI := hidOf h
  have hlb := h.rep.lt L.b lfoot_b
  have hlg := h.rep.lt g (lfoot_r (by rw [h.v]; simp [blk_slice]))
  have HF := hidOf (Stp.first w L (stepCells 4 e W H S (.slice o1 o2 o3) (.slice s1 s2 s3) p t a b) X Y)
  have hbl : Below w.heap.size w ((w.alloc (.cells (stepCells 4 e W H S (.slice o1 o2 o3) (.slice s1 s2 s3) p t a b) 60)).alloc (.cells #[.pointer (some ⟨X.b, 0, none⟩), .pointer (some ⟨Y.b, 0, none⟩)] 119)).drew := (((Below.refl _ w).alloc (Nat.le_refl _) _).alloc (by simp) _).drew
  have HL2 := hidOf ((LTurn.refl h.rep).below hbl)
  have x0 : (w.alloc (.cells (stepCells 4 e W H S (.slice o1 o2 o3) (.slice s1 s2 s3) p t a b) 60)).cell? ⟨L.b, 0, none⟩ = some (.slice (some ⟨g, 0, none⟩) L.ps.length cap) := by rw [World.cell?_alloc_past _ _ _ hlb]; exact c0
  have x1 : (w.alloc (.cells (stepCells 4 e W H S (.slice o1 o2 o3) (.slice s1 s2 s3) p t a b) 60)).cell? ⟨w.heap.size, 1, none⟩ = some (.int .i64 e) := by rw [cell_of_row _ _ _ _ _ _ (Go.heap_alloc_new w _)]; rfl
  have x2 : (w.alloc (.cells (stepCells 4 e W H S (.slice o1 o2 o3) (.slice s1 s2 s3) p t a b) 60)).cell? ⟨g, k * 2, none⟩ = some (.pointer (some ⟨X.b, 0, none⟩)) := by rw [World.cell?_alloc_past _ _ _ hlg]; exact g0
  have x3 : (w.alloc (.cells (stepCells 4 e W H S (.slice o1 o2 o3) (.slice s1 s2 s3) p t a b) 60)).cell? ⟨g, k * 2 + 1, none⟩ = some (.pointer (some ⟨Y.b, 0, none⟩)) := by rw [World.cell?_alloc_past _ _ _ hlg]; exact g1
  have hsz : (w.alloc (.cells (stepCells 4 e W H S (.slice o1 o2 o3) (.slice s1 s2 s3) p t a b) 60)).heap.size = w.heap.size + 1 := by simp
  clear h hrow f eq hbl c0 g0 g1
  unfold stepCells at *
  go_enter Tryz.func24, Tryz.ntmps24
  go_wp2_with fail
  obtain ⟨w1, hw1⟩ : ∃ w1, w1 = w.alloc (.cells #[.int .i64 4, .int .i64 e, .int .i64 W, .int .i64 H, .int .i64 S, .slice o1 o2 o3, .slice s1 s2 s3, .int .i64 p, .string t, .int .i64 a, .int .i64 b] 60) := ⟨_, rfl⟩
  rw [← hw1] at x0 x1 x2 x3 hsz HF HL2 ⊢
  clear hw1
  go_region_held3 (fun w' => w'.cell? ⟨L.b, 0, none⟩ = some (.slice (some ⟨g, 0, none⟩) L.ps.length cap) ∧ w'.cell? ⟨w.heap.size, 1, none⟩ = some (.int .i64 e) ∧ w'.cell? ⟨g, k * 2, none⟩ = some (.pointer (some ⟨X.b, 0, none⟩)) ∧ w'.cell? ⟨g, k * 2 + 1, none⟩ = some (.pointer (some ⟨Y.b, 0, none⟩))) (first | assumption | (refine keepL ?_; assumption) | go_keep) (first | (go_at_call 50; refine (HPk.out _).mono ?_; rintro e' w' ⟨rfl, h⟩; rw [h]; clear h w'))
  all_goals
    obtain ⟨w2, hw2⟩ : ∃ w2, w2 = (w1.alloc (.cells #[.pointer (some ⟨X.b, 0, none⟩), .pointer (some ⟨Y.b, 0, none⟩)] 119)).drew := ⟨_, rfl⟩
    rw [← hw2] at HF HL2 ⊢
    clear hw2 x0 x1 x2 x3
    have b0 : w2.cell? ⟨w.heap.size, 0, none⟩ = some (.int .i64 4) := by rw [cell_of_row _ _ _ _ _ _ HF.out.box]; rfl
    have b7 : w2.cell? ⟨w.heap.size, 7, none⟩ = some (.int .i64 p) := by rw [cell_of_row _ _ _ _ _ _ HF.out.box]; rfl
    have b8 : w2.cell? ⟨w.heap.size, 8, none⟩ = some (.string t) := by rw [cell_of_row _ _ _ _ _ _ HF.out.box]; rfl
    have q0 : w2.cell? ⟨w.heap.size + 1, 0, none⟩ = some (.pointer (some ⟨X.b, 0, none⟩)) := by rw [cell_of_row _ _ _ _ _ _ HF.out.pair]; rfl
    have q1 : w2.cell? ⟨w.heap.size + 1, 1, none⟩ = some (.pointer (some ⟨Y.b, 0, none⟩)) := by rw [cell_of_row _ _ _ _ _ _ HF.out.pair]; rfl
    have HX2 := hidOf (HL2.out.rep.x k _ HI.out.q)
    have HY2 := hidOf (HL2.out.rep.y k _ HI.out.q)
    have hmem := List.mem_of_getElem? HI.out.q
    have HO := hidOf (HI.out.sync.o _ hmem)
    have HE := hidOf (HI.out.sync.s _ hmem)
    have HG := hidOf (HI.out.sync.g _ hmem)
    have HNw := hidOf (HI.out.sync.n _ hmem)
    have HSa := hidOf (HI.out.sync.sl _ hmem)
    clear hmem
    have HCx := hidOf (xmoney_any w2 X _ p HX2.out (by rw [HE.out]; exact HG.out.wf))
    have HCy := hidOf (rmoney_any w2 Y _ p HY2.out HG.out.wf)
    rw [HE.out] at HCx
    go_wp2_with (first | (go_at_call 49; refine (num_any _ _).mono ?_; rintro e' w' ⟨rfl, h⟩; rw [h]; clear h w') | (go_at_call 14; refine HCx.out.mono ?_; rintro e' w' ⟨rfl, h⟩; rw [h]; clear h w') | (go_at_call 54; refine HCy.out.mono ?_; rintro e' w' ⟨rfl, h⟩; rw [h]; clear h w'))
    go_ret
    exact ⟨rfl, L, HL2.out, HI.out.sync, rfl⟩

set_option maxRecDepth 100000 in
set_option maxHeartbeats 4000000 in
theorem step_other (w : World) (L : LW) (e : Int) (k g cap : Nat) (X : XW) (Y : YW) (h : StepIn w L e k g cap X Y) (kd : Int) (W H S : Int) (vo vs : Value) (p : Int) (t : ByteArray) (a b : Int) (hvo : ∃ a n c, vo = .slice a n c) (hvs : ∃ a n c, vs = .slice a n c) (hkd : kd < 1) :
    Calls Tryz.prog 24 #[.pointer (some ⟨L.b, 0, none⟩), .agg (stepCells kd e W H S vo vs p t a b)] w fun e w' => e = .returned (.bool true) ∧ ∃ L', LTurn w L w' L' ∧ SyncL L'.ps ∧ L'.ps.length = L.ps.length := by
  obtain ⟨o1, o2, o3, rfl⟩ := hvo
  obtain ⟨s1, s2, s3, rfl⟩ := hvs
  obtain ⟨hk, _⟩ := at_some h.q
  have c0 : w.cell? ⟨L.b, 0, none⟩ = some (.slice (some ⟨g, 0, none⟩) L.ps.length cap) := by rw [← h.v, cell_of_row _ _ _ _ _ _ h.rep.top]; rfl
  have hrow := h.rep.row
  rw [h.v] at hrow
  have f := fun j (hj : j < 2) => flat_at pairCells 2 (fun _ => rfl) L.ps k j hk hj
  have eq : L.ps[k] = (X, Y) := (at_some h.q).2
  rw [eq] at f
  have g0 : w.cell? ⟨g, k * 2, none⟩ = some (.pointer (some ⟨X.b, 0, none⟩)) := own_cell hrow (f 0 (by omega))
  have g1 : w.cell? ⟨g, k * 2 + 1, none⟩ = some (.pointer (some ⟨Y.b, 0, none⟩)) := own_cell hrow (f 1 (by omega))
  have hcap := h.cap
  have HPk := hidOf (fun wx => pick_any e L.ps.length wx h.bd.1 h.bd.2 (by omega) (by omega))
  rw [h.pk] at HPk
  have hk2 : (k : Int) < (L.ps.length : Int) := by omega
  have HI := hidOf h
  have hlb := h.rep.lt L.b lfoot_b
  have hlg := h.rep.lt g (lfoot_r (by rw [h.v]; simp [blk_slice]))
  have HF := hidOf (Stp.first w L (stepCells kd e W H S (.slice o1 o2 o3) (.slice s1 s2 s3) p t a b) X Y)
  have hbl : Below w.heap.size w ((w.alloc (.cells (stepCells kd e W H S (.slice o1 o2 o3) (.slice s1 s2 s3) p t a b) 60)).alloc (.cells #[.pointer (some ⟨X.b, 0, none⟩), .pointer (some ⟨Y.b, 0, none⟩)] 119)).drew := (((Below.refl _ w).alloc (Nat.le_refl _) _).alloc (by simp) _).drew
  have HL2 := hidOf ((LTurn.refl h.rep).below hbl)
  have n1 : (kd == 1) = false := beq_eq_false_iff_ne.2 (by omega)
  have n2 : (kd == 2) = false := beq_eq_false_iff_ne.2 (by omega)
  have n3 : (kd == 3) = false := beq_eq_false_iff_ne.2 (by omega)
  have n4 : (kd == 4) = false := beq_eq_false_iff_ne.2 (by omega)
  have n5 : (kd == 5) = false := beq_eq_false_iff_ne.2 (by omega)
  have n6 : (kd == 6) = false := beq_eq_false_iff_ne.2 (by omega)
  have n7 : (kd == 7) = false := beq_eq_false_iff_ne.2 (by omega)
  have x0 : (w.alloc (.cells (stepCells kd e W H S (.slice o1 o2 o3) (.slice s1 s2 s3) p t a b) 60)).cell? ⟨L.b, 0, none⟩ = some (.slice (some ⟨g, 0, none⟩) L.ps.length cap) := by rw [World.cell?_alloc_past _ _ _ hlb]; exact c0
  have x1 : (w.alloc (.cells (stepCells kd e W H S (.slice o1 o2 o3) (.slice s1 s2 s3) p t a b) 60)).cell? ⟨w.heap.size, 1, none⟩ = some (.int .i64 e) := by rw [cell_of_row _ _ _ _ _ _ (Go.heap_alloc_new w _)]; rfl
  have x2 : (w.alloc (.cells (stepCells kd e W H S (.slice o1 o2 o3) (.slice s1 s2 s3) p t a b) 60)).cell? ⟨g, k * 2, none⟩ = some (.pointer (some ⟨X.b, 0, none⟩)) := by rw [World.cell?_alloc_past _ _ _ hlg]; exact g0
  have x3 : (w.alloc (.cells (stepCells kd e W H S (.slice o1 o2 o3) (.slice s1 s2 s3) p t a b) 60)).cell? ⟨g, k * 2 + 1, none⟩ = some (.pointer (some ⟨Y.b, 0, none⟩)) := by rw [World.cell?_alloc_past _ _ _ hlg]; exact g1
  have hsz : (w.alloc (.cells (stepCells kd e W H S (.slice o1 o2 o3) (.slice s1 s2 s3) p t a b) 60)).heap.size = w.heap.size + 1 := by simp
  clear h hrow f eq hbl c0 g0 g1
  unfold stepCells at *
  go_enter Tryz.func24, Tryz.ntmps24
  go_wp2_with fail
  obtain ⟨w1, hw1⟩ : ∃ w1, w1 = w.alloc (.cells #[.int .i64 kd, .int .i64 e, .int .i64 W, .int .i64 H, .int .i64 S, .slice o1 o2 o3, .slice s1 s2 s3, .int .i64 p, .string t, .int .i64 a, .int .i64 b] 60) := ⟨_, rfl⟩
  rw [← hw1] at x0 x1 x2 x3 hsz HF HL2 ⊢
  clear hw1
  go_region_held3 (fun w' => w'.cell? ⟨L.b, 0, none⟩ = some (.slice (some ⟨g, 0, none⟩) L.ps.length cap) ∧ w'.cell? ⟨w.heap.size, 1, none⟩ = some (.int .i64 e) ∧ w'.cell? ⟨g, k * 2, none⟩ = some (.pointer (some ⟨X.b, 0, none⟩)) ∧ w'.cell? ⟨g, k * 2 + 1, none⟩ = some (.pointer (some ⟨Y.b, 0, none⟩))) (first | assumption | (refine keepL ?_; assumption) | go_keep) (first | (go_at_call 50; refine (HPk.out _).mono ?_; rintro e' w' ⟨rfl, h⟩; rw [h]; clear h w'))
  all_goals
    obtain ⟨w2, hw2⟩ : ∃ w2, w2 = (w1.alloc (.cells #[.pointer (some ⟨X.b, 0, none⟩), .pointer (some ⟨Y.b, 0, none⟩)] 119)).drew := ⟨_, rfl⟩
    rw [← hw2] at HF HL2 ⊢
    clear hw2 x0 x1 x2 x3
    have b0 : w2.cell? ⟨w.heap.size, 0, none⟩ = some (.int .i64 kd) := by rw [cell_of_row _ _ _ _ _ _ HF.out.box]; rfl
    have b7 : w2.cell? ⟨w.heap.size, 7, none⟩ = some (.int .i64 p) := by rw [cell_of_row _ _ _ _ _ _ HF.out.box]; rfl
    have b8 : w2.cell? ⟨w.heap.size, 8, none⟩ = some (.string t) := by rw [cell_of_row _ _ _ _ _ _ HF.out.box]; rfl
    have q0 : w2.cell? ⟨w.heap.size + 1, 0, none⟩ = some (.pointer (some ⟨X.b, 0, none⟩)) := by rw [cell_of_row _ _ _ _ _ _ HF.out.pair]; rfl
    have q1 : w2.cell? ⟨w.heap.size + 1, 1, none⟩ = some (.pointer (some ⟨Y.b, 0, none⟩)) := by rw [cell_of_row _ _ _ _ _ _ HF.out.pair]; rfl
    have HX2 := hidOf (HL2.out.rep.x k _ HI.out.q)
    have HY2 := hidOf (HL2.out.rep.y k _ HI.out.q)
    have hmem := List.mem_of_getElem? HI.out.q
    have HO := hidOf (HI.out.sync.o _ hmem)
    have HE := hidOf (HI.out.sync.s _ hmem)
    have HG := hidOf (HI.out.sync.g _ hmem)
    have HNw := hidOf (HI.out.sync.n _ hmem)
    have HSa := hidOf (HI.out.sync.sl _ hmem)
    clear hmem
    go_wp2
    go_ret
    exact ⟨rfl, L, HL2.out, HI.out.sync, rfl⟩
end Go.Proofs.YtlafddeoheambaaGreatDoor
