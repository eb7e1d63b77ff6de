/-
  The function New of package haze.
-/
import Derived.Test.YtlafddeoheambaaDoorT07
import Derived.Deep.DeepCutAuto
import Derived.Deep.RegionHeld3
import Derived.Test.YtlafddeoheambaaDoorT03
set_option linter.unusedVariables false
namespace Go.Proofs.YtlafddeoheambaaDoor
open Go.RowKit

def NewX (w w' : World) (e : Ending) (W H S : Int) (ore starts : List SSpot) : Prop :=
  Below w.heap.size w w' ∧ ((newB W H S ore starts = false ∧ e = .returned (.tuple #[.pointer none, .int .i64 1])) ∨
    (newB W H S ore starts = true ∧ ∃ X : XW, e = .returned (.tuple #[.pointer (some ⟨X.b, 0, none⟩), .int .i64 0]) ∧ RepX w' X ∧ OkX X ∧ X.S = newS W H S ore starts ∧ X.sales = [] ∧ ∀ r ∈ X.foot, w.heap.size ≤ r))
theorem Tryd.infoXPlayer : (Tryd.prog.info? 65).map (fun i => (i.zero, i.size, i.bytes)) = some (some (.agg #[.int .i64 0, .slice none 0 0]), 2, 32) := by kernel_rfl
theorem keep1 {w' : World} {a : Addr} {v : Value} (o : Obj) (h : w'.drew.cell? a = some v) : (w'.alloc o).drew.cell? a = some v := by
  have h' : w'.cell? a = some v := h
  show (w'.alloc o).cell? a = some v
  rw [World.cell?_of_block (w := w') (a := a) (Below.heap_alloc _ _ _ (block_lt_of_cell h'))]
  exact h'
theorem keepS {w' : World} {a b c d : Addr} {u v x y : Value} {o : Obj} (h : w'.drew.cell? a = some u ∧ w'.drew.cell? b = some v ∧ w'.drew.cell? c = some x ∧ w'.drew.cell? d = some y) : (w'.alloc o).drew.cell? a = some u ∧ (w'.alloc o).drew.cell? b = some v ∧ (w'.alloc o).drew.cell? c = some x ∧ (w'.alloc o).drew.cell? d = some y :=
  ⟨keep1 o h.1, keep1 o h.2.1, keep1 o h.2.2.1, keep1 o h.2.2.2⟩
/-- The world is laid, nothing in it yet. -/
structure BegX (w : World) (W H S : Int) (vo vs : Value) (n : Nat) (wc : World) (X : XW) : Prop where
  rep : RepX wc X
  b : Below w.heap.size w wc
  c : wc.heap[w.heap.size]? = some (.cells #[.int .i64 W, .int .i64 H, .int .i64 S, vo, vs] 54 (0, 0))
  foot : ∀ r ∈ X.foot, w.heap.size + 1 ≤ r
  is : ∃ mo ms pb, X = zeroX X.b mo ms pb n W H S

theorem BegX.low {w wc wr : World} {W H S : Int} {vo vs : Value} {n : Nat} {X : XW} (h : BegX w W H S vo vs n wc X) (hk : Kept X.foot wc wr) : Below w.heap.size w wr ∧ wr.heap[w.heap.size]? = some (.cells #[.int .i64 W, .int .i64 H, .int .i64 S, vo, vs] 54 (0, 0)) := by
  have hlt := lt_of_some h.c
  refine ⟨⟨hk.os.trans h.b.os, hk.tape.trans h.b.tape, hk.output.trans h.b.output, Nat.le_trans h.b.size hk.size, fun k hk' => ?_⟩, ?_⟩
  · rw [hk.block k (by omega) (fun hm => by have := h.foot k hm; omega), h.b.block k hk']
  · rw [hk.block _ hlt (fun hm => by have := h.foot _ hm; omega), h.c]
def startS (W H S : Int) (ore starts : List SSpot) (k : Nat) : SWorld := { width := W, height := H, sight := S, now := 0, ore := ore, players := (starts.take k).map firstP ++ List.replicate (starts.length - k) zeroP, lots := [] }
theorem startS_zero (X0 : XW) (b mo ms pb n : Nat) (W H S : Int) (l : List CE) (c : Nat) (ore starts : List SSpot) (hz : X0 = zeroX b mo ms pb n W H S) (hn : starts.length = n) : ((X0.withLo l c).withOre ore).S = startS W H S ore starts 0 ∧ ((OreOK ore l ∧ oreD ore) → OkX ((X0.withLo l c).withOre ore)) := by
  subst hz
  refine ⟨by simp [XW.S, XW.withLo, XW.withOre, zeroX, startS, hn], fun h => ⟨?_, h.1, h.2, LotRel.nil _⟩⟩
  have e : posL (((zeroX b mo ms pb n W H S).withLo l c).withOre ore |>.pls.map (·.1)) = List.replicate n [] := by simp [posL, posP, XW.withLo, XW.withOre, zeroX, zeroP]
  rw [e]
  exact StOK.empty n
theorem startS_at {W H S : Int} {ore starts : List SSpot} {k : Nat} (hk : k < starts.length) : (startS W H S ore starts k).players[k]? = some zeroP := by
  have e : ((starts.take k).map firstP).length = k := by simp; omega
  simp only [startS]
  rw [List.getElem?_append_right (by omega), e, Nat.sub_self, List.getElem?_replicate, if_pos (by omega)]
theorem startS_succ {W H S : Int} {ore starts : List SSpot} {k : Nat} (hk : k < starts.length) : (startS W H S ore starts k).setPl k (firstP starts[k]) = startS W H S ore starts (k + 1) := by
  have e : ((starts.take k).map firstP).length = k := by simp; omega
  simp only [startS, SWorld.setPl]
  have h1 : ((starts.take k).map firstP ++ List.replicate (starts.length - k) zeroP).set k (firstP starts[k]) = (starts.take (k + 1)).map firstP ++ List.replicate (starts.length - (k + 1)) zeroP := by
    rw [List.set_append_right _ _ (by omega), e, List.take_succ_eq_append_getElem hk]
    obtain ⟨m, hm⟩ : ∃ m, starts.length - k = m + 1 := ⟨starts.length - k - 1, by omega⟩
    rw [hm, show starts.length - (k + 1) = m by omega]
    simp only [List.map_append, List.map_cons, List.map_nil, List.replicate_succ, Nat.sub_self, List.set_cons_zero, List.append_assoc, List.singleton_append]
  rw [h1]
theorem startS_end (W H S : Int) (ore starts : List SSpot) : startS W H S ore starts starts.length = newS W H S ore starts := by simp [startS, newS]
/-- Nobody stands at the next start. -/
theorem start_free {W H S : Int} {ore starts : List SSpot} {k : Nat} {X : XW} (hk : k < starts.length) (hS : X.S = startS W H S ore starts k) (hO : OkX X) (hd : oreD starts) : look starts[k].x starts[k].y X.ls = none := by
  cases hl : look starts[k].x starts[k].y X.ls with
  | none => rfl
  | some m =>
    exfalso
    obtain ⟨n, us, j, h1, h2⟩ := hO.st.b _ _ m hl
    have e : X.pls.map (·.1) = (startS W H S ore starts k).players := by rw [← hS]; rfl
    rw [e] at h1
    simp only [posL, List.getElem?_map, Option.map_eq_some_iff] at h1
    obtain ⟨p, hp, rfl⟩ := h1
    have hm := List.mem_of_getElem? hp
    simp only [startS, List.mem_append, List.mem_map] at hm
    rcases hm with ⟨s, hs, rfl⟩ | hm
    · have hu := List.mem_of_getElem? h2
      simp only [posP, firstP, List.map_cons, List.map_nil, List.mem_singleton, firstU] at hu
      injection hu with e1 e2
      obtain ⟨i, hi, rfl⟩ := List.mem_iff_getElem.1 hs
      have hi' : i < k := by simp at hi; omega
      have := List.pairwise_iff_getElem.1 hd i k (by omega) hk hi'
      simp only [List.getElem_take] at e1 e2
      exact this ⟨e1.symm, e2.symm⟩
    · have := List.eq_of_mem_replicate hm
      rw [this] at h2
      simp [posP, zeroP] at h2
theorem newPlace {wc wr : World} {X0 X : XW} (T : TurnX wc X0 wr X) (m : Nat) (v : XV) (hq : X.pls[m]? = some (zeroP, v)) (h2 : 2 ≤ X.pls.length ∧ X.pls.length ≤ 4) (s : SSpot) (bx : 0 ≤ s.x ∧ s.x ≤ 9) (bY : 0 ≤ s.y ∧ s.y ≤ 9) (hl : look s.x s.y X.ls = none) (O : OkX X) (pb pcap : Nat) (hvp : X.vPl = .slice (some ⟨pb, 0, none⟩) X.pls.length pcap) (o : Obj) :
    Calls Tryd.prog 37 #[.pointer (some ⟨X.b, 0, none⟩), .int .i64 m, .pointer (some ⟨wr.heap.size + 1, 0, none⟩)] (((wr.setCell ⟨pb, m * 2, none⟩ (.int .i64 100)).alloc o).alloc (.cells #[.string ⟨#[97]⟩, .complex .f64 (flI s.x) (flI s.y), .complex .f64 4607182418800017408 0, .int .i64 0, .int .i64 0, .string ⟨#[]⟩, .string ⟨#[]⟩, .int .i64 0] 80)) fun e w' =>
      e = .returned (.tuple #[]) ∧ ∃ X', Hid (TurnX wc X0 w' X') ∧ Hid (OkX X') ∧ Hid (X'.S = X.S.setPl m (firstP s)) ∧ Hid (X'.sales = X.sales) := by
  have T1 := T.money1 hq hvp 100
  have T2 := T1.below ((Below.refl _ (wr.setCell ⟨pb, m * 2, none⟩ (.int .i64 100))).alloc (Nat.le_refl _) o)
  have hs2 : ((wr.setCell ⟨pb, m * 2, none⟩ (.int .i64 100)).alloc o).heap.size = wr.heap.size + 1 := by simp [World.setCell]
  obtain ⟨w2, hw2⟩ : ∃ w2, w2 = (wr.setCell ⟨pb, m * 2, none⟩ (.int .i64 100)).alloc o := ⟨_, rfl⟩
  rw [← hw2] at T2 hs2 ⊢
  have T3 := T2.below ((Below.refl _ w2).alloc (Nat.le_refl _) (.cells #[.string ⟨#[97]⟩, .complex .f64 (flI s.x) (flI s.y), .complex .f64 4607182418800017408 0, .int .i64 0, .int .i64 0, .string ⟨#[]⟩, .string ⟨#[]⟩, .int .i64 0] 80))
  have hlen := (T.rep.each m _ hq).len
  simp only [zeroP, List.length_nil] at hlen
  have hq2 : (X.setQ m ({ zeroP with money := 100 }, v)).pls[m]? = some ({ zeroP with money := 100 }, v) := set_at hq
  rw [← hs2]
  refine (place_any wc _ X0 (X.setQ m ({ zeroP with money := 100 }, v)) T3 m { zeroP with money := 100 } v hq2 (by simpa [XW.setQ] using h2) (firstU s) ⟨w2.heap.size, eastF, 0⟩ (firstRep w2 s) (fun h => by have := T2.rep.lt _ h; exact Nat.lt_irrefl _ this) (by have h1 := T.kept.size; show wc.heap.size ≤ w2.heap.size; omega) bx bY (by omega)).mono ?_
  rintro e w' ⟨rfl, val, gr, T4⟩
  refine ⟨rfl, _, T4, ⟨?_, O.ore, O.dist, lotQ (p' := { zeroP with money := 100, units := zeroP.units ++ [firstU s] }) (lotQ (p' := { zeroP with money := 100 }) (v' := v) O.lot hq rfl) (set_at hq) rfl⟩, ?_, rfl⟩
  · have hst := O.st.add (posL_at (XS_at hq)) hl X.cs
    have e : posL (((X.setQ m ({ zeroP with money := 100 }, v)).addU m { zeroP with money := 100 } v (firstU s) ⟨w2.heap.size, eastF, 0⟩ val gr).pls.map (·.1)) = (posL (X.pls.map (·.1))).set m (posP zeroP ++ [(s.x, s.y)]) := by
      simp [XW.addU, XW.setQ, List.map_set, posL, posP, zeroP, firstU]
    show StOK (posL (((X.setQ m ({ zeroP with money := 100 }, v)).addU m { zeroP with money := 100 } v (firstU s) ⟨w2.heap.size, eastF, 0⟩ val gr).pls.map (·.1))) _
    rw [e]
    exact hst
  · unfold Hid
    simp [XW.addU, XW.setQ, XW.withLs, XW.S, SWorld.setPl, List.map_set, zeroP, firstP]
theorem four (w : World) (o1 o2 o3 o4 : Obj) : ((((w.alloc o1).alloc o2).alloc o3).alloc o4).drew.heap[w.heap.size]? = some o1 ∧ ((((w.alloc o1).alloc o2).alloc o3).alloc o4).drew.heap[w.heap.size + 1]? = some o2 ∧
    ((((w.alloc o1).alloc o2).alloc o3).alloc o4).drew.heap[w.heap.size + 1 + 1]? = some o3 ∧ ((((w.alloc o1).alloc o2).alloc o3).alloc o4).drew.heap[w.heap.size + 1 + 1 + 1]? = some o4 ∧ Below w.heap.size w ((((w.alloc o1).alloc o2).alloc o3).alloc o4).drew := by
  have s1 : (w.alloc o1).heap.size = w.heap.size + 1 := by simp
  have s2 : ((w.alloc o1).alloc o2).heap.size = w.heap.size + 1 + 1 := by simp
  have s3 : (((w.alloc o1).alloc o2).alloc o3).heap.size = w.heap.size + 1 + 1 + 1 := by simp
  have h1 := Go.heap_alloc_new w o1
  have h2 := Go.heap_alloc_new (w.alloc o1) o2
  have h3 := Go.heap_alloc_new ((w.alloc o1).alloc o2) o3
  have h4 := Go.heap_alloc_new (((w.alloc o1).alloc o2).alloc o3) o4
  rw [s1] at h2
  rw [s2] at h3
  rw [s3] at h4
  refine ⟨?_, ?_, ?_, h4, (((((Below.refl _ w).alloc (Nat.le_refl _) o1).alloc (by omega) o2).alloc (by omega) o3).alloc (by omega) o4).drew⟩
  · show ((((w.alloc o1).alloc o2).alloc o3).alloc o4).heap[w.heap.size]? = _
    rw [Below.heap_alloc _ _ _ (by omega), Below.heap_alloc _ _ _ (by omega), Below.heap_alloc _ _ _ (by omega), h1]
  · show ((((w.alloc o1).alloc o2).alloc o3).alloc o4).heap[w.heap.size + 1]? = _
    rw [Below.heap_alloc _ _ _ (by omega), Below.heap_alloc _ _ _ (by omega), h2]
  · show ((((w.alloc o1).alloc o2).alloc o3).alloc o4).heap[w.heap.size + 1 + 1]? = _
    rw [Below.heap_alloc _ _ _ (by omega), h3]
theorem begX {w w1 w4 : World} {W H S : Int} {vo vs : Value} {n b mo ms pb : Nat} (hB : Below w.heap.size w w1) (hc : w1.heap[w.heap.size]? = some (.cells #[.int .i64 W, .int .i64 H, .int .i64 S, vo, vs] 54 (0, 0))) (hb : Below w1.heap.size w1 w4) (hn : 2 ≤ n ∧ n ≤ 4)
    (h1 : w4.heap[b]? = some (.cells #[.int .i64 0, .int .i64 W, .int .i64 H, .int .i64 S, .map (some mo), .map (some ms), .slice (some ⟨pb, 0, none⟩) n n, .slice none 0 0, .slice none 0 0] 73 (0, 0)))
    (h2 : w4.heap[mo]? = some (.map #[] 0)) (h3 : w4.heap[ms]? = some (.map #[] 0)) (h4 : w4.heap[pb]? = some (.cells (madeCells #[.int .i64 0, .slice none 0 0] (n * 2)) 65 (0, 0))) (hne : b ≠ mo ∧ b ≠ ms ∧ b ≠ pb ∧ mo ≠ ms ∧ mo ≠ pb ∧ ms ≠ pb)
    (hge : w1.heap.size ≤ b ∧ w1.heap.size ≤ mo ∧ w1.heap.size ≤ ms ∧ w1.heap.size ≤ pb) : BegX w W H S vo vs n w4 (zeroX b mo ms pb n W H S) := by
  have hlt := lt_of_some hc
  refine ⟨zeroX_rep hn h1 h2 h3 h4 hne, hB.trans (hb.mono hB.size), by rw [hb.block _ hlt]; exact hc, fun r hr => ?_, mo, ms, pb, rfl⟩
  rcases zeroX_foot b mo ms pb n W H S r hr with rfl | rfl | rfl | rfl <;> omega

set_option maxRecDepth 100000 in
set_option maxHeartbeats 4000000 in
theorem xnew_any (w : World) (W H S : Int) (vo vs : Value) (ore starts : List SSpot) (ho : SpIn w vo ore) (hs : SpIn w vs starts) (hl : starts.length ≤ 2000000) (hlo : ore.length ≤ 2000000) (io : I64s ore) (is : I64s starts) :
    Calls Tryd.prog 18 #[.agg #[.int .i64 W, .int .i64 H, .int .i64 S, vo, vs]] w fun e w' => NewX w w' e W H S ore starts := by
  have hb0 : Below w.heap.size w (w.alloc (.cells #[.int .i64 W, .int .i64 H, .int .i64 S, vo, vs] 54)) := (Below.refl _ w).alloc (Nat.le_refl _) _
  have HFi := hidOf (fits_any _ W H S vo vs ore starts (ho.below hb0) (hs.below hb0) hl hlo io is)
  have HB0 := hidOf hb0
  cases hN : newB W H S ore starts
  · rw [hN] at HFi
    obtain ⟨ao, co, rfl, _⟩ := ho
    obtain ⟨aS, cS, rfl, _⟩ := hs
    have HN := hidOf hN
    clear hb0 hN
    go_enter Tryd.func18, Tryd.ntmps18
    go_wp2_with (go_at_call 35; refine HFi.out.mono ?_; rintro e w1 ⟨rfl, hb1⟩)
    go_ret2
    exact ⟨HB0.out.trans (hb1.mono HB0.out.size), .inl ⟨HN.out, rfl⟩⟩
  · rw [hN] at HFi
    have HN := hidOf hN
    have hst : 2 ≤ starts.length ∧ starts.length ≤ 4 := by unfold newB at hN; simp [inB] at hN; omega
    have HO := hidOf ho
    have HSs := hidOf hs
    obtain ⟨ao, co, evo, hso⟩ := ho
    obtain ⟨aS, cS, evs, hss⟩ := hs
    obtain ⟨i0, hi0, hz0, hz1, hz2⟩ := info_parts Tryd.infoXPlayer
    have hmk : ∀ wx : World, (Instr.makeSlice 69 (.int .i64 (starts.length : Int)) (.int .i64 (starts.length : Int))).run Tryd.prog wx = .ok (.slice (some ⟨wx.heap.size, 0, none⟩) starts.length starts.length) (wx.alloc (.cells (madeCells #[.int .i64 0, .slice none 0 0] (starts.length * 2)) 65)) := by
      intro wx
      have := run_make (P := Tryd.prog) wx 69 65 i0 _ Tryd.underlying69 hi0 hz0 .i64 .i64 (starts.length : Int) (starts.length : Int) (by omega) (Int.le_refl _) (by rw [hz2]; omega) (by omega)
      rw [hz1] at this
      have e : ((starts.length : Int)).toNat = starts.length := by omega
      rw [e] at this
      exact this
    have hmm : ∀ wx : World, (Instr.makeMap 68 none).run Tryd.prog wx = .ok (.map (some wx.heap.size)) (wx.alloc (.map #[] 0)) := fun wx => rfl
    clear hb0 hN hso hss hz0 hz1 hz2 hi0
    subst evo evs
    go_enter Tryd.func18, Tryd.ntmps18
    go_upto_region 3 with (go_at_call 35; refine HFi.out.mono ?_; rintro e w1 ⟨rfl, hb1⟩)
    have HB1 := hidOf (HB0.out.trans (hb1.mono HB0.out.size))
    have hc1 : w1.heap[w.heap.size]? = some (.cells #[.int .i64 W, .int .i64 H, .int .i64 S, .slice ao ore.length co, .slice aS starts.length cS] 54 (0, 0)) := by
      rw [hb1.block _ (by simp)]
      exact Go.heap_alloc_new w _
    have e0 : w1.cell? ⟨w.heap.size, 0, none⟩ = some (.int .i64 W) := by rw [cell_of_row _ _ _ _ _ _ hc1]; rfl
    have e1 : w1.cell? ⟨w.heap.size, 1, none⟩ = some (.int .i64 H) := by rw [cell_of_row _ _ _ _ _ _ hc1]; rfl
    have e2 : w1.cell? ⟨w.heap.size, 2, none⟩ = some (.int .i64 S) := by rw [cell_of_row _ _ _ _ _ _ hc1]; rfl
    have e4 : w1.cell? ⟨w.heap.size, 4, none⟩ = some (.slice aS starts.length cS) := by rw [cell_of_row _ _ _ _ _ _ hc1]; rfl
    have hlt := lt_of_some hc1
    have a0 : ∀ o, (w1.alloc o).cell? ⟨w.heap.size, 0, none⟩ = some (.int .i64 W) := fun o => by rw [World.cell?_alloc_past _ _ _ hlt]; exact e0
    have a1 : ∀ o, (w1.alloc o).cell? ⟨w.heap.size, 1, none⟩ = some (.int .i64 H) := fun o => by rw [World.cell?_alloc_past _ _ _ hlt]; exact e1
    have a2 : ∀ o, (w1.alloc o).cell? ⟨w.heap.size, 2, none⟩ = some (.int .i64 S) := fun o => by rw [World.cell?_alloc_past _ _ _ hlt]; exact e2
    have a4 : ∀ o, (w1.alloc o).cell? ⟨w.heap.size, 4, none⟩ = some (.slice aS starts.length cS) := fun o => by rw [World.cell?_alloc_past _ _ _ hlt]; exact e4
    have HC1 := hidOf hc1
    clear hb1 hc1
    go_cut [4] (fun v4 wc => ∃ X, v4 = .pointer (some ⟨X.b, 0, none⟩) ∧ BegX w W H S (.slice ao ore.length co) (.slice aS starts.length cS) starts.length wc X)
    case first =>
      go_region_held3 (fun w' => w'.cell? ⟨w.heap.size, 0, none⟩ = some (.int .i64 W) ∧ w'.cell? ⟨w.heap.size, 1, none⟩ = some (.int .i64 H) ∧ w'.cell? ⟨w.heap.size, 2, none⟩ = some (.int .i64 S) ∧ w'.cell? ⟨w.heap.size, 4, none⟩ = some (.slice aS starts.length cS)) (first | assumption | (refine keepS ?_; assumption) | go_keep) (fail)
      all_goals
        obtain ⟨q1, q2, q3, q4, q5⟩ := four w1 _ _ _ _
        go_wp2_with fail
        go_meet
        exact ⟨_, rfl, begX HB1.out HC1.out q5 hst q4 (by assumption) (by assumption) (by assumption) (by omega) (by omega)⟩
    case rest =>
      obtain ⟨X0, rfl, hbg⟩ := hcut
      have HBg := hidOf hbg
      have e3 : wc.cell? ⟨w.heap.size, 3, none⟩ = some (.slice ao ore.length co) := by rw [cell_of_row _ _ _ _ _ _ hbg.c]; rfl
      clear hbg hmk hmm a0 a1 a2 a4 e0 e1 e2 e4 hlt
      have HAp : Hid ((∀ s ∈ ore, (0 ≤ s.x ∧ s.x ≤ 9) ∧ (0 ≤ s.y ∧ s.y ≤ 9)) ∧ oreD ore ∧ (∀ s ∈ starts, (0 ≤ s.x ∧ s.x ≤ 9) ∧ (0 ≤ s.y ∧ s.y ≤ 9)) ∧ oreD starts ∧ ∀ s ∈ ore, 1 ≤ s.amount ∧ s.amount ≤ 99) := by
        have h := HN.out
        unfold newB at h
        simp only [Bool.and_eq_true, List.all_eq_true] at h
        have hw := h.1.1.1.1.1.1.1
        have hh := h.1.1.1.1.1.1.2
        simp [inB] at hw hh
        obtain ⟨x1, x2⟩ := apart_facts h.1.1.2 (by omega) (by omega)
        obtain ⟨x3, x4⟩ := apart_facts h.1.2 (by omega) (by omega)
        exact ⟨x1, x2, x3, x4, fun s hs => by have := h.2 s hs; simp [inB] at this; exact this⟩
      go_wp2_with fail
      go_loopw [6, 30] (fun _ i w' => ∃ (k : Nat) (l : List CE) (c : Nat), k ≤ ore.length ∧ i = .int .i64 k ∧ Hid (TurnX wc X0 w' ((X0.withLo l c).withOre (ore.take k))) ∧ Hid (OreOK (ore.take k) l)) (fun _ i _ => ore.length + 1 - (intOf i).toNat)
      case atStart =>
        obtain ⟨mo, ms, pb, hz⟩ := HBg.out.is
        refine ⟨0, X0.lo, X0.co, Nat.zero_le _, rfl, (TurnX.refl HBg.out.rep).withOre _, ?_⟩
        unfold Hid
        rw [hz]
        intro x y
        rfl
      case round =>
        obtain ⟨k, l, c, hk, rfl, T, O⟩ := hrel
        obtain ⟨lowB, lowC⟩ := HBg.out.low T.out.kept
        clear e3
        by_cases hlt : k < ore.length
        · obtain ⟨b, off, eao, hbl, d0', d1', d2'⟩ := SpIn.cells HO.out hlt
          subst eao
          have d0 : wr.cell? ⟨b, off + k * 3, none⟩ = some (.int .i64 ore[k].x) := (lowB.cell hbl).trans d0'
          have d1 : wr.cell? ⟨b, off + k * 3 + 1, none⟩ = some (.int .i64 ore[k].y) := (lowB.cell hbl).trans d1'
          have d2 : wr.cell? ⟨b, off + k * 3 + 2, none⟩ = some (.int .i64 ore[k].amount) := (lowB.cell hbl).trans d2'
          have bxy := HAp.out.1 ore[k] (List.getElem_mem hlt)
          have hb2 : Below wr.heap.size wr (wr.alloc (.cells #[.int .i64 ore[k].x, .int .i64 ore[k].y, .int .i64 ore[k].amount] 49)) := (Below.refl _ wr).alloc (Nat.le_refl _) _
          have T2 := hidOf (T.out.below hb2)
          have c3 : (wr.alloc (.cells #[.int .i64 ore[k].x, .int .i64 ore[k].y, .int .i64 ore[k].amount] 49)).cell? ⟨X0.b, 4, none⟩ = some (.map (some X0.mo)) := T2.out.rep.cellTop rfl
          obtain ⟨w3, hup, hm3, hp3⟩ := T2.out.rep.ore.drew.update ore[k].x ore[k].y ore[k].amount bxy.1 bxy.2
          have hup' : (Instr.mapUpdate 68 (.map (some X0.mo)) (.complex .f64 (flI ore[k].x) (flI ore[k].y)) (.int .i64 ore[k].amount)).run Tryd.prog (wr.alloc (.cells #[.int .i64 ore[k].x, .int .i64 ore[k].y, .int .i64 ore[k].amount] 49)).drew = .ok () w3 := hup
          have T3 := hidOf ((T2.out.drew.ore1 hp3 hm3).withOre (ore.take (k + 1)))
          have O3 : Hid (OreOK (ore.take (k + 1)) (cput ore[k].x ore[k].y ore[k].amount c l)) := by
            unfold Hid
            rw [List.take_succ_eq_append_getElem hlt]
            refine O.out.add ore[k] (by have := (HAp.out.2.2.2.2 ore[k] (List.getElem_mem hlt)).1; omega) (fun t ht e => ?_) c
            obtain ⟨j, hj, rfl⟩ := List.mem_iff_getElem.1 ht
            have hj' : j < k := by simp at hj; omega
            have hd := HAp.out.2.1
            have := List.pairwise_iff_getElem.1 hd j k (by omega) hlt hj'
            exact this (by simpa using e)
          have kx : w3.cell? ⟨X0.b, 4, none⟩ = some (.map (some X0.mo)) := T3.out.rep.cellTop rfl
          have kb := Go.heap_alloc_new wr (.cells #[.int .i64 ore[k].x, .int .i64 ore[k].y, .int .i64 ore[k].amount] 49)
          have hmo : wr.heap.size ≠ X0.mo := fun e => by have := T.out.rep.lt X0.mo xfoot_mo; omega
          have kb3 : w3.heap[wr.heap.size]? = some (.cells #[.int .i64 ore[k].x, .int .i64 ore[k].y, .int .i64 ore[k].amount] 49 (0, 0)) := by rw [hp3.block _ hmo]; exact kb
          have k0 : w3.cell? ⟨wr.heap.size, 0, none⟩ = some (.int .i64 ore[k].x) := by rw [cell_of_row _ _ _ _ _ _ kb3]; rfl
          have k1 : w3.cell? ⟨wr.heap.size, 1, none⟩ = some (.int .i64 ore[k].y) := by rw [cell_of_row _ _ _ _ _ _ kb3]; rfl
          have k2 : w3.cell? ⟨wr.heap.size, 2, none⟩ = some (.int .i64 ore[k].amount) := by rw [cell_of_row _ _ _ _ _ _ kb3]; rfl
          clear d0' d1' d2' hup hm3 hp3 T2 kb kb3 hmo
          go_wp2_with fail
          go_region_held3 (fun w' => w'.cell? ⟨X0.b, 4, none⟩ = some (.map (some X0.mo)) ∧ w'.cell? ⟨wr.heap.size, 0, none⟩ = some (.int .i64 ore[k].x) ∧ w'.cell? ⟨wr.heap.size, 1, none⟩ = some (.int .i64 ore[k].y) ∧ w'.cell? ⟨wr.heap.size, 2, none⟩ = some (.int .i64 ore[k].amount)) (first | assumption | exact ⟨kx, k0, k1, k2⟩ | go_keep) (first | (go_at_call 36; refine (at_any _ _ _).mono ?_; rintro e w' ⟨rfl, h⟩; rw [h]; clear h w'))
          all_goals
            go_wp2
            exact ⟨⟨k + 1, _, _, by omega, by go_num, T3, O3⟩, by simp [intOf]; omega⟩
        · have hkl : k = ore.length := by omega
          have e4 : wr.cell? ⟨w.heap.size, 4, none⟩ = some (.slice aS starts.length cS) := by rw [cell_of_row _ _ _ _ _ _ lowC]; rfl
          rw [hkl, List.take_of_length_le (Nat.le_refl _)] at T O
          have ST : Hid (((X0.withLo l c).withOre ore).S = startS W H S ore starts 0) ∧ Hid (OkX ((X0.withLo l c).withOre ore)) := by
            obtain ⟨mo, ms, pb, hz⟩ := HBg.out.is
            obtain ⟨x1, x2⟩ := startS_zero X0 X0.b mo ms pb starts.length W H S l c ore starts hz rfl
            exact ⟨x1, x2 ⟨O.out, HAp.out.2.1⟩⟩
          have SL : Hid (((X0.withLo l c).withOre ore).sales = []) := by
            obtain ⟨mo, ms, pb, hz⟩ := HBg.out.is
            unfold Hid
            rw [hz]
            rfl
          clear hkl lowB lowC
          go_wp2_with fail
          go_loopw [7, 8, 49] (fun _ _ i w' => ∃ (k : Nat) (X : XW), k ≤ starts.length ∧ i = .int .i64 k ∧ Hid (TurnX wc X0 w' X) ∧ Hid (OkX X) ∧ Hid (X.S = startS W H S ore starts k) ∧ Hid (X.sales = [])) (fun _ _ i _ => starts.length + 1 - (intOf i).toNat)
          case atStart => exact ⟨0, _, Nat.zero_le _, rfl, T, ST.2, ST.1, SL⟩
          case round =>
            clear e4 ST SL T O hlt hk
            obtain ⟨m, X, hk, rfl, T, O, HS, HSl⟩ := hrel
            obtain ⟨lowB, lowC⟩ := HBg.out.low T.out.kept
            by_cases hlt : m < starts.length
            · obtain ⟨b, off, eao, hbl, d0', d1', d2'⟩ := SpIn.cells HSs.out hlt
              subst eao
              have d0 : wr.cell? ⟨b, off + m * 3, none⟩ = some (.int .i64 starts[m].x) := (lowB.cell hbl).trans d0'
              have d1 : wr.cell? ⟨b, off + m * 3 + 1, none⟩ = some (.int .i64 starts[m].y) := (lowB.cell hbl).trans d1'
              have d2 : wr.cell? ⟨b, off + m * 3 + 2, none⟩ = some (.int .i64 starts[m].amount) := (lowB.cell hbl).trans d2'
              have hXl : X.pls.length = starts.length := by
                have e : X.S.players.length = X.pls.length := by simp [XW.S]
                rw [← e, HS.out]
                simp [startS]
                omega
              obtain ⟨pb, pcap, hvp, hpc, hpm⟩ := T.out.rep.plForm (by omega)
              unfold maxLen at hpm
              obtain ⟨p, v, hq⟩ := xat_of_lt (X := X) (n := m) (by omega)
              have hp0 : p = zeroP := by
                have e := XS_at hq
                rw [HS.out, startS_at hlt] at e
                injection e with e
                exact e.symm
              subst hp0
              have hXb : X.b = X0.b := T.out.b
              have c5 : wr.cell? ⟨X0.b, 6, none⟩ = some (.slice (some ⟨pb, 0, none⟩) starts.length pcap) := by rw [← hXb, ← hXl, ← hvp]; exact T.out.rep.cellTop rfl
              have m0 : wr.cell? ⟨pb, m * 2, none⟩ = some (.int .i64 0) := (T.out.rep.plCell hq hvp).1
              have fz := T.out.rep.plFrozen hvp (m * 2)
              have hlb := T.out.rep.lt X.b xfoot_b
              rw [hXb] at hlb
              have hlp := T.out.rep.lt pb (xfoot_pl (by simp [hvp, blk_slice]))
              have HQ := hidOf hq
              have HVP := hidOf hvp
              have HXb := hidOf hXb
              have HXl := hidOf hXl
              clear d0' d1' d2' hq hvp hXb hXl
              have bxy := HAp.out.2.2.1 starts[m] (List.getElem_mem hlt)
              have HPl := hidOf (fun o => newPlace T.out m v HQ.out (by rw [HXl.out]; exact hst) starts[m] bxy.1 bxy.2 (start_free hlt HS.out O.out HAp.out.2.2.2.1) O.out pb pcap HVP.out o)
              rw [HXb.out] at HPl
              go_wp2_with (first | (go_at_call 36; refine (at_any _ _ _).mono ?_; rintro e w' ⟨rfl, h⟩; rw [h]; clear h w') | (go_at_call 37; refine (HPl.out _).mono ?_; rintro e w5 ⟨rfl, X', T', O', S', L'⟩))
              refine ⟨⟨m + 1, X', by omega, by go_num, T', O', ?_, L'.out.trans HSl.out⟩, by simp [intOf]; omega⟩
              unfold Hid
              rw [S'.out, HS.out, startS_succ hlt]
            · have hml : m = starts.length := by omega
              have hE : X.S = newS W H S ore starts := by rw [HS.out, hml, startS_end]
              have HE := hidOf hE
              have HXb := hidOf T.out.b
              have HLB := hidOf lowB
              clear hml hE lowB lowC
              go_wp2
              go_ret2
              refine ⟨HLB.out, .inr ⟨HN.out, X, ?_, T.out.rep, O.out, HE.out, HSl.out, fun r hr => ?_⟩⟩
              · exact ret_n2 (by rw [HXb.out]) rfl
              · rcases T.out.ext r hr with h | h
                · have := HBg.out.foot r h; omega
                · have := HBg.out.b.size; omega
end Go.Proofs.YtlafddeoheambaaDoor

/-
  The function staked of package haze: all that a player has bid for open lots.
-/
namespace Go.Proofs.YtlafddeoheambaaDoor
open Go.RowKit

def stakedX (s : List XLot) (n : Nat) : Int := (s.map (fun l => l.bid n)).sum
theorem stakedX_snoc (s : List XLot) (l : XLot) (n : Nat) : stakedX (s ++ [l]) n = stakedX s n + l.bid n := by simp [stakedX]
theorem stakedX_bd {s : List XLot} {n : Nat} (h : ∀ l ∈ s, 0 ≤ l.bid n ∧ l.bid n ≤ 100000) : 0 ≤ stakedX s n ∧ stakedX s n ≤ 100000 * s.length := by
  induction s with
  | nil => simp [stakedX]
  | cons a s ih =>
    have h1 := h a (by simp)
    have h2 := ih (fun l hl => h l (by simp [hl]))
    simp only [stakedX, List.map_cons, List.sum_cons, List.length_cons] at h2 ⊢
    omega
/-- The cells of a lot. -/
theorem lotCellsAt {w : World} {s : List XLot} {ao : Option Addr} {g : Nat} (rd : Rd w 7 ao g s.length (s.flatMap xlotCells)) {k : Nat} (hk : k < s.length) :
    w.cell? ⟨g, k * 7, none⟩ = some (.string s[k].name) ∧ w.cell? ⟨g, k * 7 + 1, none⟩ = some (.int .i64 s[k].ends) ∧ w.cell? ⟨g, k * 7 + 2, none⟩ = some (.int .i64 s[k].least) ∧ ∀ n, n < 4 → w.cell? ⟨g, k * 7 + 3 + n, none⟩ = some (.int .i64 (s[k].bid n)) := by
  have f := fun j (hj : j < 7) => flat_at xlotCells 7 (fun _ => rfl) s k j hk hj
  refine ⟨rd.cell _ _ (f 0 (by omega)), rd.cell _ _ (f 1 (by omega)), rd.cell _ _ (f 2 (by omega)), fun n hn => ?_⟩
  rw [Nat.add_assoc]
  refine rd.cell _ _ ?_
  rw [f (3 + n) (by omega)]
  rcases (show n = 0 ∨ n = 1 ∨ n = 2 ∨ n = 3 by omega) with rfl | rfl | rfl | rfl <;> rfl

set_option maxHeartbeats 1000000 in
theorem xstaked_any (w : World) (X : XW) (n : Nat) (hn : n < 4) (hr : RepX w X) (hl : X.opens.length ≤ 4) (hb : ∀ l ∈ X.opens, 0 ≤ l.bid n ∧ l.bid n ≤ 100000) :
    Calls Tryd.prog 43 #[.pointer (some ⟨X.b, 0, none⟩), .int .i64 n] w fun e w' => e = .returned (.int .i64 (stakedX X.opens n)) ∧ w' = w := by
  obtain ⟨ao, g, cap, hv, hcap, hmax, rd⟩ := own_rd hr.lot.1
  have c7 : w.cell? ⟨X.b, 7, none⟩ = some (.slice ao X.opens.length cap) := by rw [← hv]; exact hr.cellTop rfl
  unfold maxLen at hmax
  clear hv
  have HR := hidOf hr
  clear hr
  go_enter Tryd.func43, Tryd.ntmps43
  go_wp2
  go_loop [5, 6, 12] (fun s _ i => ∃ k : Nat, k ≤ X.opens.length ∧ i = .int .i64 k ∧ s = .int .i64 (stakedX (X.opens.take k) n)) (fun _ _ i => X.opens.length + 1 - (intOf i).toNat)
  case atStart => exact ⟨0, Nat.zero_le _, rfl, rfl⟩
  case round =>
    obtain ⟨k, hk, rfl, rfl⟩ := hrel
    have bd := stakedX_bd (s := X.opens.take k) (n := n) (fun l hl => hb l (List.mem_of_mem_take hl))
    have bl : (X.opens.take k).length ≤ k := List.length_take_le _ _
    by_cases hlt : k < X.opens.length
    · obtain rfl := rd.base (by omega)
      have cb := (lotCellsAt rd hlt).2.2.2 n hn
      have hs : Hid (stakedX (X.opens.take (k + 1)) n = stakedX (X.opens.take k) n + X.opens[k].bid n) := by
        unfold Hid; rw [List.take_succ_eq_append_getElem hlt, stakedX_snoc]
      have hbk := hb X.opens[k] (List.getElem_mem hlt)
      clear hb
      go_wp2
      exact ⟨⟨k + 1, by omega, by go_num, vint hs.out.symm⟩, by simp [intOf]; omega⟩
    · have G : Hid (stakedX (X.opens.take k) n = stakedX X.opens n) := by unfold Hid; rw [List.take_of_length_le (by omega)]
      go_wp2
      go_ret
      exact ⟨ret_int G.out, rfl⟩

/-- What holds of the bids of open lots. -/
theorem LotRel.bidBd {opens : List XLot} {lots : List SLot} {bss : List (List SBid)} {now : Int} (h : LotRel opens lots bss) (hw : LotWF lots bss now) : ∀ l ∈ opens, ∀ n, 0 ≤ l.bid n ∧ l.bid n ≤ 100000 := by
  intro l hl n
  rw [h.bid l hl n]
  unfold bidAt
  have key : ∀ b : List SBid, (∀ x ∈ b, 0 < x.n ∧ x.n ≤ 100000) → 0 ≤ bidI b l.name ∧ bidI b l.name ≤ 100000 := by
    intro b hb
    induction b with
    | nil => simp [bidI]
    | cons x b ih =>
      simp only [bidI]
      split
      · have := hb x (by simp); omega
      · exact ih (fun y hy => hb y (by simp [hy]))
  cases hb : bss[n]? with
  | none => exact key [] (by simp)
  | some b => exact key b (hw.bids b (List.mem_of_getElem? hb)).pos
/-- The same, as the document says it. -/
theorem xstaked_ok (w : World) (X : XW) (n : Nat) (p : SPlayer) (v : XV) (hr : RepX w X) (ho : OkX X) (hw : LotWF X.lots (X.pls.map (·.1.bids)) X.now) (hq : X.pls[n]? = some (p, v)) (h4 : X.pls.length ≤ 4) :
    Calls Tryd.prog 43 #[.pointer (some ⟨X.b, 0, none⟩), .int .i64 n] w fun e w' => e = .returned (.int .i64 (stakedI p.bids emptyB)) ∧ w' = w := by
  obtain ⟨hn, _⟩ := at_some hq
  have e := ho.lot.staked hw n
  have e' : ((X.pls.map (·.1.bids))[n]?).getD [] = p.bids := by simp [hq]
  rw [e'] at e
  have := xstaked_any w X n (by omega) hr (by rw [ho.lot.len]; exact hw.len) (fun l hl => ho.lot.bidBd hw l hl n)
  have e2 : stakedX X.opens n = stakedI p.bids emptyB := e
  rw [e2] at this
  exact this
theorem staked_le {X : XW} {n : Nat} {p : SPlayer} {v : XV} (ho : OkX X) (hw : LotWF X.lots (X.pls.map (·.1.bids)) X.now) (hq : X.pls[n]? = some (p, v)) : 0 ≤ stakedI p.bids emptyB ∧ stakedI p.bids emptyB ≤ 400000 := by
  have e := ho.lot.staked hw n
  have e' : ((X.pls.map (·.1.bids))[n]?).getD [] = p.bids := by simp [hq]
  rw [e'] at e
  have h1 := stakedX_bd (s := X.opens) (n := n) (fun l hl => ho.lot.bidBd hw l hl n)
  have h2 : X.opens.length ≤ 4 := by rw [ho.lot.len]; exact hw.len
  have e2 : stakedX X.opens n = stakedI p.bids emptyB := e
  omega
end Go.Proofs.YtlafddeoheambaaDoor
