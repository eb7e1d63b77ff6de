/-
  The function New of package haze.
-/
import Derived.Test.YtlafddeoheambaaGreatDoorT13
import Derived.Deep.DeepCutAuto
import Derived.Deep.RegionHeld3
import Derived.Test.YtlafddeoheambaaGreatDoorT07
import Derived.Shelf.Lay
import Derived.Shelf.Small.Strs
import Derived.Test.YtlafddeoheambaaGreatDoorT03
set_option linter.unusedVariables false
namespace Go.Proofs.YtlafddeoheambaaGreatDoor
open Go.RowKit

def NewX (w w' : World) (e : Ending) (W H S : Int) (ore starts : List SSpot) : Prop :=
  Below w.heap.size w w' ∧ ((newB W H S ore starts = false ∧ e = .returned (.tuple #[.pointer none, .int .i64 1])) ∨
    (newB W H S ore starts = true ∧ ∃ X : XW, e = .returned (.tuple #[.pointer (some ⟨X.b, 0, none⟩), .int .i64 0]) ∧ RepX w' X ∧ OkX X ∧ X.S = newS W H S ore starts ∧ X.sales = [] ∧ ∀ r ∈ X.foot, w.heap.size ≤ r))
theorem Tryz.infoXPlayer : (Tryz.prog.info? 76).map (fun i => (i.zero, i.size, i.bytes)) = some (some (.agg #[.int .i64 0, .slice none 0 0]), 2, 32) := by kernel_rfl
theorem keep1 {w' : World} {a : Addr} {v : Value} (o : Obj) (h : w'.drew.cell? a = some v) : (w'.alloc o).drew.cell? a = some v := by
  have h' : w'.cell? a = some v := h
  show (w'.alloc o).cell? a = some v
  rw [World.cell?_of_block (w := w') (a := a) (Below.heap_alloc _ _ _ (block_lt_of_cell h'))]
  exact h'
theorem keepS {w' : World} {a b c d : Addr} {u v x y : Value} {o : Obj} (h : w'.drew.cell? a = some u ∧ w'.drew.cell? b = some v ∧ w'.drew.cell? c = some x ∧ w'.drew.cell? d = some y) : (w'.alloc o).drew.cell? a = some u ∧ (w'.alloc o).drew.cell? b = some v ∧ (w'.alloc o).drew.cell? c = some x ∧ (w'.alloc o).drew.cell? d = some y :=
  ⟨keep1 o h.1, keep1 o h.2.1, keep1 o h.2.2.1, keep1 o h.2.2.2⟩
/-- The world is laid, nothing in it yet. -/
structure BegX (w : World) (W H S : Int) (vo vs : Value) (n : Nat) (wc : World) (X : XW) : Prop where
  rep : RepX wc X
  b : Below w.heap.size w wc
  c : wc.heap[w.heap.size]? = some (.cells #[.int .i64 W, .int .i64 H, .int .i64 S, vo, vs] 57 (0, 0))
  foot : ∀ r ∈ X.foot, w.heap.size + 1 ≤ r
  is : ∃ mo ms pb, X = zeroX X.b mo ms pb n W H S

theorem BegX.low {w wc wr : World} {W H S : Int} {vo vs : Value} {n : Nat} {X : XW} (h : BegX w W H S vo vs n wc X) (hk : Kept X.foot wc wr) : Below w.heap.size w wr ∧ wr.heap[w.heap.size]? = some (.cells #[.int .i64 W, .int .i64 H, .int .i64 S, vo, vs] 57 (0, 0)) := by
  have hlt := lt_of_some h.c
  refine ⟨⟨hk.os.trans h.b.os, hk.tape.trans h.b.tape, hk.output.trans h.b.output, Nat.le_trans h.b.size hk.size, fun k hk' => ?_⟩, ?_⟩
  · rw [hk.block k (by omega) (fun hm => by have := h.foot k hm; omega), h.b.block k hk']
  · rw [hk.block _ hlt (fun hm => by have := h.foot _ hm; omega), h.c]
def startS (W H S : Int) (ore starts : List SSpot) (k : Nat) : SWorld := { width := W, height := H, sight := S, now := 0, ore := ore, players := (starts.take k).map firstP ++ List.replicate (starts.length - k) zeroP, lots := [] }
theorem startS_zero (X0 : XW) (b mo ms pb n : Nat) (W H S : Int) (l : List CE) (c : Nat) (ore starts : List SSpot) (hz : X0 = zeroX b mo ms pb n W H S) (hn : starts.length = n) : ((X0.withLo l c).withOre ore).S = startS W H S ore starts 0 ∧ ((OreOK ore l ∧ oreD ore) → OkX ((X0.withLo l c).withOre ore)) := by
  subst hz
  refine ⟨by simp [XW.S, XW.withLo, XW.withOre, zeroX, startS, hn], fun h => ⟨?_, h.1, h.2, LotRel.nil _⟩⟩
  have e : posL (((zeroX b mo ms pb n W H S).withLo l c).withOre ore |>.pls.map (·.1)) = List.replicate n [] := by simp [posL, posP, XW.withLo, XW.withOre, zeroX, zeroP]
  rw [e]
  exact StOK.empty n
theorem startS_at {W H S : Int} {ore starts : List SSpot} {k : Nat} (hk : k < starts.length) : (startS W H S ore starts k).players[k]? = some zeroP := by
  have e : ((starts.take k).map firstP).length = k := by simp; omega
  simp only [startS]
  rw [List.getElem?_append_right (by omega), e, Nat.sub_self, List.getElem?_replicate, if_pos (by omega)]
theorem startS_succ {W H S : Int} {ore starts : List SSpot} {k : Nat} (hk : k < starts.length) : (startS W H S ore starts k).setPl k (firstP starts[k]) = startS W H S ore starts (k + 1) := by
  have e : ((starts.take k).map firstP).length = k := by simp; omega
  simp only [startS, SWorld.setPl]
  have h1 : ((starts.take k).map firstP ++ List.replicate (starts.length - k) zeroP).set k (firstP starts[k]) = (starts.take (k + 1)).map firstP ++ List.replicate (starts.length - (k + 1)) zeroP := by
    rw [List.set_append_right _ _ (by omega), e, List.take_succ_eq_append_getElem hk]
    obtain ⟨m, hm⟩ : ∃ m, starts.length - k = m + 1 := ⟨starts.length - k - 1, by omega⟩
    rw [hm, show starts.length - (k + 1) = m by omega]
    simp only [List.map_append, List.map_cons, List.map_nil, List.replicate_succ, Nat.sub_self, List.set_cons_zero, List.append_assoc, List.singleton_append]
  rw [h1]
theorem startS_end (W H S : Int) (ore starts : List SSpot) : startS W H S ore starts starts.length = newS W H S ore starts := by simp [startS, newS]
/-- Nobody stands at the next start. -/
theorem start_free {W H S : Int} {ore starts : List SSpot} {k : Nat} {X : XW} (hk : k < starts.length) (hS : X.S = startS W H S ore starts k) (hO : OkX X) (hd : oreD starts) : look starts[k].x starts[k].y X.ls = none := by
  cases hl : look starts[k].x starts[k].y X.ls with
  | none => rfl
  | some m =>
    exfalso
    obtain ⟨n, us, j, h1, h2⟩ := hO.st.b _ _ m hl
    have e : X.pls.map (·.1) = (startS W H S ore starts k).players := by rw [← hS]; rfl
    rw [e] at h1
    simp only [posL, List.getElem?_map, Option.map_eq_some_iff] at h1
    obtain ⟨p, hp, rfl⟩ := h1
    have hm := List.mem_of_getElem? hp
    simp only [startS, List.mem_append, List.mem_map] at hm
    rcases hm with ⟨s, hs, rfl⟩ | hm
    · have hu := List.mem_of_getElem? h2
      simp only [posP, firstP, List.map_cons, List.map_nil, List.mem_singleton, firstU] at hu
      injection hu with e1 e2
      obtain ⟨i, hi, rfl⟩ := List.mem_iff_getElem.1 hs
      have hi' : i < k := by simp at hi; omega
      have := List.pairwise_iff_getElem.1 hd i k (by omega) hk hi'
      simp only [List.getElem_take] at e1 e2
      exact this ⟨e1.symm, e2.symm⟩
    · have := List.eq_of_mem_replicate hm
      rw [this] at h2
      simp [posP, zeroP] at h2
theorem newPlace {wc wr : World} {X0 X : XW} (T : TurnX wc X0 wr X) (m : Nat) (v : XV) (hq : X.pls[m]? = some (zeroP, v)) (h2 : 2 ≤ X.pls.length ∧ X.pls.length ≤ 4) (s : SSpot) (bx : 0 ≤ s.x ∧ s.x ≤ 9) (bY : 0 ≤ s.y ∧ s.y ≤ 9) (hl : look s.x s.y X.ls = none) (O : OkX X) (pb pcap : Nat) (hvp : X.vPl = .slice (some ⟨pb, 0, none⟩) X.pls.length pcap) (o : Obj) :
    Calls Tryz.prog 59 #[.pointer (some ⟨X.b, 0, none⟩), .int .i64 m, .pointer (some ⟨wr.heap.size + 1, 0, none⟩)] (((wr.setCell ⟨pb, m * 2, none⟩ (.int .i64 100)).alloc o).alloc (.cells #[.string ⟨#[97]⟩, .complex .f64 (flI s.x) (flI s.y), .complex .f64 4607182418800017408 0, .int .i64 0, .int .i64 0, .string ⟨#[]⟩, .string ⟨#[]⟩, .int .i64 0] 91)) fun e w' =>
      e = .returned (.tuple #[]) ∧ ∃ X', Hid (TurnX wc X0 w' X') ∧ Hid (OkX X') ∧ Hid (X'.S = X.S.setPl m (firstP s)) ∧ Hid (X'.sales = X.sales) := by
  have T1 := T.money1 hq hvp 100
  have T2 := T1.below ((Below.refl _ (wr.setCell ⟨pb, m * 2, none⟩ (.int .i64 100))).alloc (Nat.le_refl _) o)
  have hs2 : ((wr.setCell ⟨pb, m * 2, none⟩ (.int .i64 100)).alloc o).heap.size = wr.heap.size + 1 := by simp [World.setCell]
  obtain ⟨w2, hw2⟩ : ∃ w2, w2 = (wr.setCell ⟨pb, m * 2, none⟩ (.int .i64 100)).alloc o := ⟨_, rfl⟩
  rw [← hw2] at T2 hs2 ⊢
  have T3 := T2.below ((Below.refl _ w2).alloc (Nat.le_refl _) (.cells #[.string ⟨#[97]⟩, .complex .f64 (flI s.x) (flI s.y), .complex .f64 4607182418800017408 0, .int .i64 0, .int .i64 0, .string ⟨#[]⟩, .string ⟨#[]⟩, .int .i64 0] 91))
  have hlen := (T.rep.each m _ hq).len
  simp only [zeroP, List.length_nil] at hlen
  have hq2 : (X.setQ m ({ zeroP with money := 100 }, v)).pls[m]? = some ({ zeroP with money := 100 }, v) := set_at hq
  rw [← hs2]
  refine (place_any wc _ X0 (X.setQ m ({ zeroP with money := 100 }, v)) T3 m { zeroP with money := 100 } v hq2 (by simpa [XW.setQ] using h2) (firstU s) ⟨w2.heap.size, eastF, 0⟩ (firstRep w2 s) (fun h => by have := T2.rep.lt _ h; exact Nat.lt_irrefl _ this) (by have h1 := T.kept.size; show wc.heap.size ≤ w2.heap.size; omega) bx bY (by omega)).mono ?_
  rintro e w' ⟨rfl, val, gr, T4⟩
  refine ⟨rfl, _, T4, ⟨?_, O.ore, O.dist, lotQ (p' := { zeroP with money := 100, units := zeroP.units ++ [firstU s] }) (lotQ (p' := { zeroP with money := 100 }) (v' := v) O.lot hq rfl) (set_at hq) rfl⟩, ?_, rfl⟩
  · have hst := O.st.add (posL_at (XS_at hq)) hl X.cs
    have e : posL (((X.setQ m ({ zeroP with money := 100 }, v)).addU m { zeroP with money := 100 } v (firstU s) ⟨w2.heap.size, eastF, 0⟩ val gr).pls.map (·.1)) = (posL (X.pls.map (·.1))).set m (posP zeroP ++ [(s.x, s.y)]) := by
      simp [XW.addU, XW.setQ, List.map_set, posL, posP, zeroP, firstU]
    show StOK (posL (((X.setQ m ({ zeroP with money := 100 }, v)).addU m { zeroP with money := 100 } v (firstU s) ⟨w2.heap.size, eastF, 0⟩ val gr).pls.map (·.1))) _
    rw [e]
    exact hst
  · unfold Hid
    simp [XW.addU, XW.setQ, XW.withLs, XW.S, SWorld.setPl, List.map_set, zeroP, firstP]
theorem four (w : World) (o1 o2 o3 o4 : Obj) : ((((w.alloc o1).alloc o2).alloc o3).alloc o4).drew.heap[w.heap.size]? = some o1 ∧ ((((w.alloc o1).alloc o2).alloc o3).alloc o4).drew.heap[w.heap.size + 1]? = some o2 ∧
    ((((w.alloc o1).alloc o2).alloc o3).alloc o4).drew.heap[w.heap.size + 1 + 1]? = some o3 ∧ ((((w.alloc o1).alloc o2).alloc o3).alloc o4).drew.heap[w.heap.size + 1 + 1 + 1]? = some o4 ∧ Below w.heap.size w ((((w.alloc o1).alloc o2).alloc o3).alloc o4).drew := by
  have s1 : (w.alloc o1).heap.size = w.heap.size + 1 := by simp
  have s2 : ((w.alloc o1).alloc o2).heap.size = w.heap.size + 1 + 1 := by simp
  have s3 : (((w.alloc o1).alloc o2).alloc o3).heap.size = w.heap.size + 1 + 1 + 1 := by simp
  have h1 := Go.heap_alloc_new w o1
  have h2 := Go.heap_alloc_new (w.alloc o1) o2
  have h3 := Go.heap_alloc_new ((w.alloc o1).alloc o2) o3
  have h4 := Go.heap_alloc_new (((w.alloc o1).alloc o2).alloc o3) o4
  rw [s1] at h2
  rw [s2] at h3
  rw [s3] at h4
  refine ⟨?_, ?_, ?_, h4, (((((Below.refl _ w).alloc (Nat.le_refl _) o1).alloc (by omega) o2).alloc (by omega) o3).alloc (by omega) o4).drew⟩
  · show ((((w.alloc o1).alloc o2).alloc o3).alloc o4).heap[w.heap.size]? = _
    rw [Below.heap_alloc _ _ _ (by omega), Below.heap_alloc _ _ _ (by omega), Below.heap_alloc _ _ _ (by omega), h1]
  · show ((((w.alloc o1).alloc o2).alloc o3).alloc o4).heap[w.heap.size + 1]? = _
    rw [Below.heap_alloc _ _ _ (by omega), Below.heap_alloc _ _ _ (by omega), h2]
  · show ((((w.alloc o1).alloc o2).alloc o3).alloc o4).heap[w.heap.size + 1 + 1]? = _
    rw [Below.heap_alloc _ _ _ (by omega), h3]
theorem begX {w w1 w4 : World} {W H S : Int} {vo vs : Value} {n b mo ms pb : Nat} (hB : Below w.heap.size w w1) (hc : w1.heap[w.heap.size]? = some (.cells #[.int .i64 W, .int .i64 H, .int .i64 S, vo, vs] 57 (0, 0))) (hb : Below w1.heap.size w1 w4) (hn : 2 ≤ n ∧ n ≤ 4)
    (h1 : w4.heap[b]? = some (.cells #[.int .i64 0, .int .i64 W, .int .i64 H, .int .i64 S, .map (some mo), .map (some ms), .slice (some ⟨pb, 0, none⟩) n n, .slice none 0 0, .slice none 0 0] 84 (0, 0)))
    (h2 : w4.heap[mo]? = some (.map #[] 0)) (h3 : w4.heap[ms]? = some (.map #[] 0)) (h4 : w4.heap[pb]? = some (.cells (madeCells #[.int .i64 0, .slice none 0 0] (n * 2)) 76 (0, 0))) (hne : b ≠ mo ∧ b ≠ ms ∧ b ≠ pb ∧ mo ≠ ms ∧ mo ≠ pb ∧ ms ≠ pb)
    (hge : w1.heap.size ≤ b ∧ w1.heap.size ≤ mo ∧ w1.heap.size ≤ ms ∧ w1.heap.size ≤ pb) : BegX w W H S vo vs n w4 (zeroX b mo ms pb n W H S) := by
  have hlt := lt_of_some hc
  refine ⟨zeroX_rep hn h1 h2 h3 h4 hne, hB.trans (hb.mono hB.size), by rw [hb.block _ hlt]; exact hc, fun r hr => ?_, mo, ms, pb, rfl⟩
  rcases zeroX_foot b mo ms pb n W H S r hr with rfl | rfl | rfl | rfl <;> omega

set_option maxRecDepth 100000 in
set_option maxHeartbeats 4000000 in
theorem xnew_any (w : World) (W H S : Int) (vo vs : Value) (ore starts : List SSpot) (ho : SpIn w vo ore) (hs : SpIn w vs starts) (hl : starts.length ≤ 2000000) (hlo : ore.length ≤ 2000000) (io : I64s ore) (is : I64s starts) :
    Calls Tryz.prog 25 #[.agg #[.int .i64 W, .int .i64 H, .int .i64 S, vo, vs]] w fun e w' => NewX w w' e W H S ore starts := by
  have hb0 : Below w.heap.size w (w.alloc (.cells #[.int .i64 W, .int .i64 H, .int .i64 S, vo, vs] 57)) := (Below.refl _ w).alloc (Nat.le_refl _) _
  have HFi := hidOf (fits_any _ W H S vo vs ore starts (ho.below hb0) (hs.below hb0) hl hlo io is)
  have HB0 := hidOf hb0
  cases hN : newB W H S ore starts
  · rw [hN] at HFi
    obtain ⟨ao, co, rfl, _⟩ := ho
    obtain ⟨aS, cS, rfl, _⟩ := hs
    have HN := hidOf hN
    clear hb0 hN
    go_enter Tryz.func25, Tryz.ntmps25
    go_wp2_with (go_at_call 57; refine HFi.out.mono ?_; rintro e w1 ⟨rfl, hb1⟩)
    go_ret2
    exact ⟨HB0.out.trans (hb1.mono HB0.out.size), .inl ⟨HN.out, rfl⟩⟩
  · rw [hN] at HFi
    have HN := hidOf hN
    have hst : 2 ≤ starts.length ∧ starts.length ≤ 4 := by unfold newB at hN; simp [inB] at hN; omega
    have HO := hidOf ho
    have HSs := hidOf hs
    obtain ⟨ao, co, evo, hso⟩ := ho
    obtain ⟨aS, cS, evs, hss⟩ := hs
    obtain ⟨i0, hi0, hz0, hz1, hz2⟩ := info_parts Tryz.infoXPlayer
    have hmk : ∀ wx : World, (Instr.makeSlice 80 (.int .i64 (starts.length : Int)) (.int .i64 (starts.length : Int))).run Tryz.prog wx = .ok (.slice (some ⟨wx.heap.size, 0, none⟩) starts.length starts.length) (wx.alloc (.cells (madeCells #[.int .i64 0, .slice none 0 0] (starts.length * 2)) 76)) := by
      intro wx
      have := run_make (P := Tryz.prog) wx 80 76 i0 _ Tryz.underlying80 hi0 hz0 .i64 .i64 (starts.length : Int) (starts.length : Int) (by omega) (Int.le_refl _) (by rw [hz2]; omega) (by omega)
      rw [hz1] at this
      have e : ((starts.length : Int)).toNat = starts.length := by omega
      rw [e] at this
      exact this
    have hmm : ∀ wx : World, (Instr.makeMap 79 none).run Tryz.prog wx = .ok (.map (some wx.heap.size)) (wx.alloc (.map #[] 0)) := fun wx => rfl
    clear hb0 hN hso hss hz0 hz1 hz2 hi0
    subst evo evs
    go_enter Tryz.func25, Tryz.ntmps25
    go_upto_region 3 with (go_at_call 57; refine HFi.out.mono ?_; rintro e w1 ⟨rfl, hb1⟩)
    have HB1 := hidOf (HB0.out.trans (hb1.mono HB0.out.size))
    have hc1 : w1.heap[w.heap.size]? = some (.cells #[.int .i64 W, .int .i64 H, .int .i64 S, .slice ao ore.length co, .slice aS starts.length cS] 57 (0, 0)) := by
      rw [hb1.block _ (by simp)]
      exact Go.heap_alloc_new w _
    have e0 : w1.cell? ⟨w.heap.size, 0, none⟩ = some (.int .i64 W) := by rw [cell_of_row _ _ _ _ _ _ hc1]; rfl
    have e1 : w1.cell? ⟨w.heap.size, 1, none⟩ = some (.int .i64 H) := by rw [cell_of_row _ _ _ _ _ _ hc1]; rfl
    have e2 : w1.cell? ⟨w.heap.size, 2, none⟩ = some (.int .i64 S) := by rw [cell_of_row _ _ _ _ _ _ hc1]; rfl
    have e4 : w1.cell? ⟨w.heap.size, 4, none⟩ = some (.slice aS starts.length cS) := by rw [cell_of_row _ _ _ _ _ _ hc1]; rfl
    have hlt := lt_of_some hc1
    have a0 : ∀ o, (w1.alloc o).cell? ⟨w.heap.size, 0, none⟩ = some (.int .i64 W) := fun o => by rw [World.cell?_alloc_past _ _ _ hlt]; exact e0
    have a1 : ∀ o, (w1.alloc o).cell? ⟨w.heap.size, 1, none⟩ = some (.int .i64 H) := fun o => by rw [World.cell?_alloc_past _ _ _ hlt]; exact e1
    have a2 : ∀ o, (w1.alloc o).cell? ⟨w.heap.size, 2, none⟩ = some (.int .i64 S) := fun o => by rw [World.cell?_alloc_past _ _ _ hlt]; exact e2
    have a4 : ∀ o, (w1.alloc o).cell? ⟨w.heap.size, 4, none⟩ = some (.slice aS starts.length cS) := fun o => by rw [World.cell?_alloc_past _ _ _ hlt]; exact e4
    have HC1 := hidOf hc1
    clear hb1 hc1
    go_cut [4] (fun v4 wc => ∃ X, v4 = .pointer (some ⟨X.b, 0, none⟩) ∧ BegX w W H S (.slice ao ore.length co) (.slice aS starts.length cS) starts.length wc X)
    case first =>
      go_region_held3 (fun w' => w'.cell? ⟨w.heap.size, 0, none⟩ = some (.int .i64 W) ∧ w'.cell? ⟨w.heap.size, 1, none⟩ = some (.int .i64 H) ∧ w'.cell? ⟨w.heap.size, 2, none⟩ = some (.int .i64 S) ∧ w'.cell? ⟨w.heap.size, 4, none⟩ = some (.slice aS starts.length cS)) (first | assumption | (refine keepS ?_; assumption) | go_keep) (fail)
      all_goals
        obtain ⟨q1, q2, q3, q4, q5⟩ := four w1 _ _ _ _
        go_wp2_with fail
        go_meet
        exact ⟨_, rfl, begX HB1.out HC1.out q5 hst q4 (by assumption) (by assumption) (by assumption) (by omega) (by omega)⟩
    case rest =>
      obtain ⟨X0, rfl, hbg⟩ := hcut
      have HBg := hidOf hbg
      have e3 : wc.cell? ⟨w.heap.size, 3, none⟩ = some (.slice ao ore.length co) := by rw [cell_of_row _ _ _ _ _ _ hbg.c]; rfl
      clear hbg hmk hmm a0 a1 a2 a4 e0 e1 e2 e4 hlt
      have HAp : Hid ((∀ s ∈ ore, (0 ≤ s.x ∧ s.x ≤ 9) ∧ (0 ≤ s.y ∧ s.y ≤ 9)) ∧ oreD ore ∧ (∀ s ∈ starts, (0 ≤ s.x ∧ s.x ≤ 9) ∧ (0 ≤ s.y ∧ s.y ≤ 9)) ∧ oreD starts ∧ ∀ s ∈ ore, 1 ≤ s.amount ∧ s.amount ≤ 99) := by
        have h := HN.out
        unfold newB at h
        simp only [Bool.and_eq_true, List.all_eq_true] at h
        have hw := h.1.1.1.1.1.1.1
        have hh := h.1.1.1.1.1.1.2
        simp [inB] at hw hh
        obtain ⟨x1, x2⟩ := apart_facts h.1.1.2 (by omega) (by omega)
        obtain ⟨x3, x4⟩ := apart_facts h.1.2 (by omega) (by omega)
        exact ⟨x1, x2, x3, x4, fun s hs => by have := h.2 s hs; simp [inB] at this; exact this⟩
      go_wp2_with fail
      go_loopw [6, 30] (fun _ i w' => ∃ (k : Nat) (l : List CE) (c : Nat), k ≤ ore.length ∧ i = .int .i64 k ∧ Hid (TurnX wc X0 w' ((X0.withLo l c).withOre (ore.take k))) ∧ Hid (OreOK (ore.take k) l)) (fun _ i _ => ore.length + 1 - (intOf i).toNat)
      case atStart =>
        obtain ⟨mo, ms, pb, hz⟩ := HBg.out.is
        refine ⟨0, X0.lo, X0.co, Nat.zero_le _, rfl, (TurnX.refl HBg.out.rep).withOre _, ?_⟩
        unfold Hid
        rw [hz]
        intro x y
        rfl
      case round =>
        obtain ⟨k, l, c, hk, rfl, T, O⟩ := hrel
        obtain ⟨lowB, lowC⟩ := HBg.out.low T.out.kept
        clear e3
        by_cases hlt : k < ore.length
        · obtain ⟨b, off, eao, hbl, d0', d1', d2'⟩ := SpIn.cells HO.out hlt
          subst eao
          have d0 : wr.cell? ⟨b, off + k * 3, none⟩ = some (.int .i64 ore[k].x) := (lowB.cell hbl).trans d0'
          have d1 : wr.cell? ⟨b, off + k * 3 + 1, none⟩ = some (.int .i64 ore[k].y) := (lowB.cell hbl).trans d1'
          have d2 : wr.cell? ⟨b, off + k * 3 + 2, none⟩ = some (.int .i64 ore[k].amount) := (lowB.cell hbl).trans d2'
          have bxy := HAp.out.1 ore[k] (List.getElem_mem hlt)
          have hb2 : Below wr.heap.size wr (wr.alloc (.cells #[.int .i64 ore[k].x, .int .i64 ore[k].y, .int .i64 ore[k].amount] 63)) := (Below.refl _ wr).alloc (Nat.le_refl _) _
          have T2 := hidOf (T.out.below hb2)
          have c3 : (wr.alloc (.cells #[.int .i64 ore[k].x, .int .i64 ore[k].y, .int .i64 ore[k].amount] 63)).cell? ⟨X0.b, 4, none⟩ = some (.map (some X0.mo)) := T2.out.rep.cellTop rfl
          obtain ⟨w3, hup, hm3, hp3⟩ := T2.out.rep.ore.drew.update ore[k].x ore[k].y ore[k].amount bxy.1 bxy.2
          have hup' : (Instr.mapUpdate 79 (.map (some X0.mo)) (.complex .f64 (flI ore[k].x) (flI ore[k].y)) (.int .i64 ore[k].amount)).run Tryz.prog (wr.alloc (.cells #[.int .i64 ore[k].x, .int .i64 ore[k].y, .int .i64 ore[k].amount] 63)).drew = .ok () w3 := hup
          have T3 := hidOf ((T2.out.drew.ore1 hp3 hm3).withOre (ore.take (k + 1)))
          have O3 : Hid (OreOK (ore.take (k + 1)) (cput ore[k].x ore[k].y ore[k].amount c l)) := by
            unfold Hid
            rw [List.take_succ_eq_append_getElem hlt]
            refine O.out.add ore[k] (by have := (HAp.out.2.2.2.2 ore[k] (List.getElem_mem hlt)).1; omega) (fun t ht e => ?_) c
            obtain ⟨j, hj, rfl⟩ := List.mem_iff_getElem.1 ht
            have hj' : j < k := by simp at hj; omega
            have hd := HAp.out.2.1
            have := List.pairwise_iff_getElem.1 hd j k (by omega) hlt hj'
            exact this (by simpa using e)
          have kx : w3.cell? ⟨X0.b, 4, none⟩ = some (.map (some X0.mo)) := T3.out.rep.cellTop rfl
          have kb := Go.heap_alloc_new wr (.cells #[.int .i64 ore[k].x, .int .i64 ore[k].y, .int .i64 ore[k].amount] 63)
          have hmo : wr.heap.size ≠ X0.mo := fun e => by have := T.out.rep.lt X0.mo xfoot_mo; omega
          have kb3 : w3.heap[wr.heap.size]? = some (.cells #[.int .i64 ore[k].x, .int .i64 ore[k].y, .int .i64 ore[k].amount] 63 (0, 0)) := by rw [hp3.block _ hmo]; exact kb
          have k0 : w3.cell? ⟨wr.heap.size, 0, none⟩ = some (.int .i64 ore[k].x) := by rw [cell_of_row _ _ _ _ _ _ kb3]; rfl
          have k1 : w3.cell? ⟨wr.heap.size, 1, none⟩ = some (.int .i64 ore[k].y) := by rw [cell_of_row _ _ _ _ _ _ kb3]; rfl
          have k2 : w3.cell? ⟨wr.heap.size, 2, none⟩ = some (.int .i64 ore[k].amount) := by rw [cell_of_row _ _ _ _ _ _ kb3]; rfl
          clear d0' d1' d2' hup hm3 hp3 T2 kb kb3 hmo
          go_wp2_with fail
          go_region_held3 (fun w' => w'.cell? ⟨X0.b, 4, none⟩ = some (.map (some X0.mo)) ∧ w'.cell? ⟨wr.heap.size, 0, none⟩ = some (.int .i64 ore[k].x) ∧ w'.cell? ⟨wr.heap.size, 1, none⟩ = some (.int .i64 ore[k].y) ∧ w'.cell? ⟨wr.heap.size, 2, none⟩ = some (.int .i64 ore[k].amount)) (first | assumption | exact ⟨kx, k0, k1, k2⟩ | go_keep) (first | (go_at_call 58; refine (at_any _ _ _).mono ?_; rintro e w' ⟨rfl, h⟩; rw [h]; clear h w'))
          all_goals
            go_wp2
            exact ⟨⟨k + 1, _, _, by omega, by go_num, T3, O3⟩, by simp [intOf]; omega⟩
        · have hkl : k = ore.length := by omega
          have e4 : wr.cell? ⟨w.heap.size, 4, none⟩ = some (.slice aS starts.length cS) := by rw [cell_of_row _ _ _ _ _ _ lowC]; rfl
          rw [hkl, List.take_of_length_le (Nat.le_refl _)] at T O
          have ST : Hid (((X0.withLo l c).withOre ore).S = startS W H S ore starts 0) ∧ Hid (OkX ((X0.withLo l c).withOre ore)) := by
            obtain ⟨mo, ms, pb, hz⟩ := HBg.out.is
            obtain ⟨x1, x2⟩ := startS_zero X0 X0.b mo ms pb starts.length W H S l c ore starts hz rfl
            exact ⟨x1, x2 ⟨O.out, HAp.out.2.1⟩⟩
          have SL : Hid (((X0.withLo l c).withOre ore).sales = []) := by
            obtain ⟨mo, ms, pb, hz⟩ := HBg.out.is
            unfold Hid
            rw [hz]
            rfl
          clear hkl lowB lowC
          go_wp2_with fail
          go_loopw [7, 8, 49] (fun _ _ i w' => ∃ (k : Nat) (X : XW), k ≤ starts.length ∧ i = .int .i64 k ∧ Hid (TurnX wc X0 w' X) ∧ Hid (OkX X) ∧ Hid (X.S = startS W H S ore starts k) ∧ Hid (X.sales = [])) (fun _ _ i _ => starts.length + 1 - (intOf i).toNat)
          case atStart => exact ⟨0, _, Nat.zero_le _, rfl, T, ST.2, ST.1, SL⟩
          case round =>
            clear e4 ST SL T O hlt hk
            obtain ⟨m, X, hk, rfl, T, O, HS, HSl⟩ := hrel
            obtain ⟨lowB, lowC⟩ := HBg.out.low T.out.kept
            by_cases hlt : m < starts.length
            · obtain ⟨b, off, eao, hbl, d0', d1', d2'⟩ := SpIn.cells HSs.out hlt
              subst eao
              have d0 : wr.cell? ⟨b, off + m * 3, none⟩ = some (.int .i64 starts[m].x) := (lowB.cell hbl).trans d0'
              have d1 : wr.cell? ⟨b, off + m * 3 + 1, none⟩ = some (.int .i64 starts[m].y) := (lowB.cell hbl).trans d1'
              have d2 : wr.cell? ⟨b, off + m * 3 + 2, none⟩ = some (.int .i64 starts[m].amount) := (lowB.cell hbl).trans d2'
              have hXl : X.pls.length = starts.length := by
                have e : X.S.players.length = X.pls.length := by simp [XW.S]
                rw [← e, HS.out]
                simp [startS]
                omega
              obtain ⟨pb, pcap, hvp, hpc, hpm⟩ := T.out.rep.plForm (by omega)
              unfold maxLen at hpm
              obtain ⟨p, v, hq⟩ := xat_of_lt (X := X) (n := m) (by omega)
              have hp0 : p = zeroP := by
                have e := XS_at hq
                rw [HS.out, startS_at hlt] at e
                injection e with e
                exact e.symm
              subst hp0
              have hXb : X.b = X0.b := T.out.b
              have c5 : wr.cell? ⟨X0.b, 6, none⟩ = some (.slice (some ⟨pb, 0, none⟩) starts.length pcap) := by rw [← hXb, ← hXl, ← hvp]; exact T.out.rep.cellTop rfl
              have m0 : wr.cell? ⟨pb, m * 2, none⟩ = some (.int .i64 0) := (T.out.rep.plCell hq hvp).1
              have fz := T.out.rep.plFrozen hvp (m * 2)
              have hlb := T.out.rep.lt X.b xfoot_b
              rw [hXb] at hlb
              have hlp := T.out.rep.lt pb (xfoot_pl (by simp [hvp, blk_slice]))
              have HQ := hidOf hq
              have HVP := hidOf hvp
              have HXb := hidOf hXb
              have HXl := hidOf hXl
              clear d0' d1' d2' hq hvp hXb hXl
              have bxy := HAp.out.2.2.1 starts[m] (List.getElem_mem hlt)
              have HPl := hidOf (fun o => newPlace T.out m v HQ.out (by rw [HXl.out]; exact hst) starts[m] bxy.1 bxy.2 (start_free hlt HS.out O.out HAp.out.2.2.2.1) O.out pb pcap HVP.out o)
              rw [HXb.out] at HPl
              go_wp2_with (first | (go_at_call 58; refine (at_any _ _ _).mono ?_; rintro e w' ⟨rfl, h⟩; rw [h]; clear h w') | (go_at_call 59; refine (HPl.out _).mono ?_; rintro e w5 ⟨rfl, X', T', O', S', L'⟩))
              refine ⟨⟨m + 1, X', by omega, by go_num, T', O', ?_, L'.out.trans HSl.out⟩, by simp [intOf]; omega⟩
              unfold Hid
              rw [S'.out, HS.out, startS_succ hlt]
            · have hml : m = starts.length := by omega
              have hE : X.S = newS W H S ore starts := by rw [HS.out, hml, startS_end]
              have HE := hidOf hE
              have HXb := hidOf T.out.b
              have HLB := hidOf lowB
              clear hml hE lowB lowC
              go_wp2
              go_ret2
              refine ⟨HLB.out, .inr ⟨HN.out, X, ?_, T.out.rep, O.out, HE.out, HSl.out, fun r hr => ?_⟩⟩
              · exact ret_n2 (by rw [HXb.out]) rfl
              · rcases T.out.ext r hr with h | h
                · have := HBg.out.foot r h; omega
                · have := HBg.out.b.size; omega
end Go.Proofs.YtlafddeoheambaaGreatDoor

/-
  The function staked of package haze: all that a player has bid for open lots.
-/
namespace Go.Proofs.YtlafddeoheambaaGreatDoor
open Go.RowKit

def stakedX (s : List XLot) (n : Nat) : Int := (s.map (fun l => l.bid n)).sum
theorem stakedX_snoc (s : List XLot) (l : XLot) (n : Nat) : stakedX (s ++ [l]) n = stakedX s n + l.bid n := by simp [stakedX]
theorem stakedX_bd {s : List XLot} {n : Nat} (h : ∀ l ∈ s, 0 ≤ l.bid n ∧ l.bid n ≤ 100000) : 0 ≤ stakedX s n ∧ stakedX s n ≤ 100000 * s.length := by
  induction s with
  | nil => simp [stakedX]
  | cons a s ih =>
    have h1 := h a (by simp)
    have h2 := ih (fun l hl => h l (by simp [hl]))
    simp only [stakedX, List.map_cons, List.sum_cons, List.length_cons] at h2 ⊢
    omega
/-- The cells of a lot. -/
theorem lotCellsAt {w : World} {s : List XLot} {ao : Option Addr} {g : Nat} (rd : Rd w 7 ao g s.length (s.flatMap xlotCells)) {k : Nat} (hk : k < s.length) :
    w.cell? ⟨g, k * 7, none⟩ = some (.string s[k].name) ∧ w.cell? ⟨g, k * 7 + 1, none⟩ = some (.int .i64 s[k].ends) ∧ w.cell? ⟨g, k * 7 + 2, none⟩ = some (.int .i64 s[k].least) ∧ ∀ n, n < 4 → w.cell? ⟨g, k * 7 + 3 + n, none⟩ = some (.int .i64 (s[k].bid n)) := by
  have f := fun j (hj : j < 7) => flat_at xlotCells 7 (fun _ => rfl) s k j hk hj
  refine ⟨rd.cell _ _ (f 0 (by omega)), rd.cell _ _ (f 1 (by omega)), rd.cell _ _ (f 2 (by omega)), fun n hn => ?_⟩
  rw [Nat.add_assoc]
  refine rd.cell _ _ ?_
  rw [f (3 + n) (by omega)]
  rcases (show n = 0 ∨ n = 1 ∨ n = 2 ∨ n = 3 by omega) with rfl | rfl | rfl | rfl <;> rfl

set_option maxHeartbeats 1000000 in
theorem xstaked_any (w : World) (X : XW) (n : Nat) (hn : n < 4) (hr : RepX w X) (hl : X.opens.length ≤ 4) (hb : ∀ l ∈ X.opens, 0 ≤ l.bid n ∧ l.bid n ≤ 100000) :
    Calls Tryz.prog 65 #[.pointer (some ⟨X.b, 0, none⟩), .int .i64 n] w fun e w' => e = .returned (.int .i64 (stakedX X.opens n)) ∧ w' = w := by
  obtain ⟨ao, g, cap, hv, hcap, hmax, rd⟩ := own_rd hr.lot.1
  have c7 : w.cell? ⟨X.b, 7, none⟩ = some (.slice ao X.opens.length cap) := by rw [← hv]; exact hr.cellTop rfl
  unfold maxLen at hmax
  clear hv
  have HR := hidOf hr
  clear hr
  go_enter Tryz.func65, Tryz.ntmps65
  go_wp2
  go_loop [5, 6, 12] (fun s _ i => ∃ k : Nat, k ≤ X.opens.length ∧ i = .int .i64 k ∧ s = .int .i64 (stakedX (X.opens.take k) n)) (fun _ _ i => X.opens.length + 1 - (intOf i).toNat)
  case atStart => exact ⟨0, Nat.zero_le _, rfl, rfl⟩
  case round =>
    obtain ⟨k, hk, rfl, rfl⟩ := hrel
    have bd := stakedX_bd (s := X.opens.take k) (n := n) (fun l hl => hb l (List.mem_of_mem_take hl))
    have bl : (X.opens.take k).length ≤ k := List.length_take_le _ _
    by_cases hlt : k < X.opens.length
    · obtain rfl := rd.base (by omega)
      have cb := (lotCellsAt rd hlt).2.2.2 n hn
      have hs : Hid (stakedX (X.opens.take (k + 1)) n = stakedX (X.opens.take k) n + X.opens[k].bid n) := by
        unfold Hid; rw [List.take_succ_eq_append_getElem hlt, stakedX_snoc]
      have hbk := hb X.opens[k] (List.getElem_mem hlt)
      clear hb
      go_wp2
      exact ⟨⟨k + 1, by omega, by go_num, vint hs.out.symm⟩, by simp [intOf]; omega⟩
    · have G : Hid (stakedX (X.opens.take k) n = stakedX X.opens n) := by unfold Hid; rw [List.take_of_length_le (by omega)]
      go_wp2
      go_ret
      exact ⟨ret_int G.out, rfl⟩

/-- What holds of the bids of open lots. -/
theorem LotRel.bidBd {opens : List XLot} {lots : List SLot} {bss : List (List SBid)} {now : Int} (h : LotRel opens lots bss) (hw : LotWF lots bss now) : ∀ l ∈ opens, ∀ n, 0 ≤ l.bid n ∧ l.bid n ≤ 100000 := by
  intro l hl n
  rw [h.bid l hl n]
  unfold bidAt
  have key : ∀ b : List SBid, (∀ x ∈ b, 0 < x.n ∧ x.n ≤ 100000) → 0 ≤ bidI b l.name ∧ bidI b l.name ≤ 100000 := by
    intro b hb
    induction b with
    | nil => simp [bidI]
    | cons x b ih =>
      simp only [bidI]
      split
      · have := hb x (by simp); omega
      · exact ih (fun y hy => hb y (by simp [hy]))
  cases hb : bss[n]? with
  | none => exact key [] (by simp)
  | some b => exact key b (hw.bids b (List.mem_of_getElem? hb)).pos
/-- The same, as the document says it. -/
theorem xstaked_ok (w : World) (X : XW) (n : Nat) (p : SPlayer) (v : XV) (hr : RepX w X) (ho : OkX X) (hw : LotWF X.lots (X.pls.map (·.1.bids)) X.now) (hq : X.pls[n]? = some (p, v)) (h4 : X.pls.length ≤ 4) :
    Calls Tryz.prog 65 #[.pointer (some ⟨X.b, 0, none⟩), .int .i64 n] w fun e w' => e = .returned (.int .i64 (stakedI p.bids emptyB)) ∧ w' = w := by
  obtain ⟨hn, _⟩ := at_some hq
  have e := ho.lot.staked hw n
  have e' : ((X.pls.map (·.1.bids))[n]?).getD [] = p.bids := by simp [hq]
  rw [e'] at e
  have := xstaked_any w X n (by omega) hr (by rw [ho.lot.len]; exact hw.len) (fun l hl => ho.lot.bidBd hw l hl n)
  have e2 : stakedX X.opens n = stakedI p.bids emptyB := e
  rw [e2] at this
  exact this
theorem staked_le {X : XW} {n : Nat} {p : SPlayer} {v : XV} (ho : OkX X) (hw : LotWF X.lots (X.pls.map (·.1.bids)) X.now) (hq : X.pls[n]? = some (p, v)) : 0 ≤ stakedI p.bids emptyB ∧ stakedI p.bids emptyB ≤ 400000 := by
  have e := ho.lot.staked hw n
  have e' : ((X.pls.map (·.1.bids))[n]?).getD [] = p.bids := by simp [hq]
  rw [e'] at e
  have h1 := stakedX_bd (s := X.opens) (n := n) (fun l hl => ho.lot.bidBd hw l hl n)
  have h2 : X.opens.length ≤ 4 := by rw [ho.lot.len]; exact hw.len
  have e2 : stakedX X.opens n = stakedI p.bids emptyB := e
  omega
end Go.Proofs.YtlafddeoheambaaGreatDoor

/-
  The functions strings.Compare, slices.BinarySearchFunc (over the open lots) and seek of package haze.
-/
namespace Go.Proofs.YtlafddeoheambaaGreatDoor
open Go.Shelf
shelf_lay Lays.n106 Nm 106 at Tryz as Tryz.laysCompare
end Go.Proofs.YtlafddeoheambaaGreatDoor
namespace Go.Proofs.YtlafddeoheambaaGreatDoor
open Go.RowKit

def cmpI (a b : ByteArray) : Int := Lib.compareBytes a.data.toList b.data.toList
theorem cmpI_eq (a b : ByteArray) : cmpI a b = if ltB a b then -1 else if a = b then 0 else 1 := by
  unfold cmpI
  rw [cmp_bl]
  unfold ltB
  rw [Lib.toList_data, Lib.toList_data]
  by_cases e : a = b
  · subst e; simp
  · have : a.data.toList ≠ b.data.toList := fun h => e (bytes_ext h)
    rw [if_neg e, if_neg this]
theorem cmpI_neg (a b : ByteArray) : cmpI a b < 0 ↔ ltB a b = true := by
  rw [cmpI_eq]
  cases ltB a b
  · simp only [Bool.false_eq_true, if_false]
    split <;> simp
  · simp
theorem cmpI_zero (a b : ByteArray) : cmpI a b = 0 ↔ a = b := by
  rw [cmpI_eq]
  by_cases e : a = b
  · subst e; simp [ltB_irrefl]
  · rw [if_neg e]
    cases ltB a b <;> simp [e]
theorem compare_any (a b : ByteArray) (w : World) : Calls Tryz.prog 84 #[.string a, .string b] w fun e w' => e = .returned (.int .i64 (cmpI a b)) ∧ w' = w := Any.strings_Compare Tryz.laysCompare a b w

set_option maxRecDepth 100000 in
set_option maxHeartbeats 1000000 in
theorem seek1_any (l : XLot) (nm : ByteArray) (w : World) : Calls Tryz.prog 83 #[.agg #[.string l.name, .int .i64 l.ends, .int .i64 l.least, .int .i64 (l.bid 0), .int .i64 (l.bid 1), .int .i64 (l.bid 2), .int .i64 (l.bid 3)], .string nm] w fun e w' => e = .returned (.int .i64 (cmpI l.name nm)) ∧ Below w.heap.size w w' := by
  have hb : Below w.heap.size w (w.alloc (.cells #[.string l.name, .int .i64 l.ends, .int .i64 l.least, .int .i64 (l.bid 0), .int .i64 (l.bid 1), .int .i64 (l.bid 2), .int .i64 (l.bid 3)] 108)) := (Below.refl _ w).alloc (Nat.le_refl _) _
  have HB := hidOf hb
  clear hb
  go_enter Tryz.func83, Tryz.ntmps83
  go_wp2_with (go_at_call 84; refine (compare_any _ _ _).mono ?_; rintro e w' ⟨rfl, h⟩; rw [h]; clear h w')
  go_ret
  exact ⟨rfl, HB.out⟩

def foundX (s : List XLot) (nm : ByteArray) : Bool := match s[placeX s nm]? with
  | none => false
  | some l => decide (l.name = nm)
/-- All in front are below, all behind are not: that is the place. -/
theorem placeX_is {s : List XLot} (h : AscX s) (nm : ByteArray) {k : Nat} (hk : k ≤ s.length) (h1 : ∀ t l, t < k → s[t]? = some l → ltB l.name nm = true) (h2 : ∀ t l, k ≤ t → s[t]? = some l → ltB l.name nm = false) : placeX s nm = k := by
  have hle := placeX_le s nm
  rcases Nat.lt_trichotomy (placeX s nm) k with hlt | he | hgt
  · have hp : s[placeX s nm]? = some (s[placeX s nm]'(by omega)) := by simp [show placeX s nm < s.length by omega]
    have := (asc_below h nm hp).1 (h1 _ _ hlt hp)
    omega
  · exact he
  · have hp : s[k]? = some (s[k]'(by omega)) := by simp [show k < s.length by omega]
    have := (asc_below h nm hp).2 hgt
    rw [h2 k _ (Nat.le_refl _) hp] at this
    cases this

set_option maxRecDepth 100000 in
set_option maxHeartbeats 4000000 in
theorem search_any (w : World) (s : List XLot) (ao : Option Addr) (g cap : Nat) (nm : ByteArray) (hasc : AscX s) (hcap : s.length ≤ cap) (hl : s.length ≤ 4) (rd : Rd w 7 ao g s.length (s.flatMap xlotCells)) (hg : 0 < s.length → g < w.heap.size) :
    Calls Tryz.prog 82 #[.slice ao s.length cap, .string nm, .func (.func 83) #[] #[]] w fun e w' => e = .returned (.tuple #[.int .i64 (placeX s nm), .bool (foundX s nm)]) ∧ Below w.heap.size w w' := by
  have HA := hidOf hasc
  have HR := hidOf rd
  have HG := hidOf hg
  clear hasc rd hg
  obtain ⟨fin, hfin⟩ : ∃ b, b = foundX s nm := ⟨_, rfl⟩
  have FIN := hidOf hfin
  rw [← hfin]
  clear hfin
  obtain ⟨plc, hplc⟩ : ∃ k, k = placeX s nm := ⟨_, rfl⟩
  have PLC := hidOf hplc
  rw [← hplc]
  clear hplc
  go_enter Tryz.func82, Tryz.ntmps82
  go_wp2
  go_loopw [9, 10, 11] (fun s9 s10 _ wr => ∃ lo hi : Nat, s9 = .int .i64 lo ∧ s10 = .int .i64 hi ∧ lo ≤ hi ∧ hi ≤ s.length ∧ Hid (Below w.heap.size w wr) ∧ Hid ((∀ t l, t < lo → s[t]? = some l → ltB l.name nm = true) ∧ (∀ t l, hi ≤ t → s[t]? = some l → ltB l.name nm = false))) (fun s9 s10 _ _ => (intOf s10).toNat - (intOf s9).toNat)
  case atStart => exact ⟨0, s.length, rfl, rfl, Nat.zero_le _, Nat.le_refl _, Below.refl _ _, fun t l ht => absurd ht (Nat.not_lt_zero _), fun t l h1 h2 => by have := (at_some h2).1; omega⟩
  case round =>
    obtain ⟨lo, hi, rfl, rfl, hlh, hin, HB, I⟩ := hrel
    by_cases hlt : lo < hi
    · have hm : (lo + hi) / 2 < s.length := by omega
      obtain rfl := HR.out.base (by omega)
      have hgl := HG.out (by omega)
      obtain ⟨c0, c1, c2, c3⟩ := lotCellsAt HR.out hm
      have d0 := (HB.out.cell (p := ⟨g, (lo + hi) / 2 * 7, none⟩) hgl).trans c0
      have d1 := (HB.out.cell (p := ⟨g, (lo + hi) / 2 * 7 + 1, none⟩) hgl).trans c1
      have d2 := (HB.out.cell (p := ⟨g, (lo + hi) / 2 * 7 + 2, none⟩) hgl).trans c2
      have d3 := (HB.out.cell (p := ⟨g, (lo + hi) / 2 * 7 + 3, none⟩) hgl).trans (c3 0 (by omega))
      have d4 := (HB.out.cell (p := ⟨g, (lo + hi) / 2 * 7 + 4, none⟩) hgl).trans (c3 1 (by omega))
      have d5 := (HB.out.cell (p := ⟨g, (lo + hi) / 2 * 7 + 5, none⟩) hgl).trans (c3 2 (by omega))
      have d6 := (HB.out.cell (p := ⟨g, (lo + hi) / 2 * 7 + 6, none⟩) hgl).trans (c3 3 (by omega))
      clear c0 c1 c2 c3
      have hmid : s[(lo + hi) / 2]? = some s[(lo + hi) / 2] := by simp [hm]
      have HC := hidOf (seek1_any s[(lo + hi) / 2] nm wr)
      obtain ⟨y, hy⟩ : ∃ y, y = s[(lo + hi) / 2] := ⟨_, rfl⟩
      rw [← hy] at d0 d1 d2 d3 d4 d5 d6 HC hmid
      have HM := hidOf hmid
      clear hy hmid
      obtain ⟨cv, hcv⟩ : ∃ cv, cv = cmpI y.name nm := ⟨_, rfl⟩
      rw [← hcv] at HC
      have HCV := hidOf hcv
      clear hcv
      by_cases hyx : cv < 0
      · have hl1 : ltB y.name nm = true := (cmpI_neg _ _).1 (by rw [← HCV.out]; exact hyx)
        have I2 : Hid ((∀ t l, t < (lo + hi) / 2 + 1 → s[t]? = some l → ltB l.name nm = true) ∧ (∀ t l, hi ≤ t → s[t]? = some l → ltB l.name nm = false)) := by
          refine ⟨fun t l ht hs => ?_, I.out.2⟩
          have := (asc_below HA.out nm HM.out).1 hl1
          exact (asc_below HA.out nm hs).2 (by omega)
        clear hl1
        go_wp2_with (go_at_call 83; refine HC.out.mono ?_; rintro e w1 ⟨rfl, hb1⟩)
        refine ⟨⟨(lo + hi) / 2 + 1, hi, ?_, rfl, by omega, hin, HB.out.trans (hb1.mono HB.out.size), I2⟩, by simp [intOf]; omega⟩
        go_num
      · have hl1 : ltB y.name nm = false := by
          cases h : ltB y.name nm
          · rfl
          · exact absurd (by rw [HCV.out]; exact (cmpI_neg _ _).2 h) hyx
        have I2 : Hid ((∀ t l, t < lo → s[t]? = some l → ltB l.name nm = true) ∧ (∀ t l, (lo + hi) / 2 ≤ t → s[t]? = some l → ltB l.name nm = false)) := by
          refine ⟨I.out.1, fun t l ht hs => ?_⟩
          cases h : ltB l.name nm
          · rfl
          · have h3 := (asc_below HA.out nm hs).1 h
            have h4 := (asc_below HA.out nm HM.out).2 (by omega)
            rw [hl1] at h4
            cases h4
        clear hl1
        go_wp2_with (go_at_call 83; refine HC.out.mono ?_; rintro e w1 ⟨rfl, hb1⟩)
        refine ⟨⟨lo, (lo + hi) / 2, rfl, ?_, by omega, by omega, HB.out.trans (hb1.mono HB.out.size), I2⟩, by simp [intOf]; omega⟩
        go_num
    · obtain rfl : hi = lo := by omega
      have ep : placeX s nm = hi := placeX_is HA.out nm hin I.out.1 I.out.2
      have e0 : plc = hi := PLC.out.trans ep
      subst e0
      by_cases hn : plc < s.length
      · obtain rfl := HR.out.base (by omega)
        have hgl := HG.out (by omega)
        obtain ⟨c0, c1, c2, c3⟩ := lotCellsAt HR.out hn
        have d0 := (HB.out.cell (p := ⟨g, plc * 7, none⟩) hgl).trans c0
        have d1 := (HB.out.cell (p := ⟨g, plc * 7 + 1, none⟩) hgl).trans c1
        have d2 := (HB.out.cell (p := ⟨g, plc * 7 + 2, none⟩) hgl).trans c2
        have d3 := (HB.out.cell (p := ⟨g, plc * 7 + 3, none⟩) hgl).trans (c3 0 (by omega))
        have d4 := (HB.out.cell (p := ⟨g, plc * 7 + 4, none⟩) hgl).trans (c3 1 (by omega))
        have d5 := (HB.out.cell (p := ⟨g, plc * 7 + 5, none⟩) hgl).trans (c3 2 (by omega))
        have d6 := (HB.out.cell (p := ⟨g, plc * 7 + 6, none⟩) hgl).trans (c3 3 (by omega))
        clear c0 c1 c2 c3
        have HC := hidOf (seek1_any s[plc] nm wr)
        have hfd : foundX s nm = decide (cmpI s[plc].name nm = 0) := by
          unfold foundX
          rw [ep]
          have : s[plc]? = some s[plc] := by simp [hn]
          rw [this]
          simp only
          by_cases e : s[plc].name = nm
          · rw [decide_eq_true e, decide_eq_true ((cmpI_zero _ _).2 e)]
          · rw [decide_eq_false e, decide_eq_false (fun h => e ((cmpI_zero _ _).1 h))]
        have HFD := hidOf (FIN.out.trans hfd)
        clear hfd ep
        obtain ⟨y, hy⟩ : ∃ y, y = s[plc] := ⟨_, rfl⟩
        rw [← hy] at d0 d1 d2 d3 d4 d5 d6 HC HFD
        clear hy
        obtain ⟨cv, hcv⟩ : ∃ cv, cv = cmpI y.name nm := ⟨_, rfl⟩
        rw [← hcv] at HC HFD
        clear hcv
        by_cases hyx : cv = 0
        · rw [decide_eq_true hyx] at HFD
          subst hyx
          go_wp2_with (go_at_call 83; refine HC.out.mono ?_; rintro e w1 ⟨rfl, hb1⟩)
          go_ret2
          exact ⟨by rw [HFD.out]; rfl, HB.out.trans (hb1.mono HB.out.size)⟩
        · rw [decide_eq_false hyx] at HFD
          have hyx' : (cv == 0) = false := beq_eq_false_iff_ne.2 hyx
          go_wp2_with (go_at_call 83; refine HC.out.mono ?_; rintro e w1 ⟨rfl, hb1⟩)
          go_ret2
          exact ⟨by rw [HFD.out]; rfl, HB.out.trans (hb1.mono HB.out.size)⟩
      · have HFD : Hid (fin = false) := by
          unfold Hid
          rw [FIN.out]
          unfold foundX
          rw [ep]
          have : s[plc]? = none := by simp; omega
          rw [this]
        clear ep
        go_wp2
        go_ret2
        exact ⟨by rw [HFD.out]; rfl, HB.out⟩

set_option maxRecDepth 100000 in
set_option maxHeartbeats 2000000 in
theorem seek_any (w : World) (X : XW) (nm : ByteArray) (hr : RepX w X) (hasc : AscX X.opens) (hl : X.opens.length ≤ 4) :
    Calls Tryz.prog 40 #[.pointer (some ⟨X.b, 0, none⟩), .string nm] w fun e w' => e = .returned (.tuple #[.int .i64 (placeX X.opens nm), .bool (foundX X.opens nm)]) ∧ Below w.heap.size w w' := by
  obtain ⟨ao, g, cap, hv, hcap, hmax, rd⟩ := own_rd hr.lot.1
  have c7 : w.cell? ⟨X.b, 7, none⟩ = some (.slice ao X.opens.length cap) := by rw [← hv]; exact hr.cellTop rfl
  have hg : 0 < X.opens.length → g < w.heap.size := fun h => by
    have e := rd.base h
    exact own_lt hr.lot.1 g (by rw [hv, e]; simp [blk_slice])
  have HS := hidOf (search_any w X.opens ao g cap nm hasc hcap hl rd hg)
  clear hv hcap hmax rd hg hasc hr
  go_enter Tryz.func40, Tryz.ntmps40
  go_wp2_with (go_at_call 82; refine HS.out.mono ?_; rintro e w1 ⟨rfl, hb1⟩)
  go_ret2
  exact ⟨rfl, hb1⟩
end Go.Proofs.YtlafddeoheambaaGreatDoor

/-
  What becomes of the program's world in memory where its rows of lots turn; and where only what is said of it turns (bids, news), and nothing in memory.
-/
namespace Go.Proofs.YtlafddeoheambaaGreatDoor
open Go.RowKit

def XW.withL (X : XW) (v : Value) (l : List XLot) (v' : Value) (l' : List XSale) (R : Nat → Role) : XW := { X with vOp := v, opens := l, vCl := v', sales := l', R := R }

theorem Roles.ne {X : XW} (R : Roles X) {a b : Nat} {ρ σ : Role} (ha : X.R a = ρ) (hb : X.R b = σ) (h : ρ ≠ σ) : a ≠ b := fun e => h (by rw [← ha, ← hb, e])
theorem RepX.withL {w w' : World} {X : XW} (h : RepX w X) {v v' : Value} {l : List XLot} {l' : List XSale} {R' : Nat → Role} (hs : ∀ r ∈ X.foot, r ≠ X.b → r ∉ blk X.vOp → r ∉ blk X.vCl → w'.heap[r]? = w.heap[r]?)
    (ht : w'.heap[X.b]? = some (.cells (X.withL v l v' l' R').cells 84 (0, 0))) (hl : RepL w' v l v' l') (hR : ∀ r ∈ X.foot, r ∉ blk X.vOp → r ∉ blk X.vCl → R' r = X.R r) (hL : RolesL R' v v') : RepX w' (X.withL v l v' l' R') := by
  have R := h.roles
  have nOp : ∀ r ρ, X.R r = ρ → ρ ≠ .opn → r ∉ blk X.vOp := fun r ρ hr hne hm => hne (by rw [← hr, R.lot.1 r hm])
  have nCl : ∀ r ρ, X.R r = ρ → ρ ≠ .cls → r ∉ blk X.vCl := fun r ρ hr hne hm => hne (by rw [← hr, R.lot.2 r hm])
  have far : ∀ r ρ, r ∈ X.foot → X.R r = ρ → ρ ≠ .top → ρ ≠ .opn → ρ ≠ .cls → w'.heap[r]? = w.heap[r]? := fun r ρ hf hr h1 h2 h3 => hs r hf (R.ne hr R.b h1) (nOp r ρ hr h2) (nCl r ρ hr h3)
  have rol : ∀ r ρ, r ∈ X.foot → X.R r = ρ → ρ ≠ .opn → ρ ≠ .cls → R' r = ρ := fun r ρ hf hr h2 h3 => (hR r hf (nOp r ρ hr h2) (nCl r ρ hr h3)).trans hr
  refine ⟨ht, h.ore.same (far _ _ xfoot_mo R.mo (by simp) (by simp) (by simp)), h.st.same (far _ _ xfoot_ms R.ms (by simp) (by simp) (by simp)), own_same h.pl (fun r hr => far r _ (xfoot_pl hr) (R.pl r hr) (by simp) (by simp) (by simp)), hl,
    fun j q hq => ⟨own_same (h.each j q hq).row (fun r hr => far r _ (xfoot_row (X := X) hq hr) (R.row j q hq r hr) (by simp) (by simp) (by simp)), (h.each j q hq).len, fun k u x hu hx => ((h.each j q hq).unit k u x hu hx).same (far _ _ (xfoot_u (X := X) hq hx) (R.unit j q k x hq hx) (by simp) (by simp) (by simp))⟩,
    ⟨rol _ _ xfoot_b R.b (by simp) (by simp), rol _ _ xfoot_mo R.mo (by simp) (by simp), rol _ _ xfoot_ms R.ms (by simp) (by simp), fun r hr => rol r _ (xfoot_pl hr) (R.pl r hr) (by simp) (by simp), hL, fun i q hq r hr => rol r _ (xfoot_row (X := X) hq hr) (R.row i q hq r hr) (by simp) (by simp), fun i q k x hq hx => rol _ _ (xfoot_u (X := X) hq hx) (R.unit i q k x hq hx) (by simp) (by simp)⟩⟩
theorem foot_withL {X : XW} {v v' : Value} {l : List XLot} {l' : List XSale} {R' : Nat → Role} {r : Nat} (h : r ∈ (X.withL v l v' l' R').foot) : r ∈ X.foot ∨ r ∈ blk v ∨ r ∈ blk v' := by
  simp only [XW.foot, XW.withL, List.mem_cons, List.mem_append] at h ⊢
  rcases h with h | h | h | h | h | h | h
  · exact .inl (.inl h)
  · exact .inl (.inr (.inl h))
  · exact .inl (.inr (.inr (.inl h)))
  · exact .inl (.inr (.inr (.inr (.inl h))))
  · exact .inl (.inr (.inr (.inr (.inr (.inl h)))))
  · exact .inr (.inl h)
  · exact .inr (.inr h)
theorem TurnX.withL {w w1 w2 : World} {X X1 : XW} (h : TurnX w X w1 X1) {v v' : Value} {l : List XLot} {l' : List XSale} {R' : Nat → Role} (hr : RepX w2 (X1.withL v l v' l' R')) (hk : Kept X1.foot w1 w2) (hv : ∀ r ∈ blk v, r ∈ X1.foot ∨ w1.heap.size ≤ r) (hv' : ∀ r ∈ blk v', r ∈ X1.foot ∨ w1.heap.size ≤ r) : TurnX w X w2 (X1.withL v l v' l' R') := by
  refine h.trans ⟨hr, hk, fun r hr' => ?_, rfl, RowsX.keep h.rep.rows_lt hr (fun j q0 hj => ⟨q0, hj, rfl, rfl⟩)⟩
  rcases foot_withL hr' with h' | h' | h'
  · exact .inl h'
  · exact hv r h'
  · exact hv' r h'

/-- Where the lots, the bids and the news alone turn, and nothing in memory. -/
def XW.ghost (X : XW) (ls : List SLot) (f : Nat → SPlayer → List SBid × List ByteArray) : XW := { X with lots := ls, pls := X.pls.mapIdx (fun i q => ({ q.1 with bids := (f i q.1).1, news := (f i q.1).2 }, q.2)) }
theorem ghost_at {X : XW} {ls : List SLot} {f : Nat → SPlayer → List SBid × List ByteArray} {i : Nat} {q : SPlayer × XV} (h : (X.ghost ls f).pls[i]? = some q) : ∃ p, X.pls[i]? = some (p, q.2) ∧ q.1 = { p with bids := (f i p).1, news := (f i p).2 } := by
  simp only [XW.ghost, List.getElem?_mapIdx, Option.map_eq_some_iff] at h
  obtain ⟨q0, h1, h2⟩ := h
  refine ⟨q0.1, ?_, ?_⟩
  · rw [h1, ← h2]
  · rw [← h2]
theorem ghost_to {X : XW} (ls : List SLot) (f : Nat → SPlayer → List SBid × List ByteArray) {i : Nat} {p : SPlayer} {v : XV} (h : X.pls[i]? = some (p, v)) : (X.ghost ls f).pls[i]? = some ({ p with bids := (f i p).1, news := (f i p).2 }, v) := by
  simp [XW.ghost, List.getElem?_mapIdx, h]
theorem ghost_foot (X : XW) (ls : List SLot) (f : Nat → SPlayer → List SBid × List ByteArray) : (X.ghost ls f).foot = X.foot := by
  have e : (X.ghost ls f).pls.flatMap xvFoot = X.pls.flatMap xvFoot := by
    rw [List.flatMap_def, List.flatMap_def]
    have : (X.ghost ls f).pls.map xvFoot = X.pls.map xvFoot := by
      apply List.ext_getElem?
      intro i
      simp only [XW.ghost, List.getElem?_map, List.getElem?_mapIdx, Option.map_map]
      cases X.pls[i]? <;> rfl
    rw [this]
  simp only [XW.foot] at e ⊢
  rw [e]
  rfl
theorem RepX.ghost {w : World} {X : XW} (h : RepX w X) (ls : List SLot) (f : Nat → SPlayer → List SBid × List ByteArray) : RepX w (X.ghost ls f) := by
  refine ⟨h.top, h.ore, h.st, ?_, h.lot, fun i q hq => ?_, ⟨h.roles.b, h.roles.mo, h.roles.ms, h.roles.pl, h.roles.lot, fun i q hq r hr => ?_, fun i q k x hq hx => ?_⟩⟩
  · have e : (X.ghost ls f).pls.flatMap xplCells = X.pls.flatMap xplCells := by
      rw [List.flatMap_def, List.flatMap_def]
      have : (X.ghost ls f).pls.map xplCells = X.pls.map xplCells := by
        apply List.ext_getElem?
        intro i
        simp only [XW.ghost, List.getElem?_map, List.getElem?_mapIdx, Option.map_map]
        cases X.pls[i]? <;> rfl
      rw [this]
    have e2 : (X.ghost ls f).pls.length = X.pls.length := by simp [XW.ghost]
    rw [e, e2]
    exact h.pl
  · obtain ⟨p, h1, h2⟩ := ghost_at hq
    have hp := h.each i _ h1
    refine ⟨hp.row, by rw [hp.len, h2], fun k u x hu hx => hp.unit k u x ?_ hx⟩
    rw [h2] at hu
    exact hu
  · obtain ⟨p, h1, _⟩ := ghost_at hq
    exact h.roles.row i _ h1 r hr
  · obtain ⟨p, h1, _⟩ := ghost_at hq
    exact h.roles.unit i _ k x h1 hx
theorem TurnX.ghost {w w1 : World} {X X1 : XW} (h : TurnX w X w1 X1) (ls : List SLot) (f : Nat → SPlayer → List SBid × List ByteArray) : TurnX w X w1 (X1.ghost ls f) := by
  have hr := h.rep.ghost ls f
  refine h.trans ⟨hr, Kept.refl _ _, fun r hr' => .inl (by rw [ghost_foot] at hr'; exact hr'), rfl, RowsX.keep h.rep.rows_lt hr (fun j q0 hj => ⟨_, ghost_to ls f (p := q0.1) (v := q0.2) hj, rfl, rfl⟩)⟩
/-- What each player is told of the lots that closed. -/
def NewsOK (X : XW) : Prop := ∀ (i : Nat) q, X.pls[i]? = some q → q.1.news = X.sales.map (fun s => newsB s.name s.who s.price i)
end Go.Proofs.YtlafddeoheambaaGreatDoor

/-
  What units do turns no bids and no news; a Tick takes each player's news away first.
-/
namespace Go.Proofs.YtlafddeoheambaaGreatDoor
open Go.RowKit

def bnP (p : SPlayer) : List SBid × List ByteArray := (p.bids, p.news)
theorem act_bn (s : SWorld) (n k : Nat) (p : SPlayer) (u : SUnit) (what arg : ByteArray) (hp : s.players[n]? = some p) : (actS s n k p u what arg).players.map bnP = s.players.map bnP := by
  have key : ∀ p' : SPlayer, bnP p' = bnP p → (s.players.set n p').map bnP = s.players.map bnP := fun p' h => map_set_same bnP s.players n p p' hp h
  unfold actS
  simp only
  repeat' split
  all_goals first
    | rfl
    | exact key _ rfl
theorem does_bn (s : SWorld) (n k : Nat) : (doesS s n k).players.map bnP = s.players.map bnP := by
  unfold doesS
  split
  · rfl
  · rename_i p hp
    split
    · rfl
    · rename_i u hu
      have hn := (at_some hp).1
      rw [act_bn]
      · exact map_set_same bnP s.players n p _ hp rfl
      · simp [SWorld.setPl, hn]
theorem unitsTo_bn (s : SWorld) (n j : Nat) : (unitsTo s n j).players.map bnP = s.players.map bnP := by
  induction j with
  | zero => rfl
  | succ j ih => exact (does_bn _ n j).trans ih
theorem bn_bids {a b : List SPlayer} (h : a.map bnP = b.map bnP) : a.map (·.bids) = b.map (·.bids) := by
  have := congrArg (List.map Prod.fst) h
  simpa [List.map_map, Function.comp_def, bnP] using this
theorem bn_news {a b : List SPlayer} (h : a.map bnP = b.map bnP) : a.map (·.news) = b.map (·.news) := by
  have := congrArg (List.map Prod.snd) h
  simpa [List.map_map, Function.comp_def, bnP] using this
theorem clearN_bids (s : SWorld) (n : Nat) : (clearN s n).players.map (·.bids) = s.players.map (·.bids) := by
  unfold clearN
  split
  · rfl
  · rename_i p hp
    exact map_set_same (·.bids) s.players n p { p with news := [] } hp rfl
theorem tickTo_bids (s : SWorld) (n : Nat) : (tickTo s n).players.map (·.bids) = s.players.map (·.bids) := by
  induction n with
  | zero => rfl
  | succ n ih => exact ((bn_bids (unitsTo_bn _ n _)).trans (clearN_bids _ n)).trans ih
theorem clearN_news (s : SWorld) (n : Nat) : (clearN s n).players.map (·.news) = (s.players.map (·.news)).set n [] := by
  unfold clearN
  split
  · rename_i h
    have : s.players.length ≤ n := List.getElem?_eq_none_iff.1 h
    rw [List.set_eq_of_length_le (by simpa using this)]
  · simp [SWorld.setPl, List.map_set]
theorem tickTo_news (s : SWorld) (n : Nat) : ∀ i, i < n → i < s.players.length → ((tickTo s n).players.map (·.news))[i]? = some [] := by
  induction n with
  | zero => intro i hi; omega
  | succ n ih =>
    intro i hi hl
    have e : (tickTo s (n + 1)).players.map (·.news) = ((tickTo s n).players.map (·.news)).set n [] := (bn_news (unitsTo_bn _ n _)).trans (clearN_news _ n)
    have hlen := (tickTo_len s n).1
    rw [e, List.getElem?_set]
    split
    · rename_i h
      subst h
      simp [hlen, hl]
    · exact ih i (by omega) hl
theorem tickTo_all (s : SWorld) : ∀ p ∈ (tickTo s s.players.length).players, p.news = [] := by
  intro p hp
  obtain ⟨i, hi⟩ := List.getElem?_of_mem hp
  have hlen := (tickTo_len s s.players.length).1
  obtain ⟨hil, _⟩ := at_some hi
  have := tickTo_news s s.players.length i (by omega) (by omega)
  simp only [List.getElem?_map, hi, Option.map_some] at this
  injection this
/-- The program's world with a player's news taken away, in words alone. -/
def XW.clearG (X : XW) (k : Nat) : XW := X.ghost X.lots (fun i p => (p.bids, if i = k then [] else p.news))
theorem clearG_S (X : XW) (k : Nat) : (X.clearG k).S = clearN X.S k := by
  have e : (X.clearG k).pls.map (·.1) = (clearN X.S k).players := by
    apply List.ext_getElem?
    intro i
    unfold clearN
    cases hk : X.S.players[k]? with
    | none =>
      have hkn : X.pls.length ≤ k := by simpa [XW.S] using hk
      simp only [XW.clearG, XW.ghost, List.getElem?_map, List.getElem?_mapIdx, XW.S]
      cases hi : X.pls[i]? with
      | none => rfl
      | some q =>
        have := (at_some hi).1
        have hne : i ≠ k := by omega
        simp [hne]
    | some p =>
      have hkl := (at_some hk).1
      have hk' : (X.pls[k]?).map (·.1) = some p := by simpa [XW.S] using hk
      simp only [XW.clearG, XW.ghost, List.getElem?_map, List.getElem?_mapIdx, SWorld.setPl, List.getElem?_set]
      by_cases h : i = k
      · subst h
        cases hi : X.pls[i]? with
        | none => rw [hi] at hk'; cases hk'
        | some q =>
          rw [hi] at hk'
          injection hk' with hk'
          simp [hk', hkl]
      · have h' : ¬ k = i := Ne.symm h
        simp only [XW.S, List.getElem?_map, if_neg h, if_neg h']
        cases hi : X.pls[i]? <;> rfl
  have e2 := clearN_len X.S k
  have e3 : (clearN X.S k).width = X.width ∧ (clearN X.S k).height = X.height ∧ (clearN X.S k).sight = X.sight ∧ (clearN X.S k).ore = X.ore := by
    unfold clearN
    split <;> exact ⟨rfl, rfl, rfl, rfl⟩
  show SWorld.mk _ _ _ _ _ _ _ = _
  have e4 : clearN X.S k = SWorld.mk (clearN X.S k).width (clearN X.S k).height (clearN X.S k).sight (clearN X.S k).now (clearN X.S k).ore (clearN X.S k).players (clearN X.S k).lots := rfl
  rw [e4, e, e2.2.1, e2.2.2, e3.1, e3.2.1, e3.2.2.1, e3.2.2.2]
  rfl
theorem OkX.clearG {X : XW} (h : OkX X) (k : Nat) : OkX (X.clearG k) := by
  have e1 : posL ((X.clearG k).pls.map (·.1)) = posL (X.pls.map (·.1)) := by
    unfold posL
    rw [List.map_map, List.map_map]
    apply List.ext_getElem?
    intro i
    simp only [XW.clearG, XW.ghost, List.getElem?_map, List.getElem?_mapIdx]
    cases X.pls[i]? <;> rfl
  have e2 : (X.clearG k).pls.map (·.1.bids) = X.pls.map (·.1.bids) := by
    apply List.ext_getElem?
    intro i
    simp only [XW.clearG, XW.ghost, List.getElem?_map, List.getElem?_mapIdx]
    cases X.pls[i]? <;> rfl
  refine ⟨by rw [e1]; exact h.st, h.ore, h.dist, ?_⟩
  show LotRel X.opens X.lots ((X.clearG k).pls.map (·.1.bids))
  rw [e2]
  exact h.lot
end Go.Proofs.YtlafddeoheambaaGreatDoor

/-
  What becomes of the program's world where a bid is set: in memory, and in words.
-/
namespace Go.Proofs.YtlafddeoheambaaGreatDoor
open Go.RowKit

theorem setBid_cells (l : XLot) (n : Nat) (hn : n < 4) (m : Int) : xlotCells (l.setBid n m) = (xlotCells l).set (3 + n) (.int .i64 m) := by
  rcases (show n = 0 ∨ n = 1 ∨ n = 2 ∨ n = 3 by omega) with rfl | rfl | rfl | rfl <;> simp [xlotCells, XLot.setBid]
/-- One bid of one lot written. -/
theorem TurnX.setBid {w w1 : World} {X X1 : XW} (h : TurnX w X w1 X1) {g cap : Nat} (hv : X1.vOp = .slice (some ⟨g, 0, none⟩) X1.opens.length cap) {k n : Nat} {l : XLot} (hl : X1.opens[k]? = some l) (hn : n < 4) (m : Int) :
    TurnX w X (w1.setCell ⟨g, k * 7 + 3 + n, none⟩ (.int .i64 m)) (X1.withL X1.vOp (X1.opens.set k (l.setBid n m)) X1.vCl X1.sales X1.R) := by
  have hr := h.rep
  obtain ⟨hk, ek⟩ := at_some hl
  have hg : g ∈ blk X1.vOp := by rw [hv]; simp [blk_slice]
  have far : ∀ r, r ≠ g → (w1.setCell ⟨g, k * 7 + 3 + n, none⟩ (.int .i64 m)).heap[r]? = w1.heap[r]? := fun r hr => setCell_far w1 g _ _ r hr
  have hgb : X1.b ≠ g := hr.roles.ne hr.roles.b (hr.roles.lot.1 g hg) (by simp)
  have ht : (w1.setCell ⟨g, k * 7 + 3 + n, none⟩ (.int .i64 m)).heap[X1.b]? = some (.cells (X1.withL X1.vOp (X1.opens.set k (l.setBid n m)) X1.vCl X1.sales X1.R).cells 84 (0, 0)) := by
    rw [far _ hgb]; exact hr.top
  have ho : (w1.setCell ⟨g, k * 7 + 3 + n, none⟩ (.int .i64 m)).ownsRow 0 108 7 X1.vOp (X1.opens.set k (l.setBid n m)).length ((X1.opens.set k (l.setBid n m)).flatMap xlotCells) := by
    rw [List.length_set, ← flat_set xlotCells 7 (fun _ => rfl) X1.opens k (3 + n) (l.setBid n m) (.int .i64 m) hk (by omega) (by rw [ek]; exact setBid_cells l n hn m), ← Nat.add_assoc]
    have := hr.lot.1
    rw [hv] at this ⊢
    exact own_set this (k * 7 + 3 + n) _ (by omega)
  have hc : (w1.setCell ⟨g, k * 7 + 3 + n, none⟩ (.int .i64 m)).ownsRow 0 137 3 X1.vCl X1.sales.length (X1.sales.flatMap xsaleCells) :=
    own_same hr.lot.2 (fun r hr' => far r (hr.roles.ne (hr.roles.lot.2 r hr') (hr.roles.lot.1 g hg) (by simp)))
  have hrep := hr.withL (v := X1.vOp) (v' := X1.vCl) (l := X1.opens.set k (l.setBid n m)) (l' := X1.sales) (R' := X1.R) (fun r _ _ h1 _ => far r (fun e => h1 (e ▸ hg))) ht ⟨ho, hc⟩ (fun _ _ _ _ => rfl) hr.roles.lot
  exact h.withL hrep ((Kept.refl _ _).setCell _ _ _ (.inl (xfoot_op hg))) (fun r hr' => .inl (xfoot_op hr')) (fun r hr' => .inl (xfoot_cl hr'))

/-- The program's world where a player's bids are others, in words. -/
def XW.bidG (X : XW) (n : Nat) (bs : List SBid) : XW := X.ghost X.lots (fun i p => (if i = n then bs else p.bids, p.news))
theorem bidG_S {X : XW} {n : Nat} {p : SPlayer} {v : XV} (hq : X.pls[n]? = some (p, v)) (bs : List SBid) : (X.bidG n bs).S = X.S.setPl n { p with bids := bs } := by
  have e : (X.bidG n bs).pls.map (·.1) = (X.S.players).set n { p with bids := bs } := by
    apply List.ext_getElem?
    intro i
    simp only [XW.bidG, XW.ghost, List.getElem?_map, List.getElem?_mapIdx, List.getElem?_set, XW.S, List.length_map]
    obtain ⟨hn, _⟩ := at_some hq
    by_cases h : i = n
    · subst h
      rw [hq]
      simp [hn]
    · have h' : ¬ n = i := Ne.symm h
      rw [if_neg h']
      cases hi : X.pls[i]? with
      | none => rfl
      | some q => simp [h]
  show SWorld.mk _ _ _ _ _ _ _ = SWorld.mk _ _ _ _ _ _ _
  rw [e]
  rfl
theorem bidG_bids {X : XW} {n : Nat} {p : SPlayer} {v : XV} (hq : X.pls[n]? = some (p, v)) (bs : List SBid) : (X.bidG n bs).pls.map (·.1.bids) = (X.pls.map (·.1.bids)).set n bs := by
  have e := congrArg SWorld.players (bidG_S hq bs)
  have e2 : (X.bidG n bs).pls.map (·.1.bids) = ((X.bidG n bs).S.players).map (·.bids) := by simp [XW.S, Function.comp_def]
  rw [e2, e]
  simp [SWorld.setPl, XW.S, List.map_set, Function.comp_def]
theorem bidG_pos (X : XW) (n : Nat) (bs : List SBid) : posL ((X.bidG n bs).pls.map (·.1)) = posL (X.pls.map (·.1)) := by
  unfold posL
  rw [List.map_map, List.map_map]
  apply List.ext_getElem?
  intro i
  simp only [XW.bidG, XW.ghost, List.getElem?_map, List.getElem?_mapIdx]
  cases X.pls[i]? <;> rfl
/-- A bid set, all that is known of the maps and lists stays. -/
theorem OkX.setBid {X : XW} (h : OkX X) (hw : Apart X.lots) {k n : Nat} {l : XLot} (hl : X.opens[k]? = some l) {p : SPlayer} {v : XV} (hq : X.pls[n]? = some (p, v)) {m : Int} (hm : 0 ≤ m) : OkX ((X.withL X.vOp (X.opens.set k (l.setBid n m)) X.vCl X.sales X.R).bidG n (setB p.bids l.name m)) := by
  refine ⟨?_, h.ore, h.dist, ?_⟩
  · rw [bidG_pos]; exact h.st
  · rw [bidG_bids (X := X.withL X.vOp (X.opens.set k (l.setBid n m)) X.vCl X.sales X.R) (p := p) (v := v) hq]
    exact h.lot.setBid hw hl (by simp [hq]) hm
end Go.Proofs.YtlafddeoheambaaGreatDoor

/-
  The function build of package haze.
-/
namespace Go.Proofs.YtlafddeoheambaaGreatDoor
open Go.RowKit

def builtU (u : SUnit) (nm : ByteArray) : SUnit := { name := nm, x := u.x + dxI u.head, y := u.y + dyI u.head, head := u.head, cargo := 0, what := emptyB, arg := emptyB }
def buildS (s : SWorld) (n : Nat) (p : SPlayer) (u : SUnit) (nm : ByteArray) : SWorld :=
  if unitIx p.units nm < 0 ∧ p.units.length < 5 ∧ 50 ≤ p.money - stakedI p.bids emptyB ∧ freeS s (u.x + dxI u.head) (u.y + dyI u.head) = true then
    s.setPl n { p with money := p.money - 50, units := p.units ++ [builtU u nm] } else s

theorem find_none {us : List SUnit} {xs : List XU} {nm : ByteArray} (h : unitIx us nm < 0) : findA us xs nm = none := by unfold findA; rw [if_pos h]
theorem find_some {us : List SUnit} {xs : List XU} {nm : ByteArray} (hl : xs.length = us.length) (h : ¬ unitIx us nm < 0) : ∃ k x, findA us xs nm = some ⟨x.g, 0, none⟩ ∧ unitIx us nm = (k : Nat) ∧ xs[k]? = some x ∧ k < us.length := by
  obtain ⟨k, e, hk⟩ := ixOf_at _ us h
  have e' : unitIx us nm = (k : Nat) := e
  have hk' : k < xs.length := by omega
  refine ⟨k, xs[k], ?_, e', by simp [hk'], hk⟩
  unfold findA
  rw [if_neg h, e']
  simp [hk']
theorem drewN_below {w w1 : World} {n : Nat} (h : Below (w.drewN n).heap.size (w.drewN n) w1) : Below w.heap.size w w1 := ⟨h.os, h.tape, h.output, h.size, h.block⟩
theorem staked_nil : stakedI [] emptyB = 0 := rfl
theorem newCells {w : World} {u : SUnit} {x : XU} (nm : ByteArray) (hh : HeadC u.head x.a x.b) : RepU (w.alloc (.cells (xuCells (builtU u nm) ⟨w.heap.size, x.a, x.b⟩) 91)) (builtU u nm) ⟨w.heap.size, x.a, x.b⟩ :=
  ⟨Go.heap_alloc_new w _, hh, by simp [builtU, emptyB, whatW, Lib.toList_data]⟩

theorem freeV_parts {W H x y : Int} {l : List CE} (h : freeV W H x y l = true) (hW : W ≤ 10) (hH : H ≤ 10) : look x y l = none ∧ (0 ≤ x ∧ x ≤ 9) ∧ (0 ≤ y ∧ y ≤ 9) := by
  unfold freeV at h
  simp only [Bool.and_eq_true] at h
  refine ⟨?_, ?_, ?_⟩
  · have := h.2
    cases hl : look x y l with
    | none => rfl
    | some m => rw [hl] at this; cases this
  · have := h.1.1; simp [inB] at this; omega
  · have := h.1.2; simp [inB] at this; omega
theorem builtCells (u : SUnit) (nm : ByteArray) (x : XU) : xuCells (builtU u nm) x = #[.string nm, .complex .f64 (flI (u.x + dxI u.head)) (flI (u.y + dyI u.head)), .complex .f64 x.a x.b, .int .i64 0, .int .i64 0, .string ⟨#[]⟩, .string ⟨#[]⟩, .int .i64 0] := by
  simp [xuCells, builtU, emptyB, Lib.toList_data, kindW, kindP, kindN]
/-- The unit laid, the money paid: the place is called. -/
theorem buildEnd2 (w : World) (X : XW) (n k : Nat) (p : SPlayer) (v : XV) (u : SUnit) (x : XU) (nm : ByteArray) (ha : AtX w X n k p v u x) (ho : OkX X) (hb : BdX X u) (h2 : 2 ≤ X.pls.length ∧ X.pls.length ≤ 4) (h5 : p.units.length ≤ 5)
    (hF : freeV X.width X.height (u.x + dxI u.head) (u.y + dyI u.head) X.ls = true) (pb pcap : Nat) (hvp : X.vPl = .slice (some ⟨pb, 0, none⟩) X.pls.length pcap)
    (hS : buildS X.S n p u nm = X.S.setPl n { p with money := p.money - 50, units := p.units ++ [builtU u nm] }) (w1 : World) (hb1 : Below w.heap.size w w1) :
    Calls Tryz.prog 59 #[.pointer (some ⟨X.b, 0, none⟩), .int .i64 n, .pointer (some ⟨w1.heap.size, 0, none⟩)] ((w1.setCell ⟨pb, n * 2, none⟩ (.int .i64 (p.money - 50))).alloc (.cells #[.string nm, .complex .f64 (flI (u.x + dxI u.head)) (flI (u.y + dyI u.head)), .complex .f64 x.a x.b, .int .i64 0, .int .i64 0, .string ⟨#[]⟩, .string ⟨#[]⟩, .int .i64 0] 91)) fun e w' => e = .returned (.tuple #[]) ∧ ∃ X', TurnX w X w' X' ∧ OkX X' ∧ X'.S = buildS X.S n p u nm := by
  have T1 := (TurnX.refl ha.rep).below hb1
  have T2 := T1.money1 ha.q hvp (p.money - 50)
  have hs2 : (w1.setCell ⟨pb, n * 2, none⟩ (.int .i64 (p.money - 50))).heap.size = w1.heap.size := by simp [World.setCell]
  obtain ⟨w2, hw2⟩ : ∃ w2, w2 = w1.setCell ⟨pb, n * 2, none⟩ (.int .i64 (p.money - 50)) := ⟨_, rfl⟩
  rw [← hw2] at T2 hs2 ⊢
  have hb3 : Below w2.heap.size w2 (w2.alloc (.cells (xuCells (builtU u nm) ⟨w2.heap.size, x.a, x.b⟩) 91)) := (Below.refl _ w2).alloc (Nat.le_refl _) _
  have T3 := T2.below hb3
  have hu3 := newCells (w := w2) (u := u) (x := x) nm ha.unit.head
  rw [builtCells] at T3 hu3
  obtain ⟨hl, nx, ny⟩ := freeV_parts hF hb.w.2 hb.h.2
  have hlen := (ha.rep.each n _ ha.q).len
  simp only at hlen
  have hq2 : (X.setQ n ({ p with money := p.money - 50 }, v)).pls[n]? = some ({ p with money := p.money - 50 }, v) := set_at ha.q
  rw [← hs2]
  refine (place_any w _ X (X.setQ n ({ p with money := p.money - 50 }, v)) T3 n { p with money := p.money - 50 } v hq2 (by simpa [XW.setQ] using h2) (builtU u nm) ⟨w2.heap.size, x.a, x.b⟩ hu3 (fun h => by have := T2.rep.lt _ h; exact Nat.lt_irrefl _ this) (by rw [hs2]; exact hb1.size) nx ny (by omega)).mono ?_
  rintro e w' ⟨rfl, val, gr, T4⟩
  refine ⟨rfl, _, T4, ⟨?_, ho.ore, ho.dist, lotQ (p' := { p with money := p.money - 50, units := p.units ++ [builtU u nm] }) (lotQ (p' := { p with money := p.money - 50 }) (v' := v) ho.lot ha.q rfl) (set_at ha.q) rfl⟩, ?_⟩
  · have hst := ho.st.add (posL_at (XS_at ha.q)) hl X.cs
    have e : posL (((X.setQ n ({ p with money := p.money - 50 }, v)).addU n { p with money := p.money - 50 } v (builtU u nm) ⟨w2.heap.size, x.a, x.b⟩ val gr).pls.map (·.1)) = (posL (X.pls.map (·.1))).set n (posP p ++ [(u.x + dxI u.head, u.y + dyI u.head)]) := by
      simp [XW.addU, XW.setQ, List.map_set, posL, posP, builtU]
    show StOK (posL (((X.setQ n ({ p with money := p.money - 50 }, v)).addU n { p with money := p.money - 50 } v (builtU u nm) ⟨w2.heap.size, x.a, x.b⟩ val gr).pls.map (·.1))) _
    rw [e]
    exact hst
  · rw [hS]
    simp [XW.addU, XW.setQ, XW.withLs, XW.S, SWorld.setPl, List.map_set]

set_option maxRecDepth 100000 in
set_option maxHeartbeats 4000000 in
theorem build_any (w : World) (X : XW) (n k : Nat) (p : SPlayer) (v : XV) (u : SUnit) (x : XU) (nm : ByteArray) (ha : AtX w X n k p v u x) (ho : OkX X) (hb : BdX X u) (h2 : 2 ≤ X.pls.length ∧ X.pls.length ≤ 4) (hlw : LotWF X.lots (X.pls.map (·.1.bids)) X.now) (hmo : 0 ≤ p.money ∧ p.money ≤ 1000000000000) (h5 : p.units.length ≤ 5) :
    Calls Tryz.prog 72 #[.pointer (some ⟨X.b, 0, none⟩), .int .i64 n, .pointer (some ⟨x.g, 0, none⟩), .string nm] w fun e w' => e = .returned (.tuple #[]) ∧ ∃ X', TurnX w X w' X' ∧ OkX X' ∧ X'.S = buildS X.S n p u nm := by
  have HX := hidOf ha
  have HO := hidOf ho
  have HA := hidOf (fun (wx : World) (hx : wx.heap = w.heap) => freeAhead_any wx X (ha.rep.heapEq hx) hb.w hb.h u x (ha.unit.same (by rw [hx])) hb.x hb.y)
  obtain ⟨pb, pcap, hvp, hpc, hpm⟩ := ha.rep.plForm h2.1
  unfold maxLen at hpm
  obtain ⟨hi, _⟩ := at_some ha.q
  have hi2 : (n : Int) < X.pls.length := by omega
  have c5 : w.cell? ⟨X.b, 6, none⟩ = some (.slice (some ⟨pb, 0, none⟩) X.pls.length pcap) := by rw [← hvp]; exact ha.rep.cellTop rfl
  obtain ⟨m0, m1⟩ := ha.rep.plCell ha.q hvp
  have fz := ha.rep.plFrozen hvp (n * 2)
  have HFd := hidOf (fun (wx : World) (hx : wx.heap = w.heap) => find_any pb (n * 2) (p, v) nm wx ((ha.rep.heapEq hx).plCell ha.q hvp).2 ((ha.rep.heapEq hx).each n _ ha.q))
  have hlen := (ha.rep.each n _ ha.q).len
  simp only at hlen
  obtain ⟨ao, g0, vcap, hv, hvc, hvm, _⟩ := own_rd (ha.rep.each n _ ha.q).row
  simp only at hv hvc
  unfold maxLen at hvm
  rw [hv] at m1
  have HVP := hidOf hvp
  have HSt := hidOf (fun (wx : World) (hx : wx.heap = w.heap) => xstaked_ok wx X n p v (ha.rep.heapEq hx) ho hlw ha.q h2.2)
  have hsl := staked_le ho hlw ha.q
  obtain ⟨st, hst⟩ : ∃ st, stakedI p.bids emptyB = st := ⟨_, rfl⟩
  rw [hst] at HSt hsl
  obtain ⟨hsl0, hsl1⟩ := hsl
  obtain ⟨hmo0, hmo1⟩ := hmo
  by_cases hA : unitIx p.units nm < 0
  · have hfn : findA p.units v.us nm = none := find_none hA
    simp only [hfn] at HFd
    by_cases hB : p.units.length < 5
    · have hB' : decide ((5 : Int) ≤ v.us.length) = false := decide_eq_false (by omega)
      have hB2 : decide ((5 : Int) ≤ p.units.length) = false := decide_eq_false (by omega)
      by_cases hC : 50 ≤ p.money - st
      · have hC' : decide (p.money - st < 50) = false := decide_eq_false (by omega)
        cases hF : freeV X.width X.height (u.x + dxI u.head) (u.y + dyI u.head) X.ls
        · rw [hF] at HA
          have HS : Hid (buildS X.S n p u nm = X.S) := by
            unfold Hid buildS
            rw [if_neg]
            rintro ⟨_, _, _, h⟩
            rw [← freeV_S HO.out, hF] at h
            cases h
          clear ha ho hF hvp hv
          go_enter Tryz.func72, Tryz.ntmps72
          go_wp2_with fail
          go_quiet ((first | (go_at_call 29; exact Calls.quiet_of_same (HFd.out _ rfl)) | (go_at_call 65; exact Calls.quiet_of_same (HSt.out _ rfl))))
          go_wp2_with (go_at_call 107; refine (HA.out (w.drewN nq) rfl).mono ?_; rintro e w1 ⟨rfl, hb0⟩; have hb1 := drewN_below hb0)
          refine bodyPost_ret (results_none rfl _ _ _) rfl ?_
          exact ⟨rfl, X, (TurnX.refl HX.out.rep).below hb1, HO.out, HS.out.symm⟩
        · rw [hF] at HA
          have HS : buildS X.S n p u nm = X.S.setPl n { p with money := p.money - 50, units := p.units ++ [builtU u nm] } := by
            unfold buildS
            rw [if_pos]
            exact ⟨hA, hB, by rw [hst]; exact hC, by rw [← freeV_S HO.out, hF]⟩
          have HP := hidOf (buildEnd2 w X n k p v u x nm ha ho hb h2 h5 hF pb pcap hvp HS)
          have hxp : x.g ≠ pb := fun e => by
            have e1 := ha.rep.roles.unit n _ k x ha.q ha.x
            rw [e, ha.rep.roles.pl pb (by simp [hvp, blk_slice])] at e1
            cases e1
          clear ha ho hF hvp hv HS
          go_enter Tryz.func72, Tryz.ntmps72
          go_wp2_with fail
          go_quiet ((first | (go_at_call 29; exact Calls.quiet_of_same (HFd.out _ rfl)) | (go_at_call 65; exact Calls.quiet_of_same (HSt.out _ rfl))))
          go_wp2_with (first | (go_at_call 107; refine (HA.out (w.drewN nq) rfl).mono ?_; rintro e w1 ⟨rfl, hb0⟩; have hb1 := drewN_below hb0; clear hb0; have T1 := hidOf ((TurnX.refl HX.out.rep).below hb1); have HB1 := hidOf hb1; have k0 : w1.cell? ⟨pb, n * 2, none⟩ = some (.int .i64 p.money) := (T1.out.rep.plCell HX.out.q HVP.out).1; have kz : w1.frozen? ⟨pb, n * 2, none⟩ = false := T1.out.rep.plFrozen HVP.out (n * 2); have k2 : w1.cell? ⟨x.g, 2, none⟩ = some (.complex .f64 x.a x.b) := ((T1.out.rep.each n _ HX.out.q).unit k u x HX.out.u HX.out.x).cell rfl; clear hb1) | (go_at_call 59; refine (HP.out _ HB1.out).mono ?_; rintro e w5 ⟨rfl, h5⟩))
          go_end0
          exact ⟨rfl, h5⟩
      · have hC' : decide (p.money - st < 50) = true := decide_eq_true (by omega)
        have HS : Hid (buildS X.S n p u nm = X.S) := by
          unfold Hid buildS
          rw [if_neg]
          rintro ⟨_, _, h, _⟩
          rw [hst] at h
          exact hC h
        clear ha ho hvp hv hC
        go_enter Tryz.func72, Tryz.ntmps72
        go_wp2_with fail
        go_quiet ((first | (go_at_call 29; exact Calls.quiet_of_same (HFd.out _ rfl)) | (go_at_call 65; exact Calls.quiet_of_same (HSt.out _ rfl))))
        go_wp2
        refine bodyPost_ret (results_none rfl _ _ _) rfl ?_
        exact ⟨rfl, X, (TurnX.refl HX.out.rep).drewN _, HO.out, HS.out.symm⟩
    · have hB' : decide ((5 : Int) ≤ p.units.length) = true := decide_eq_true (by omega)
      have HS : Hid (buildS X.S n p u nm = X.S) := by
        unfold Hid buildS
        rw [if_neg]
        rintro ⟨_, h, _, _⟩
        exact hB h
      clear ha ho hvp hv hB
      go_enter Tryz.func72, Tryz.ntmps72
      go_wp2_with fail
      go_quiet ((first | (go_at_call 29; exact Calls.quiet_of_same (HFd.out _ rfl)) | (go_at_call 65; exact Calls.quiet_of_same (HSt.out _ rfl))))
      go_wp2
      refine bodyPost_ret (results_none rfl _ _ _) rfl ?_
      exact ⟨rfl, X, (TurnX.refl HX.out.rep).drewN _, HO.out, HS.out.symm⟩
  · obtain ⟨j, y, hfn, _⟩ := find_some hlen hA
    simp only [hfn] at HFd
    have HS : Hid (buildS X.S n p u nm = X.S) := by
      unfold Hid buildS
      rw [if_neg]
      rintro ⟨h, _⟩
      exact hA h
    clear ha ho hvp hv hA hfn
    go_enter Tryz.func72, Tryz.ntmps72
    go_wp2_with fail
    go_quiet ((first | (go_at_call 29; exact Calls.quiet_of_same (HFd.out _ rfl)) | (go_at_call 65; exact Calls.quiet_of_same (HSt.out _ rfl))))
    go_wp2
    refine bodyPost_ret (results_none rfl _ _ _) rfl ?_
    exact ⟨rfl, X, (TurnX.refl HX.out.rep).drewN _, HO.out, HS.out.symm⟩
end Go.Proofs.YtlafddeoheambaaGreatDoor

/-
  What the function carryOut of package haze begins with: the order is taken from the unit.
-/
namespace Go.Proofs.YtlafddeoheambaaGreatDoor
open Go.RowKit

/-- What carryOut is called with. -/
structure CarX (w : World) (X : XW) (n k : Nat) (p : SPlayer) (v : XV) (u : SUnit) (x : XU) : Prop where
  a : AtX w X n k p v u x
  o : OkX X
  b : BdX X u
  h2 : 2 ≤ X.pls.length ∧ X.pls.length ≤ 4
  lw : LotWF X.lots (X.pls.map (·.1.bids)) X.now
  mo : 0 ≤ p.money ∧ p.money ≤ 100000000000
  h5 : p.units.length ≤ 5
  ca : 0 ≤ u.cargo ∧ u.cargo ≤ 9
  or : ∀ s ∈ X.ore, 0 ≤ s.amount ∧ s.amount ≤ 99

def bareU (u : SUnit) : SUnit := { u with what := emptyB, arg := emptyB }
def bareP (p : SPlayer) (k : Nat) (u : SUnit) : SPlayer := { p with units := p.units.set k (bareU u) }
def bareV (v : XV) (k : Nat) (x : XU) : XV := { v with us := v.us.set k x }
def bareX (X : XW) (n k : Nat) (p : SPlayer) (v : XV) (u : SUnit) (x : XU) : XW := X.setQ n (bareP p k u, bareV v k x)
def bareW (w : World) (g : Nat) : World := (((w.setCell ⟨g, 4, none⟩ (.int .i64 0)).setCell ⟨g, 5, none⟩ (.string ⟨#[]⟩)).setCell ⟨g, 6, none⟩ (.string ⟨#[]⟩)).setCell ⟨g, 7, none⟩ (.int .i64 0)
theorem bareCells (u : SUnit) (x : XU) : xuCells (bareU u) x = #[.string u.name, .complex .f64 (flI u.x) (flI u.y), .complex .f64 x.a x.b, .int .i64 u.cargo, .int .i64 0, .string ⟨#[]⟩, .string ⟨#[]⟩, .int .i64 0] := by
  simp [xuCells, bareU, emptyB, Lib.toList_data, kindW, kindP, kindN]
theorem bare_far (w : World) (g r : Nat) (h : r ≠ g) : (bareW w g).heap[r]? = w.heap[r]? := by
  unfold bareW
  rw [setCell_far _ _ _ _ r h, setCell_far _ _ _ _ r h, setCell_far _ _ _ _ r h, setCell_far _ _ _ _ r h]
theorem bare_turn {w : World} {X : XW} {n k : Nat} {p : SPlayer} {v : XV} {u : SUnit} {x : XU} (h : AtX w X n k p v u x) : TurnX w X (bareW w x.g) (bareX X n k p v u x) := by
  have hu := h.unit
  have e : (bareW w x.g).heap[x.g]? = some (.cells (xuCells (bareU u) x) 91 (0, 0)) := by
    unfold bareW
    rw [cells_set (cells_set (cells_set (cells_set hu.is))), bareCells]
    rfl
  have hr := h.rep.setU h.q h.u h.x (fun r hr => bare_far w x.g r hr) (bareU u) x rfl ⟨e, hu.head, by simp [bareU, emptyB, whatW, Lib.toList_data]⟩
  have hf := xfoot_setQ X n (p, v) (bareP p k u, bareV v k x) h.q (xvFoot_setU h.x rfl)
  refine ⟨hr, ?_, fun r hr => .inl (by have := hr; unfold bareX at this; rw [hf] at this; exact this), rfl, RowsX.keep h.rep.rows_lt hr (fun j q0 hj => ?_)⟩
  rotate_left
  · by_cases e' : j = n
    · subst e'
      rw [h.q] at hj
      injection hj with hj
      subst hj
      exact ⟨_, set_at h.q, rfl, map_set_same (·.g) v.us k x x h.x rfl⟩
    · exact ⟨q0, by simp [bareX, XW.setQ, Ne.symm e', hj], rfl, rfl⟩
  unfold bareW
  have hg := xfoot_u h.q h.x
  exact ((((Kept.refl _ _).setCell _ _ _ (.inl hg)).setCell _ _ _ (.inl hg)).setCell _ _ _ (.inl hg)).setCell _ _ _ (.inl hg)
theorem bare_at {w w' : World} {X : XW} {n k : Nat} {p : SPlayer} {v : XV} {u : SUnit} {x : XU} (h : AtX w X n k p v u x) (hr : RepX w' (bareX X n k p v u x)) : AtX w' (bareX X n k p v u x) n k (bareP p k u) (bareV v k x) (bareU u) x :=
  ⟨set_at h.q, set_at h.u, set_at h.x, hr⟩
theorem bare_car {w w' : World} {X : XW} {n k : Nat} {p : SPlayer} {v : XV} {u : SUnit} {x : XU} (h : CarX w X n k p v u x) (hr : RepX w' (bareX X n k p v u x)) : CarX w' (bareX X n k p v u x) n k (bareP p k u) (bareV v k x) (bareU u) x :=
  ⟨bare_at h.a hr, ⟨st_same h.o.st h.a.q h.a.u _ _ (bareU u) rfl rfl rfl, h.o.ore, h.o.dist, lotQ h.o.lot h.a.q rfl⟩, ⟨h.b.w, h.b.h, h.b.x, h.b.y⟩, by simpa [bareX, XW.setQ] using h.h2, lotW h.lw h.a.q rfl, h.mo, by simpa [bareP] using h.h5, h.ca, h.or⟩
theorem car_does {w : World} {X : XW} {n k : Nat} {p : SPlayer} {v : XV} {u : SUnit} {x : XU} (h : AtX w X n k p v u x) : doesS X.S n k = actS (bareX X n k p v u x).S n k (bareP p k u) (bareU u) u.what u.arg := by
  unfold doesS
  rw [XS_at h.q]
  simp only [h.u]
  unfold bareX
  rw [XS_setQ]
  rfl
/-- The copy of the order lies behind all. -/
def carW (w : World) (g : Nat) (kd : Int) (arg : ByteArray) : World := (bareW w g).alloc (.cells #[.int .i64 kd, .string ⟨#[]⟩, .string arg, .int .i64 0] 69)
theorem car_turn {w : World} {X : XW} {n k : Nat} {p : SPlayer} {v : XV} {u : SUnit} {x : XU} (h : CarX w X n k p v u x) (kd : Int) : TurnX w X (carW w x.g kd u.arg) (bareX X n k p v u x) ∧ CarX (carW w x.g kd u.arg) (bareX X n k p v u x) n k (bareP p k u) (bareV v k x) (bareU u) x := by
  have t := (bare_turn h.a).below (w2 := carW w x.g kd u.arg) ((Below.refl _ _).alloc (Nat.le_refl _) _)
  exact ⟨t, bare_car h t.rep⟩
end Go.Proofs.YtlafddeoheambaaGreatDoor

/-
  The function carryOut of package haze: a unit without an order.
-/
namespace Go.Proofs.YtlafddeoheambaaGreatDoor
open Go.RowKit

set_option maxRecDepth 100000 in
set_option maxHeartbeats 4000000 in
theorem carry_none (w : World) (X : XW) (n k : Nat) (p : SPlayer) (v : XV) (u : SUnit) (x : XU) (hc : CarX w X n k p v u x) (hk : u.what.toList = []) :
    Calls Tryz.prog 31 #[.pointer (some ⟨X.b, 0, none⟩), .int .i64 n, .pointer (some ⟨x.g, 0, none⟩)] w fun e w' => e = .returned (.tuple #[]) ∧ ∃ X', TurnX w X w' X' ∧ OkX X' ∧ X'.S = doesS X.S n k := by
  have HD : Hid (doesS X.S n k = (bareX X n k p v u x).S) := by
    unfold Hid
    rw [car_does hc.a]
    simp only [actS, hk]
    rfl
  obtain ⟨pb, pcap, hvp, hpc, hpm⟩ := hc.a.rep.plForm hc.h2.1
  unfold maxLen at hpm
  obtain ⟨hi, _⟩ := at_some hc.a.q
  have hi2 : (n : Int) < X.pls.length := by omega
  have c5 : w.cell? ⟨X.b, 6, none⟩ = some (.slice (some ⟨pb, 0, none⟩) X.pls.length pcap) := by rw [← hvp]; exact hc.a.rep.cellTop rfl
  have hkw : kindW u.what.toList = 0 := by rw [hk]; decide
  have d4 : w.cell? ⟨x.g, 4, none⟩ = some (.int .i64 0) := by rw [← hkw]; exact hc.a.unit.cell rfl
  have d5 : w.cell? ⟨x.g, 5, none⟩ = some (.string ⟨#[]⟩) := hc.a.unit.cell rfl
  have d6 : w.cell? ⟨x.g, 6, none⟩ = some (.string u.arg) := hc.a.unit.cell rfl
  have d7 : w.cell? ⟨x.g, 7, none⟩ = some (.int .i64 0) := hc.a.unit.cell rfl
  have z4 : w.frozen? ⟨x.g, 4, none⟩ = false := hc.a.unit.frozen 4
  have z5 : w.frozen? ⟨x.g, 5, none⟩ = false := hc.a.unit.frozen 5
  have z6 : w.frozen? ⟨x.g, 6, none⟩ = false := hc.a.unit.frozen 6
  have z7 : w.frozen? ⟨x.g, 7, none⟩ = false := hc.a.unit.frozen 7
  have hlx := lt_of_some hc.a.unit.is
  have hlb := lt_of_some hc.a.rep.top
  have nxb := hc.a.ne_b
  have HC := hidOf hc
  have HVP := hidOf hvp
  obtain ⟨ht0, hc0⟩ := car_turn hc 0
  have HT := hidOf ht0
  have HC2 := hidOf hc0

  clear hc hvp ht0 hc0 hkw hk
  go_enter Tryz.func31, Tryz.ntmps31
  go_wp2
  go_end0
  exact ⟨rfl, _, HT.out, HC2.out.o, HD.out.symm⟩
end Go.Proofs.YtlafddeoheambaaGreatDoor
