/-
  The function dig of package hazeref: it says whether there is ore at a spot, and takes one of it.
-/
import Derived.Test.YtlafddeoheambaaGreatDoorT04
import Derived.Test.YtlafddeoheambaaGreatDoorT01
import Derived.Test.YtlafddeoheambaaGreatDoorT02
import Derived.Deep.Draws
import Derived.Deep.RegionLaw
import Derived.Deep.QuietTactic
import Derived.BigQuiet
import Derived.Deep.AppendLies
set_option linter.unusedVariables false
namespace Go.Proofs.YtlafddeoheambaaGreatDoor
open Go.RowKit

theorem WF.full {Y : YW} {M : Int} (h : WF Y M) : Full Y := ⟨by have := h.pl; omega, fun p hp => (h.un p hp).1⟩

set_option maxHeartbeats 2000000 in
theorem rdig_any (w : World) (Y : YW) (x y : Int) (hr : RepY w Y) (ho : ∀ s ∈ Y.ore, 0 ≤ s.amount ∧ s.amount ≤ 99) :
    Calls Tryz.prog 126 #[.pointer (some ⟨Y.b, 0, none⟩), .int .i64 x, .int .i64 y] w fun e w' => e = .returned (.bool (digB Y.ore x y)) ∧ Turn w Y w' (Y.withOre (digL x y Y.ore)) := by
  obtain ⟨ao, ob, ocap, hvo, hoc, hom, rd⟩ := own_rd hr.ore
  unfold maxLen at hom
  have c4 : w.cell? ⟨Y.b, 4, none⟩ = some (.slice ao Y.ore.length ocap) := by rw [← hvo]; exact hr.cellTop rfl
  go_enter Tryz.func126, Tryz.ntmps126
  go_wp2
  go_loop [7] (fun i => ∃ k : Nat, k ≤ Y.ore.length ∧ i = .int .i64 k ∧ Hid (noneTo (hitB x y) Y.ore k)) (fun i => Y.ore.length + 1 - (intOf i).toNat)
  case atStart => exact ⟨0, Nat.zero_le _, rfl, noneTo_zero _ _⟩
  case round =>
    obtain ⟨k, hk, rfl, hn⟩ := hrel
    by_cases hlt : k < Y.ore.length
    · obtain rfl := rd.base (by omega)
      have d0 : w.cell? ⟨ob, k * 3, none⟩ = some (.int .i64 Y.ore[k].x) := rd.cell (k * 3 + 0) _ (by rw [flat_at spotCells 3 (fun _ => rfl) Y.ore k 0 hlt (by omega)]; rfl)
      have d1 : w.cell? ⟨ob, k * 3 + 1, none⟩ = some (.int .i64 Y.ore[k].y) := rd.cell (k * 3 + 1) _ (by rw [flat_at spotCells 3 (fun _ => rfl) Y.ore k 1 hlt (by omega)]; rfl)
      have d2 : w.cell? ⟨ob, k * 3 + 2, none⟩ = some (.int .i64 Y.ore[k].amount) := rd.cell (k * 3 + 2) _ (by rw [flat_at spotCells 3 (fun _ => rfl) Y.ore k 2 hlt (by omega)]; rfl)
      have fz : w.frozen? ⟨ob, k * 3 + 2, none⟩ = false := own_frozen (hvo ▸ hr.ore) _
      have ha := ho _ (List.getElem_mem hlt)
      by_cases e0 : Y.ore[k].x = x
      · by_cases e1 : Y.ore[k].y = y
        · by_cases e2 : 0 < Y.ore[k].amount
          · have hh : hitB x y Y.ore[k] = true := by simp [hitB, e0, e1, e2]
            have G : Hid (digB Y.ore x y = true) := any_hit _ _ k hlt hh
            have T : Hid (Turn w Y (w.setCell ⟨ob, k * 3 + 2, none⟩ (.int .i64 (Y.ore[k].amount - 1))) (Y.withOre (digL x y Y.ore))) := by
              unfold Hid
              rw [digL_hit x y Y.ore k hlt hn.out hh]
              exact ⟨hr.setOre k hlt ob ocap hvo _, (Kept.refl _ _).setCell _ _ _ (.inl (foot_o (by rw [hvo]; simp [blk_slice]))), fun _ h => .inl h, rfl⟩
            have e0' : (Y.ore[k].x == x) = true := by simpa using e0
            have e1' : (Y.ore[k].y == y) = true := by simpa using e1
            clear e0 e1 hh
            go_wp2
            go_ret
            exact ⟨ret_bool G.out.symm, T.out⟩
          · have hn' : Hid _ := noneTo_succ hn.out hlt (by simp [hitB, e2])
            have e0' : (Y.ore[k].x == x) = true := by simpa using e0
            have e1' : (Y.ore[k].y == y) = true := by simpa using e1
            clear e0 e1
            go_wp2
            exact ⟨⟨k + 1, by omega, by go_num, hn'⟩, by simp [intOf]; omega⟩
        · have hn' : Hid _ := noneTo_succ hn.out hlt (by simp [hitB, e1])
          have e0' : (Y.ore[k].x == x) = true := by simpa using e0
          have e1' : (Y.ore[k].y == y) = false := by simpa using e1
          clear e0 e1
          go_wp2
          exact ⟨⟨k + 1, by omega, by go_num, hn'⟩, by simp [intOf]; omega⟩
      · have hn' : Hid _ := noneTo_succ hn.out hlt (by simp [hitB, e0])
        have e0' : (Y.ore[k].x == x) = false := by simpa using e0
        clear e0
        go_wp2
        exact ⟨⟨k + 1, by omega, by go_num, hn'⟩, by simp [intOf]; omega⟩
    · have G : Hid (digB Y.ore x y = false) := any_miss _ _ (noneTo_all hn.out hlt)
      have T : Hid (Turn w Y w (Y.withOre (digL x y Y.ore))) := by
        unfold Hid
        rw [digL_miss x y Y.ore (noneTo_all hn.out hlt)]
        exact Turn.refl hr
      go_wp2
      go_ret
      exact ⟨ret_bool G.out.symm, T.out⟩
end Go.Proofs.YtlafddeoheambaaGreatDoor

/-
  That a world with players and units has them still where one unit has turned.
-/
namespace Go.Proofs.YtlafddeoheambaaGreatDoor
open Go.RowKit

theorem Full.setQ {Y : YW} (h : Full Y) {n : Nat} {q q' : SPlayer × PV} (hq : Y.pls[n]? = some q) (hl : q'.1.units.length = q.1.units.length) : Full (Y.setQ n q') := by
  obtain ⟨hn, rfl⟩ := at_some hq
  refine ⟨by simpa [YW.setQ] using h.pl1, fun p hp => ?_⟩
  obtain ⟨j, hj, rfl⟩ := List.mem_iff_getElem.1 hp
  simp only [YW.setQ, List.length_set] at hj
  simp only [YW.setQ, List.getElem_set]
  split
  · rw [hl]; exact h.un1 _ (List.getElem_mem hn)
  · exact h.un1 _ (List.getElem_mem hj)

theorem hidOf {p : Prop} (h : p) : Hid p := h
theorem digKeep {w3 w4 : World} {Y1 : YW} {n k : Nat} {p : SPlayer} {v : PV} {u : SUnit} {ub cap : Nat} (hq : Y1.pls[n]? = some (p, v)) (hu : p.units[k]? = some u) (hv : v.u = .slice (some ⟨ub, 0, none⟩) p.units.length cap) {l : List SSpot} (h4 : Turn w3.drew Y1 w4 (Y1.withOre l)) :
    (w4.cell? ⟨ub, k * 7 + 1, none⟩ = some (.int .i64 u.x) ∧ w4.cell? ⟨ub, k * 7 + 2, none⟩ = some (.int .i64 u.y)) ∧ w4.cell? ⟨ub, k * 7 + 4, none⟩ = some (.int .i64 u.cargo) ∧ w4.frozen? ⟨ub, k * 7 + 4, none⟩ = false := by
  obtain ⟨_, a1, a2, _, a4, _⟩ := (h4.rep.eachAt (show (Y1.withOre l).pls[n]? = _ from hq)).uCell hu hv
  exact ⟨⟨a1, a2⟩, a4, (h4.rep.eachAt (show (Y1.withOre l).pls[n]? = _ from hq)).uFrozen hv _⟩
theorem digL_none (x y : Int) (l : List SSpot) (h : digB l x y = false) : digL x y l = l := by
  refine digL_miss x y l (fun j hj => ?_)
  have := List.any_eq_false.1 h l[j] (List.getElem_mem hj)
  simpa using this
theorem RepY.heapEq {w w' : World} {Y : YW} (h : RepY w Y) (e : w'.heap = w.heap) : RepY w' Y := h.same (fun r _ => by rw [e])
theorem Turn.drewN {w w1 : World} {Y Y1 : YW} (h : Turn w Y w1 Y1) (n : Nat) : Turn w Y (w1.drewN n) Y1 :=
  ⟨h.rep.heapEq rfl, ⟨h.kept.os, h.kept.tape, h.kept.output, h.kept.size, h.kept.block⟩, h.ext, h.b⟩
theorem Tryz.infoUnit : (Tryz.prog.info? 158).map (fun i => (i.zero, i.size, i.bytes)) = some (some (.agg #[.string ⟨#[]⟩, .int .i64 0, .int .i64 0, .int .i64 0, .int .i64 0, .string ⟨#[]⟩, .string ⟨#[]⟩]), 7, 80) := by kernel_rfl
theorem S_withOre (Y : YW) (l : List SSpot) : (Y.withOre l).S = { Y.S with ore := l } := rfl
end Go.Proofs.YtlafddeoheambaaGreatDoor

/-
  What becomes of the document's world in memory where a player gets a unit more.
-/
namespace Go.Proofs.YtlafddeoheambaaGreatDoor
open Go.RowKit

theorem nodup_map_on {l : List Nat} (f : Nat → Nat) (h : l.Nodup) (hf : ∀ x ∈ l, ∀ y ∈ l, f x = f y → x = y) : (l.map f).Nodup := by
  unfold List.Nodup at *
  rw [List.pairwise_map]
  exact List.Pairwise.imp_of_mem (fun {a b} ha hb hab e => hab (hf a ha b hb e)) h
theorem map_fix {l : List Nat} (f : Nat → Nat) (h : ∀ x ∈ l, f x = x) : l.map f = l := by
  rw [List.map_congr_left (g := id) (fun x hx => h x hx)]
  simp

/-- One block put in the place of another. -/
def subB (ub g r : Nat) : Nat := if r = ub then g else r
theorem subB_other {ub g r : Nat} (h : r ≠ ub) : subB ub g r = r := by simp [subB, h]
theorem subB_same (ub g : Nat) : subB ub g ub = g := by simp [subB]

theorem foot_sub {Y : YW} (hs : Y.foot.Nodup) {n : Nat} {p p' : SPlayer} {v : PV} (hq : Y.pls[n]? = some (p, v)) {ub a b g c d : Nat} (hv : v.u = .slice (some ⟨ub, 0, none⟩) a b) :
    (Y.setQ n (p', { v with u := .slice (some ⟨g, 0, none⟩) c d })).foot = Y.foot.map (subB ub g) := by
  obtain ⟨hn, e⟩ := at_some hq
  have sp := sep_of hs
  have hmem : Y.pls[n] ∈ Y.pls := List.getElem_mem hn
  have hub : ub ∈ pvFoot Y.pls[n] := by rw [e]; simp [pvFoot, hv, blk_slice]
  have e1 : Y.b ≠ ub := fun h => sp.be _ hmem (h ▸ hub)
  have fo : ∀ r ∈ blk Y.vOre, subB ub g r = r := fun r hr => subB_other (fun h => sp.oe r hr _ hmem (h ▸ hub))
  have fp : ∀ r ∈ blk Y.vPl, subB ub g r = r := fun r hr => subB_other (fun h => sp.pe r hr _ hmem (h ▸ hub))
  have fl : ∀ r ∈ blk Y.vLots, subB ub g r = r := fun r hr => subB_other (fun h => sp.le r hr _ hmem (h ▸ hub))
  have fe : (Y.pls.set n (p', { v with u := .slice (some ⟨g, 0, none⟩) c d })).flatMap pvFoot = (Y.pls.flatMap pvFoot).map (subB ub g) := by
    rw [List.map_flatMap, List.flatMap_def, List.flatMap_def]
    congr 1
    apply List.ext_getElem
    · simp
    · intro j h1 h2
      have hj : j < Y.pls.length := by simpa using h2
      simp only [List.getElem_map, List.getElem_set]
      split
      · rename_i hnj
        subst hnj
        have nd := sp.e1 n hn
        rw [e] at nd ⊢
        simp only [pvFoot, hv, blk_slice, List.singleton_append, List.nodup_cons, List.mem_append, not_or] at nd
        simp only [pvFoot, hv, blk_slice, List.singleton_append, List.map_cons, List.map_append, subB_same]
        have g1 : ∀ x ∈ blk v.b, subB ub g x = x := fun x hx => subB_other (fun h => nd.1.1 (h ▸ hx))
        have g2 : ∀ x ∈ blk v.n, subB ub g x = x := fun x hx => subB_other (fun h => nd.1.2 (h ▸ hx))
        rw [map_fix _ g1, map_fix _ g2]
      · rename_i hnj
        rw [map_fix]
        intro x hx
        exact subB_other (fun h => sp.ee n j hn hj hnj ub hub (h ▸ hx))
  simp only [YW.foot, YW.setQ, List.map_cons, List.map_append, subB_other e1, map_fix _ fo, map_fix _ fp, map_fix _ fl, fe]

theorem Turn.addUnit {w w5 w5' w6 : World} {Y Y2 : YW} (h : Turn w Y w5 Y2) {n : Nat} {p : SPlayer} {v : PV} (hq : Y2.pls[n]? = some (p, v)) {pb pcap ub a c : Nat} (hvp : Y2.vPl = .slice (some ⟨pb, 0, none⟩) Y2.pls.length pcap) (hv : v.u = .slice (some ⟨ub, 0, none⟩) a c)
    (hb5 : Below w5.heap.size w5 w5') (hg : w5'.grownBy w6 (some ub)) (g cap : Nat) (u' : SUnit) (us : List SUnit) (hus : us = p.units ++ [u'])
    (ho : w6.ownsRow 0 158 7 (.slice (some ⟨g, 0, none⟩) us.length cap) us.length (us.flatMap unitCells)) (hat : ub = g ∨ w5.heap.size ≤ g) :
    Turn w Y (w6.setCell ⟨pb, n * 4 + 1, none⟩ (.slice (some ⟨g, 0, none⟩) us.length cap)) (Y2.setQ n ({ p with units := us }, { v with u := .slice (some ⟨g, 0, none⟩) us.length cap })) := by
  obtain ⟨hn, e⟩ := at_some hq
  have hr := h.rep
  have sp := sep_of hr.sep
  have hmem : Y2.pls[n] ∈ Y2.pls := List.getElem_mem hn
  have hub : ub ∈ pvFoot Y2.pls[n] := by rw [e]; simp [pvFoot, hv, blk_slice]
  have hubf : ub ∈ Y2.foot := foot_e hmem hub
  have hpb : pb ∈ blk Y2.vPl := by simp [hvp, blk_slice]
  have hpbf : pb ∈ Y2.foot := foot_p hpb
  have hne : ub ≠ pb := fun h => sp.pe pb hpb _ hmem (h ▸ hub)
  have far : ∀ r, r < w5.heap.size → r ≠ ub → r ≠ pb → (w6.setCell ⟨pb, n * 4 + 1, none⟩ (.slice (some ⟨g, 0, none⟩) us.length cap)).heap[r]? = w5.heap[r]? := by
    intro r hr1 hr2 hr3
    rw [setCell_far w6 pb _ _ r hr3, hg.block r (Nat.lt_of_lt_of_le hr1 hb5.size) (by simpa using hr2), hb5.block r hr1]
  have lt := hr.lt
  have hgpb : g ≠ pb := by
    rcases hat with h | h
    · rw [← h]; exact hne
    · have := lt pb hpbf; omega
  refine ⟨⟨?_, ?_, ?_, ?_, ?_, ?_⟩, ?_, ?_, h.b⟩
  · show (w6.setCell _ _).heap[Y2.b]? = _
    rw [far Y2.b (lt _ foot_b) (fun h => sp.be _ hmem (h ▸ hub)) (fun h => sp.bp (h ▸ hpb)), hr.top]; rfl
  · exact own_same hr.ore (fun r hr' => far r (lt _ (foot_o hr')) (fun h => sp.oe r hr' _ hmem (h ▸ hub)) (fun h => sp.op r hr' (h ▸ hpb)))
  · show (w6.setCell _ _).ownsRow 0 _ 4 Y2.vPl (Y2.pls.set n _).length ((Y2.pls.set n _).flatMap plCells)
    rw [List.length_set, ← flat_set plCells 4 (fun _ => rfl) Y2.pls n 1 _ (.slice (some ⟨g, 0, none⟩) us.length cap) hn (by omega) (by rw [e]; rfl), hvp]
    have o := hr.pl
    rw [hvp] at o
    refine own_set (own_same o (fun r hr' => ?_)) (n * 4 + 1) _ (by omega)
    have : r = pb := by simpa [blk_slice] using hr'
    subst this
    rw [hg.block r (Nat.lt_of_lt_of_le (lt _ hpbf) hb5.size) (by simpa using Ne.symm hne), hb5.block r (lt _ hpbf)]
  · exact own_same hr.lots (fun r hr' => far r (lt _ (foot_l hr')) (fun h => sp.le r hr' _ hmem (h ▸ hub)) (fun h => sp.pl pb hpb (h ▸ hr')))
  · intro q hqm
    obtain ⟨j, hj, rfl⟩ := List.mem_iff_getElem.1 hqm
    simp only [YW.setQ, List.length_set] at hj
    simp only [YW.setQ, List.getElem_set]
    split
    · have nd := sp.e1 n hn
      have old := hr.each _ hmem
      rw [e] at nd old
      simp only [pvFoot, hv, blk_slice, List.singleton_append, List.nodup_cons, List.mem_append, not_or] at nd
      have inf : ∀ r, r ∈ pvFoot (p, v) → r ∈ Y2.foot := fun r hr' => foot_e hmem (by rw [e]; exact hr')
      have npb : ∀ r, r ∈ pvFoot (p, v) → r ≠ pb := fun r hr' h => sp.pe pb hpb _ hmem (by rw [e]; exact h ▸ hr')
      refine ⟨?_, ?_, ?_⟩
      · refine own_same ho (fun r hr' => setCell_far w6 pb _ _ r ?_)
        have : r = g := by simpa [blk_slice] using hr'
        rw [this]; exact hgpb
      · exact own_same old.bids (fun r hr' => far r (lt _ (inf r (by simp [pvFoot]; exact .inr (.inl hr')))) (fun h => nd.1.1 (h ▸ hr')) (npb r (by simp [pvFoot]; exact .inr (.inl hr'))))
      · exact own_same old.news (fun r hr' => far r (lt _ (inf r (by simp [pvFoot]; exact .inr (.inr hr')))) (fun h => nd.1.2 (h ▸ hr')) (npb r (by simp [pvFoot]; exact .inr (.inr hr'))))
    · rename_i hnj
      exact (hr.each _ (List.getElem_mem hj)).same (fun r hr' => far r (lt _ (foot_e (List.getElem_mem hj) hr')) (fun h => sp.ee n j hn hj hnj ub hub (h ▸ hr')) (fun h => sp.pe pb hpb _ (List.getElem_mem hj) (h ▸ hr')))
  · rw [foot_sub hr.sep hq hv]
    refine nodup_map_on _ hr.sep (fun x hx y hy hxy => ?_)
    unfold subB at hxy
    have lx := lt x hx
    have ly := lt y hy
    split at hxy <;> split at hxy
    · omega
    · rcases hat with h | h <;> omega
    · rcases hat with h | h <;> omega
    · exact hxy
  · refine h.kept.trans (F1 := Y2.foot) ⟨?_, ?_, ?_, ?_, ?_⟩ h.ext
    · exact hg.os.trans hb5.os
    · exact hg.tape.trans hb5.tape
    · exact hg.output.trans hb5.output
    · have := hb5.size; have := hg.size; simp [World.setCell]; omega
    · intro k hk hkn
      exact far k hk (fun h => hkn (h ▸ hubf)) (fun h => hkn (h ▸ hpbf))
  · intro r hr'
    rw [foot_sub hr.sep hq hv] at hr'
    obtain ⟨x, hx, rfl⟩ := List.mem_map.1 hr'
    unfold subB
    split
    · rename_i hx'
      rcases hat with h' | h'
      · rw [← h']; exact h.ext ub hubf
      · exact .inr (Nat.le_trans h.kept.size h')
    · exact h.ext x hx

theorem rowAfter {w : World} {Y : YW} (h : RepY w Y) {n : Nat} {p : SPlayer} {v : PV} (hq : Y.pls[n]? = some (p, v)) (wx : World) (o : Obj) (hx : wx.heap = w.heap.push o) : wx.ownsRow 0 158 7 v.u p.units.length (p.units.flatMap unitCells) := by
  have hb : Below w.heap.size w (w.alloc o) := (Below.refl _ _).alloc (Nat.le_refl _) _
  exact (((h.below hb).heapEq (w' := wx) hx).eachAt hq).units
theorem addKeep {w5 wx w6 : World} {pb ub : Nat} (hb : Below w5.heap.size w5 wx) (hg : wx.grownBy w6 (some ub)) (hp : pb < w5.heap.size) (hne : pb ≠ ub) (j : Nat) : w6.cell? ⟨pb, j, none⟩ = w5.cell? ⟨pb, j, none⟩ ∧ w6.frozen? ⟨pb, j, none⟩ = w5.frozen? ⟨pb, j, none⟩ := by
  have e : w6.heap[pb]? = w5.heap[pb]? := by rw [hg.block pb (Nat.lt_of_lt_of_le hp hb.size) (by simpa using hne), hb.block pb hp]
  exact ⟨World.cell?_of_block (w := w5) (a := ⟨pb, j, none⟩) e, World.frozen?_of_block (w := w5) (a := ⟨pb, j, none⟩) e⟩
theorem buildEnd {w w5 wx w6 : World} {Y Y1 : YW} {n k L pb pcap ub a c g cap : Nat} {p : SPlayer} {v : PV} {q : SPlayer × PV} (us0 : List SUnit) (u' : SUnit) (hL : us0.length = L) (T6 : Turn w Y w5 (Y1.setQ n ({ p with money := p.money - 50, units := us0 }, v))) (hq1 : Y1.pls[n]? = some q)
    (hvp2 : (Y1.setQ n ({ p with money := p.money - 50, units := us0 }, v)).vPl = .slice (some ⟨pb, 0, none⟩) (Y1.setQ n ({ p with money := p.money - 50, units := us0 }, v)).pls.length pcap) (hvu : v.u = .slice (some ⟨ub, 0, none⟩) a c)
    (hb : Below w5.heap.size w5 wx) (hgrow : wx.grownBy w6 (some ub)) (hown : w6.ownsRow 0 158 7 (.slice (some ⟨g, 0, none⟩) (L + 1) cap) (L + 1) (us0.flatMap unitCells ++ unitCells u')) (hat : some ub = some g ∨ g = w5.heap.size + 1)
    (hF : doesS Y.S n k = Y1.S.setPl n { p with money := p.money - 50, units := us0 ++ [u'] }) :
    ∃ Y', Turn w Y (w6.setCell ⟨pb, n * 4 + 1, none⟩ (.slice (some ⟨g, 0, none⟩) (L + 1) cap)) Y' ∧ Y'.S = doesS Y.S n k := by
  have hl : (us0 ++ [u']).length = L + 1 := by simp [hL]
  have ho : w6.ownsRow 0 158 7 (.slice (some ⟨g, 0, none⟩) (us0 ++ [u']).length cap) (us0 ++ [u']).length ((us0 ++ [u']).flatMap unitCells) := by
    rw [hl, List.flatMap_append]
    simpa using hown
  have T7 := T6.addUnit (setQ_at hq1) hvp2 hvu hb hgrow g cap u' (us0 ++ [u']) rfl ho (by rcases hat with h | h; exact .inl (by injection h); exact .inr (by omega))
  rw [hl, setQ_setQ] at T7
  exact ⟨_, T7, by rw [S_setQ]; exact hF.symm⟩
end Go.Proofs.YtlafddeoheambaaGreatDoor

/-
  The function does of package hazeref: what a unit's order leaves of the world.
-/
namespace Go.Proofs.YtlafddeoheambaaGreatDoor
open Go.RowKit
attribute [local go_sem] Go.wp_at_zero Go.wp_at_succ

set_option maxRecDepth 100000 in
set_option maxHeartbeats 4000000 in
theorem does_easy (w : World) (Y : YW) (M : Int) (n k : Nat) (p : SPlayer) (v : PV) (u : SUnit) (hr : RepY w Y) (hf : WF Y M) (hM : M ≤ 1000000000000) (hq : Y.pls[n]? = some (p, v)) (hu : p.units[k]? = some u) (h4 : (u.what.toList == [100, 105, 103]) = false) (h5 : (u.what.toList == [115, 101, 108, 108]) = false) (h6 : (u.what.toList == [99, 97, 108, 108]) = false) (h7 : (u.what.toList == [98, 117, 105, 108, 100]) = false) :
    Calls Tryz.prog 98 #[.pointer (some ⟨Y.b, 0, none⟩), .int .i64 n, .int .i64 k] w fun e w' => e = .returned (.tuple #[]) ∧ ∃ Y', Turn w Y w' Y' ∧ Y'.S = doesS Y.S n k := by
  obtain ⟨hn, he⟩ := at_some hq
  obtain ⟨hk, heu⟩ := at_some hu
  have hmem : (p, v) ∈ Y.pls := by rw [← he]; exact List.getElem_mem hn
  have humem : u ∈ p.units := by rw [← heu]; exact List.getElem_mem hk
  clear he heu
  rcases own_form hr.pl with ⟨_, h0, _⟩ | ⟨pb, pcap, hvp, hpc, hpm, hpb⟩
  · omega
  have hun := (hr.eachAt hq).units
  rcases own_form hun with ⟨_, h0, _⟩ | ⟨ub, ucap, hvu, huc, hum, hub⟩
  · simp only at h0; omega
  simp only at hvu huc
  clear hun
  unfold maxLen at hpm hum
  have c5 : w.cell? ⟨Y.b, 5, none⟩ = some (.slice (some ⟨pb, 0, none⟩) Y.pls.length pcap) := by rw [← hvp]; exact hr.cellTop rfl
  obtain ⟨m0, m1, _, _⟩ := hr.plCell hq hvp
  rw [hvu] at m1
  obtain ⟨d0, d1, d2, d3, d4, d5, d6⟩ := (hr.eachAt hq).uCell hu hvu
  have fu := (hr.eachAt hq).uFrozen hvu
  have f5 := fu (k * 7 + 5)
  have f6 := fu (k * 7 + 6)
  clear fu
  have T1 : Hid (Turn w Y ((w.setCell ⟨ub, k * 7 + 5, none⟩ (.string ⟨#[]⟩)).setCell ⟨ub, k * 7 + 6, none⟩ (.string ⟨#[]⟩)) (Y.setQ n ({ p with units := p.units.set k { u with what := emptyB, arg := emptyB } }, v))) := by
    unfold Hid
    have t1 := (Turn.refl hr).unit1 hq hu hvu 5 { u with what := emptyB } (.string ⟨#[]⟩) (by omega) rfl
    have t2 := t1.unit1 (setQ_at hq) (set_at hu) (by simpa using hvu) 6 { u with what := emptyB, arg := emptyB } (.string ⟨#[]⟩) (by omega) rfl
    rw [setQ_setQ] at t2
    simpa using t2
  have hfull : Full (Y.setQ n ({ p with units := p.units.set k { u with what := emptyB, arg := emptyB } }, v)) := hf.full.setQ hq (by simp)
  obtain ⟨ux0, ux1, uy0, uy1⟩ := hf.ux _ hmem _ humem
  obtain ⟨uh0, uh1⟩ := hf.uh _ hmem _ humem
  obtain ⟨uc0, uc1⟩ := hf.uc _ hmem _ humem
  obtain ⟨mo0, mo1⟩ := hf.mo _ hmem
  have hwd := hf.wd
  have hht := hf.ht
  have HS : Hid _ := doesS_at hq hu
  have HQ : Hid (Y.pls[n]? = some (p, v)) := hq
  have HU : Hid (p.units[k]? = some u) := hu
  have HVP : Hid (Y.vPl = .slice (some ⟨pb, 0, none⟩) Y.pls.length pcap) := hvp
  have HVU : Hid (v.u = .slice (some ⟨ub, 0, none⟩) p.units.length ucap) := hvu
  clear hq hu hvp hvu
  go_enter Tryz.func98, Tryz.ntmps98
  go_wp2_with fail
  refine (ahead_any _ (Y.setQ n ({ p with units := p.units.set k { u with what := emptyB, arg := emptyB } }, v)) _ _ _ _ _ _ _ T1.out.rep hfull (by omega) (by omega) (by omega) (by show 0 ≤ Y.width ∧ Y.width ≤ 100; omega) (by show 0 ≤ Y.height ∧ Y.height ≤ 100; omega)).mono ?_
  rintro e w3 ⟨rfl, hb3⟩
  have T3 : Hid (Turn w Y w3 (Y.setQ n ({ p with units := p.units.set k { u with what := emptyB, arg := emptyB } }, v))) := T1.out.below hb3
  obtain ⟨Y1, hY1⟩ : ∃ Y1, Y1 = Y.setQ n ({ p with units := p.units.set k { u with what := emptyB, arg := emptyB } }, v) := ⟨_, rfl⟩
  rw [← hY1] at T3
  clear hb3 T1 d0 d1 d2 d3 d4 d5 d6 m0 m1 c5 f5 f6 hfull
  have hq1 : Y1.pls[n]? = some ({ p with units := p.units.set k { u with what := emptyB, arg := emptyB } }, v) := by rw [hY1]; exact setQ_at HQ.out
  have hu1 : (p.units.set k { u with what := emptyB, arg := emptyB })[k]? = some { u with what := emptyB, arg := emptyB } := set_at HU.out
  have hvp1 : Y1.vPl = .slice (some ⟨pb, 0, none⟩) Y1.pls.length pcap := by rw [hY1]; simpa [YW.setQ] using HVP.out
  have hvu1 : v.u = .slice (some ⟨ub, 0, none⟩) (p.units.set k { u with what := emptyB, arg := emptyB }).length ucap := by simpa using HVU.out
  have hS1 : Y1.S = Y.S.setPl n { p with units := p.units.set k { u with what := emptyB, arg := emptyB } } := by rw [hY1, S_setQ]
  have HS1 : Hid (doesS Y.S n k = actS Y1.S n k { p with units := p.units.set k { u with what := emptyB, arg := emptyB } } { u with what := emptyB, arg := emptyB } u.what u.arg) := by unfold Hid; rw [hS1]; exact HS.out
  have hfree : freeB (Y.setQ n ({ p with units := p.units.set k { u with what := emptyB, arg := emptyB } }, v)) = fun x y => freeS Y1.S x y := by rw [hY1]; rfl
  rw [hfree]
  obtain ⟨m0, m1, m2, _⟩ := T3.out.rep.plCell hq1 hvp1
  have m1r : Hid (w3.cell? ⟨pb, n * 4 + 1, none⟩ = some v.u) := m1
  rw [HVU.out] at m1
  obtain ⟨d0, d1, d2, d3, d4, d5, d6⟩ := (T3.out.rep.eachAt hq1).uCell hu1 hvu1
  simp only at m0 d0 d1 d2 d3 d4 d5 d6
  have fu := (T3.out.rep.eachAt hq1).uFrozen hvu1
  have fp := T3.out.rep.plFrozen hvp1
  have HQ1 : Hid _ := hq1
  have HU1 : Hid _ := hu1
  have HVP1 : Hid _ := hvp1
  have HVU1 : Hid _ := hvu1
  have HO : Hid (Y1.ore = Y.ore) := by unfold Hid; rw [hY1]; rfl
  clear hq1 hu1 hvp1 hvu1 hS1 hfree hY1 HS
  have hne := T3.out.rep.apart HQ1.out HVP1.out HVU1.out
  have hne' : pb ≠ ub := fun e => hne e.symm
  cases h0 : (u.what.toList == [103, 111])
  · cases h1 : (u.what.toList == [108, 101, 102, 116])
    · cases h2 : (u.what.toList == [98, 97, 99, 107])
      · cases h3 : (u.what.toList == [114, 105, 103, 104, 116])
        · go_wp2
          go_end0
          exact ⟨rfl, _, T3.out, (HS1.out.trans (actS_none _ _ _ _ _ _ _ h0 h1 h2 h3 h4 h5 h6 h7)).symm⟩
        · go_wp2
          go_end0
          exact ⟨rfl, _, T3.out.unit1 HQ1.out HU1.out HVU1.out 3 { u with head := (u.head + 3) % 4, what := emptyB, arg := emptyB } _ (by omega) rfl, by rw [S_setQ]; exact (HS1.out.trans (actS_right _ _ _ _ _ _ _ h0 h1 h2 h3)).symm⟩
      · go_wp2
        go_end0
        exact ⟨rfl, _, T3.out.unit1 HQ1.out HU1.out HVU1.out 3 { u with head := (u.head + 2) % 4, what := emptyB, arg := emptyB } _ (by omega) rfl, by rw [S_setQ]; exact (HS1.out.trans (actS_back _ _ _ _ _ _ _ h0 h1 h2)).symm⟩
    · go_wp2
      go_end0
      exact ⟨rfl, _, T3.out.unit1 HQ1.out HU1.out HVU1.out 3 { u with head := (u.head + 1) % 4, what := emptyB, arg := emptyB } _ (by omega) rfl, by rw [S_setQ]; exact (HS1.out.trans (actS_left _ _ _ _ _ _ _ h0 h1)).symm⟩
  · cases hx : freeS Y1.S (u.x + dxI u.head) (u.y + dyI u.head)
    · go_wp2
      go_end0
      exact ⟨rfl, _, T3.out, (HS1.out.trans (actS_go_no _ _ _ _ _ _ _ h0 hx)).symm⟩
    · go_wp2
      go_end0
      exact ⟨rfl, _, T3.out.unit2 HQ1.out HU1.out HVU1.out 1 2 { u with x := u.x + dxI u.head, what := emptyB, arg := emptyB } { u with x := u.x + dxI u.head, y := u.y + dyI u.head, what := emptyB, arg := emptyB } _ _ (by omega) (by omega) rfl rfl, by rw [S_setQ]; exact (HS1.out.trans (actS_go _ _ _ _ _ _ _ h0 hx)).symm⟩
end Go.Proofs.YtlafddeoheambaaGreatDoor
