/-
  The function New of package hazeref, where numbers and spots are right.
-/
import Derived.Test.YtlafddeoheambaaGreatDoorT10
set_option linter.unusedVariables false
namespace Go.Proofs.YtlafddeoheambaaGreatDoor
open Go.RowKit
attribute [local go_sem] Go.wp_at_zero Go.wp_at_succ

theorem Tryz.infoPlayer : (Tryz.prog.info? 162).map (fun i => (i.zero, i.size, i.bytes)) = some (some (.agg #[.int .i64 0, .slice none 0 0, .slice none 0 0, .slice none 0 0]), 4, 80) := by kernel_rfl

theorem amounts_bad {W H S : Int} {ore starts : List SSpot} {k : Nat} (hk : k < ore.length) (h : inB ore[k].amount 1 99 = false) : newB W H S ore starts = false := by
  unfold newB
  have : ore.all (fun s => inB s.amount 1 99) = false := by
    rw [List.all_eq_false]
    exact ⟨ore[k], List.getElem_mem hk, by simp [h]⟩
  rw [this]
  simp

theorem Part.start (w w0 w1 : World) (W H S : Int) (h0 : w0.heap.size = w.heap.size + 1) (hw1 : w1 = w0.alloc (.cells #[.int .i64 W, .int .i64 H, .int .i64 S, .int .i64 0, .slice none 0 0, .slice none 0 0, .slice none 0 0] 156)) :
    Part w w1 w1 ⟨w.heap.size + 1, W, H, S, 0, [], .slice none 0 0, [], .slice none 0 0, [], .slice none 0 0⟩ W H S [] [] := by
  refine ⟨⟨?_, ⟨rfl, .inl ⟨rfl, rfl⟩⟩, ⟨rfl, .inl ⟨rfl, rfl⟩⟩, ⟨rfl, .inl ⟨rfl, rfl⟩⟩, fun p hp => by simp at hp, ?_⟩, rfl, rfl, Below.refl _ _, ?_⟩
  · rw [hw1]
    show (w0.alloc _).heap[w.heap.size + 1]? = _
    rw [← h0]
    exact Go.heap_alloc_new w0 _
  · show [w.heap.size + 1].Nodup
    simp
  · intro r hr
    have : r ∈ [w.heap.size + 1] := hr
    simp at this
    omega
theorem keepOther {w5 wx w6 : World} {pb : Nat} {row : Option Nat} (hb : Below w5.heap.size w5 wx) (hg : wx.grownBy w6 row) (hp : pb < w5.heap.size) (hne : some pb ≠ row) (j : Nat) : w6.cell? ⟨pb, j, none⟩ = w5.cell? ⟨pb, j, none⟩ ∧ w6.frozen? ⟨pb, j, none⟩ = w5.frozen? ⟨pb, j, none⟩ := by
  have e : w6.heap[pb]? = w5.heap[pb]? := by rw [hg.block pb (Nat.lt_of_lt_of_le hp hb.size) hne, hb.block pb hp]
  exact ⟨World.cell?_of_block (w := w5) (a := ⟨pb, j, none⟩) e, World.frozen?_of_block (w := w5) (a := ⟨pb, j, none⟩) e⟩
theorem SpIn.cells {w : World} {ao : Option Addr} {c : Nat} {l : List SSpot} (h : SpIn w (.slice ao l.length c) l) {k : Nat} (hk : k < l.length) : ∃ b off, ao = some ⟨b, off, none⟩ ∧ b < w.heap.size ∧
    w.cell? ⟨b, off + k * 3, none⟩ = some (.int .i64 l[k].x) ∧ w.cell? ⟨b, off + k * 3 + 1, none⟩ = some (.int .i64 l[k].y) ∧ w.cell? ⟨b, off + k * 3 + 2, none⟩ = some (.int .i64 l[k].amount) := by
  obtain ⟨ao', c', e, h⟩ := h
  injection e with e1 e2 e3
  subst e1
  obtain ⟨b, off, h1, h2, hc⟩ := h (by omega)
  have f := fun j (hj : j < 3) => flat_at spotCells 3 (fun _ => rfl) l k j hk hj
  exact ⟨b, off, h1, h2, hc (k * 3 + 0) _ (f 0 (by omega)), hc (k * 3 + 1) _ (f 1 (by omega)), hc (k * 3 + 2) _ (f 2 (by omega))⟩

theorem Part.more {w w1 wr w5 : World} {Y : YW} {W H S : Int} {ore : List SSpot} {pls : List SPlayer} (h : Part w w1 wr Y W H S ore pls) (hb : Below wr.heap.size wr w5) : Part w w1 w5 Y W H S ore pls := by
  have l1 : w.heap.size + 1 < wr.heap.size := by have := h.rep.lt Y.b foot_b; rw [h.b] at this; exact this
  exact ⟨h.rep.below hb, h.b, h.s, h.below.trans (hb.mono (by omega)), h.fresh⟩
/-- The cells of a first unit. -/
def firstC (s : SSpot) : Array Value := #[.string ⟨#[97]⟩, .int .i64 s.x, .int .i64 s.y, .int .i64 0, .int .i64 0, .string ⟨#[]⟩, .string ⟨#[]⟩]
theorem plEnd {w w1 w5 wx w6 : World} {Y : YW} {W H S : Int} {ore starts : List SSpot} {m vcap g cap : Nat} {av : Option Addr} {B : Obj} (P : Part w w1 w5 Y W H S ore ((starts.take m).map firstP)) (hm : m < starts.length) (hlk : Y.pls.length = m) (hvo : Y.vPl = .slice av m vcap)
    (hx : wx.heap = (w5.heap.push (.cells (firstC starts[m]) 158 (0, 0))).push B) (hb : Below w5.heap.size w5 wx) (hg : wx.grownBy w6 (Value.ownBlock (.slice av m vcap)))
    (ho : w6.ownsRow 0 162 4 (.slice (some ⟨g, 0, none⟩) (m + 1) cap) (m + 1) (Y.pls.flatMap plCells ++ [.int .i64 100, .slice (some ⟨w5.heap.size, 0, none⟩) 1 1, .slice none 0 0, .slice none 0 0])) (hat : Value.ownBlock (.slice av m vcap) = some g ∨ g = w5.heap.size + 2) :
    Part w w1 (w6.setCell ⟨w.heap.size + 1, 5, none⟩ (.slice (some ⟨g, 0, none⟩) (m + 1) cap)) (Y.addPl (firstP starts[m], ⟨.slice (some ⟨w5.heap.size, 0, none⟩) 1 1, .slice none 0 0, .slice none 0 0⟩) (.slice (some ⟨g, 0, none⟩) (m + 1) cap)) W H S ore ((starts.take (m + 1)).map firstP) := by
  rw [List.take_succ_eq_append_getElem hm, List.map_append]
  have lt := P.rep.lt
  have hrow : ∀ r, Value.ownBlock (.slice av m vcap) = some r → r < w5.heap.size := fun r hr => lt r (foot_p (by rw [hvo]; simp [blk, hr]))
  have hgu : w5.heap.size ≠ g := by
    rcases hat with h | h
    · have := hrow g h; omega
    · omega
  have hu : w6.heap[w5.heap.size]? = some (.cells (firstC starts[m]) 158 (0, 0)) := by
    have hsz : wx.heap.size = w5.heap.size + 2 := by rw [hx]; simp
    rw [hg.block w5.heap.size (by omega) (fun e => by have := hrow _ e.symm; omega), hx, Array.getElem?_push, if_neg (by simp), Array.getElem?_push, if_pos rfl]
  refine P.addPl hb (by rw [hvo]; exact hg) (firstP starts[m]) w5.heap.size 1 g cap (m + 1) (by rw [hlk]) ⟨?_, ⟨rfl, .inl ⟨rfl, rfl⟩⟩, ⟨rfl, .inl ⟨rfl, rfl⟩⟩⟩ (Nat.le_refl _) hgu ho (by rw [hvo]; rcases hat with h | h; exact .inl h; exact .inr (by omega))
  exact ⟨rfl, .inr ⟨w5.heap.size, 1, _, rfl, Nat.zero_le _, hu, Nat.le_refl _, by unfold maxLen; simp, rfl, rfl⟩⟩
theorem oreEnd {w w1 wr wx w6 : World} {Y : YW} {W H S : Int} {ore : List SSpot} {k vcap g cap : Nat} {av : Option Addr} (P : Part w w1 wr Y W H S (ore.take k) []) (hk : k < ore.length) (hvo : Y.vOre = .slice av k vcap) (hb : Below wr.heap.size wr wx) (hg : wx.grownBy w6 (Value.ownBlock (.slice av k vcap)))
    (ho : w6.ownsRow 0 63 3 (.slice (some ⟨g, 0, none⟩) (k + 1) cap) (k + 1) ((ore.take k).flatMap spotCells ++ spotCells ore[k])) (hat : Value.ownBlock (.slice av k vcap) = some g ∨ g = wr.heap.size + 1) :
    Part w w1 (w6.setCell ⟨w.heap.size + 1, 4, none⟩ (.slice (some ⟨g, 0, none⟩) (k + 1) cap)) (Y.addOre ore[k] (.slice (some ⟨g, 0, none⟩) (k + 1) cap)) W H S (ore.take (k + 1)) [] := by
  rw [List.take_succ_eq_append_getElem hk]
  exact P.addOre hb (by rw [hvo]; exact hg) ore[k] g cap (k + 1) (by simp; omega) ho (by rw [hvo]; rcases hat with h | h; exact .inl h; exact .inr (by omega))

set_option maxRecDepth 100000 in
set_option maxHeartbeats 8000000 in
theorem rnew_rest (w : World) (W H S : Int) (vo vs : Value) (ore starts : List SSpot) (ho : SpIn w vo ore) (hs : SpIn w vs starts) (hW : inB W 3 10 = true) (hH : inB H 3 10 = true) (hS : inB S 1 4 = true) (hst : inB starts.length 2 4 = true) (hore : ore.length ≤ 6)
    (ha : apartB ore W H = true) (hb : apartB starts W H = true) :
    Calls Tryz.prog 47 #[.agg #[.int .i64 W, .int .i64 H, .int .i64 S, vo, vs]] w fun e w' => NewOut w w' e W H S ore starts := by
  have hW' : 3 ≤ W ∧ W ≤ 10 := by simpa [inB] using hW
  have hH' : 3 ≤ H ∧ H ≤ 10 := by simpa [inB] using hH
  have hst' : (2 : Int) ≤ starts.length ∧ (starts.length : Int) ≤ 4 := by simpa [inB] using hst
  have hore' : (ore.length : Int) ≤ 6 := by omega
  have HO := hidOf (fun (w' : World) (hb : Below w.heap.size w w') => rapart_any w' vo ore W H (ho.below hb) (by omega) (by omega) (by omega))
  have HS := hidOf (fun (w' : World) (hb : Below w.heap.size w w') => rapart_any w' vs starts W H (hs.below hb) (by omega) (by omega) (by omega))
  have hoS := hidOf ho
  have hsS := hidOf hs
  obtain ⟨ao, co, rfl, _⟩ := ho
  obtain ⟨az, cz, rfl, _⟩ := hs
  obtain ⟨i0, hi, hz0, hz1, hz2⟩ := info_parts Tryz.infoSpot
  go_enter Tryz.func47, Tryz.ntmps47
  go_wp2_with (go_at_call 88; refine (within_any _ _ _ _).mono ?_; rintro e w' ⟨rfl, rfl⟩)
  refine (HO.out _ ((Below.refl _ _).alloc (Nat.le_refl _) _)).mono ?_
  rintro e w1 ⟨rfl, n1, rfl⟩
  rw [ha]
  go_wp2_with fail
  refine (HS.out _ ?hb).mono ?_
  case hb => exact bdrewN ((Below.refl _ _).alloc (Nat.le_refl _) _) n1
  rintro e w1 ⟨rfl, n2, rfl⟩
  rw [hb]
  go_wp2
  obtain ⟨w0, hw0⟩ : ∃ w0, w0 = (w.alloc (.cells #[.int .i64 W, .int .i64 H, .int .i64 S, .slice ao ore.length co, .slice az starts.length cz] 57)).drewN (n1 + n2) := ⟨_, rfl⟩
  rw [← hw0]
  obtain ⟨w1, hw1⟩ : ∃ w1, w1 = w0.alloc (.cells #[.int .i64 W, .int .i64 H, .int .i64 S, .int .i64 0, .slice none 0 0, .slice none 0 0, .slice none 0 0] 156) := ⟨_, rfl⟩
  rw [← hw1]
  have hz : w0.heap.size = w.heap.size + 1 := by rw [hw0]; show (w.alloc _).heap.size = _; simp
  have P0 := hidOf (Part.start w w0 w1 W H S hz hw1)
  have hbw : Hid (Below w.heap.size w w1) := by
    rw [hw1]
    have : Below w.heap.size w w0 := by rw [hw0]; exact bdrewN ((Below.refl _ _).alloc (Nat.le_refl _) _) _
    exact this.alloc (by rw [hz]; omega) _
  have k3 : w1.cell? ⟨w.heap.size, 3, none⟩ = some (.slice ao ore.length co) := by
    rw [hw1, World.cell?_alloc_past _ _ _ (by show w.heap.size < w0.heap.size; omega), hw0]
    show (w.alloc _).cell? _ = _
    rw [cell_of_row _ w.heap.size 3 _ _ _ (Go.heap_alloc_new w _)]
    rfl
  have k4 : w1.cell? ⟨w.heap.size, 4, none⟩ = some (.slice az starts.length cz) := by
    rw [hw1, World.cell?_alloc_past _ _ _ (by show w.heap.size < w0.heap.size; omega), hw0]
    show (w.alloc _).cell? _ = _
    rw [cell_of_row _ w.heap.size 4 _ _ _ (Go.heap_alloc_new w _)]
    rfl
  have K3 := hidOf k3
  have K4 := hidOf k4
  clear hw0 hw1 hz HO HS k3 k4
  go_loopw [9] (fun i w' => ∃ (k : Nat) (Y : YW), k ≤ ore.length ∧ i = .int .i64 k ∧ Hid (Part w w1 w' Y W H S (ore.take k) []) ∧ Hid (noneTo (fun s : SSpot => !inB s.amount 1 99) ore k)) (fun i _ => ore.length + 1 - (intOf i).toNat)
  case atStart => exact ⟨0, _, Nat.zero_le _, rfl, P0.out, noneTo_zero _ _⟩
  case round =>
    obtain ⟨k, Y, hk, rfl, P, hn⟩ := hrel
    have c3 : wr.cell? ⟨w.heap.size, 3, none⟩ = some (.slice ao ore.length co) := (P.out.below.cell (p := ⟨w.heap.size, 3, none⟩) (Nat.lt_succ_self _)).trans K3.out
    have hbr := hidOf (hbw.out.trans (P.out.below.mono (Nat.le_succ _)))
    by_cases hlt : k < ore.length
    · obtain ⟨b, off, rfl, hb1, d0, d1, d2⟩ := (hoS.out.below hbr.out).cells hlt
      cases hamt : inB ore[k].amount 1 99
      · have HN := hidOf (amounts_bad (W := W) (H := H) (S := S) (starts := starts) hlt hamt)
        go_wp2_with (go_at_call 88; refine (within_any _ _ _ _).mono ?_; rintro e w' ⟨rfl, rfl⟩)
        go_ret2
        exact ⟨hbr.out, .inl ⟨HN.out, rfl⟩⟩
      · have hn' : Hid _ := noneTo_succ hn.out hlt (by simp [hamt])
        have ob := P.out.rep.ore
        rw [P.out.ore] at ob
        have hlk : (ore.take k).length = k := by simp; omega
        rw [hlk] at ob
        obtain ⟨av, gv, vcap, hvo, hvc, hvm, _⟩ := own_rd ob
        rw [hvo] at ob
        have c4 : wr.cell? ⟨w.heap.size + 1, 4, none⟩ = some (.slice av k vcap) := by rw [← P.out.b, ← hvo]; exact P.out.rep.cellTop rfl
        have f4 : wr.frozen? ⟨w.heap.size + 1, 4, none⟩ = false := by rw [← P.out.b]; exact P.out.rep.frozenTop 4
        have hlb : w.heap.size + 1 < wr.heap.size := by have := P.out.rep.lt _ foot_b; rw [P.out.b] at this; exact this
        have hrow : Hid (some (w.heap.size + 1) ≠ Value.ownBlock (.slice av k vcap)) := by
          intro e
          refine (sep_of P.out.rep.sep).bo ?_
          rw [hvo, P.out.b]
          simp [blk, ← e]
        have hownX : Hid (∀ (wx : World) (o : Obj), wx.heap = wr.heap.push o → wx.ownsRow 0 63 3 (.slice av k vcap) k ((ore.take k).flatMap spotCells)) := by
          intro wx o hx
          refine own_same ob (fun r hr => ?_)
          have hlt := own_lt ob r hr
          rw [hx, Array.getElem?_push, if_neg (by omega)]
        have a3 : ∀ o, (wr.alloc o).cell? ⟨w.heap.size, 3, none⟩ = some (.slice (some ⟨b, off, none⟩) ore.length co) := fun o => by rw [World.cell?_alloc_past _ _ _ (by show w.heap.size < _; omega)]; exact c3
        have a4 : ∀ o, (wr.alloc o).cell? ⟨w.heap.size + 1, 4, none⟩ = some (.slice av k vcap) := fun o => by rw [World.cell?_alloc_past _ _ _ hlb]; exact c4
        have b0 : ∀ o, (wr.alloc o).cell? ⟨b, off + k * 3, none⟩ = some (.int .i64 ore[k].x) := fun o => by rw [World.cell?_alloc_past _ _ _ hb1]; exact d0
        have b1 : ∀ o, (wr.alloc o).cell? ⟨b, off + k * 3 + 1, none⟩ = some (.int .i64 ore[k].y) := fun o => by rw [World.cell?_alloc_past _ _ _ hb1]; exact d1
        have b2 : ∀ o, (wr.alloc o).cell? ⟨b, off + k * 3 + 2, none⟩ = some (.int .i64 ore[k].amount) := fun o => by rw [World.cell?_alloc_past _ _ _ hb1]; exact d2
        have HVO := hidOf hvo
        have HTK := hidOf (List.take_succ_eq_append_getElem hlt)
        clear hvo ob
        go_wp2_with (go_at_call 88; refine (within_any _ _ _ _).mono ?_; rintro e w' ⟨rfl, h⟩; rw [h]; clear h w')
        go_region_law (refine step_append_lies _ (by rfl) _ _ _ (by rfl) 0 63 i0 _ 3 24 Tryz.underlying55 hi hz0 hz1 hz2 (by rfl) (by omega) (.slice av k vcap) k ((ore.take k).flatMap spotCells) (by rfl) (by exact hownX.out _ _ rfl) ⟨wr.heap.size, 0, none⟩ 1 1 (spotCells ore[k]) (by rfl) (by rfl) (by exact World.news_of_block (Go.heap_alloc_new wr _)) (by intro u hu; simp [spotCells] at hu; rcases hu with rfl | rfl | rfl <;> rfl) (by omega) (by unfold maxLen; omega) (by omega) (by omega) (wr.heap.size + 1) (by simp) ?_; intro g cap w6 hown6 hgrow hat hlt6; obtain ⟨q1, q2⟩ := keepOther (((Below.refl _ wr).alloc (Nat.le_refl _) _).drew) hgrow hlb hrow.out 4; rw [c4] at q1; rw [f4] at q2)
        all_goals
          go_wp2
          have P' := hidOf (oreEnd P.out hlt HVO.out (((Below.refl _ wr).alloc (Nat.le_refl _) _).drew) hgrow hown6 hat)
          exact ⟨⟨k + 1, _, by omega, by go_num, P', hn'⟩, by simp [intOf]; omega⟩
    · have hke : k = ore.length := by omega
      have hamt : Hid (ore.all (fun s => inB s.amount 1 99) = true) := by
        unfold Hid
        rw [List.all_eq_true]
        intro x hx
        obtain ⟨j, hj, rfl⟩ := List.mem_iff_getElem.1 hx
        have := hn.out j hj (by omega)
        simpa using this
      have P1 : Hid (Part w w1 wr Y W H S ore []) := by
        have := P.out
        rw [hke, List.take_of_length_le (Nat.le_refl _)] at this
        exact this
      clear P hn hke hbr K3
      obtain ⟨j0, hj, hy0, hy1, hy2⟩ := info_parts Tryz.infoPlayer
      go_wp2
      go_loopw [10] (fun i w' => ∃ (m : Nat) (Y : YW), m ≤ starts.length ∧ i = .int .i64 m ∧ Hid (Part w w1 w' Y W H S ore ((starts.take m).map firstP))) (fun i _ => starts.length + 1 - (intOf i).toNat)
      case atStart => exact ⟨0, Y, Nat.zero_le _, rfl, P1.out⟩
      case round =>
        clear P1 c3
        obtain ⟨m, Y, hm, rfl, P⟩ := hrel
        have c4 : wr.cell? ⟨w.heap.size, 4, none⟩ = some (.slice az starts.length cz) := (P.out.below.cell (p := ⟨w.heap.size, 4, none⟩) (Nat.lt_succ_self _)).trans K4.out
        have hbr := hidOf (hbw.out.trans (P.out.below.mono (Nat.le_succ _)))
        by_cases hlt1 : m < starts.length
        · obtain ⟨b, off, rfl, hb1, d0, d1, d2⟩ := (hsS.out.below hbr.out).cells hlt1
          have ob := P.out.rep.pl
          have hpl := P.out.pl
          have hlk : Y.pls.length = m := by
            have := congrArg List.length hpl
            simp at this
            omega
          rw [hlk] at ob
          obtain ⟨av, gv, vcap, hvo, hvc, hvm, _⟩ := own_rd ob
          rw [hvo] at ob
          have c5 : wr.cell? ⟨w.heap.size + 1, 5, none⟩ = some (.slice av m vcap) := by rw [← P.out.b, ← hvo]; exact P.out.rep.cellTop rfl
          have f5 : wr.frozen? ⟨w.heap.size + 1, 5, none⟩ = false := by rw [← P.out.b]; exact P.out.rep.frozenTop 5
          have hlb : w.heap.size + 1 < wr.heap.size := by have := P.out.rep.lt _ foot_b; rw [P.out.b] at this; exact this
          have a4 : ∀ o, (wr.alloc o).cell? ⟨w.heap.size, 4, none⟩ = some (.slice (some ⟨b, off, none⟩) starts.length cz) := fun o => by rw [World.cell?_alloc_past _ _ _ (by show w.heap.size < _; omega)]; exact c4
          have b0 : ∀ o, (wr.alloc o).cell? ⟨b, off + m * 3, none⟩ = some (.int .i64 starts[m].x) := fun o => by rw [World.cell?_alloc_past _ _ _ hb1]; exact d0
          have b1 : ∀ o, (wr.alloc o).cell? ⟨b, off + m * 3 + 1, none⟩ = some (.int .i64 starts[m].y) := fun o => by rw [World.cell?_alloc_past _ _ _ hb1]; exact d1
          have HVO := hidOf hvo
          have HOB := hidOf ob
          have HPL := hidOf hpl
          have HLK := hidOf hlk
          clear hvo ob hpl hlk
          go_wp2
          go_region
          go_wp2
          obtain ⟨w5, hw5⟩ : ∃ w5, w5 = (wr.alloc (.cells #[.string ⟨#[97]⟩, .int .i64 starts[m].x, .int .i64 starts[m].y, .int .i64 0, .int .i64 0, .string ⟨#[]⟩, .string ⟨#[]⟩] 158)).drew := ⟨_, rfl⟩
          rw [← hw5]
          have hb5 : Below wr.heap.size wr w5 := by rw [hw5]; exact ((Below.refl _ wr).alloc (Nat.le_refl _) _).drew
          have hrow5 : w5.heap[wr.heap.size]? = some (.cells (firstC starts[m]) 158 (0, 0)) := by rw [hw5]; exact Go.heap_alloc_new wr _
          have hs5 : wr.heap.size < w5.heap.size := by rw [hw5]; show wr.heap.size < (wr.alloc _).heap.size; simp
          have P5 := hidOf (P.out.more hb5)
          have g5 : w5.cell? ⟨w.heap.size + 1, 5, none⟩ = some (.slice av m vcap) := (hb5.cell (p := ⟨w.heap.size + 1, 5, none⟩) hlb).trans c5
          have z5 : w5.frozen? ⟨w.heap.size + 1, 5, none⟩ = false := (hb5.frozen (p := ⟨w.heap.size + 1, 5, none⟩) hlb).trans f5
          have uc : ∀ (j : Nat) (v : Value), (firstC starts[m])[j]? = some v → w5.cell? ⟨wr.heap.size, j, none⟩ = some v := fun j v hv => by rw [cell_of_row w5 wr.heap.size j _ _ _ hrow5]; exact hv
          have u0 := uc 0 _ rfl
          have u1 := uc 1 _ rfl
          have u2 := uc 2 _ rfl
          have u3 := uc 3 _ rfl
          have u4 := uc 4 _ rfl
          have u5 := uc 5 _ rfl
          have u6 := uc 6 _ rfl
          have hlb5 : w.heap.size + 1 < w5.heap.size := by omega
          have p1 : ∀ o, (w5.alloc o).cell? ⟨w.heap.size + 1, 5, none⟩ = some (.slice av m vcap) := fun o => by rw [World.cell?_alloc_past _ _ _ hlb5]; exact g5
          have p2 : ∀ o o', ((w5.alloc o).alloc o').cell? ⟨w.heap.size + 1, 5, none⟩ = some (.slice av m vcap) := fun o o' => by rw [World.cell?_alloc_past _ _ _ (by show w.heap.size + 1 < (w5.alloc o).heap.size; simp; omega)]; exact p1 o
          have hrowne : Hid (some (w.heap.size + 1) ≠ Value.ownBlock (.slice av m vcap)) := by
            intro e
            refine (sep_of P.out.rep.sep).bp ?_
            rw [HVO.out, P.out.b]
            simp [blk, ← e]
          have hownX : Hid (∀ (wx : World) (o o' : Obj), wx.heap = (w5.heap.push o).push o' → wx.ownsRow 0 162 4 (.slice av m vcap) m (Y.pls.flatMap plCells)) := by
            intro wx o o' hx
            refine own_same HOB.out (fun r hr => ?_)
            have hlt := own_lt HOB.out r hr
            rw [hx, Array.getElem?_push, if_neg (by simp; omega), Array.getElem?_push, if_neg (by omega), hb5.block r hlt]
          have hB : Hid (∀ o o', ((w5.alloc o).alloc o').heap[w5.heap.size + 1]? = some o') := by
            intro o o'
            have := Go.heap_alloc_new (w5.alloc o) o'
            have e : (w5.alloc o).heap.size = w5.heap.size + 1 := by simp
            rw [e] at this
            exact this
          have HB5 : Hid (∀ o o', Below w5.heap.size w5 (((w5.alloc o).alloc o').drew)) := fun o o' => (((Below.refl _ w5).alloc (Nat.le_refl _) _).alloc (by simp) _).drew
          have HLB5 := hidOf hlb5
          clear hw5 hb5 hrow5 uc c5 f5 a4 b0 b1 d0 d1 d2 c4
          go_region_law (refine step_append_lies _ (by rfl) _ _ _ (by rfl) 0 162 j0 _ 4 80 Tryz.underlying153 hj hy0 hy1 hy2 (by rfl) (by omega) (.slice av m vcap) m (Y.pls.flatMap plCells) (by rfl) (by exact hownX.out _ _ _ rfl) ⟨w5.heap.size + 1, 0, none⟩ 1 1 [.int .i64 100, .slice (some ⟨w5.heap.size, 0, none⟩) 1 1, .slice none 0 0, .slice none 0 0] (by rfl) (by rfl) (by exact World.news_of_block (hB.out _ _)) (by intro u hu; simp at hu; rcases hu with rfl | rfl | rfl | rfl <;> rfl) (by omega) (by unfold maxLen; omega) (by omega) (by omega) (w5.heap.size + 2) (by simp) ?_; intro g cap w6 hown6 hgrow hat hlt6; obtain ⟨q1, q2⟩ := keepOther (HB5.out _ _) hgrow HLB5.out hrowne.out 5; rw [g5] at q1; rw [z5] at q2)
          all_goals
            go_wp2
            have P' := hidOf (plEnd P5.out hlt1 HLK.out HVO.out rfl (HB5.out _ _) hgrow hown6 hat)
            exact ⟨⟨m + 1, _, by omega, by go_num, P'⟩, by simp [intOf]; omega⟩
        · have hme : m = starts.length := by omega
          have HN : Hid (newB W H S ore starts = true) := by
            unfold Hid newB
            rw [hW, hH, hS, hst, ha, hb, hamt.out]
            simp [hore]
          have HE : Hid (NewOut w wr (.returned (.tuple #[.pointer (some ⟨w.heap.size + 1, 0, none⟩), .int .i64 0])) W H S ore starts) := by
            refine ⟨hbr.out, .inr ⟨HN.out, Y, by rw [P.out.b], P.out.rep, ?_, fun r hr => by have := P.out.fresh r hr; omega⟩⟩
            have := P.out.s
            rw [hme, List.take_of_length_le (Nat.le_refl _)] at this
            exact this
          clear hme P
          go_wp2
          go_ret2
          exact HE.out
end Go.Proofs.YtlafddeoheambaaGreatDoor
