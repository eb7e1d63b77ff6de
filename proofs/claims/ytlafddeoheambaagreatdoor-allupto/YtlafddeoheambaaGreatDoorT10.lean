/-
  The function New of package hazeref: the world that it makes.
-/
import Derived.Test.YtlafddeoheambaaGreatDoorT09
import Derived.Test.YtlafddeoheambaaGreatDoorT05
import Derived.Deep.AppendLies
import Derived.Deep.RegionLaw
set_option linter.unusedVariables false
namespace Go.Proofs.YtlafddeoheambaaGreatDoor
open Go.RowKit
attribute [local go_sem] Go.wp_at_zero Go.wp_at_succ

/-- What New leaves: a world of its own, in new memory; or none. -/
def NewOut (w w' : World) (e : Ending) (W H S : Int) (ore starts : List SSpot) : Prop :=
  Below w.heap.size w w' ∧ ((newB W H S ore starts = false ∧ e = .returned (.tuple #[.pointer none, .int .i64 1])) ∨
    (newB W H S ore starts = true ∧ ∃ Y : YW, e = .returned (.tuple #[.pointer (some ⟨Y.b, 0, none⟩), .int .i64 0]) ∧ RepY w' Y ∧ Y.S = newS W H S ore starts ∧ ∀ r ∈ Y.foot, w.heap.size ≤ r))

theorem bdrewN {B : Nat} {a w : World} (h : Below B a w) (n : Nat) : Below B a (w.drewN n) := ⟨h.os, h.tape, h.output, h.size, h.block⟩
theorem ret_n2 {a a' : Option Addr} {b b' : Int} (h1 : a = a') (h2 : b = b') : Ending.returned (.tuple #[.pointer a, .int .i64 b]) = .returned (.tuple #[.pointer a', .int .i64 b']) := by rw [h1, h2]

set_option maxRecDepth 100000 in
set_option maxHeartbeats 4000000 in
/-- The numbers alone say no. -/
theorem rnew_numbers (w : World) (W H S : Int) (vo vs : Value) (ore starts : List SSpot) (ho : SpIn w vo ore) (hs : SpIn w vs starts) (hl : starts.length ≤ 2000000) (hlo : ore.length ≤ 2000000) (hno : (inB W 3 10 && inB H 3 10 && inB S 1 4 && inB starts.length 2 4 && decide (ore.length ≤ 6)) = false) :
    Calls Tryz.prog 47 #[.agg #[.int .i64 W, .int .i64 H, .int .i64 S, vo, vs]] w fun e w' => NewOut w w' e W H S ore starts := by
  have HN : Hid (newB W H S ore starts = false) := by
    unfold Hid newB
    rw [hno]
    simp
  obtain ⟨ao, co, rfl, _⟩ := ho
  obtain ⟨az, cz, rfl, _⟩ := hs
  have hcase : inB W 3 10 = false ∨ inB H 3 10 = false ∨ inB S 1 4 = false ∨ inB starts.length 2 4 = false ∨ decide ((ore.length : Int) ≤ 6) = false := by
    cases h1 : inB W 3 10
    · exact .inl rfl
    · cases h2 : inB H 3 10
      · exact .inr (.inl rfl)
      · cases h3 : inB S 1 4
        · exact .inr (.inr (.inl rfl))
        · cases h4 : inB starts.length 2 4
          · exact .inr (.inr (.inr (.inl rfl)))
          · rw [h1, h2, h3, h4] at hno
            exact .inr (.inr (.inr (.inr (by simp at hno; simp; omega))))
  clear hno
  rcases hcase with h | h | h | h | h
  all_goals
    go_enter Tryz.func47, Tryz.ntmps47
    go_wp2_with (go_at_call 88; refine (within_any _ _ _ _).mono ?_; rintro e w' ⟨rfl, rfl⟩)
    all_goals
      go_ret2
      exact ⟨(Below.refl _ _).alloc (Nat.le_refl _) _, .inl ⟨HN.out, rfl⟩⟩

set_option maxRecDepth 100000 in
set_option maxHeartbeats 4000000 in
/-- The spots lie wrong. -/
theorem rnew_spots (w : World) (W H S : Int) (vo vs : Value) (ore starts : List SSpot) (ho : SpIn w vo ore) (hs : SpIn w vs starts) (hW : inB W 3 10 = true) (hH : inB H 3 10 = true) (hS : inB S 1 4 = true) (hst : inB starts.length 2 4 = true) (hore : ore.length ≤ 6)
    (hno : (apartB ore W H && apartB starts W H) = false) :
    Calls Tryz.prog 47 #[.agg #[.int .i64 W, .int .i64 H, .int .i64 S, vo, vs]] w fun e w' => NewOut w w' e W H S ore starts := by
  have HN : Hid (newB W H S ore starts = false) := by
    unfold Hid newB
    cases h1 : apartB ore W H
    · simp
    · cases h2 : apartB starts W H
      · simp
      · rw [h1, h2] at hno; cases hno
  have hW' : 3 ≤ W ∧ W ≤ 10 := by simpa [inB] using hW
  have hH' : 3 ≤ H ∧ H ≤ 10 := by simpa [inB] using hH
  have hst' : (2 : Int) ≤ starts.length ∧ (starts.length : Int) ≤ 4 := by simpa [inB] using hst
  have hore' : (ore.length : Int) ≤ 6 := by omega
  have HO := hidOf (fun (w' : World) (hb : Below w.heap.size w w') => rapart_any w' vo ore W H (ho.below hb) (by omega) (by omega) (by omega))
  have HS := hidOf (fun (w' : World) (hb : Below w.heap.size w w') => rapart_any w' vs starts W H (hs.below hb) (by omega) (by omega) (by omega))
  obtain ⟨ao, co, rfl, _⟩ := ho
  obtain ⟨az, cz, rfl, _⟩ := hs
  have hcase : apartB ore W H = false ∨ (apartB ore W H = true ∧ apartB starts W H = false) := by
    cases h1 : apartB ore W H
    · exact .inl rfl
    · rw [h1] at hno; exact .inr ⟨rfl, by simpa using hno⟩
  clear hno
  rcases hcase with h1 | ⟨h1, h2⟩
  all_goals
    go_enter Tryz.func47, Tryz.ntmps47
    go_wp2_with (go_at_call 88; refine (within_any _ _ _ _).mono ?_; rintro e w' ⟨rfl, rfl⟩)
    refine (HO.out _ ((Below.refl _ _).alloc (Nat.le_refl _) _)).mono ?_
    rintro e w1 ⟨rfl, n1, rfl⟩
    rw [h1]
    go_wp2_with fail
    refine (HS.out _ ?hb).mono ?_
    case hb => exact bdrewN ((Below.refl _ _).alloc (Nat.le_refl _) _) n1
    rintro e w1 ⟨rfl, n2, rfl⟩
    go_wp2
    go_ret2
    refine ⟨?_, .inl ⟨HN.out, rfl⟩⟩
    first
      | exact bdrewN (bdrewN ((Below.refl _ _).alloc (Nat.le_refl _) _) n1) n2
      | exact bdrewN ((Below.refl _ _).alloc (Nat.le_refl _) _) (n1 + n2)
end Go.Proofs.YtlafddeoheambaaGreatDoor

/-
  The function New of package hazeref: the loops that lay ore and players.
-/
namespace Go.Proofs.YtlafddeoheambaaGreatDoor
open Go.RowKit
attribute [local go_sem] Go.wp_at_zero Go.wp_at_succ

/-- The world as far as New has laid it: the first k spots of ore, the first m players. -/
structure Part (w w1 w' : World) (Y : YW) (W H S : Int) (ore : List SSpot) (pls : List SPlayer) : Prop where
  rep : RepY w' Y
  b : Y.b = w.heap.size + 1
  s : Y.S = { width := W, height := H, sight := S, now := 0, ore := ore, players := pls, lots := [] }
  below : Below (w.heap.size + 1) w1 w'
  fresh : ∀ r ∈ Y.foot, w.heap.size + 1 ≤ r

theorem Part.ore {w w1 w' : World} {Y : YW} {W H S : Int} {ore : List SSpot} {pls : List SPlayer} (h : Part w w1 w' Y W H S ore pls) : Y.ore = ore := by have := h.s; simp [YW.S] at this; exact this.2.2.2.2.1
theorem Part.pl {w w1 w' : World} {Y : YW} {W H S : Int} {ore : List SSpot} {pls : List SPlayer} (h : Part w w1 w' Y W H S ore pls) : Y.pls.map (·.1) = pls := by have := h.s; simp [YW.S] at this; simpa using this.2.2.2.2.2.1

theorem Part.addOre {w w1 w5 w5' w6 : World} {Y : YW} {W H S : Int} {ore : List SSpot} {pls : List SPlayer} (h : Part w w1 w5 Y W H S ore pls) (hb5 : Below w5.heap.size w5 w5') (hg : w5'.grownBy w6 Y.vOre.ownBlock) (s : SSpot) (g cap n : Nat) (hn : n = ore.length + 1)
    (ho : w6.ownsRow 0 63 3 (.slice (some ⟨g, 0, none⟩) n cap) n (ore.flatMap spotCells ++ spotCells s)) (hat : Y.vOre.ownBlock = some g ∨ w5.heap.size ≤ g) :
    Part w w1 (w6.setCell ⟨w.heap.size + 1, 4, none⟩ (.slice (some ⟨g, 0, none⟩) n cap)) (Y.addOre s (.slice (some ⟨g, 0, none⟩) n cap)) W H S (ore ++ [s]) pls := by
  have hr := h.rep.addOre hb5 hg s g cap n (by rw [h.ore]; exact hn) (by rw [h.ore]; exact ho) hat
  rw [h.b] at hr
  have lt := h.rep.lt
  have l1 : w.heap.size + 1 < w5.heap.size := by have := lt Y.b foot_b; rw [h.b] at this; exact this
  refine ⟨hr, h.b, ?_, ?_, ?_⟩
  · have e := h.s
    simp [YW.S, YW.addOre] at e ⊢
    simp [e]
  · refine ((h.below.trans (hb5.mono (by omega))).grown hg (by have := hb5.size; omega) ?_).setCell (Nat.le_refl _) _
    intro k hk
    have : k ∈ blk Y.vOre := by simp [blk, hk]
    exact h.fresh k (foot_o this)
  · intro r hr'
    have e : (Y.addOre s (.slice (some ⟨g, 0, none⟩) n cap)).foot = Y.b :: ([g] ++ (blk Y.vPl ++ (blk Y.vLots ++ Y.pls.flatMap pvFoot))) := rfl
    rw [e] at hr'
    simp only [List.mem_cons, List.mem_append, List.not_mem_nil, or_false] at hr'
    rcases hr' with rfl | rfl | hr' | hr' | hr'
    · exact h.fresh _ foot_b
    · rcases hat with h2 | h2
      · exact h.fresh _ (foot_o (by simp [blk, h2]))
      · omega
    · exact h.fresh _ (foot_p hr')
    · exact h.fresh _ (foot_l hr')
    · obtain ⟨q, hq, hr'⟩ := List.mem_flatMap.1 hr'
      exact h.fresh _ (foot_e hq hr')

theorem Part.addPl {w w1 w5 w5' w6 : World} {Y : YW} {W H S : Int} {ore : List SSpot} {pls : List SPlayer} (h : Part w w1 w5 Y W H S ore pls) (hb5 : Below w5.heap.size w5 w5') (hg : w5'.grownBy w6 Y.vPl.ownBlock) (p : SPlayer) (gu c g cap n : Nat) (hn : n = Y.pls.length + 1)
    (hp : RepP w6 (p, ⟨.slice (some ⟨gu, 0, none⟩) p.units.length c, .slice none 0 0, .slice none 0 0⟩)) (hgu : w5.heap.size ≤ gu) (hne : gu ≠ g)
    (ho : w6.ownsRow 0 162 4 (.slice (some ⟨g, 0, none⟩) n cap) n (Y.pls.flatMap plCells ++ plCells (p, ⟨.slice (some ⟨gu, 0, none⟩) p.units.length c, .slice none 0 0, .slice none 0 0⟩))) (hat : Y.vPl.ownBlock = some g ∨ w5.heap.size ≤ g) :
    Part w w1 (w6.setCell ⟨w.heap.size + 1, 5, none⟩ (.slice (some ⟨g, 0, none⟩) n cap)) (Y.addPl (p, ⟨.slice (some ⟨gu, 0, none⟩) p.units.length c, .slice none 0 0, .slice none 0 0⟩) (.slice (some ⟨g, 0, none⟩) n cap)) W H S ore (pls ++ [p]) := by
  have hr := h.rep.addPl hb5 hg p gu c g cap n hn hp hgu hne ho hat
  rw [h.b] at hr
  have lt := h.rep.lt
  have l1 : w.heap.size + 1 < w5.heap.size := by have := lt Y.b foot_b; rw [h.b] at this; exact this
  refine ⟨hr, h.b, ?_, ?_, ?_⟩
  · have e := h.s
    have e2 := h.pl
    simp [YW.S, YW.addPl] at e ⊢
    simp [e]
  · refine ((h.below.trans (hb5.mono (by omega))).grown hg (by have := hb5.size; omega) ?_).setCell (Nat.le_refl _) _
    intro k hk
    have : k ∈ blk Y.vPl := by simp [blk, hk]
    exact h.fresh k (foot_p this)
  · intro r hr'
    have e : (Y.addPl (p, ⟨.slice (some ⟨gu, 0, none⟩) p.units.length c, .slice none 0 0, .slice none 0 0⟩) (.slice (some ⟨g, 0, none⟩) n cap)).foot = Y.b :: (blk Y.vOre ++ ([g] ++ (blk Y.vLots ++ (Y.pls.flatMap pvFoot ++ [gu])))) := by
      simp only [YW.foot, YW.addPl, blk_slice, List.flatMap_append]
      rfl
    rw [e] at hr'
    simp only [List.mem_cons, List.mem_append, List.not_mem_nil, or_false] at hr'
    rcases hr' with rfl | hr' | rfl | hr' | hr' | rfl
    · exact h.fresh _ foot_b
    · exact h.fresh _ (foot_o hr')
    · rcases hat with h2 | h2
      · exact h.fresh _ (foot_p (by simp [blk, h2]))
      · omega
    · exact h.fresh _ (foot_l hr')
    · obtain ⟨q, hq, hr'⟩ := List.mem_flatMap.1 hr'
      exact h.fresh _ (foot_e hq hr')
    · omega

end Go.Proofs.YtlafddeoheambaaGreatDoor
