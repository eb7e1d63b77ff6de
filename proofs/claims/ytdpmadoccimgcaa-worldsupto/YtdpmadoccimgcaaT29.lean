/-
  A pair of worlds more.
-/
import Derived.Test.YtdpmadoccimgcaaT27
import Derived.Test.YtdpmadoccimgcaaT11
import Derived.Test.YtdpmadoccimgcaaT28
import Derived.Laws.ResultCell
set_option linter.unusedVariables false
namespace Go.Proofs.Ytdpmadoccimgcaa
open Go.RowKit

def addPR (R : Nat → PRole) (fx fy : List Nat) (gr n : Nat) : Nat → PRole := fun r => if r ∈ fx then .x n else if r ∈ fy then .y n else if r = gr then .row else R r
def LW.add (L : LW) (X : XW) (Y : YW) (val : Value) (gr : Nat) : LW := { L with v := val, ps := L.ps ++ [(X, Y)], R := addPR L.R X.foot Y.foot gr L.ps.length }
theorem app_get {α : Type} {l : List α} {a c : α} {j : Nat} (h : (l ++ [a])[j]? = some c) : (j < l.length ∧ l[j]? = some c) ∨ (j = l.length ∧ c = a) := by
  by_cases hj : j < l.length
  · rw [List.getElem?_append_left hj] at h
    exact .inl ⟨hj, h⟩
  · rw [List.getElem?_append_right (by omega)] at h
    obtain ⟨h1, h2⟩ := at_some h
    simp at h1
    have h3 : j - l.length = 0 := by omega
    simp [h3] at h2
    exact .inr ⟨by omega, h2.symm⟩

theorem LTurn.add {w0 w w6 : World} {L0 L : LW} (T : LTurn w0 L0 w L) {X : XW} {Y : YW} (hX : RepX w X) (hY : RepY w Y) (fx : ∀ r ∈ X.foot, r ∉ L.foot ∧ w0.heap.size ≤ r) (fy : ∀ r ∈ Y.foot, r ∉ L.foot ∧ w0.heap.size ≤ r) (fxy : ∀ r ∈ X.foot, r ∉ Y.foot)
    (hg : w.grownBy w6 L.v.ownBlock) (gr c n : Nat) (hn : n = L.ps.length + 1)
    (ho : w6.ownsRow 0 49 2 (.slice (some ⟨gr, 0, none⟩) n c) n (L.ps.flatMap pairCells ++ pairCells (X, Y))) (hat : L.v.ownBlock = some gr ∨ w.heap.size ≤ gr) :
    LTurn w0 L0 (w6.setCell ⟨L.b, 0, none⟩ (.slice (some ⟨gr, 0, none⟩) n c)) (L.add X Y (.slice (some ⟨gr, 0, none⟩) n c) gr) := by
  have h := T.rep
  have lt := h.lt
  have hmem : ∀ r, L.v.ownBlock = some r → r ∈ blk L.v := fun r hr => by simp [blk, hr]
  have hgb : gr ≠ L.b := by
    rcases hat with h' | h'
    · intro e
      have h1 := h.rr gr (hmem gr h')
      rw [e, h.rb] at h1
      cases h1
    · have := lt L.b lfoot_b; omega
  have hgx : gr ∉ X.foot := by
    rcases hat with h' | h'
    · exact fun e => (fx gr e).1 (lfoot_r (hmem gr h'))
    · exact fun e => by have := hX.lt gr e; omega
  have hgy : gr ∉ Y.foot := by
    rcases hat with h' | h'
    · exact fun e => (fy gr e).1 (lfoot_r (hmem gr h'))
    · exact fun e => by have := hY.lt gr e; omega
  have far : ∀ r, r < w.heap.size → L.v.ownBlock ≠ some r → r ≠ L.b → (w6.setCell ⟨L.b, 0, none⟩ (.slice (some ⟨gr, 0, none⟩) n c)).heap[r]? = w.heap[r]? := by
    intro r h1 h2 h3
    rw [setCell_far w6 L.b _ _ r h3, hg.block r h1 (Ne.symm h2)]
  have farN : ∀ r, r < w.heap.size → r ∉ L.foot → (w6.setCell ⟨L.b, 0, none⟩ (.slice (some ⟨gr, 0, none⟩) n c)).heap[r]? = w.heap[r]? := fun r h1 h2 => far r h1 (fun e => h2 (lfoot_r (hmem r e))) (fun e => h2 (e ▸ lfoot_b))
  have farR : ∀ r ρ, r ∈ L.foot → L.R r = ρ → ρ ≠ .row → ρ ≠ .top → (w6.setCell ⟨L.b, 0, none⟩ (.slice (some ⟨gr, 0, none⟩) n c)).heap[r]? = w.heap[r]? := fun r ρ h1 h2 h3 h4 => far r (lt r h1) (fun e => h3 (by rw [← h2]; exact h.rr r (hmem r e))) (fun e => h4 (by rw [← h2, e]; exact h.rb))
  have old : ∀ r ∈ L.foot, addPR L.R X.foot Y.foot gr L.ps.length r = L.R r := by
    intro r hr
    have h1 : r ∉ X.foot := fun e => (fx r e).1 hr
    have h2 : r ∉ Y.foot := fun e => (fy r e).1 hr
    simp only [addPR, if_neg h1, if_neg h2]
    split
    · rename_i e
      subst e
      rcases hat with h' | h'
      · exact (h.rr r (hmem r h')).symm
      · have := lt r hr; omega
    · rfl
  refine ⟨⟨?_, ?_, ?_, ?_, ?_, ?_, ?_, ?_⟩, ?_, ?_, T.b⟩
  · show (w6.setCell ⟨L.b, 0, none⟩ _).heap[L.b]? = _
    have e : w6.heap[L.b]? = some (.cells #[L.v] 28 (0, 0)) := by
      rw [hg.block L.b (lt _ lfoot_b) (fun e => by have h1 := h.rr L.b (hmem _ e.symm); rw [h.rb] at h1; cases h1)]
      exact h.top
    rw [cells_set e]
    rfl
  · show (w6.setCell ⟨L.b, 0, none⟩ _).ownsRow 0 _ 2 (.slice (some ⟨gr, 0, none⟩) n c) (L.ps ++ [(X, Y)]).length ((L.ps ++ [(X, Y)]).flatMap pairCells)
    have e1 : (L.ps ++ [(X, Y)]).length = n := by simp [hn]
    have e2 : (L.ps ++ [(X, Y)]).flatMap pairCells = L.ps.flatMap pairCells ++ pairCells (X, Y) := by simp
    rw [e1, e2]
    refine own_same ho (fun r hr' => setCell_far w6 L.b _ _ r ?_)
    have h' : r ∈ blk (.slice (some ⟨gr, 0, none⟩) n c) := hr'
    have : r = gr := by simpa [blk_slice] using h'
    rw [this]; exact hgb
  · intro j q hj
    rcases app_get hj with ⟨_, hj'⟩ | ⟨_, rfl⟩
    · exact (h.x j q hj').same (fun r hr => farR r _ (lfoot_x hj' hr) (h.rx j q hj' r hr) (by simp) (by simp))
    · exact hX.same (fun r hr => farN r (hX.lt r hr) (fx r hr).1)
  · intro j q hj
    rcases app_get hj with ⟨_, hj'⟩ | ⟨_, rfl⟩
    · exact (h.y j q hj').same (fun r hr => farR r _ (lfoot_y hj' hr) (h.ry j q hj' r hr) (by simp) (by simp))
    · exact hY.same (fun r hr => farN r (hY.lt r hr) (fy r hr).1)
  · exact (old _ lfoot_b).trans h.rb
  · intro r hr
    have h' : r ∈ blk (.slice (some ⟨gr, 0, none⟩) n c) := hr
    have e : r = gr := by simpa [blk_slice] using h'
    subst e
    show addPR L.R X.foot Y.foot r L.ps.length r = _
    simp [addPR, hgx, hgy]
  · intro j q hj r hr
    rcases app_get hj with ⟨_, hj'⟩ | ⟨rfl, rfl⟩
    · exact (old _ (lfoot_x hj' hr)).trans (h.rx j q hj' r hr)
    · show addPR L.R X.foot Y.foot gr L.ps.length r = _
      have hr' : r ∈ X.foot := hr
      simp [addPR, hr']
  · intro j q hj r hr
    rcases app_get hj with ⟨_, hj'⟩ | ⟨rfl, rfl⟩
    · exact (old _ (lfoot_y hj' hr)).trans (h.ry j q hj' r hr)
    · show addPR L.R X.foot Y.foot gr L.ps.length r = _
      have hr' : r ∈ Y.foot := hr
      have : r ∉ X.foot := fun e => fxy r e hr'
      simp [addPR, hr', this]
  · refine Kept.setCell ?_ _ _ _ (T.ext _ lfoot_b)
    refine ⟨hg.os.trans T.kept.os, hg.tape.trans T.kept.tape, hg.output.trans T.kept.output, Nat.le_trans T.kept.size hg.size, fun k hk hn' => ?_⟩
    rw [hg.block k (Nat.lt_of_lt_of_le hk T.kept.size) (fun e => ?_), T.kept.block k hk hn']
    rcases T.ext k (lfoot_r (hmem k e.symm)) with h' | h'
    · exact hn' h'
    · omega
  · intro r hr
    rcases lfoot_cases hr with rfl | hr | ⟨j, q, hj, hr⟩
    · exact T.ext _ lfoot_b
    · have h' : r ∈ blk (.slice (some ⟨gr, 0, none⟩) n c) := hr
      have e : r = gr := by simpa [blk_slice] using h'
      subst e
      rcases hat with h' | h'
      · exact T.ext _ (lfoot_r (hmem _ h'))
      · exact .inr (Nat.le_trans T.kept.size h')
    · rcases app_get hj with ⟨_, hj'⟩ | ⟨rfl, rfl⟩
      · rcases hr with hr | hr
        · exact T.ext _ (lfoot_x hj' hr)
        · exact T.ext _ (lfoot_y hj' hr)
      · rcases hr with hr | hr
        · exact .inr (fx r hr).2
        · exact .inr (fy r hr).2

theorem GoodS.new {W H S : Int} {ore starts : List SSpot} (h : newB W H S ore starts = true) : GoodS (newS W H S ore starts) := by
  unfold newB at h
  simp only [Bool.and_eq_true, List.all_eq_true, decide_eq_true_eq] at h
  obtain ⟨⟨⟨⟨⟨⟨⟨hw, hh⟩, hs⟩, hst⟩, hor⟩, ha⟩, hb⟩, hc⟩ := h
  simp [inB] at hw hh hst
  obtain ⟨h1, _, _⟩ := apartGo_facts W H starts [] hb
  refine ⟨⟨Int.le_refl _, by show (0 : Int) ≤ 1000; omega⟩, ⟨by simp [newS]; omega, hw, hh, hor, fun s hs => by have := hc s hs; simp [inB] at this; omega, ?_⟩, ?_, rfl⟩
  · intro p hp
    simp only [newS, List.mem_map] at hp
    obtain ⟨s, hs', rfl⟩ := hp
    have := h1 s hs'
    simp [okSpot, inB] at this
    refine ⟨by simp [firstP], ?_, ⟨by simp [firstP], by simp [firstP, newS]⟩, by simp [firstP]⟩
    intro u hu
    simp only [firstP, List.mem_singleton] at hu
    subst hu
    exact ⟨by simp only [firstU, newS]; omega, by simp only [firstU, newS]; omega, by simp [firstU], by simp [firstU]⟩
  · intro i p hp
    have hp' := List.mem_of_getElem? hp
    simp only [newS, List.mem_map] at hp'
    obtain ⟨s, _, rfl⟩ := hp'
    exact ⟨rfl, rfl⟩

/-- What is lent, handed in. -/
theorem lent_in {w : World} {g : Nat} {l : List SSpot} (h : w.ownsRow 0 51 3 (.slice (some ⟨g, 0, none⟩) (l.length + 2) (l.length + 2)) (l.length + 2) ((lentL l).flatMap spotCells)) : SpIn w (.slice (some ⟨g, 0, none⟩) l.length (l.length + 2)) l := by
  refine ⟨some ⟨g, 0, none⟩, l.length + 2, rfl, fun _ => ⟨g, 0, rfl, own_lt h g (by simp [blk_slice]), fun j u hu => ?_⟩⟩
  rw [Nat.zero_add]
  refine own_cell h ?_
  have e : (lentL l).flatMap spotCells = l.flatMap spotCells ++ [(⟨77, 0, 0⟩ : SSpot), ⟨78, 0, 0⟩].flatMap spotCells := by simp [lentL]
  rw [e, List.getElem?_append_left (at_some hu).1]
  exact hu
theorem nil_in (w : World) : SpIn w (.slice none 0 0) [] := ⟨none, 0, rfl, fun h => absurd h (by simp)⟩
end Go.Proofs.Ytdpmadoccimgcaa

/-
  The function begins of package hazelaw.
-/
namespace Go.Proofs.Ytdpmadoccimgcaa
open Go.RowKit

/-- A list of spots that is handed in: nil, or somewhere. -/
def SpA (w : World) (v : Value) (l : List SSpot) : Prop := SpIn w v l ∧ ((v = .slice none 0 0 ∧ l = []) ∨ ∃ ad c, v = .slice (some ad) l.length c)
theorem SpA.form {w : World} {v : Value} {l : List SSpot} (h : SpA w v l) : ∃ a n c, v = .slice a n c := by
  obtain ⟨ao, cap, e, _⟩ := h.1
  exact ⟨_, _, _, e⟩
theorem SpA.below {w w' : World} {v : Value} {l : List SSpot} (h : SpA w v l) (hb : Below w.heap.size w w') : SpA w' v l := ⟨h.1.below hb, h.2⟩
theorem part_any {w : World} {v : Value} {l : List SSpot} (h : SpA w v l) (hl : l.length ≤ 2000000) (g : Nat) : ∃ a n c, (∀ wx : World, Calls Try.prog 9 #[.slice (some ⟨g, 0, none⟩) (l.length + 2) (l.length + 2), v] wx fun e w' => e = .returned (.slice a n c) ∧ w' = wx) ∧
    ∀ wx : World, wx.ownsRow 0 51 3 (.slice (some ⟨g, 0, none⟩) (l.length + 2) (l.length + 2)) (l.length + 2) ((lentL l).flatMap spotCells) → SpIn wx (.slice a n c) l := by
  rcases h.2 with ⟨rfl, rfl⟩ | ⟨ad, c, rfl⟩
  · exact ⟨none, 0, 0, fun wx => part_nil wx _, fun wx _ => nil_in wx⟩
  · exact ⟨some ⟨g, 0, none⟩, l.length, l.length + 2, fun wx => part_some wx g l.length c ad hl, fun wx h => lent_in h⟩
/-- The box of the configuration, and that all that was there stays. -/
structure BG (w : World) (cs : Array Value) (wx : World) : Prop where
  b : Below w.heap.size w wx
  c : wx.heap[w.heap.size]? = some (.cells cs 32 (0, 0))
theorem BG.first (w : World) (cs : Array Value) : BG w cs (w.alloc (.cells cs 32)) := ⟨(Below.refl _ w).alloc (Nat.le_refl _) _, Go.heap_alloc_new w _⟩
theorem BG.below {w wx w' : World} {cs : Array Value} (h : BG w cs wx) (hb : Below wx.heap.size wx w') : BG w cs w' := ⟨h.b.trans (hb.mono h.b.size), by rw [hb.block _ (lt_of_some h.c)]; exact h.c⟩
theorem BG.kept {w wx w' : World} {cs : Array Value} {g : Nat} (h : BG w cs wx) (hk : Kept [g] wx w') (hg : w.heap.size < g) : BG w cs w' :=
  ⟨⟨hk.os.trans h.b.os, hk.tape.trans h.b.tape, hk.output.trans h.b.output, Nat.le_trans h.b.size hk.size, fun k hk' => by rw [hk.block k (Nat.lt_of_lt_of_le hk' h.b.size) (by simp; omega), h.b.block k hk']⟩, by rw [hk.block _ (lt_of_some h.c) (by simp; omega)]; exact h.c⟩
theorem BG.cells {w wx : World} {W H S : Int} {vo vs : Value} (h : BG w #[.int .i64 W, .int .i64 H, .int .i64 S, vo, vs] wx) : wx.cell? ⟨w.heap.size, 0, none⟩ = some (.int .i64 W) ∧ wx.cell? ⟨w.heap.size, 1, none⟩ = some (.int .i64 H) ∧ wx.cell? ⟨w.heap.size, 2, none⟩ = some (.int .i64 S) ∧ wx.cell? ⟨w.heap.size, 3, none⟩ = some vo ∧ wx.cell? ⟨w.heap.size, 4, none⟩ = some vs := by
  refine ⟨?_, ?_, ?_, ?_, ?_⟩
  all_goals (rw [cell_of_row _ _ _ _ _ _ h.c]; rfl)
theorem Try.infoPair : (Try.prog.info? 49).map (fun i => (i.zero, i.size, i.bytes)) = some (some (.agg #[.pointer none, .pointer none]), 2, 16) := by kernel_rfl
theorem row_kept {w w' : World} {g g' : Nat} {l : List SSpot} (h : w.ownsRow 0 51 3 (.slice (some ⟨g, 0, none⟩) (l.length + 2) (l.length + 2)) (l.length + 2) ((lentL l).flatMap spotCells)) (hk : Kept [g'] w w') (hne : g ≠ g') : w'.ownsRow 0 51 3 (.slice (some ⟨g, 0, none⟩) (l.length + 2) (l.length + 2)) (l.length + 2) ((lentL l).flatMap spotCells) :=
  own_same h (fun r hr => by
    have e : r = g := by have h' : r ∈ blk (.slice (some ⟨g, 0, none⟩) (l.length + 2) (l.length + 2)) := hr; simpa [blk_slice] using h'
    exact hk.block r (own_lt h r hr) (by simp [e, hne]))
theorem row_below {w w' : World} {g : Nat} {l : List SSpot} (h : w.ownsRow 0 51 3 (.slice (some ⟨g, 0, none⟩) (l.length + 2) (l.length + 2)) (l.length + 2) ((lentL l).flatMap spotCells)) (hb : Below w.heap.size w w') : w'.ownsRow 0 51 3 (.slice (some ⟨g, 0, none⟩) (l.length + 2) (l.length + 2)) (l.length + 2) ((lentL l).flatMap spotCells) :=
  own_same h (fun r hr => hb.block r (own_lt h r hr))

set_option maxRecDepth 100000 in
set_option maxHeartbeats 8000000 in
theorem begins_any (w : World) (L : LW) (hr : LRep w L) (hS : Sync L.ps) (hn : L.ps.length ≤ 2000000) (W H S : Int) (vo vs : Value) (ore starts : List SSpot) (ho : SpA w vo ore) (hs : SpA w vs starts) (hl : starts.length ≤ 2000000) (hlo : ore.length ≤ 2000000) (io : I64s ore) (is : I64s starts) (m : Nat) (hm : m = if newB W H S ore starts then 1 else 0) :
    Calls Try.prog 5 #[.pointer (some ⟨L.b, 0, none⟩), .agg #[.int .i64 W, .int .i64 H, .int .i64 S, vo, vs]] w fun e w' => e = .returned (.bool true) ∧ ∃ L', LTurn w L w' L' ∧ Sync L'.ps ∧ L'.ps.length = L.ps.length + m := by
  have B1 := hidOf (BG.first w #[.int .i64 W, .int .i64 H, .int .i64 S, vo, vs])
  have HIo : Hid (∀ wx, BG w #[.int .i64 W, .int .i64 H, .int .i64 S, vo, vs] wx → SpA wx vo ore) := fun wx h => ho.below h.b
  have HIs : Hid (∀ wx, BG w #[.int .i64 W, .int .i64 H, .int .i64 S, vo, vs] wx → SpA wx vs starts) := fun wx h => hs.below h.b
  have HLr : Hid (∀ wx, BG w #[.int .i64 W, .int .i64 H, .int .i64 S, vo, vs] wx → LTurn w L wx L) := fun wx h => (LTurn.refl hr).below h.b
  have HP1 := hidOf (part_any ho hlo)
  have HP2 := hidOf (part_any hs hl)
  have HS := hidOf hS
  have HR := hidOf hr
  have HMm := hidOf hm
  obtain ⟨o1, o2, o3, rfl⟩ := ho.form
  obtain ⟨s1, s2, s3, rfl⟩ := hs.form
  clear ho hs hr hS hm
  go_enter Try.func5, Try.ntmps5
  go_wp2_with fail
  refine (lent_any _ _ ore (HIo.out _ B1.out).1 hlo).mono ?_
  rintro e w2 ⟨rfl, hb2, ro2⟩
  have B2 := hidOf (B1.out.below hb2)
  have RO2 := hidOf ro2
  have hz1 : (w.alloc (.cells #[.int .i64 W, .int .i64 H, .int .i64 S, .slice o1 o2 o3, .slice s1 s2 s3] 32)).heap.size = w.heap.size + 1 := by simp
  rw [hz1] at RO2 ⊢
  clear hb2 ro2 hz1
  obtain ⟨c0, c1, c2, c3, c4⟩ := B2.out.cells
  go_wp2_with fail
  refine (lent_any _ _ starts (HIs.out _ B2.out).1 hl).mono ?_
  rintro e w3 ⟨rfl, hb3, ro3⟩
  obtain ⟨g2, hg2⟩ : ∃ g2, g2 = w2.heap.size := ⟨_, rfl⟩
  rw [← hg2] at ro3 ⊢
  have B3 := hidOf (B2.out.below hb3)
  have RO3 := hidOf (row_below RO2.out hb3)
  have RS3 := hidOf ro3
  have HG2 : Hid (w.heap.size + 1 < g2) := by unfold Hid; rw [hg2]; exact own_lt RO2.out _ (by simp [blk_slice])
  clear hb3 ro3 RO2 c0 c1 c2 c3 c4 hg2
  obtain ⟨c0, c1, c2, c3, c4⟩ := B3.out.cells
  obtain ⟨a1, n1, k1, hp1, hi1⟩ := HP1.out (w.heap.size + 1)
  obtain ⟨a2, n2, k2, hp2, hi2⟩ := HP2.out g2
  have HC1 := hidOf hp1
  have HC2 := hidOf hp2
  have HI1 := hidOf hi1
  have HI2 := hidOf hi2
  clear hp1 hp2 hi1 hi2
  have l3 := lt_of_some B3.out.c
  have y0 : ∀ o, (w3.alloc o).cell? ⟨w.heap.size, 3, none⟩ = some (.slice o1 o2 o3) := fun o => by rw [World.cell?_alloc_past _ _ _ l3]; exact c3
  have y1 : ∀ o, (w3.alloc o).cell? ⟨w.heap.size, 4, none⟩ = some (.slice s1 s2 s3) := fun o => by rw [World.cell?_alloc_past _ _ _ l3]; exact c4
  go_wp2_with fail
  refine (HC1.out _).mono ?_
  rintro e w' ⟨rfl, h⟩
  rw [h]
  clear h w'
  go_wp2_with fail
  refine (HC2.out _).mono ?_
  rintro e w' ⟨rfl, h⟩
  rw [h]
  clear h w'
  go_wp2_with fail
  have hb4 : Below w3.heap.size w3 (w3.alloc (.cells #[.int .i64 W, .int .i64 H, .int .i64 S, .slice a1 n1 k1, .slice a2 n2 k2] 32)) := (Below.refl _ w3).alloc (Nat.le_refl _) _
  have B4 := hidOf (B3.out.below hb4)
  have RO4 := hidOf (row_below RO3.out hb4)
  have RS4 := hidOf (row_below RS3.out hb4)
  obtain ⟨w4, hw4⟩ : ∃ w4, w4 = w3.alloc (.cells #[.int .i64 W, .int .i64 H, .int .i64 S, .slice a1 n1 k1, .slice a2 n2 k2] 32) := ⟨_, rfl⟩
  rw [← hw4] at B4 RO4 RS4 ⊢
  clear hw4 hb4 y0 y1 c0 c1 c2 c3 c4 l3 B3 RO3 RS3
  refine (xnew_any w4 W H S _ _ ore starts (HI1.out _ RO4.out) (HI2.out _ RS4.out) hl hlo io is).mono ?_
  rintro e w5 ⟨hb5, hx⟩
  have B5 := hidOf (B4.out.below hb5)
  have HB45 := hidOf hb5.size
  have RO5 := hidOf (row_below RO4.out hb5)
  have RS5 := hidOf (row_below RS4.out hb5)
  have H45 := hidOf (own_lt RS4.out g2 (by simp [blk_slice]))
  have H1g := hidOf (own_lt RO4.out (w.heap.size + 1) (by simp [blk_slice]))
  clear hb5 RO4 RS4
  have HY := hidOf (rnew_any w5 W H S _ _ ore starts (HIo.out _ B5.out).1 (HIs.out _ B5.out).1 hl hlo)
  obtain ⟨c0, c1, c2, c3, c4⟩ := B5.out.cells
  rcases hx with ⟨hN, rfl⟩ | ⟨hN, X, rfl, hX, hXo, hXs, hXf⟩
  · have HN := hidOf hN
    clear hN
    go_wp2_with fail
    refine HY.out.mono ?_
    rintro e w6 ⟨hb6, hy⟩
    have B6 := hidOf (B5.out.below hb6)
    have RO6 := hidOf (row_below RO5.out hb6)
    have RS6 := hidOf (row_below RS5.out hb6)
    clear c0 c1 c2 c3 c4
    rcases hy with ⟨_, rfl⟩ | ⟨hN', _⟩
    rotate_left
    · rw [HN.out] at hN'; cases hN'
    obtain ⟨c0, c1, c2, c3, c4⟩ := B6.out.cells
    go_wp2_with fail
    refine (still_any w6 (w.heap.size + 1) _ ore (HIo.out _ B6.out).1 hlo RO6.out).mono ?_
    rintro e w7 ⟨rfl, k7⟩
    have B7 := hidOf (B6.out.kept k7 (by omega))
    have RS7 := hidOf (row_kept RS6.out k7 (by have := HG2.out; omega))
    clear c0 c1 c2 c3 c4
    obtain ⟨c0, c1, c2, c3, c4⟩ := B7.out.cells
    go_wp2_with fail
    refine (still_any w7 g2 _ starts (HIs.out _ B7.out).1 hl RS7.out).mono ?_
    rintro e w8 ⟨rfl, k8⟩
    have B8 := hidOf (B7.out.kept k8 (by have := HG2.out; omega))
    go_wp2_with (go_at_call 13; refine (num_any _ _).mono ?_; rintro e w' ⟨rfl, h⟩; rw [h]; clear h w')
    go_ret
    exact ⟨rfl, L, HLr.out _ B8.out, HS.out, by rw [HMm.out, HN.out]; rfl⟩
  · have HN := hidOf hN
    clear hN
    go_wp2_with fail
    refine HY.out.mono ?_
    rintro e w6 ⟨hb6, hy⟩
    have B6 := hidOf (B5.out.below hb6)
    have RO6 := hidOf (row_below RO5.out hb6)
    have RS6 := hidOf (row_below RS5.out hb6)
    have HX6 := hidOf (hX.below hb6)
    clear c0 c1 c2 c3 c4
    rcases hy with ⟨hN', _⟩ | ⟨_, Y, rfl, hY, hYs, hYf⟩
    · rw [HN.out] at hN'; cases hN'
    obtain ⟨c0, c1, c2, c3, c4⟩ := B6.out.cells
    go_wp2_with fail
    refine (still_any w6 (w.heap.size + 1) _ ore (HIo.out _ B6.out).1 hlo RO6.out).mono ?_
    rintro e w7 ⟨rfl, k7⟩
    have B7 := hidOf (B6.out.kept k7 (by omega))
    have RS7 := hidOf (row_kept RS6.out k7 (by have := HG2.out; omega))
    clear c0 c1 c2 c3 c4
    obtain ⟨c0, c1, c2, c3, c4⟩ := B7.out.cells
    go_wp2_with fail
    refine (still_any w7 g2 _ starts (HIs.out _ B7.out).1 hl RS7.out).mono ?_
    rintro e w8 ⟨rfl, k8⟩
    have B8 := hidOf (B7.out.kept k8 (by have := HG2.out; omega))
    have l4 : w4.heap.size ≤ w5.heap.size := HB45.out
    have hg1 := H1g.out
    have hg2 := H45.out
    have k78 : ∀ r, w4.heap.size ≤ r → r < w6.heap.size → w8.heap[r]? = w6.heap[r]? := fun r h1 h2 => by
      rw [k8.block r (Nat.lt_of_lt_of_le h2 k7.size) (by simp; omega), k7.block r h2 (by simp; omega)]
    have HX8 := hidOf (HX6.out.same (fun r hr => k78 r (hXf r hr) (HX6.out.lt r hr)))
    have HY8 := hidOf (hY.same (fun r hr => k78 r (by have := hYf r hr; omega) (hY.lt r hr)))
    have HL8 := hidOf (HLr.out _ B8.out)
    have HFx : Hid (∀ r ∈ X.foot, r ∉ L.foot ∧ w.heap.size ≤ r) := fun r hr => by
      have h1 := hXf r hr
      have h2 := B4.out.b.size
      exact ⟨fun hm => by have := HR.out.lt r hm; omega, by omega⟩
    have HFy : Hid (∀ r ∈ Y.foot, r ∉ L.foot ∧ w.heap.size ≤ r) := fun r hr => by
      have h1 := hYf r hr
      have h2 := B4.out.b.size
      exact ⟨fun hm => by have := HR.out.lt r hm; omega, by omega⟩
    have HFxy : Hid (∀ r ∈ X.foot, r ∉ Y.foot) := fun r hr hm => by
      have h1 := hX.lt r hr
      have h2 := hYf r hm
      omega
    have HXo := hidOf hXo
    have HXY : Hid (X.S = Y.S) := hXs.trans hYs.symm
    have HGo : Hid (GoodS Y.S) := by unfold Hid; rw [hYs]; exact GoodS.new HN.out
    obtain ⟨al, gl, cl, hvl, hcl, hml, _⟩ := own_rd HL8.out.rep.row
    unfold maxLen at hml
    have v0 : w8.cell? ⟨L.b, 0, none⟩ = some (.slice al L.ps.length cl) := by rw [← hvl, cell_of_row _ _ _ _ _ _ HL8.out.rep.top]; rfl
    have fz : w8.frozen? ⟨L.b, 0, none⟩ = false := by simp [World.frozen?, HL8.out.rep.top]
    have hlb := HL8.out.rep.lt L.b lfoot_b
    have v1 : ∀ o, (w8.alloc o).cell? ⟨L.b, 0, none⟩ = some (.slice al L.ps.length cl) := fun o => by rw [World.cell?_alloc_past _ _ _ hlb]; exact v0
    have HOw : Hid (∀ o, (w8.alloc o).ownsRow 0 49 2 (.slice al L.ps.length cl) L.ps.length (L.ps.flatMap pairCells)) := fun o => by
      have h1 := HL8.out.rep.row
      rw [hvl] at h1
      exact own_same h1 (fun r hr => Below.heap_alloc _ _ _ (own_lt h1 r hr))
    have hne : Hid ((Value.slice al L.ps.length cl).ownBlock ≠ some L.b) := by
      intro e
      have e1 := HL8.out.rep.rr L.b (by rw [hvl]; simp [blk, e])
      rw [HL8.out.rep.rb] at e1
      cases e1
    have HVL := hidOf hvl
    obtain ⟨i0, hi0, hz0, hz1, hz2⟩ := info_parts Try.infoPair
    clear c0 c1 c2 c3 c4 hX hXo hXs hXf hY hYs hYf k7 k8 k78 hvl hg1 hg2 l4
    go_wp2_with (first | (go_at_call 13; refine (num_any _ _).mono ?_; rintro e w' ⟨rfl, h⟩; rw [h]; clear h w') | (at_builtin; refine wpList_append_lies _ rfl _ _ _ rfl 0 49 i0 _ 2 16 Try.underlying26 hi0 hz0 hz1 hz2 rfl (by omega) (.slice al L.ps.length cl) L.ps.length (L.ps.flatMap pairCells) rfl (by exact HOw.out _) ⟨w8.heap.size, 0, none⟩ 1 1 (pairCells (X, Y)) rfl rfl (by exact World.news_of_block (Go.heap_alloc_new w8 _)) (by intro u hu; simp [pairCells] at hu; rcases hu with rfl | rfl <;> rfl) (by omega) (by unfold maxLen; omega) (by omega) (by omega) (w8.heap.size + 1) (by simp) ?_; intro gr cap w9 hown9 hgrow hat hlt9; obtain ⟨q1, q2⟩ := keepOther ((Below.refl _ w8).alloc (Nat.le_refl _) _) hgrow hlb (Ne.symm hne.out) 0; rw [v0] at q1; rw [fz] at q2))
    go_ret
    have hb9 : Below w8.heap.size w8 (w8.alloc (.cells #[.pointer (some ⟨X.b, 0, none⟩), .pointer (some ⟨Y.b, 0, none⟩)] 49)) := (Below.refl _ w8).alloc (Nat.le_refl _) _
    have T9 := (HL8.out.below hb9).add (HX8.out.below hb9) (HY8.out.below hb9) HFx.out HFy.out HFxy.out (by rw [HVL.out]; exact hgrow) gr cap _ rfl hown9 (by rw [HVL.out]; rcases hat with h | h; exact .inl h; exact .inr (by rw [h]; simp))
    refine ⟨rfl, _, T9, ⟨?_, ?_, ?_⟩, by rw [HMm.out, HN.out]; simp [LW.add]⟩
    all_goals
      intro q hq
      have hq' : q ∈ L.ps ∨ q = (X, Y) := by
        have := List.mem_append.1 hq
        simpa using this
      rcases hq' with h | rfl
    · exact HS.out.s q h
    · exact HXY.out
    · exact HS.out.o q h
    · exact HXo.out
    · exact HS.out.g q h
    · exact HGo.out
end Go.Proofs.Ytdpmadoccimgcaa

/-
  The function step of package hazelaw, whole; the function field.
-/
namespace Go.Proofs.Ytdpmadoccimgcaa
open Go.RowKit

/-- A step, as it is read. -/
structure StepD where
  kd : Int
  e : Int
  W : Int
  H : Int
  S : Int
  vo : Value
  vs : Value
  ore : List SSpot
  starts : List SSpot
  p : Int
  t : ByteArray
  a : Int
  b : Int
def StepD.cells (d : StepD) : Array Value := stepCells d.kd d.e d.W d.H d.S d.vo d.vs d.p d.t d.a d.b
structure StepD.ok (w : World) (d : StepD) : Prop where
  e : -9223372036854775808 ≤ d.e ∧ d.e ≤ 9223372036854775807
  o : SpA w d.vo d.ore
  s : SpA w d.vs d.starts
  lo : d.ore.length ≤ 2000000
  ls : d.starts.length ≤ 2000000
  io : I64s d.ore
  is : I64s d.starts
  t : d.t.size ≤ 2000000

set_option maxRecDepth 100000 in
set_option maxHeartbeats 4000000 in
theorem step_new (w : World) (L : LW) (hr : LRep w L) (hS : Sync L.ps) (hn : L.ps.length ≤ 2000000) (d : StepD) (hd : d.ok w) (hk : d.kd = 1) (m : Nat) (hm : m = if newB d.W d.H d.S d.ore d.starts then 1 else 0) :
    Calls Try.prog 7 #[.pointer (some ⟨L.b, 0, none⟩), .agg d.cells] w fun e w' => e = .returned (.bool true) ∧ ∃ L', LTurn w L w' L' ∧ Sync L'.ps ∧ L'.ps.length = L.ps.length + m := by
  obtain ⟨kd, e, W, H, S, vo, vs, ore, starts, p, t, a, b⟩ := d
  simp only at hk hm
  subst hk
  obtain ⟨o1, o2, o3, rfl⟩ := hd.o.form
  obtain ⟨s1, s2, s3, rfl⟩ := hd.s.form
  have hb : Below w.heap.size w (w.alloc (.cells (stepCells 1 e W H S (.slice o1 o2 o3) (.slice s1 s2 s3) p t a b) 35)) := (Below.refl _ w).alloc (Nat.le_refl _) _
  have HBg := hidOf (begins_any _ L (hr.below hb) hS hn W H S _ _ ore starts (hd.o.below hb) (hd.s.below hb) hd.ls hd.lo hd.io hd.is m hm)
  have HT := hidOf ((LTurn.refl hr).below hb)
  clear hd hb hr hS hm
  unfold StepD.cells stepCells at *
  go_enter Try.func7, Try.ntmps7
  go_wp2_with (go_at_call 5; refine HBg.out.mono ?_; rintro e' w1 ⟨rfl, h5⟩)
  go_ret
  obtain ⟨L', t1, t2, t3⟩ := h5
  exact ⟨rfl, L', HT.out.trans t1, t2, t3⟩

/-- Any step of the kinds up to Money. -/
theorem step_any (w : World) (L : LW) (hr : LRep w L) (hS : Sync L.ps) (h1 : 1 ≤ L.ps.length) (hn : L.ps.length ≤ 2000000) (d : StepD) (hd : d.ok w) (hk : d.kd ≤ 4) :
    Calls Try.prog 7 #[.pointer (some ⟨L.b, 0, none⟩), .agg d.cells] w fun e w' => e = .returned (.bool true) ∧ ∃ L', LTurn w L w' L' ∧ Sync L'.ps ∧ L.ps.length ≤ L'.ps.length ∧ L'.ps.length ≤ L.ps.length + 1 := by
  by_cases k1 : d.kd = 1
  · refine (step_new w L hr hS hn d hd k1 _ rfl).mono ?_
    rintro e w' ⟨rfl, L', t1, t2, t3⟩
    refine ⟨rfl, L', t1, t2, by omega, ?_⟩
    rw [t3]
    split <;> omega
  · obtain ⟨pk0, pk1⟩ := pickI_bd d.e L.ps.length (by omega)
    obtain ⟨k, hpk⟩ := Int.eq_ofNat_of_zero_le pk0
    have hkl : k < L.ps.length := by omega
    obtain ⟨X, Y, hq⟩ : ∃ X Y, L.ps[k] = (X, Y) := ⟨L.ps[k].1, L.ps[k].2, rfl⟩
    rcases own_form hr.row with ⟨_, h0, _⟩ | ⟨g, cap, hv, hc, hcm, _⟩
    · omega
    unfold maxLen at hcm
    have hin : StepIn w L d.e k g cap X Y := ⟨hr, hS, hv, ⟨hc, hcm⟩, hpk, hd.e, by simp [hkl, hq]⟩
    have fin : ∀ {e : Ending} {w' : World}, (e = .returned (.bool true) ∧ ∃ L', LTurn w L w' L' ∧ Sync L'.ps ∧ L'.ps.length = L.ps.length) → (e = .returned (.bool true) ∧ ∃ L', LTurn w L w' L' ∧ Sync L'.ps ∧ L.ps.length ≤ L'.ps.length ∧ L'.ps.length ≤ L.ps.length + 1) := by
      rintro e w' ⟨h1, L', t1, t2, t3⟩
      exact ⟨h1, L', t1, t2, by omega, by omega⟩
    unfold StepD.cells
    by_cases k2 : d.kd = 2
    · rw [k2]
      cases hb : bidsB d.t.data.toList
      · exact (step_order w L d.e k g cap X Y hin d.W d.H d.S d.vo d.vs d.p d.t d.a d.b hd.o.form hd.s.form hd.t hb).mono (fun e w' h => fin h)
      · exact (step_bid w L d.e k g cap X Y hin d.W d.H d.S d.vo d.vs d.p d.t d.a d.b hd.o.form hd.s.form hd.t hb).mono (fun e w' h => fin h)
    · by_cases k3 : d.kd = 3
      · rw [k3]
        exact (step_tick w L d.e k g cap X Y hin d.W d.H d.S d.vo d.vs d.p d.t d.a d.b hd.o.form hd.s.form).mono (fun e w' h => fin h)
      · by_cases k4 : d.kd = 4
        · rw [k4]
          exact (step_money w L d.e k g cap X Y hin d.W d.H d.S d.vo d.vs d.p d.t d.a d.b hd.o.form hd.s.form).mono (fun e w' h => fin h)
        · exact (step_other w L d.e k g cap X Y hin d.kd d.W d.H d.S d.vo d.vs d.p d.t d.a d.b hd.o.form hd.s.form (by omega)).mono (fun e w' h => fin h)

theorem Try.sizeConfig : (Try.prog.info? 32).map (·.size) = some 5 := by kernel_rfl
theorem three (w : World) (o1 o2 o3 : Obj) : (((w.alloc o1).alloc o2).alloc o3).heap[w.heap.size]? = some o1 ∧ (((w.alloc o1).alloc o2).alloc o3).heap[w.heap.size + 1]? = some o2 ∧ (((w.alloc o1).alloc o2).alloc o3).heap[w.heap.size + 1 + 1]? = some o3 ∧ Below w.heap.size w (((w.alloc o1).alloc o2).alloc o3) := by
  have s1 : (w.alloc o1).heap.size = w.heap.size + 1 := by simp
  have s2 : ((w.alloc o1).alloc o2).heap.size = w.heap.size + 1 + 1 := by simp
  have h1 := Go.heap_alloc_new w o1
  have h2 := Go.heap_alloc_new (w.alloc o1) o2
  have h3 := Go.heap_alloc_new ((w.alloc o1).alloc o2) o3
  rw [s1] at h2
  rw [s2] at h3
  refine ⟨?_, ?_, h3, (((Below.refl _ w).alloc (Nat.le_refl _) o1).alloc (by omega) o2).alloc (by omega) o3⟩
  · rw [Below.heap_alloc _ _ _ (by omega), Below.heap_alloc _ _ _ (by omega), h1]
  · rw [Below.heap_alloc _ _ _ (by omega), h2]
def fieldOre : List SSpot := [⟨1, 0, 3⟩]
def fieldStarts : List SSpot := [⟨0, 0, 0⟩, ⟨4, 3, 0⟩]
set_option maxRecDepth 100000 in
set_option maxHeartbeats 2000000 in
theorem field_any (w : World) : Calls Try.prog 6 #[] w fun e w' => Below w.heap.size w w' ∧ ∃ vo vs, e = .returned (.agg #[.int .i64 5, .int .i64 4, .int .i64 1, vo, vs]) ∧ SpA w' vo fieldOre ∧ SpA w' vs fieldStarts := by
  go_enter Try.func6, Try.ntmps6
  go_wp2
  obtain ⟨h1, h2, h3, hb⟩ := three w (.cells #[.int .i64 5, .int .i64 4, .int .i64 1, .slice (some ⟨w.heap.size + 1, 0, none⟩) 1 1, .slice (some ⟨w.heap.size + 1 + 1, 0, none⟩) 2 2] 32) (.cells #[.int .i64 1, .int .i64 0, .int .i64 3] 51) (.cells #[.int .i64 0, .int .i64 0, .int .i64 0, .int .i64 4, .int .i64 3, .int .i64 0] 51)
  refine bodyPost_ret (results_cell_row rfl _ _ w.heap.size 32 _ (0, 0) _ rfl h1 Try.underlying32 rfl Try.sizeConfig) rfl ?_
  refine ⟨hb, _, _, rfl, ⟨⟨_, _, rfl, fun _ => ⟨_, 0, rfl, lt_of_some h2, fun j u hu => ?_⟩⟩, .inr ⟨_, _, rfl⟩⟩, ⟨⟨_, _, rfl, fun _ => ⟨_, 0, rfl, lt_of_some h3, fun j u hu => ?_⟩⟩, .inr ⟨_, _, rfl⟩⟩⟩
  · rw [Nat.zero_add, cell_of_row _ _ _ _ _ _ h2]
    simpa [fieldOre, spotCells] using hu
  · rw [Nat.zero_add, cell_of_row _ _ _ _ _ _ h3]
    simpa [fieldStarts, spotCells] using hu
end Go.Proofs.Ytdpmadoccimgcaa
