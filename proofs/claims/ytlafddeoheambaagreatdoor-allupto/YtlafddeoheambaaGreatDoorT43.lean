/-
  A pair of worlds more.
-/
import Derived.Test.YtlafddeoheambaaGreatDoorT28
import Derived.Deep.RegionHeld3
set_option linter.unusedVariables false
namespace Go.Proofs.YtlafddeoheambaaGreatDoor
open Go.RowKit

def addPR (R : Nat → PRole) (fx fy : List Nat) (gr n : Nat) : Nat → PRole := fun r => if r ∈ fx then .x n else if r ∈ fy then .y n else if r = gr then .row else R r
def LW.add (L : LW) (X : XW) (Y : YW) (val : Value) (gr : Nat) : LW := { L with v := val, ps := L.ps ++ [(X, Y)], R := addPR L.R X.foot Y.foot gr L.ps.length }
theorem app_get {α : Type} {l : List α} {a c : α} {j : Nat} (h : (l ++ [a])[j]? = some c) : (j < l.length ∧ l[j]? = some c) ∨ (j = l.length ∧ c = a) := by
  by_cases hj : j < l.length
  · rw [List.getElem?_append_left hj] at h
    exact .inl ⟨hj, h⟩
  · rw [List.getElem?_append_right (by omega)] at h
    obtain ⟨h1, h2⟩ := at_some h
    simp at h1
    have h3 : j - l.length = 0 := by omega
    simp [h3] at h2
    exact .inr ⟨by omega, h2.symm⟩

theorem LTurn.add {w0 w w6 : World} {L0 L : LW} (T : LTurn w0 L0 w L) {X : XW} {Y : YW} (hX : RepX w X) (hY : RepY w Y) (fx : ∀ r ∈ X.foot, r ∉ L.foot ∧ w0.heap.size ≤ r) (fy : ∀ r ∈ Y.foot, r ∉ L.foot ∧ w0.heap.size ≤ r) (fxy : ∀ r ∈ X.foot, r ∉ Y.foot)
    (hg : w.grownBy w6 L.v.ownBlock) (gr c n : Nat) (hn : n = L.ps.length + 1)
    (ho : w6.ownsRow 0 119 2 (.slice (some ⟨gr, 0, none⟩) n c) n (L.ps.flatMap pairCells ++ pairCells (X, Y))) (hat : L.v.ownBlock = some gr ∨ w.heap.size ≤ gr) :
    LTurn w0 L0 (w6.setCell ⟨L.b, 0, none⟩ (.slice (some ⟨gr, 0, none⟩) n c)) (L.add X Y (.slice (some ⟨gr, 0, none⟩) n c) gr) := by
  have h := T.rep
  have lt := h.lt
  have hmem : ∀ r, L.v.ownBlock = some r → r ∈ blk L.v := fun r hr => by simp [blk, hr]
  have hgb : gr ≠ L.b := by
    rcases hat with h' | h'
    · intro e
      have h1 := h.rr gr (hmem gr h')
      rw [e, h.rb] at h1
      cases h1
    · have := lt L.b lfoot_b; omega
  have hgx : gr ∉ X.foot := by
    rcases hat with h' | h'
    · exact fun e => (fx gr e).1 (lfoot_r (hmem gr h'))
    · exact fun e => by have := hX.lt gr e; omega
  have hgy : gr ∉ Y.foot := by
    rcases hat with h' | h'
    · exact fun e => (fy gr e).1 (lfoot_r (hmem gr h'))
    · exact fun e => by have := hY.lt gr e; omega
  have far : ∀ r, r < w.heap.size → L.v.ownBlock ≠ some r → r ≠ L.b → (w6.setCell ⟨L.b, 0, none⟩ (.slice (some ⟨gr, 0, none⟩) n c)).heap[r]? = w.heap[r]? := by
    intro r h1 h2 h3
    rw [setCell_far w6 L.b _ _ r h3, hg.block r h1 (Ne.symm h2)]
  have farN : ∀ r, r < w.heap.size → r ∉ L.foot → (w6.setCell ⟨L.b, 0, none⟩ (.slice (some ⟨gr, 0, none⟩) n c)).heap[r]? = w.heap[r]? := fun r h1 h2 => far r h1 (fun e => h2 (lfoot_r (hmem r e))) (fun e => h2 (e ▸ lfoot_b))
  have farR : ∀ r ρ, r ∈ L.foot → L.R r = ρ → ρ ≠ .row → ρ ≠ .top → (w6.setCell ⟨L.b, 0, none⟩ (.slice (some ⟨gr, 0, none⟩) n c)).heap[r]? = w.heap[r]? := fun r ρ h1 h2 h3 h4 => far r (lt r h1) (fun e => h3 (by rw [← h2]; exact h.rr r (hmem r e))) (fun e => h4 (by rw [← h2, e]; exact h.rb))
  have old : ∀ r ∈ L.foot, addPR L.R X.foot Y.foot gr L.ps.length r = L.R r := by
    intro r hr
    have h1 : r ∉ X.foot := fun e => (fx r e).1 hr
    have h2 : r ∉ Y.foot := fun e => (fy r e).1 hr
    simp only [addPR, if_neg h1, if_neg h2]
    split
    · rename_i e
      subst e
      rcases hat with h' | h'
      · exact (h.rr r (hmem r h')).symm
      · have := lt r hr; omega
    · rfl
  refine ⟨⟨?_, ?_, ?_, ?_, ?_, ?_, ?_, ?_⟩, ?_, ?_, T.b⟩
  · show (w6.setCell ⟨L.b, 0, none⟩ _).heap[L.b]? = _
    have e : w6.heap[L.b]? = some (.cells #[L.v] 53 (0, 0)) := by
      rw [hg.block L.b (lt _ lfoot_b) (fun e => by have h1 := h.rr L.b (hmem _ e.symm); rw [h.rb] at h1; cases h1)]
      exact h.top
    rw [cells_set e]
    rfl
  · show (w6.setCell ⟨L.b, 0, none⟩ _).ownsRow 0 _ 2 (.slice (some ⟨gr, 0, none⟩) n c) (L.ps ++ [(X, Y)]).length ((L.ps ++ [(X, Y)]).flatMap pairCells)
    have e1 : (L.ps ++ [(X, Y)]).length = n := by simp [hn]
    have e2 : (L.ps ++ [(X, Y)]).flatMap pairCells = L.ps.flatMap pairCells ++ pairCells (X, Y) := by simp
    rw [e1, e2]
    refine own_same ho (fun r hr' => setCell_far w6 L.b _ _ r ?_)
    have h' : r ∈ blk (.slice (some ⟨gr, 0, none⟩) n c) := hr'
    have : r = gr := by simpa [blk_slice] using h'
    rw [this]; exact hgb
  · intro j q hj
    rcases app_get hj with ⟨_, hj'⟩ | ⟨_, rfl⟩
    · exact (h.x j q hj').same (fun r hr => farR r _ (lfoot_x hj' hr) (h.rx j q hj' r hr) (by simp) (by simp))
    · exact hX.same (fun r hr => farN r (hX.lt r hr) (fx r hr).1)
  · intro j q hj
    rcases app_get hj with ⟨_, hj'⟩ | ⟨_, rfl⟩
    · exact (h.y j q hj').same (fun r hr => farR r _ (lfoot_y hj' hr) (h.ry j q hj' r hr) (by simp) (by simp))
    · exact hY.same (fun r hr => farN r (hY.lt r hr) (fy r hr).1)
  · exact (old _ lfoot_b).trans h.rb
  · intro r hr
    have h' : r ∈ blk (.slice (some ⟨gr, 0, none⟩) n c) := hr
    have e : r = gr := by simpa [blk_slice] using h'
    subst e
    show addPR L.R X.foot Y.foot r L.ps.length r = _
    simp [addPR, hgx, hgy]
  · intro j q hj r hr
    rcases app_get hj with ⟨_, hj'⟩ | ⟨rfl, rfl⟩
    · exact (old _ (lfoot_x hj' hr)).trans (h.rx j q hj' r hr)
    · show addPR L.R X.foot Y.foot gr L.ps.length r = _
      have hr' : r ∈ X.foot := hr
      simp [addPR, hr']
  · intro j q hj r hr
    rcases app_get hj with ⟨_, hj'⟩ | ⟨rfl, rfl⟩
    · exact (old _ (lfoot_y hj' hr)).trans (h.ry j q hj' r hr)
    · show addPR L.R X.foot Y.foot gr L.ps.length r = _
      have hr' : r ∈ Y.foot := hr
      have : r ∉ X.foot := fun e => fxy r e hr'
      simp [addPR, hr', this]
  · refine Kept.setCell ?_ _ _ _ (T.ext _ lfoot_b)
    refine ⟨hg.os.trans T.kept.os, hg.tape.trans T.kept.tape, hg.output.trans T.kept.output, Nat.le_trans T.kept.size hg.size, fun k hk hn' => ?_⟩
    rw [hg.block k (Nat.lt_of_lt_of_le hk T.kept.size) (fun e => ?_), T.kept.block k hk hn']
    rcases T.ext k (lfoot_r (hmem k e.symm)) with h' | h'
    · exact hn' h'
    · omega
  · intro r hr
    rcases lfoot_cases hr with rfl | hr | ⟨j, q, hj, hr⟩
    · exact T.ext _ lfoot_b
    · have h' : r ∈ blk (.slice (some ⟨gr, 0, none⟩) n c) := hr
      have e : r = gr := by simpa [blk_slice] using h'
      subst e
      rcases hat with h' | h'
      · exact T.ext _ (lfoot_r (hmem _ h'))
      · exact .inr (Nat.le_trans T.kept.size h')
    · rcases app_get hj with ⟨_, hj'⟩ | ⟨rfl, rfl⟩
      · rcases hr with hr | hr
        · exact T.ext _ (lfoot_x hj' hr)
        · exact T.ext _ (lfoot_y hj' hr)
      · rcases hr with hr | hr
        · exact .inr (fx r hr).2
        · exact .inr (fy r hr).2

theorem WFS.new {W H S : Int} {ore starts : List SSpot} (h : newB W H S ore starts = true) : WFS (newS W H S ore starts) 100 := by
  unfold newB at h
  simp only [Bool.and_eq_true, List.all_eq_true, decide_eq_true_eq] at h
  obtain ⟨⟨⟨⟨⟨⟨⟨hw, hh⟩, hs⟩, hst⟩, hor⟩, ha⟩, hb⟩, hc⟩ := h
  simp [inB] at hw hh hst
  obtain ⟨h1, _, _⟩ := apartGo_facts W H starts [] hb
  refine ⟨by simp [newS]; omega, hw, hh, hor, fun s hs => by have := hc s hs; simp [inB] at this; omega, ?_⟩
  intro p hp
  simp only [newS, List.mem_map] at hp
  obtain ⟨s, hs', rfl⟩ := hp
  have := h1 s hs'
  simp [okSpot, inB] at this
  refine ⟨by simp [firstP], ?_, ⟨by simp [firstP], by simp [firstP]⟩, by simp [firstP]⟩
  intro u hu
  simp only [firstP, List.mem_singleton] at hu
  subst hu
  exact ⟨by simp only [firstU, newS]; omega, by simp only [firstU, newS]; omega, by simp [firstU], by simp [firstU]⟩
theorem GoodS.new {W H S : Int} {ore starts : List SSpot} (h : newB W H S ore starts = true) : GoodS (newS W H S ore starts) := by
  refine ⟨⟨Int.le_refl _, by show (0 : Int) ≤ 1000; omega⟩, (WFS.new h).mono (by simp [newS]), LotWF.nil _ ?_, rfl, NmS.new⟩
  intro b hb
  simp only [newS, List.map_map, List.mem_map] at hb
  obtain ⟨s, _, rfl⟩ := hb
  rfl
theorem news_new {X : XW} {W H S : Int} {ore starts : List SSpot} (h : X.S = newS W H S ore starts) (hs : X.sales = []) : NewsOK X := by
  intro i q hq
  rw [hs]
  have e : X.S.players[i]? = some q.1 := by simp [XW.S, hq]
  rw [h] at e
  have := List.mem_of_getElem? e
  simp only [newS, List.mem_map] at this
  obtain ⟨s, _, e'⟩ := this
  rw [← e']
  rfl

/-- What is lent, handed in. -/
theorem lent_in {w : World} {g : Nat} {l : List SSpot} (h : w.ownsRow 0 63 3 (.slice (some ⟨g, 0, none⟩) (l.length + 2) (l.length + 2)) (l.length + 2) ((lentL l).flatMap spotCells)) : SpIn w (.slice (some ⟨g, 0, none⟩) l.length (l.length + 2)) l := by
  refine ⟨some ⟨g, 0, none⟩, l.length + 2, rfl, fun _ => ⟨g, 0, rfl, own_lt h g (by simp [blk_slice]), fun j u hu => ?_⟩⟩
  rw [Nat.zero_add]
  refine own_cell h ?_
  have e : (lentL l).flatMap spotCells = l.flatMap spotCells ++ [(⟨77, 0, 0⟩ : SSpot), ⟨78, 0, 0⟩].flatMap spotCells := by simp [lentL]
  rw [e, List.getElem?_append_left (at_some hu).1]
  exact hu
theorem nil_in (w : World) : SpIn w (.slice none 0 0) [] := ⟨none, 0, rfl, fun h => absurd h (by simp)⟩
end Go.Proofs.YtlafddeoheambaaGreatDoor

/-
  What the turns of the first unit come to, said plainly.
-/
namespace Go.Proofs.YtlafddeoheambaaGreatDoor
open Go.RowKit

def cornersOf (n : Int) : List SSpot := [⟨0, 0, 0⟩, ⟨n, n, 0⟩, ⟨n, 0, 0⟩, ⟨0, n, 0⟩]
def oreOf (n : Int) : List SSpot := [⟨0, 0, 9⟩, ⟨1, 0, 3⟩, ⟨n, n, 99⟩, ⟨n, n - 1, 2⟩]
def begunS (side sight : Int) (k : Nat) : SWorld := newS side side sight (oreOf (side - 1)) ((cornersOf (side - 1)).take k)
def turnU (x y h : Int) (b : ByteArray) : SUnit := { name := firstU.bytesA, x := x, y := y, head := h, cargo := 0, what := b, arg := emptyB }
def turnP (x y h : Int) (b : ByteArray) : SPlayer := { money := 100, units := [turnU x y h b], bids := [], news := [] }
/-- The world of Turns: the first unit's spot, its heading, what it was told. -/
def turnS (i x y h : Int) (b : ByteArray) : SWorld := { width := 7, height := 7, sight := 1, now := i, ore := oreOf 6, players := [turnP x y h b, firstP ⟨6, 6, 0⟩], lots := [] }
theorem turn_first : begunS 7 1 2 = turnS 0 0 0 0 emptyB := by rfl
def turnW (k : Nat) : List UInt8 := if k = 0 then [103, 111] else if k = 1 then [108, 101, 102, 116] else if k = 2 then [98, 97, 99, 107] else [114, 105, 103, 104, 116]
theorem turn_order (i x y h : Int) (k : Nat) (hk : k < 4) : orderS (turnS i x y h emptyB) 0 ([97, 32] ++ turnW k) = (0, turnS i x y h (bytesOf (turnW k))) := by
  have sp : ∀ k, k < 4 → splitB ([97, 32] ++ turnW k) = [[97], turnW k] := by
    intro k hk
    rcases k with _ | _ | _ | _ | k <;> first | rfl | omega
  have nm : nameB [97] = true := by decide
  have pl : ∀ k, k < 4 → plainB (turnW k) = true := by
    intro k hk
    rcases k with _ | _ | _ | _ | k
    all_goals first
      | omega
      | (simp only [plainB, amongB, eqS, Lib.toList_data]; decide)
  have ix : unitIx (turnP x y h emptyB).units (bytesOf [97]) = 0 := by
    simp [unitIx, turnP, turnU, ixOf, eqS, Lib.toList_data, firstU.bytesA, bytesOf]
  unfold orderS
  rw [if_pos (by simp [turnS])]
  show wordsS _ 0 (turnP x y h emptyB) _ = _
  rw [sp k hk]
  unfold wordsS
  simp only [nm, pl k hk, Bool.and_self, if_true]
  unfold tellS
  rw [ix]
  rfl
def roomB (a b : Int) : Bool := decide (0 ≤ a) && decide (a < 7) && decide (0 ≤ b) && decide (b < 7) && (decide (a ≠ 6) || decide (b ≠ 6))
theorem turn_free (i x y h : Int) (b : ByteArray) (a c : Int) (hne : ¬ (x = a ∧ y = c)) : freeS (turnS i x y h b) a c = roomB a c := by
  unfold freeS roomB
  have hi : holderI (turnS i x y h b).players a c = if a = 6 ∧ c = 6 then 1 else -1 := by
    simp only [holderI, turnS, ixOf, standsB, turnP, turnU, firstP, firstU, List.any_cons, List.any_nil, Bool.or_false]
    have e1 : (decide (x = a) && decide (y = c)) = false := by
      cases hh : (decide (x = a) && decide (y = c))
      · rfl
      · simp only [Bool.and_eq_true, decide_eq_true_eq] at hh; exact absurd hh hne
    rw [e1]
    by_cases h6 : a = 6 ∧ c = 6
    · obtain ⟨rfl, rfl⟩ := h6; simp
    · have e2 : (decide ((6 : Int) = a) && decide ((6 : Int) = c)) = false := by
        cases hh : (decide ((6 : Int) = a) && decide ((6 : Int) = c))
        · rfl
        · simp only [Bool.and_eq_true, decide_eq_true_eq] at hh; exact absurd ⟨hh.1.symm, hh.2.symm⟩ h6
      rw [e2, if_neg h6]; simp
  rw [hi]
  simp only [show (turnS i x y h b).width = 7 from rfl, show (turnS i x y h b).height = 7 from rfl, inB]
  apply Bool.eq_iff_iff.2
  simp only [Bool.and_eq_true, Bool.or_eq_true, decide_eq_true_eq]
  by_cases h6 : a = 6 ∧ c = 6
  · rw [if_pos h6]; omega
  · rw [if_neg h6]
    constructor
    · rintro ⟨⟨⟨h1, h2⟩, h3, h4⟩, _⟩
      refine ⟨⟨⟨⟨h1, by omega⟩, h3⟩, by omega⟩, by omega⟩
    · rintro ⟨⟨⟨⟨h1, h2⟩, h3⟩, h4⟩, _⟩
      exact ⟨⟨⟨h1, by omega⟩, h3, by omega⟩, by omega⟩
theorem turn_tick (i x y h : Int) (k : Nat) (hk : k < 4) (h0 : 0 ≤ h ∧ h < 4) :
    tickS (turnS i x y h (bytesOf (turnW k))) = if k = 0 then (if roomB (x + dxI h) (y + dyI h) then turnS (i + 1) (x + dxI h) (y + dyI h) h emptyB else turnS (i + 1) x y h emptyB) else turnS (i + 1) x y ((h + k) % 4) emptyB := by
  have hne : ¬ (x = x + dxI h ∧ y = y + dyI h) := by
    unfold dxI dyI
    have : h = 0 ∨ h = 1 ∨ h = 2 ∨ h = 3 := by omega
    rcases this with rfl | rfl | rfl | rfl <;> simp <;> omega
  have two : ∀ (s : SWorld) (p : SPlayer), s.players = [p, firstP ⟨6, 6, 0⟩] → playerS s 1 = s := by
    intro s p hp
    have hc : clearN s 1 = s := by
      unfold clearN
      rw [hp]
      cases s
      simp only at hp
      subst hp
      rfl
    unfold playerS
    rw [hc]
    have hu : unitsN s 1 = 1 := by unfold unitsN; rw [hp]; rfl
    rw [hu]
    show doesS s 1 0 = s
    unfold doesS
    rw [hp]
    cases s
    simp only at hp
    subst hp
    simp [firstP, firstU, actS, emptyB, Lib.toList_data, SWorld.setPl]
  have one : playerS (turnS i x y h (bytesOf (turnW k))) 0 = if k = 0 then (if roomB (x + dxI h) (y + dyI h) then turnS i (x + dxI h) (y + dyI h) h emptyB else turnS i x y h emptyB) else turnS i x y ((h + k) % 4) emptyB := by
    have hf := turn_free i x y h emptyB _ _ hne
    show doesS (turnS i x y h (bytesOf (turnW k))) 0 0 = _
    have hd : doesS (turnS i x y h (bytesOf (turnW k))) 0 0 = actS (turnS i x y h emptyB) 0 0 (turnP x y h emptyB) (turnU x y h emptyB) (bytesOf (turnW k)) emptyB := rfl
    rw [hd]
    unfold actS
    simp only [Lib.toList_data, bytesOf_toList]
    rcases k with _ | _ | _ | _ | k
    · rw [if_pos (by decide), if_pos rfl]
      show (if freeS (turnS i x y h emptyB) (x + dxI h) (y + dyI h) = true then _ else _) = _
      rw [hf]
      split <;> rfl
    · rw [if_neg (by decide), if_pos (by decide), if_neg (by omega)]; rfl
    · rw [if_neg (by decide), if_neg (by decide), if_pos (by decide), if_neg (by omega)]; rfl
    · rw [if_neg (by decide), if_neg (by decide), if_neg (by decide), if_pos (by decide), if_neg (by omega)]; rfl
    · omega
  rw [tickS_nil rfl]
  have tt : tickTo (turnS i x y h (bytesOf (turnW k))) 2 = playerS (playerS (turnS i x y h (bytesOf (turnW k))) 0) 1 := rfl
  have hl : (turnS i x y h (bytesOf (turnW k))).players.length = 2 := rfl
  rw [hl, tt, one]
  split
  · split
    · rw [two _ _ rfl]; rfl
    · rw [two _ _ rfl]; rfl
  · rw [two _ _ rfl]; rfl
/-- What the view begins with. -/
theorem turn_view (i x y h : Int) : ∃ r, viewS (turnS i x y h emptyB) 0 = (bytesOf (tickL i 100 ++ unitL (turnU x y h emptyB) ++ r), 0) := by
  refine ⟨rowsTo (turnS i x y h emptyB) 0 [turnU x y h emptyB] 7 ++ (lotsL (turnS i x y h emptyB) (turnP x y h emptyB) ++ newsL (turnP x y h emptyB)), ?_⟩
  unfold viewS
  rw [if_pos (by simp [turnS])]
  show (bytesOf (viewL _ 0 (turnP x y h emptyB)), (0 : Int)) = _
  unfold viewL ownL
  simp only [turnP, List.flatMap_cons, List.flatMap_nil, List.append_nil, List.append_assoc]
  rfl
end Go.Proofs.YtlafddeoheambaaGreatDoor

/-
  The functions begun and view of package hazekeep.
-/
namespace Go.Proofs.YtlafddeoheambaaGreatDoor
open Go.RowKit

theorem SpIn.mk {w : World} {b k cap : Nat} {ds : List SSpot} (h : ∀ (j : Nat) u, (ds.flatMap spotCells)[j]? = some u → w.cell? ⟨b, j, none⟩ = some u) (hb : b < w.heap.size) (hk : ds.length = k) : SpIn w (.slice (some ⟨b, 0, none⟩) k cap) ds := by
  subst hk
  exact ⟨_, _, rfl, fun _ => ⟨b, 0, rfl, hb, fun j u hu => by rw [Nat.zero_add]; exact h j u hu⟩⟩
theorem take_cells (l : List SSpot) (k : Nat) : ∀ (j : Nat) u, ((l.take k).flatMap spotCells)[j]? = some u → (l.flatMap spotCells)[j]? = some u := by
  intro j u h
  have e : l.flatMap spotCells = (l.take k).flatMap spotCells ++ (l.drop k).flatMap spotCells := by rw [← List.flatMap_append, List.take_append_drop]
  rw [e, List.getElem?_append_left]
  · exact h
  · obtain ⟨hj, _⟩ := List.getElem?_eq_some_iff.1 h
    exact hj

set_option maxRecDepth 100000 in
set_option maxHeartbeats 4000000 in
theorem begun_any (w : World) (side sight : Int) (k : Nat) (hs : 3 ≤ side ∧ side ≤ 10) (hk : 2 ≤ k ∧ k ≤ 4) (hN : newB side side sight (oreOf (side - 1)) ((cornersOf (side - 1)).take k) = true) :
    Calls Tryz.prog 18 #[.int .i64 side, .int .i64 sight, .int .i64 k] w fun e w' => Below w.heap.size w w' ∧ ∃ X : XW, e = .returned (.pointer (some ⟨X.b, 0, none⟩)) ∧ RepX w' X ∧ OkX X ∧ X.S = begunS side sight k ∧ X.sales = [] ∧ ∀ r ∈ X.foot, w.heap.size ≤ r := by
  have HN : Hid (∀ wc : World, wc = (w.alloc (.cells ((cornersOf (side - 1)).flatMap spotCells).toArray 63)).alloc (.cells ((oreOf (side - 1)).flatMap spotCells).toArray 63) →
      Calls Tryz.prog 25 #[.agg #[.int .i64 side, .int .i64 side, .int .i64 sight, .slice (some ⟨w.heap.size + 1, 0, none⟩) 4 4, .slice (some ⟨w.heap.size, 0, none⟩) k 4]] wc fun e w' => Below w.heap.size w w' ∧ ∃ X : XW, e = .returned (.tuple #[.pointer (some ⟨X.b, 0, none⟩), .int .i64 0]) ∧ RepX w' X ∧ OkX X ∧ X.S = begunS side sight k ∧ X.sales = [] ∧ ∀ r ∈ X.foot, w.heap.size ≤ r) := by
    unfold Hid
    intro wc hwc
    have s1 : (w.alloc (.cells ((cornersOf (side - 1)).flatMap spotCells).toArray 63)).heap.size = w.heap.size + 1 := by simp
    have h2 := Go.heap_alloc_new (w.alloc (.cells ((cornersOf (side - 1)).flatMap spotCells).toArray 63)) (.cells ((oreOf (side - 1)).flatMap spotCells).toArray 63)
    have h1 := Go.heap_alloc_new w (.cells ((cornersOf (side - 1)).flatMap spotCells).toArray 63)
    rw [s1, ← hwc] at h2
    have h1' : wc.heap[w.heap.size]? = some (.cells ((cornersOf (side - 1)).flatMap spotCells).toArray 63 (0, 0)) := by rw [hwc, Below.heap_alloc _ _ _ (by omega), h1]
    have hb : Below w.heap.size w wc := by rw [hwc]; exact ((Below.refl _ w).alloc (Nat.le_refl _) _).alloc (by omega) _
    have ho : SpIn wc (.slice (some ⟨w.heap.size + 1, 0, none⟩) 4 4) (oreOf (side - 1)) := SpIn.mk (fun j u hu => by rw [cell_of_row _ _ _ _ _ _ h2]; simpa using hu) (lt_of_some h2) rfl
    have hc : SpIn wc (.slice (some ⟨w.heap.size, 0, none⟩) k 4) ((cornersOf (side - 1)).take k) := SpIn.mk (fun j u hu => by rw [cell_of_row _ _ _ _ _ _ h1']; simpa using take_cells _ _ j u hu) (lt_of_some h1') (by simp [cornersOf]; omega)
    have hlo : (oreOf (side - 1)).length = 4 := rfl
    have hlc : ((cornersOf (side - 1)).take k).length ≤ 4 := by simp [cornersOf]; omega
    refine (xnew_any wc side side sight _ _ _ _ ho hc (by omega) (by omega) ?_ ?_).mono ?_
    · intro s hs'
      simp [oreOf] at hs'
      rcases hs' with rfl | rfl | rfl | rfl <;> simp <;> omega
    · intro s hs'
      have hs'' := List.mem_of_mem_take hs'
      simp [cornersOf] at hs''
      rcases hs'' with rfl | rfl | rfl | rfl <;> simp <;> omega
    · rintro e w' ⟨hb', ⟨hf, _⟩ | ⟨_, X, he, hr, hok, hS, hsl, hf⟩⟩
      · rw [hN] at hf; cases hf
      · exact ⟨hb.trans (hb'.mono hb.size), X, he, hr, hok, hS, hsl, fun r hr' => Nat.le_trans hb.size (hf r hr')⟩
  clear hN
  go_enter Tryz.func18, Tryz.ntmps18
  go_wp2_with fail
  refine (HN.out _ rfl).mono ?_
  rintro e w1 ⟨hb, X, rfl, hR⟩
  have HR := hidOf hR
  have HB := hidOf hb
  clear hR hb HN
  go_wp2
  go_ret
  exact ⟨HB.out, X, rfl, HR.out⟩
set_option maxRecDepth 100000 in
set_option maxHeartbeats 1000000 in
/-- What view answers: the view, or nothing. -/
theorem kview_any (w : World) (X : XW) (n : Int) (hr : RepX w X) (ht : Tab w) (ho : OkX X) (hg : GoodS X.S) (hN : NewsOK X) (hsl : SaleOK X.sales) :
    Calls Tryz.prog 17 #[.pointer (some ⟨X.b, 0, none⟩), .int .i64 n] w fun e w' => e = .returned (.string (viewS X.S n).1) ∧ Below w.heap.size w w' := by
  have HV := hidOf (xview_c w X n hr ht ho hg hN hsl)
  have h1 : (viewS X.S n).2 = 0 ∨ ((viewS X.S n).2 = 1 ∧ (viewS X.S n).1 = ⟨#[]⟩) := by
    unfold viewS
    repeat' split
    all_goals simp
  clear hr ht ho hg hN hsl
  go_enter Tryz.func17, Tryz.ntmps17
  go_wp2_with fail
  refine HV.out.mono ?_
  rintro e w1 ⟨rfl, hb⟩
  rcases h1 with h1 | ⟨h1, h2⟩
  · rw [h1]
    go_wp2
    go_ret
    exact ⟨rfl, hb⟩
  · rw [h1, h2]
    go_wp2
    go_ret
    exact ⟨by rw [h2]; rfl, hb⟩
end Go.Proofs.YtlafddeoheambaaGreatDoor

/-
  A world of the program that a keep holds.
-/
namespace Go.Proofs.YtlafddeoheambaaGreatDoor
open Go.RowKit

structure KIn (w wx : World) (X : XW) : Prop where
  b : Below w.heap.size w wx
  rep : RepX wx X
  ok : OkX X
  g : GoodS X.S
  n : NewsOK X
  sl : SaleOK X.sales
  foot : ∀ r ∈ X.foot, w.heap.size ≤ r
theorem KIn.below {w wx w' : World} {X : XW} (h : KIn w wx X) (hb : Below wx.heap.size wx w') : KIn w w' X :=
  ⟨h.b.trans (hb.mono h.b.size), h.rep.below hb, h.ok, h.g, h.n, h.sl, h.foot⟩
theorem KIn.turn {w wx w' : World} {X X' : XW} (h : KIn w wx X) (T : TurnX wx X w' X') (ok : OkX X') (g : GoodS X'.S) (n : NewsOK X') (sl : SaleOK X'.sales) : KIn w w' X' := by
  refine ⟨⟨T.kept.os.trans h.b.os, T.kept.tape.trans h.b.tape, T.kept.output.trans h.b.output, Nat.le_trans h.b.size T.kept.size, fun k hk => ?_⟩, T.rep, ok, g, n, sl, fun r hr => ?_⟩
  · rw [T.kept.block k (Nat.lt_of_lt_of_le hk h.b.size) (fun hm => by have := h.foot k hm; omega), h.b.block k hk]
  · rcases T.ext r hr with h' | h'
    · exact h.foot r h'
    · have := h.b.size; omega
theorem KIn.order {w wx : World} {X : XW} (h : KIn w wx X) (n : Int) (t : ByteArray) (hs : t.size ≤ 2000000) :
    Calls Tryz.prog 10 #[.pointer (some ⟨X.b, 0, none⟩), .int .i64 n, .string t] wx fun e w' => e = .returned (.int .i64 (orderS X.S n t.data.toList).1) ∧ ∃ X', KIn w w' X' ∧ X'.b = X.b ∧ X'.S = (orderS X.S n t.data.toList).2 := by
  refine (xorder_c wx X n t h.rep h.ok h.g h.n h.sl hs).mono ?_
  rintro e w' ⟨rfl, X', T, ok, hS, n', sl⟩
  exact ⟨rfl, X', h.turn T ok (by rw [hS]; exact h.g.order n t.data.toList (by rw [Array.length_toList]; exact hs)) n' sl, T.b, hS⟩
theorem KIn.tick {w wx : World} {X : XW} (h : KIn w wx X) :
    Calls Tryz.prog 11 #[.pointer (some ⟨X.b, 0, none⟩)] wx fun e w' => e = .returned (.int .i64 (tickC X.S)) ∧ ∃ X', KIn w w' X' ∧ X'.b = X.b ∧ X'.S = tickN X.S := by
  refine (xtick_c wx X h.rep h.ok h.g h.n h.sl).mono ?_
  rintro e w' ⟨rfl, X', T, ok, hS, n', sl⟩
  exact ⟨rfl, X', h.turn T ok (by rw [hS]; exact h.g.tickN) n' sl, T.b, hS⟩
theorem KIn.view {w wx : World} {X : XW} (h : KIn w wx X) (n : Int) (ht : Tab w) :
    Calls Tryz.prog 17 #[.pointer (some ⟨X.b, 0, none⟩), .int .i64 n] wx fun e w' => e = .returned (.string (viewS X.S n).1) ∧ KIn w w' X := by
  refine (kview_any wx X n h.rep (ht.below h.b ht.lt) h.ok h.g h.n h.sl).mono ?_
  rintro e w' ⟨rfl, hb⟩
  exact ⟨rfl, h.below hb⟩
theorem begun_in (w : World) (side sight : Int) (k : Nat) (hs : 3 ≤ side ∧ side ≤ 10) (hk : 2 ≤ k ∧ k ≤ 4) (hN : newB side side sight (oreOf (side - 1)) ((cornersOf (side - 1)).take k) = true) :
    Calls Tryz.prog 18 #[.int .i64 side, .int .i64 sight, .int .i64 k] w fun e w' => ∃ X : XW, e = .returned (.pointer (some ⟨X.b, 0, none⟩)) ∧ KIn w w' X ∧ X.S = begunS side sight k := by
  refine (begun_any w side sight k hs hk hN).mono ?_
  rintro e w' ⟨hb, X, rfl, hr, ok, hS, hsl, hf⟩
  exact ⟨X, rfl, ⟨hb, hr, ok, by rw [hS]; exact GoodS.new hN, news_new hS hsl, by rw [hsl]; exact SaleOK.nil, hf⟩, hS⟩
/-- Numbers that are handed in. -/
def IntsIn (w : World) (v : Value) (zs : List Int) : Prop :=
  ∃ ao cap, v = .slice ao zs.length cap ∧ zs.length ≤ 9223372036854775807 ∧ (0 < zs.length → ∃ b off, ao = some ⟨b, off, none⟩ ∧ b < w.heap.size ∧ ∀ (j : Nat) z, zs[j]? = some z → w.cell? ⟨b, off + j, none⟩ = some (.int .i64 z))
set_option maxRecDepth 100000 in
theorem kpick_any (c n : Int) (w : World) (h1 : -9223372036854775808 ≤ c) (h2 : c ≤ 9223372036854775807) (hn : 0 < n) (hn2 : n ≤ 9223372036854775807) :
    Calls Tryz.prog 12 #[.int .i64 c, .int .i64 n] w fun e w' => e = .returned (.int .i64 (pickI c n)) ∧ w' = w := by
  by_cases h : c < 0
  · go_enter Tryz.func12, Tryz.ntmps12
    go_wp2
    go_ret
    exact ⟨ret_int (pickI_neg c n h), rfl⟩
  · go_enter Tryz.func12, Tryz.ntmps12
    go_wp2
    go_ret
    exact ⟨ret_int (pickI_pos c n (by omega)), rfl⟩
end Go.Proofs.YtlafddeoheambaaGreatDoor

/-
  How lots close in the program's world: plain words, and what becomes of it in memory.
-/
namespace Go.Proofs.YtlafddeoheambaaGreatDoor
open Go.RowKit

def saleOf (l : XLot) : XSale := ⟨l.name, (closeTo l.bid l.least 4).1, (closeTo l.bid l.least 4).2.1⟩
def openX (now : Int) (l : XLot) : Bool := decide (now < l.ends)
def keepTo (ls : List XLot) (now : Int) (k : Nat) : List XLot := (ls.take k).filter (openX now)
def dueTo (ls : List XLot) (now : Int) (k : Nat) : List XLot := (ls.take k).filter (fun l => !openX now l)
def sellX (t : SWorld) (l : XLot) : SWorld := sellS t (lotOf l)
def soldTo (s : SWorld) (ls : List XLot) (k : Nat) : SWorld := (dueTo ls s.now k).foldl sellX s
section
variable {ls : List XLot} {now : Int} {k : Nat} {l : XLot}
theorem keep_yes (h : ls[k]? = some l) (ho : openX now l = true) : keepTo ls now (k + 1) = keepTo ls now k ++ [l] := by
  obtain ⟨hk, rfl⟩ := at_some h
  unfold keepTo
  rw [List.take_succ_eq_append_getElem hk, List.filter_append]
  simp [ho]
theorem keep_no (h : ls[k]? = some l) (ho : openX now l = false) : keepTo ls now (k + 1) = keepTo ls now k := by
  obtain ⟨hk, rfl⟩ := at_some h
  unfold keepTo
  rw [List.take_succ_eq_append_getElem hk, List.filter_append]
  simp [ho]
theorem due_yes (h : ls[k]? = some l) (ho : openX now l = false) : dueTo ls now (k + 1) = dueTo ls now k ++ [l] := by
  obtain ⟨hk, rfl⟩ := at_some h
  unfold dueTo
  rw [List.take_succ_eq_append_getElem hk, List.filter_append]
  simp [ho]
theorem due_no (h : ls[k]? = some l) (ho : openX now l = true) : dueTo ls now (k + 1) = dueTo ls now k := by
  obtain ⟨hk, rfl⟩ := at_some h
  unfold dueTo
  rw [List.take_succ_eq_append_getElem hk, List.filter_append]
  simp [ho]
end
theorem sold_yes {s : SWorld} {ls : List XLot} {k : Nat} {l : XLot} (h : ls[k]? = some l) (ho : openX s.now l = false) : soldTo s ls (k + 1) = sellX (soldTo s ls k) l := by
  unfold soldTo
  rw [due_yes h ho, List.foldl_append]
  rfl
theorem sold_no {s : SWorld} {ls : List XLot} {k : Nat} {l : XLot} (h : ls[k]? = some l) (ho : openX s.now l = true) : soldTo s ls (k + 1) = soldTo s ls k := by
  unfold soldTo
  rw [due_no h ho]
theorem sell_bids (t : SWorld) (l : SLot) {nm : ByteArray} (hne : nm ≠ l.name) (i : Nat) : bidsOf (sellS t l).players nm i = bidsOf t.players nm i := by
  unfold bidsOf sellS
  simp only [List.getElem?_mapIdx]
  cases t.players[i]? with
  | none => rfl
  | some p => exact bidI_set_other p.bids 0 hne
theorem fold_bids (D : List XLot) {nm : ByteArray} (i : Nat) : nm ∉ D.map (·.name) → ∀ t : SWorld, bidsOf (D.foldl sellX t).players nm i = bidsOf t.players nm i := by
  induction D with
  | nil => intro _ t; rfl
  | cons l r ih =>
    intro h t
    simp only [List.map_cons, List.mem_cons, not_or] at h
    rw [List.foldl_cons, ih h.2]
    exact sell_bids t (lotOf l) h.1 i
theorem sell_len (t : SWorld) (l : SLot) : (sellS t l).players.length = t.players.length := by simp [sellS]
theorem fold_len (D : List XLot) : ∀ t : SWorld, (D.foldl sellX t).players.length = t.players.length ∧ (D.foldl sellX t).now = t.now ∧ (D.foldl sellX t).lots = t.lots := by
  induction D with
  | nil => intro t; exact ⟨rfl, rfl, rfl⟩
  | cons l r ih =>
    intro t
    rw [List.foldl_cons]
    obtain ⟨h1, h2, h3⟩ := ih (sellX t l)
    exact ⟨h1.trans (sell_len t (lotOf l)), h2, h3⟩

/-- What a sale leaves of a player. -/
def soldX (l : XLot) (i : Nat) (p : SPlayer) : SPlayer :=
  { p with money := if (i : Int) = (saleOf l).who then p.money - (saleOf l).price else p.money, news := p.news ++ [newsB l.name (saleOf l).who (saleOf l).price i], bids := setB p.bids l.name 0 }
theorem sell_eq {t : SWorld} {l : XLot} (hb : ∀ i, bidsOf t.players l.name i = l.bid i) (h0 : ∀ i, 0 ≤ l.bid i) (h4 : t.players.length ≤ 4) :
    sellX t l = { t with players := t.players.mapIdx (soldX l) } ∧ ((saleOf l).who = -1 ∧ (saleOf l).price = 0 ∨ ∃ j, j < t.players.length ∧ (saleOf l).who = j ∧ l.least ≤ (saleOf l).price ∧ (saleOf l).price ≤ l.bid j) := by
  have hf : bidsOf t.players (lotOf l).name = l.bid := funext hb
  have hz : ∀ k, t.players.length ≤ k → k < 4 → l.bid k = 0 := by
    intro k h1 _
    rw [← hb k]
    unfold bidsOf
    rw [List.getElem?_eq_none h1]
  have hw : winI l.bid l.least 4 = winI l.bid l.least t.players.length := by
    unfold winI
    rw [highTo_more h4 hz]
  have hp : paysI l.bid l.least 4 = paysI l.bid l.least t.players.length := by
    unfold paysI
    rw [hw, highTo_more h4 hz]
  obtain ⟨c1, _, c3, c4⟩ := close_high (bid := l.bid) (least := l.least) h0 4
  have w1 : (saleOf l).who = winI l.bid l.least t.players.length := c1.trans hw
  constructor
  · unfold sellX sellS
    rw [hf]
    show ({ t with players := t.players.mapIdx (soldP (lotOf l) (winI l.bid l.least t.players.length) (paysI l.bid l.least t.players.length)) } : SWorld) = _
    have e : soldP (lotOf l) (winI l.bid l.least t.players.length) (paysI l.bid l.least t.players.length) = soldX l := by
      funext i p
      unfold soldP soldX
      rw [w1]
      by_cases h : 0 ≤ winI l.bid l.least t.players.length
      · have : (saleOf l).price = paysI l.bid l.least t.players.length := (c3 (by rw [hw]; exact h)).trans hp
        rw [this]
        rfl
      · have h1 : ¬ (i : Int) = winI l.bid l.least t.players.length := by omega
        rw [if_neg h1, if_neg h1]
        unfold newsB
        rw [if_neg h1, if_neg h1, if_pos (by omega), if_pos (by omega)]
        rfl
    rw [e]
  · rcases winI_form l.bid l.least t.players.length with h | ⟨j, hj, h, _, _⟩
    · exact .inl ⟨w1.trans h, c4 (by rw [hw, h]; omega)⟩
    · refine .inr ⟨j, hj, w1.trans h, ?_⟩
      have hpr : (saleOf l).price = paysI l.bid l.least t.players.length := (c3 (by rw [hw, h]; omega)).trans hp
      rw [hpr]
      exact pays_le h

/-! In memory. -/
theorem TurnX.far {w w1 w2 : World} {X X1 : XW} {F : List Nat} (h : TurnX w X w1 X1) (K : Kept F w1 w2) (hF : ∀ r ∈ F, r ∉ X1.foot ∧ w.heap.size ≤ r) : TurnX w X w2 X1 := by
  refine ⟨h.rep.same (fun r hr => K.block r (h.rep.lt r hr) (fun hm => (hF r hm).1 hr)), ⟨K.os.trans h.kept.os, K.tape.trans h.kept.tape, K.output.trans h.kept.output, Nat.le_trans h.kept.size K.size, fun k hk hn => ?_⟩, h.ext, h.b, fun i q hq => ?_⟩
  · rw [K.block k (Nat.lt_of_lt_of_le hk h.kept.size) (fun hm => by have := (hF k hm).2; omega), h.kept.block k hk hn]
  · obtain ⟨q', a1, a2, a3⟩ := h.rows i q hq
    refine ⟨q', a1, a2, fun g hg => ?_⟩
    obtain ⟨r1, r2, r3⟩ := a3 g hg
    refine ⟨fun j x hj => ?_, r2, r3⟩
    rw [World.cell?_of_block (w := w1) (a := ⟨g, j, none⟩) (K.block g (Nat.lt_of_lt_of_le r2 h.kept.size) (fun hm => by have := (hF g hm).2; omega))]
    exact r1 j x hj
def clsR (X : XW) (g : Nat) : Nat → Role := fun r => if r = g then .cls else X.R r
/-- A sale more. -/
theorem TurnX.addSale {w0 w w6 : World} {X0 X : XW} (T : TurnX w0 X0 w X) (s : XSale) {o : Obj} {gr cap : Nat} (hg2 : (w.alloc o).drew.grownBy w6 (some gr))
    (ho : w6.ownsRow 0 137 3 (.slice (some ⟨gr, 0, none⟩) (X.sales.length + 1) cap) (X.sales.length + 1) (X.sales.flatMap xsaleCells ++ xsaleCells s)) (hat : X.vCl.ownBlock = some gr ∨ gr = w.heap.size + 1) :
    TurnX w0 X0 (w6.setCell ⟨X.b, 8, none⟩ (.slice (some ⟨gr, 0, none⟩) (X.sales.length + 1) cap)) (X.withL X.vOp X.opens (.slice (some ⟨gr, 0, none⟩) (X.sales.length + 1) cap) (X.sales ++ [s]) (clsR X gr)) := by
  have R := T.rep.roles
  have lt := T.rep.lt
  have hcl : gr ∈ blk X.vCl ∨ gr = w.heap.size + 1 := hat.imp (fun h => by simp [blk, h]) id
  have ngr : ∀ r ∈ X.foot, r ∉ blk X.vCl → r ≠ gr := by
    rintro r hr hn rfl
    rcases hcl with h | h
    · exact hn h
    · have := lt r hr; omega
  have nb : X.b ≠ gr := ngr _ xfoot_b (fun hm => by have := R.lot.2 _ hm; rw [R.b] at this; cases this)
  have nop : ∀ r ∈ blk X.vOp, r ≠ gr ∧ r ≠ X.b ∧ r ∈ X.foot := by
    intro r hr
    have hf : r ∈ X.foot := by simp [XW.foot, hr]
    have h1 := R.lot.1 r hr
    refine ⟨ngr r hf (fun hm => by have := R.lot.2 _ hm; rw [h1] at this; cases this), ?_, hf⟩
    rintro rfl
    rw [R.b] at h1
    cases h1
  have old : ∀ r, r < w.heap.size → r ≠ gr → w6.heap[r]? = w.heap[r]? := by
    intro r hr hn
    have h1 : r < (w.alloc o).drew.heap.size := by show r < (w.alloc o).heap.size; simp; omega
    rw [hg2.block r h1 (fun e => hn (Option.some.inj e))]
    exact Below.heap_alloc w o r hr
  have ht : (w6.setCell ⟨X.b, 8, none⟩ (.slice (some ⟨gr, 0, none⟩) (X.sales.length + 1) cap)).heap[X.b]? = some (.cells (X.withL X.vOp X.opens (.slice (some ⟨gr, 0, none⟩) (X.sales.length + 1) cap) (X.sales ++ [s]) (clsR X gr)).cells 84 (0, 0)) := by
    rw [cells_set (show w6.heap[X.b]? = some (.cells X.cells 84 (0, 0)) by rw [old _ (lt _ xfoot_b) nb]; exact T.rep.top)]
    rfl
  have hrep := T.rep.withL (v := X.vOp) (l := X.opens) (v' := .slice (some ⟨gr, 0, none⟩) (X.sales.length + 1) cap) (l' := X.sales ++ [s]) (R' := clsR X gr)
    (w' := w6.setCell ⟨X.b, 8, none⟩ (.slice (some ⟨gr, 0, none⟩) (X.sales.length + 1) cap))
    (fun r hr hb _ hc => by rw [setCell_far _ _ _ _ r hb, old r (lt r hr) (ngr r hr hc)]) ht
    ⟨own_same T.rep.lot.1 (fun r hr => by obtain ⟨h1, h2, h3⟩ := nop r hr; rw [setCell_far _ _ _ _ r h2, old r (lt r h3) h1]), by
      have e1 : (X.sales ++ [s]).length = X.sales.length + 1 := by simp
      have e2 : (X.sales ++ [s]).flatMap xsaleCells = X.sales.flatMap xsaleCells ++ xsaleCells s := by simp
      rw [e1, e2]
      refine own_same ho (fun r hr => setCell_far _ _ _ _ r ?_)
      have : r = gr := by simpa [blk_slice] using hr
      rw [this]
      exact Ne.symm nb⟩
    (fun r hr _ hc => by unfold clsR; rw [if_neg (ngr r hr hc)])
    ⟨fun r hr => by unfold clsR; rw [if_neg (nop r hr).1]; exact R.lot.1 r hr, fun r hr => by
      have : r = gr := by simpa [blk_slice] using hr
      unfold clsR
      rw [if_pos this]⟩
  refine T.withL hrep ⟨hg2.os, hg2.tape, hg2.output, ?_, fun k hk hn => ?_⟩ (fun r hr => .inl (nop r hr).2.2) (fun r hr => ?_)
  · have := hg2.size
    have h2 : (w.alloc o).drew.heap.size = w.heap.size + 1 := by show (w.alloc o).heap.size = _; simp
    show w.heap.size ≤ (w6.setCell _ _).heap.size
    rw [World.setCell]
    simp only [Array.size_modify]
    omega
  · have h1 : k ≠ X.b := fun e => hn (by rw [e]; exact xfoot_b)
    have h2 : k ≠ gr := by
      rintro rfl
      rcases hcl with h | h
      · exact hn (by simp [XW.foot, h])
      · omega
    rw [setCell_far _ _ _ _ k h1, old k hk h2]
  · have : r = gr := by simpa [blk_slice] using hr
    rw [this]
    rcases hcl with h | h
    · exact .inl (by simp [XW.foot, h])
    · exact .inr (by omega)
end Go.Proofs.YtlafddeoheambaaGreatDoor

/-
  A lot's sale in the program's world, in words; what closeLots holds from round to round.
-/
namespace Go.Proofs.YtlafddeoheambaaGreatDoor
open Go.RowKit

theorem ghost_pos (X : XW) (ls : List SLot) (f : Nat → SPlayer → List SBid × List ByteArray) : posL ((X.ghost ls f).pls.map (·.1)) = posL (X.pls.map (·.1)) := by
  unfold posL
  rw [List.map_map, List.map_map]
  apply List.ext_getElem?
  intro i
  simp only [XW.ghost, List.getElem?_map, List.getElem?_mapIdx]
  cases X.pls[i]? <;> rfl
def saleG (X : XW) (l : XLot) : XW := X.ghost X.lots (fun i p => (setB p.bids l.name 0, p.news ++ [newsB l.name (saleOf l).who (saleOf l).price i]))
theorem saleG_at (X : XW) (l : XLot) (i : Nat) : (saleG X l).pls[i]? = (X.pls[i]?).map (fun q => ({ q.1 with bids := setB q.1.bids l.name 0, news := q.1.news ++ [newsB l.name (saleOf l).who (saleOf l).price i] }, q.2)) := by
  simp only [saleG, XW.ghost, List.getElem?_mapIdx]
theorem S_players {X : XW} {ps : List SPlayer} (h : ∀ i : Nat, (X.pls[i]?).map (fun q => q.1) = ps[i]?) : X.S.players = ps := by
  apply List.ext_getElem?
  intro i
  simp only [XW.S, List.getElem?_map]
  exact h i
theorem saleG_none {X : XW} {l : XLot} (h : (saleOf l).who = -1) : (saleG X l).S = { X.S with players := X.S.players.mapIdx (soldX l) } := by
  have e : (saleG X l).S.players = X.S.players.mapIdx (soldX l) := S_players (fun i => by
    rw [saleG_at]
    simp only [XW.S, List.getElem?_mapIdx, List.getElem?_map]
    cases X.pls[i]? with
    | none => rfl
    | some q =>
      have : ¬ (i : Int) = (saleOf l).who := by rw [h]; omega
      simp only [Option.map_some, soldX, if_neg this])
  have e2 : (saleG X l).S = { X.S with players := (saleG X l).S.players } := rfl
  rw [e2, e]
theorem saleG_some {X : XW} {l : XLot} {j : Nat} {p : SPlayer} {v : XV} (hq : X.pls[j]? = some (p, v)) (h : (saleOf l).who = j) : (saleG (X.setQ j ({ p with money := p.money - (saleOf l).price }, v)) l).S = { X.S with players := X.S.players.mapIdx (soldX l) } := by
  obtain ⟨hj, _⟩ := at_some hq
  have e : (saleG (X.setQ j ({ p with money := p.money - (saleOf l).price }, v)) l).S.players = X.S.players.mapIdx (soldX l) := S_players (fun i => by
    rw [saleG_at]
    simp only [XW.S, XW.setQ, List.getElem?_mapIdx, List.getElem?_map]
    by_cases hi : i = j
    · subst hi
      rw [List.getElem?_set_self hj, hq]
      simp only [Option.map_some, soldX, h, if_true]
    · rw [List.getElem?_set_ne (Ne.symm hi)]
      cases X.pls[i]? with
      | none => rfl
      | some q =>
        have : ¬ (i : Int) = (saleOf l).who := by rw [h]; omega
        simp only [Option.map_some, soldX, if_neg this])
  have e2 : (saleG (X.setQ j ({ p with money := p.money - (saleOf l).price }, v)) l).S = { X.S with players := (saleG (X.setQ j ({ p with money := p.money - (saleOf l).price }, v)) l).S.players } := rfl
  rw [e2, e]

/-- What closeLots holds behind k lots. -/
structure ClK (w : World) (X : XW) (w' : World) (k : Nat) (Xk : XW) (v : Value) : Prop where
  t : TurnX w X w' Xk
  s : Xk.S = soldTo X.S X.opens k
  op : Xk.opens = X.opens
  vo : Xk.vOp = X.vOp
  sl : Xk.sales = (dueTo X.opens X.S.now k).map saleOf
  n : NewsOK Xk
  st : StOK (posL (Xk.pls.map (·.1))) Xk.ls
  ore : OreOK Xk.ore Xk.lo
  di : oreD Xk.ore
  row : w'.ownsRow w.heap.size 108 7 v (keepTo X.opens X.S.now k).length ((keepTo X.opens X.S.now k).flatMap xlotCells)
  ap : ∀ r ∈ blk v, r ∉ Xk.foot
theorem own_same2 {w w' : World} {base : Nat} {e : TypeId} {size : Nat} {v : Value} {n : Nat} {xs : List Value} (h : w.ownsRow base e size v n xs) (hs : ∀ r ∈ blk v, w'.heap[r]? = w.heap[r]?) : w'.ownsRow base e size v n xs := by
  obtain ⟨h1, h2⟩ := h
  refine ⟨h1, ?_⟩
  rcases h2 with h2 | ⟨g, cap, cur, hv, hb, hg, r⟩
  · exact .inl h2
  · exact .inr ⟨g, cap, cur, hv, hb, by rw [hs g (by rw [hv]; simp [blk_slice])]; exact hg, r⟩
theorem ClK.below {w : World} {X : XW} {w1 w2 : World} {k : Nat} {Xk : XW} {v : Value} (h : ClK w X w1 k Xk v) (hb : Below w1.heap.size w1 w2) : ClK w X w2 k Xk v :=
  ⟨h.t.below hb, h.s, h.op, h.vo, h.sl, h.n, h.st, h.ore, h.di, own_same2 h.row (fun r hr => hb.block r (own_lt (own_any h.row) r hr)), h.ap⟩
/-- A lot that stays open. -/
theorem ClK.keep {w : World} {X : XW} {w1 w2 : World} {k : Nat} {Xk : XW} {v : Value} {l : XLot} {o : Obj} {g' cap' : Nat} (h : ClK w X w1 k Xk v) (hl : X.opens[k]? = some l) (ho : openX X.S.now l = true)
    (hg : (w1.alloc o).grownBy w2 v.ownBlock) (hat : v.ownBlock = some g' ∨ (w1.alloc o).heap.size ≤ g')
    (hown : w2.ownsRow w.heap.size 108 7 (.slice (some ⟨g', 0, none⟩) ((keepTo X.opens X.S.now k).length + 1) cap') ((keepTo X.opens X.S.now k).length + 1) ((keepTo X.opens X.S.now k).flatMap xlotCells ++ xlotCells l)) :
    ClK w X w2 (k + 1) Xk (.slice (some ⟨g', 0, none⟩) (keepTo X.opens X.S.now (k + 1)).length cap') := by
  have hsz : (w1.alloc o).heap.size = w1.heap.size + 1 := by simp
  have hv : ∀ r, v.ownBlock = some r → r ∉ Xk.foot ∧ w.heap.size ≤ r := fun r hr => ⟨h.ap r (by simp [blk, hr]), (h.row.lt r hr).1⟩
  have hfar : TurnX w X w2 Xk := by
    cases hvb : v.ownBlock with
    | none =>
      rw [hvb] at hg
      refine h.t.far (F := []) ⟨hg.os, hg.tape, hg.output, by have := hg.size; omega, fun r hr _ => ?_⟩ (fun r hr => by cases hr)
      rw [hg.block r (by omega) (by simp)]
      exact Below.heap_alloc w1 o r hr
    | some r0 =>
      rw [hvb] at hg
      refine h.t.far (F := [r0]) ⟨hg.os, hg.tape, hg.output, by have := hg.size; omega, fun r hr hn => ?_⟩ (fun r hr => by obtain rfl := List.mem_singleton.1 hr; exact hv r hvb)
      rw [hg.block r (by omega) (fun e => hn (by simp [Option.some.inj e]))]
      exact Below.heap_alloc w1 o r hr
  refine ⟨hfar, ?_, h.op, h.vo, ?_, h.n, h.st, h.ore, h.di, ?_, fun r hr => ?_⟩
  · rw [sold_no hl ho]
    exact h.s
  · rw [due_no hl ho]
    exact h.sl
  · rw [keep_yes hl ho]
    have e1 : (keepTo X.opens X.S.now k ++ [l]).length = (keepTo X.opens X.S.now k).length + 1 := by simp
    have e2 : (keepTo X.opens X.S.now k ++ [l]).flatMap xlotCells = (keepTo X.opens X.S.now k).flatMap xlotCells ++ xlotCells l := by simp
    rw [e1, e2]
    exact hown
  · have e : r = g' := by simpa [blk_slice] using hr
    rw [e]
    rcases hat with h' | h'
    · exact (hv g' h').1
    · intro hm
      have := h.t.rep.lt g' hm
      omega
/-- A lot that is sold: the sale is told already, the money paid; the list of sales isn't written yet. -/
structure ClM (w : World) (X : XW) (w' : World) (k : Nat) (Xk : XW) (v : Value) (l : XLot) : Prop where
  t : TurnX w X w' Xk
  s : Xk.S = soldTo X.S X.opens (k + 1)
  op : Xk.opens = X.opens
  vo : Xk.vOp = X.vOp
  sl : Xk.sales = (dueTo X.opens X.S.now k).map saleOf
  n : ∀ (i : Nat) q, Xk.pls[i]? = some q → q.1.news = Xk.sales.map (fun s => newsB s.name s.who s.price i) ++ [newsB l.name (saleOf l).who (saleOf l).price i]
  st : StOK (posL (Xk.pls.map (·.1))) Xk.ls
  ore : OreOK Xk.ore Xk.lo
  di : oreD Xk.ore
  row : w'.ownsRow w.heap.size 108 7 v (keepTo X.opens X.S.now k).length ((keepTo X.opens X.S.now k).flatMap xlotCells)
  ap : ∀ r ∈ blk v, r ∉ Xk.foot
theorem ClK.bid {w : World} {X : XW} {w1 : World} {k : Nat} {Xk : XW} {v : Value} (h : ClK w X w1 k Xk v) (hO : OkX X) (hA : Apart X.lots) {l : XLot} (hl : X.opens[k]? = some l) : ∀ i, bidsOf Xk.S.players l.name i = l.bid i := by
  intro i
  have hd := asc_names (hO.lot.asc hA)
  have hn : l.name ∉ (dueTo X.opens X.S.now k).map (·.name) := by
    intro hm
    obtain ⟨x, hx, e⟩ := List.mem_map.1 hm
    have hx2 : x ∈ X.opens.take k := (List.mem_filter.1 hx).1
    obtain ⟨j, hj⟩ := List.getElem?_of_mem hx2
    obtain ⟨hjl, _⟩ := at_some hj
    rw [List.getElem?_take] at hj
    split at hj
    · rename_i hjk
      obtain ⟨hjo, ej⟩ := at_some hj
      obtain ⟨hko, ek⟩ := at_some hl
      have hne : (X.opens.map (·.name))[j]'(by simpa using hjo) ≠ (X.opens.map (·.name))[k]'(by simpa using hko) := List.pairwise_iff_getElem.1 hd j k (by simpa using hjo) (by simpa using hko) hjk
      apply hne
      simp only [List.getElem_map, ej, ek]
      exact e
    · cases hj
  rw [h.s]
  unfold soldTo
  rw [fold_bids _ i hn, bidsOf_at]
  have := hO.lot.bid l (List.mem_of_getElem? hl) i
  rw [this]
  congr 1
  simp [XW.S, Function.comp_def]
theorem ClK.sell0 {w : World} {X : XW} {w1 : World} {k : Nat} {Xk : XW} {v : Value} (h : ClK w X w1 k Xk v) {l : XLot} (hl : X.opens[k]? = some l) (ho : openX X.S.now l = false) (hw : (saleOf l).who = -1) (hs : sellX Xk.S l = { Xk.S with players := Xk.S.players.mapIdx (soldX l) }) : ClM w X w1 k (saleG Xk l) v l := by
  refine ⟨h.t.ghost _ _, ?_, h.op, h.vo, h.sl, fun i q hq => ?_, by rw [show posL ((saleG Xk l).pls.map (·.1)) = _ from ghost_pos _ _ _]; exact h.st, h.ore, h.di, h.row, fun r hr => by rw [show (saleG Xk l).foot = Xk.foot from ghost_foot _ _ _]; exact h.ap r hr⟩
  · rw [saleG_none hw, ← hs, h.s, sold_yes hl ho]
  · rw [saleG_at, Option.map_eq_some_iff] at hq
    obtain ⟨q0, h1, rfl⟩ := hq
    show q0.1.news ++ _ = _
    rw [h.n i q0 h1]
    rfl
theorem ClK.sell1 {w : World} {X : XW} {w1 : World} {k : Nat} {Xk : XW} {v : Value} (h : ClK w X w1 k Xk v) {l : XLot} (hl : X.opens[k]? = some l) (ho : openX X.S.now l = false) {j : Nat} (hw : (saleOf l).who = j) (hs : sellX Xk.S l = { Xk.S with players := Xk.S.players.mapIdx (soldX l) })
    {p : SPlayer} {u : XV} (hq : Xk.pls[j]? = some (p, u)) {pb cap : Nat} (hv : Xk.vPl = .slice (some ⟨pb, 0, none⟩) Xk.pls.length cap) :
    ClM w X (w1.setCell ⟨pb, j * 2, none⟩ (.int .i64 (p.money - (saleOf l).price))) k (saleG (Xk.setQ j ({ p with money := p.money - (saleOf l).price }, u)) l) v l := by
  have hf := xfoot_setQ Xk j (p, u) ({ p with money := p.money - (saleOf l).price }, u) hq rfl
  have hpl : pb ∈ Xk.foot := xfoot_pl (by rw [hv]; simp [blk_slice])
  refine ⟨(h.t.money1 hq hv _).ghost _ _, ?_, h.op, h.vo, h.sl, fun i q hq' => ?_, ?_, h.ore, h.di, own_same2 h.row (fun r hr => setCell_far _ _ _ _ r (fun e => h.ap r hr (by rw [e]; exact hpl))), fun r hr hm => ?_⟩
  · rw [saleG_some hq hw, ← hs, h.s, sold_yes hl ho]
  · rw [saleG_at, Option.map_eq_some_iff] at hq'
    obtain ⟨q0, h1, rfl⟩ := hq'
    show q0.1.news ++ _ = _
    have e : q0.1.news = Xk.sales.map (fun s => newsB s.name s.who s.price i) := by
      rcases setQ_get hq q0 h1 with ⟨rfl, rfl⟩ | ⟨_, h2⟩
      · exact h.n i (p, u) hq
      · exact h.n i q0 h2
    rw [e]
    rfl
  · rw [show posL ((saleG (Xk.setQ j ({ p with money := p.money - (saleOf l).price }, u)) l).pls.map (·.1)) = _ from ghost_pos _ _ _]
    have e : (Xk.setQ j ({ p with money := p.money - (saleOf l).price }, u)).pls.map (·.1) = (Xk.pls.map (·.1)).set j { p with money := p.money - (saleOf l).price } := by simp [XW.setQ, List.map_set]
    rw [e, posL_money (ps := Xk.pls.map (·.1)) (n := j) (p := p) (by simp [hq]) { p with money := p.money - (saleOf l).price } rfl]
    exact h.st
  · have e : (saleG (Xk.setQ j ({ p with money := p.money - (saleOf l).price }, u)) l).foot = (Xk.setQ j ({ p with money := p.money - (saleOf l).price }, u)).foot := ghost_foot _ _ _
    rw [e, hf] at hm
    exact h.ap r hr hm
theorem ClM.below {w : World} {X : XW} {w1 w2 : World} {k : Nat} {Xk : XW} {v : Value} {l : XLot} (h : ClM w X w1 k Xk v l) (hb : Below w1.heap.size w1 w2) : ClM w X w2 k Xk v l :=
  ⟨h.t.below hb, h.s, h.op, h.vo, h.sl, h.n, h.st, h.ore, h.di, own_same2 h.row (fun r hr => hb.block r (own_lt (own_any h.row) r hr)), h.ap⟩
/-- .. and written. -/
theorem ClM.done {w : World} {X : XW} {w1 w6 : World} {k : Nat} {Xk : XW} {v : Value} {l : XLot} (h : ClM w X w1 k Xk v l) (hl : X.opens[k]? = some l) (ho : openX X.S.now l = false) {o : Obj} {gr cap : Nat} (hg2 : (w1.alloc o).drew.grownBy w6 (some gr))
    (hown : w6.ownsRow 0 137 3 (.slice (some ⟨gr, 0, none⟩) (Xk.sales.length + 1) cap) (Xk.sales.length + 1) (Xk.sales.flatMap xsaleCells ++ xsaleCells (saleOf l))) (hat : Xk.vCl.ownBlock = some gr ∨ gr = w1.heap.size + 1) :
    ClK w X (w6.setCell ⟨Xk.b, 8, none⟩ (.slice (some ⟨gr, 0, none⟩) (Xk.sales.length + 1) cap)) (k + 1) (Xk.withL Xk.vOp Xk.opens (.slice (some ⟨gr, 0, none⟩) (Xk.sales.length + 1) cap) (Xk.sales ++ [saleOf l]) (clsR Xk gr)) v := by
  have T := h.t.addSale (saleOf l) hg2 hown hat
  have hgr : ∀ r ∈ blk v, r ≠ gr ∧ r ≠ Xk.b := fun r hr => by
    have hn := h.ap r hr
    have hlt := own_lt (own_any h.row) r hr
    refine ⟨?_, fun e => hn (by rw [e]; exact xfoot_b)⟩
    rintro rfl
    rcases hat with h' | h'
    · exact hn (by simp [XW.foot, blk, h'])
    · omega
  refine ⟨T, ?_, h.op, h.vo, ?_, fun i q hq => ?_, h.st, h.ore, h.di, ?_, fun r hr hm => ?_⟩
  · exact h.s
  · show Xk.sales ++ [saleOf l] = _
    rw [due_yes hl ho, List.map_append, h.sl]
    rfl
  · show q.1.news = (Xk.sales ++ [saleOf l]).map _
    rw [h.n i q hq, List.map_append]
    rfl
  · rw [keep_no hl ho]
    refine own_same2 h.row (fun r hr => ?_)
    have hlt := own_lt (own_any h.row) r hr
    have h1 : r < (w1.alloc o).drew.heap.size := by show r < (w1.alloc o).heap.size; simp; omega
    rw [setCell_far _ _ _ _ r (hgr r hr).2, hg2.block r h1 (fun e => (hgr r hr).1 (Option.some.inj e))]
    exact Below.heap_alloc w1 o r hlt
  · rcases foot_withL hm with h' | h' | h'
    · exact h.ap r hr h'
    · exact h.ap r hr (by simp [XW.foot, h'])
    · have : r = gr := by simpa [blk_slice] using h'
      exact (hgr r hr).1 this
end Go.Proofs.YtlafddeoheambaaGreatDoor

/-
  What closeLots leaves of the program's world.
-/
namespace Go.Proofs.YtlafddeoheambaaGreatDoor
open Go.RowKit

def opnR (X : XW) (v : Value) : Nat → Role := fun r => if r ∈ blk v then .opn else X.R r
theorem ClK.out {w : World} {X : XW} {w1 : World} {k : Nat} {Xk : XW} {v : Value} (h : ClK w X w1 k Xk v) :
    TurnX w X (w1.setCell ⟨Xk.b, 7, none⟩ v) (Xk.withL v (keepTo X.opens X.S.now k) Xk.vCl Xk.sales (opnR Xk v)) := by
  have R := h.t.rep.roles
  have nb : ∀ r ∈ blk v, r ≠ Xk.b := fun r hr e => h.ap r hr (by rw [e]; exact xfoot_b)
  have ncl : ∀ r ∈ blk Xk.vCl, r ≠ Xk.b ∧ r ∉ blk v := fun r hr => by
    have hf : r ∈ Xk.foot := by simp [XW.foot, hr]
    refine ⟨fun e => ?_, fun hm => h.ap r hm hf⟩
    have h1 := R.lot.2 r hr
    rw [e, R.b] at h1
    cases h1
  have ht : (w1.setCell ⟨Xk.b, 7, none⟩ v).heap[Xk.b]? = some (.cells (Xk.withL v (keepTo X.opens X.S.now k) Xk.vCl Xk.sales (opnR Xk v)).cells 84 (0, 0)) := by
    rw [cells_set h.t.rep.top]
    rfl
  have hrep := h.t.rep.withL (v := v) (l := keepTo X.opens X.S.now k) (v' := Xk.vCl) (l' := Xk.sales) (R' := opnR Xk v) (w' := w1.setCell ⟨Xk.b, 7, none⟩ v)
    (fun r _ hb _ _ => setCell_far _ _ _ _ r hb) ht ⟨own_same (own_any h.row) (fun r hr => setCell_far _ _ _ _ r (nb r hr)), own_same h.t.rep.lot.2 (fun r hr => setCell_far _ _ _ _ r (ncl r hr).1)⟩
    (fun r hr _ _ => by unfold opnR; rw [if_neg (fun hm => h.ap r hm hr)])
    ⟨fun r hr => by unfold opnR; rw [if_pos hr], fun r hr => by unfold opnR; rw [if_neg (ncl r hr).2]; exact R.lot.2 r hr⟩
  have hx : ∀ r ∈ (Xk.withL v (keepTo X.opens X.S.now k) Xk.vCl Xk.sales (opnR Xk v)).foot, r ∈ Xk.foot ∨ w.heap.size ≤ r := by
    intro r hr
    rcases foot_withL hr with h' | h' | h'
    · exact .inl h'
    · refine .inr ?_
      have : v.ownBlock = some r := by
        unfold blk at h'
        cases hv : v.ownBlock with
        | none => rw [hv] at h'; simp at h'
        | some g => rw [hv] at h'; simp at h'; rw [h']
      exact (h.row.lt r this).1
    · exact .inl (by simp [XW.foot, h'])
  have hk : Kept Xk.foot w1 (w1.setCell ⟨Xk.b, 7, none⟩ v) := (Kept.refl _ _).setCell _ _ _ (.inl xfoot_b)
  refine ⟨hrep, h.t.kept.setCell _ _ _ (.inl (by rw [h.t.b]; exact xfoot_b)), fun r hr => ?_, h.t.b, h.t.rows.trans (RowsX.keep h.t.rep.rows_lt hrep (fun i q hq => ⟨q, hq, rfl, rfl⟩)) hk h.t.kept.size hx⟩
  rcases hx r hr with h' | h'
  · exact h.t.ext r h'
  · exact .inr h'
theorem opens_inj {X : XW} (hO : OkX X) (hA : Apart X.lots) {a b : XLot} (ha : a ∈ X.opens) (hb : b ∈ X.opens) (e : a.name = b.name) : a = b := by
  have hd := asc_names (hO.lot.asc hA)
  obtain ⟨i, hi⟩ := List.getElem?_of_mem ha
  obtain ⟨j, hj⟩ := List.getElem?_of_mem hb
  obtain ⟨hil, ei⟩ := at_some hi
  obtain ⟨hjl, ej⟩ := at_some hj
  have key : ∀ (x y : Nat) (hx : x < X.opens.length) (hy : y < X.opens.length), x < y → X.opens[x].name ≠ X.opens[y].name := fun x y hx hy hxy => by
    have := List.pairwise_iff_getElem.1 hd x y (by simpa using hx) (by simpa using hy) hxy
    simpa using this
  rcases Nat.lt_trichotomy i j with h | h | h
  · exact absurd (by rw [ei, ej]; exact e) (key i j hil hjl h)
  · subst h
    rw [← ei, ← ej]
  · exact absurd (by rw [ei, ej]; exact e.symm) (key j i hjl hil h)
theorem openX_ends {now : Int} {l : XLot} (h : now ≤ l.ends) : openX now l = !decide ((lotOf l).ends = now) := by
  unfold openX
  show decide (now < l.ends) = !decide (l.ends = now)
  rw [Bool.eq_iff_iff]
  simp only [decide_eq_true_eq, Bool.not_eq_true', decide_eq_false_iff_not]
  omega
theorem filter_lotOf (ls : List XLot) (p : SLot → Bool) : (ls.map lotOf).filter p = (ls.filter (fun l => p (lotOf l))).map lotOf := by
  induction ls with
  | nil => rfl
  | cons a r ih =>
    simp only [List.map_cons, List.filter_cons]
    split <;> simp [ih]
theorem filter_same {α : Type} {p q : α → Bool} {l : List α} (h : ∀ a ∈ l, p a = q a) : l.filter p = l.filter q := by
  induction l with
  | nil => rfl
  | cons a r ih =>
    simp only [List.filter_cons, h a (by simp), ih (fun b hb => h b (by simp [hb]))]
/-- The world behind closeLots. -/
def doneG (X : XW) (now : Int) : XW := X.ghost (X.lots.filter (fun l => !decide (l.ends = now))) (fun _ p => (p.bids, p.news))
theorem doneG_pls (X : XW) (now : Int) (i : Nat) : (doneG X now).pls[i]? = X.pls[i]? := by
  simp only [doneG, XW.ghost, List.getElem?_mapIdx]
  cases X.pls[i]? <;> rfl
theorem closed_all {w : World} {X : XW} {w1 : World} {Xk : XW} {v : Value} (h : ClK w X w1 X.opens.length Xk v) (hO : OkX X) (hA : Apart X.lots) (he : ∀ l ∈ X.lots, X.S.now ≤ l.ends) :
    ∃ X', TurnX w X (w1.setCell ⟨Xk.b, 7, none⟩ v) X' ∧ OkX X' ∧ X'.S = closeS X.S ∧ NewsOK X' ∧ X'.sales = (dueTo X.opens X.S.now X.opens.length).map saleOf := by
  have hT := h.out
  have hall : ∀ l ∈ X.opens, X.S.now ≤ l.ends := fun l hl => he (lotOf l) (hO.lot.mem hl)
  have hkeep : keepTo X.opens X.S.now X.opens.length = X.opens.filter (openX X.S.now) := by unfold keepTo; rw [List.take_of_length_le (Nat.le_refl _)]
  have hdue : dueTo X.opens X.S.now X.opens.length = X.opens.filter (fun l => !openX X.S.now l) := by unfold dueTo; rw [List.take_of_length_le (Nat.le_refl _)]
  have hlo : Xk.lots = X.lots := by
    have e : Xk.S.lots = (soldTo X.S X.opens X.opens.length).lots := by rw [h.s]
    exact e.trans (fold_len _ _).2.2
  obtain ⟨Y, hY⟩ : ∃ Y, Y = Xk.withL v (keepTo X.opens X.S.now X.opens.length) Xk.vCl Xk.sales (opnR Xk v) := ⟨_, rfl⟩
  rw [← hY] at hT
  have hpl : ∀ i, (doneG Y X.S.now).pls[i]? = Xk.pls[i]? := fun i => by rw [doneG_pls, hY]; rfl
  have hpls : (doneG Y X.S.now).pls = Xk.pls := List.ext_getElem? hpl
  have hS : (doneG Y X.S.now).S = closeS X.S := by
    have e1 : (doneG Y X.S.now).S = { Xk.S with lots := X.lots.filter (fun l => !decide (l.ends = X.S.now)) } := by
      have e2 : (doneG Y X.S.now).S.players = Xk.S.players := by
        show (doneG Y X.S.now).pls.map (·.1) = Xk.pls.map (·.1)
        rw [hpls]
      have e3 : (doneG Y X.S.now).S = { Xk.S with players := (doneG Y X.S.now).S.players, lots := Y.lots.filter (fun l => !decide (l.ends = X.S.now)) } := by rw [hY]; rfl
      rw [e3, e2, hY]
      show ({ Xk.S with players := Xk.S.players, lots := Xk.lots.filter _ } : SWorld) = _
      rw [hlo]
    rw [e1, h.s]
    unfold closeS soldTo
    have e4 : dueL X.S.lots X.S.now = (dueTo X.opens X.S.now X.opens.length).map lotOf := by
      unfold dueL
      show (sortL X.lots).filter _ = _
      rw [← hO.lot.eq, filter_lotOf, hdue]
      congr 1
      refine filter_same (fun a ha => ?_)
      rw [openX_ends (hall a ha)]
      simp
    rw [e4, List.foldl_map]
    rfl
  refine ⟨doneG Y X.S.now, hT.ghost _ _, ⟨?_, ?_, ?_, ?_⟩, hS, ?_, ?_⟩
  · rw [hpls, hY]
    exact h.st
  · rw [hY]
    exact h.ore
  · rw [hY]
    exact h.di
  · show LotRel Y.opens (Y.lots.filter (fun l => !decide (l.ends = X.S.now))) ((doneG Y X.S.now).pls.map (·.1.bids))
    have eo : Y.opens = X.opens.filter (openX X.S.now) := by rw [hY]; exact hkeep
    have el : Y.lots = X.lots := by rw [hY]; exact hlo
    rw [eo, el, hpls]
    constructor
    · rw [sortL_filter hA, ← hO.lot.eq, filter_lotOf]
      congr 1
      exact filter_same (fun a ha => openX_ends (hall a ha))
    · intro l hl i
      obtain ⟨h1, h2⟩ := List.mem_filter.1 hl
      rw [hO.lot.bid l h1 i]
      have hn : l.name ∉ (dueTo X.opens X.S.now X.opens.length).map (·.name) := by
        intro hm
        obtain ⟨x, hx, e⟩ := List.mem_map.1 hm
        rw [hdue] at hx
        obtain ⟨x1, x2⟩ := List.mem_filter.1 hx
        have := opens_inj hO hA x1 h1 e
        subst this
        rw [h2] at x2
        simp at x2
      have e1 := fold_bids (dueTo X.opens X.S.now X.opens.length) i hn X.S
      have e2 : (soldTo X.S X.opens X.opens.length).players = Xk.S.players := by rw [← h.s]
      unfold soldTo at e2
      rw [e2, bidsOf_at, bidsOf_at] at e1
      have e3 : Xk.S.players.map (·.bids) = Xk.pls.map (·.1.bids) := by simp [XW.S, Function.comp_def]
      have e4 : X.S.players.map (·.bids) = X.pls.map (·.1.bids) := by simp [XW.S, Function.comp_def]
      rw [e3, e4] at e1
      exact e1.symm
  · intro i q hq
    rw [hpl] at hq
    rw [h.n i q hq]
    show _ = Y.sales.map _
    rw [hY]
    rfl
  · show Y.sales = _
    rw [hY]
    exact h.sl
end Go.Proofs.YtlafddeoheambaaGreatDoor

/-
  What holds of a world with lots, and stays so: every player has as much as it bids; and what Offer comes to, said plainly.
-/
namespace Go.Proofs.YtlafddeoheambaaGreatDoor
open Go.RowKit

def CovP (p : SPlayer) : Prop := stakedI p.bids emptyB ≤ p.money
def Cov (s : SWorld) : Prop := ∀ p ∈ s.players, CovP p
theorem Cov.setPl {s : SWorld} (h : Cov s) (n : Nat) {p : SPlayer} (hp : CovP p) : Cov (s.setPl n p) := by
  intro q hq
  rcases List.mem_or_eq_of_mem_set hq with h' | rfl
  · exact h q h'
  · exact hp
theorem Cov.act {s : SWorld} (h : Cov s) (n k : Nat) {p : SPlayer} {u : SUnit} (hp : CovP p) (hu : 0 ≤ u.cargo) (what arg : ByteArray) : Cov (actS s n k p u what arg) := by
  unfold CovP at hp
  unfold actS
  simp only
  repeat' split
  all_goals first
    | exact h
    | exact h.setPl n (show stakedI p.bids emptyB ≤ p.money from hp)
    | exact h.setPl n (show stakedI p.bids emptyB ≤ p.money + 10 * u.cargo by omega)
    | (rename_i hc; exact h.setPl n (show stakedI p.bids emptyB ≤ p.money - 50 by omega))
theorem Cov.does {s : SWorld} {M : Int} (h : Cov s) (hw : WFS s M) (n k : Nat) : Cov (doesS s n k) := by
  unfold doesS
  split
  · exact h
  · rename_i p hp
    have hm := List.mem_of_getElem? hp
    split
    · exact h
    · rename_i u hu
      have uk := (hw.each p hm).each u (List.mem_of_getElem? hu)
      have hp0 : CovP { p with units := p.units.set k { u with what := emptyB, arg := emptyB } } := h p hm
      exact (h.setPl n hp0).act n k (u := { u with what := emptyB, arg := emptyB }) hp0 (show 0 ≤ u.cargo from uk.cargo.1) u.what u.arg
theorem Cov.unitsTo {s : SWorld} {M : Int} (h : Cov s) (hw : WFS s M) (n j : Nat) : Cov (unitsTo s n j) := by
  induction j with
  | zero => exact h
  | succ j ih => exact ih.does (hw.unitsTo n j) n j
theorem Cov.clearN {s : SWorld} (h : Cov s) (n : Nat) : Cov (clearN s n) := by
  unfold Proofs.YtlafddeoheambaaGreatDoor.clearN
  split
  · exact h
  · rename_i p hp
    exact h.setPl n (p := { p with news := [] }) (h p (List.mem_of_getElem? hp))
theorem Cov.tickTo {s : SWorld} {M : Int} (h : Cov s) (hw : WFS s M) (n : Nat) : Cov (tickTo s n) := by
  induction n with
  | zero => exact h
  | succ n ih => exact (ih.clearN n).unitsTo ((hw.tickTo n).clearN n) n _

theorem staked_drop {bs : List SBid} (h : ∀ b ∈ bs, b.lot ≠ emptyB) (lot : ByteArray) : stakedI (bs.filter (fun b => !eqS b.lot lot)) emptyB = stakedI bs lot := by
  induction bs with
  | nil => rfl
  | cons b r ih =>
    have ih := ih (fun x hx => h x (by simp [hx]))
    have e1 : eqS b.lot emptyB = false := by
      cases e2 : eqS b.lot emptyB
      · rfl
      · exact absurd (eqS_iff.1 e2) (h b (by simp))
    simp only [List.filter_cons, stakedI]
    cases e : eqS b.lot lot
    · simp only [Bool.not_false, if_true, stakedI, e1, Bool.false_eq_true, if_false, ih]
    · simp only [Bool.not_true, Bool.false_eq_true, if_false, if_true, ih]
      omega
theorem bids_ne {names : List ByteArray} (he : emptyB ∉ names) {bs : List SBid} (h : BidsOK names bs) : ∀ b ∈ bs, b.lot ≠ emptyB := fun b hb e => he (e ▸ h.mem b hb)
theorem staked_set {names : List ByteArray} (he : emptyB ∉ names) {bs : List SBid} (h : BidsOK names bs) {lot : ByteArray} (hl : lot ≠ emptyB) {n : Int} (hn : 0 ≤ n) : stakedI (setB bs lot n) emptyB = stakedI bs lot + n := by
  unfold setB
  have hd := staked_drop (bids_ne he h) lot
  split
  · rw [stakedI_snoc, hd]
    have e1 : eqS lot emptyB = false := by
      cases e2 : eqS lot emptyB
      · rfl
      · exact absurd (eqS_iff.1 e2) hl
    simp [e1]
  · rw [List.append_nil, hd]
    omega
theorem bidI_le {names : List ByteArray} {bs : List SBid} (h : BidsOK names bs) (lot : ByteArray) : 0 ≤ bidI bs lot ∧ bidI bs lot ≤ 100000 := by
  induction bs with
  | nil => simp [bidI]
  | cons b r ih =>
    have ih := ih ⟨fun x hx => h.mem x (by simp [hx]), (List.pairwise_cons.1 h.dist).2, fun x hx => h.pos x (by simp [hx])⟩
    have hp := h.pos b (by simp)
    simp only [bidI]
    split <;> omega
theorem nodup_len : ∀ (a b : List ByteArray), a.Nodup → (∀ x ∈ a, x ∈ b) → a.length ≤ b.length := by
  intro a
  induction a with
  | nil => intro b _ _; simp
  | cons x r ih =>
    intro b hd hs
    have hd' := List.nodup_cons.1 hd
    have h1 := ih (b.filter (fun y => !eqS y x)) hd'.2 (fun y hy => List.mem_filter.2 ⟨hs y (by simp [hy]), by
      cases e : eqS y x
      · rfl
      · exact absurd (eqS_iff.1 e ▸ hy) hd'.1⟩)
    have h2 : (b.filter (fun y => !eqS y x)).length < b.length := by
      rw [List.length_filter_lt_length_iff_exists]
      exact ⟨x, hs x (by simp), by simp [eqS]⟩
    simp only [List.length_cons]
    omega
theorem BidsOK.len {names : List ByteArray} {bs : List SBid} (h : BidsOK names bs) : bs.length ≤ names.length := by
  have := nodup_len (bs.map (·.lot)) names (List.pairwise_map.2 h.dist) (fun x hx => by
    obtain ⟨b, hb, rfl⟩ := List.mem_map.1 hx
    exact h.mem b hb)
  simpa using this

/-- What stays while lots are sold. -/
structure SellInv (t : SWorld) (M : Int) (names D : List ByteArray) : Prop where
  wf : WFS t M
  cov : Cov t
  bo : ∀ p ∈ t.players, BidsOK names p.bids
  out : ∀ p ∈ t.players, ∀ b ∈ p.bids, b.lot ∉ D
theorem sell_mem {t : SWorld} {l : SLot} {q : SPlayer} (h : q ∈ (sellS t l).players) : ∃ (i : Nat) (p : SPlayer), t.players[i]? = some p ∧ q = soldP l (winI (bidsOf t.players l.name) l.least t.players.length) (paysI (bidsOf t.players l.name) l.least t.players.length) i p := by
  obtain ⟨i, hi⟩ := List.getElem?_of_mem h
  unfold sellS at hi
  simp only [List.getElem?_mapIdx, Option.map_eq_some_iff] at hi
  obtain ⟨p, h1, h2⟩ := hi
  exact ⟨i, p, h1, h2.symm⟩
theorem SellInv.sell {t : SWorld} {M : Int} {names D : List ByteArray} (h : SellInv t M names D) (he : emptyB ∉ names) (l : SLot) (hl : 0 ≤ l.least) (hn : l.name ∈ names) : SellInv (sellS t l) M names (l.name :: D) := by
  have hne : l.name ≠ emptyB := fun e => he (e ▸ hn)
  have key : ∀ (i : Nat) (p : SPlayer), t.players[i]? = some p → CovP (soldP l (winI (bidsOf t.players l.name) l.least t.players.length) (paysI (bidsOf t.players l.name) l.least t.players.length) i p) ∧ (soldP l (winI (bidsOf t.players l.name) l.least t.players.length) (paysI (bidsOf t.players l.name) l.least t.players.length) i p).money ≤ p.money := by
    intro i p hp
    have hm := List.mem_of_getElem? hp
    have hb := h.bo p hm
    have hc := h.cov p hm
    unfold CovP at hc ⊢
    have e1 : stakedI (setB p.bids l.name 0) emptyB = stakedI p.bids emptyB - bidI p.bids l.name := by
      rw [staked_set he hb hne (Int.le_refl 0), staked_but he hb l.name]
      omega
    have e2 := bidI_le hb l.name
    unfold soldP
    show stakedI (setB p.bids l.name 0) emptyB ≤ (if (i : Int) = _ then p.money - _ else p.money) ∧ (if (i : Int) = _ then p.money - _ else p.money) ≤ p.money
    rw [e1]
    split
    · rename_i hw
      have := pays_le (bid := bidsOf t.players l.name) (least := l.least) (n := t.players.length) (k := i) hw.symm
      have e3 : bidsOf t.players l.name i = bidI p.bids l.name := by unfold bidsOf; rw [hp]
      omega
    · omega
  refine ⟨⟨?_, h.wf.wd, h.wf.ht, h.wf.orn, h.wf.ora, fun q hq => ?_⟩, fun q hq => ?_, fun q hq => ?_, fun q hq b hb => ?_⟩
  · have := h.wf.pl
    have e : (sellS t l).players.length = t.players.length := sell_len t l
    omega
  · obtain ⟨i, p, hp, rfl⟩ := sell_mem hq
    have hm := List.mem_of_getElem? hp
    have pk := h.wf.each p hm
    obtain ⟨k1, k2⟩ := key i p hp
    have hb2 : BidsOK names (setB p.bids l.name 0) := (h.bo p hm).set hn (by omega)
    refine ⟨pk.un, pk.each, ⟨?_, by have := pk.mo.2; omega⟩, ⟨fun b hb => ?_, ?_⟩⟩
    · have := staked_nonneg hb2 emptyB
      unfold CovP at k1
      exact Int.le_trans this k1
    · have := hb2.pos b hb
      omega
    · have h1 := hb2.len
      show (setB p.bids l.name 0).length ≤ 1000
      have h2 := pk.bi.2
      rw [setB_zero]
      exact Nat.le_trans (List.length_filter_le _ _) h2
  · obtain ⟨i, p, hp, rfl⟩ := sell_mem hq
    exact (key i p hp).1
  · obtain ⟨i, p, hp, rfl⟩ := sell_mem hq
    exact (h.bo p (List.mem_of_getElem? hp)).set hn (by omega)
  · obtain ⟨i, p, hp, rfl⟩ := sell_mem hq
    have hb' : b ∈ setB p.bids l.name 0 := hb
    rw [setB_zero, List.mem_filter] at hb'
    intro hm
    rcases List.mem_cons.1 hm with e | hm
    · have : eqS b.lot l.name = true := eqS_iff.2 e
      rw [this] at hb'
      simp at hb'
    · exact h.out p (List.mem_of_getElem? hp) b hb'.1 hm
theorem SellInv.fold {M : Int} {names : List ByteArray} (he : emptyB ∉ names) : ∀ (Q : List SLot) (D : List ByteArray) (t : SWorld), (∀ l ∈ Q, 0 ≤ l.least ∧ l.name ∈ names) → SellInv t M names D → SellInv (Q.foldl sellS t) M names ((Q.map (·.name)).reverse ++ D) := by
  intro Q
  induction Q with
  | nil => intro D t _ h; exact h
  | cons l r ih =>
    intro D t hq h
    rw [List.foldl_cons]
    have h1 := hq l (by simp)
    have := ih (l.name :: D) (sellS t l) (fun x hx => hq x (by simp [hx])) (h.sell he l h1.1 h1.2)
    simpa using this
theorem sell_nm {t : SWorld} (h : NmS t) (l : SLot) : NmS (sellS t l) := by
  refine ⟨fun q hq u hu => ?_, h.l⟩
  obtain ⟨i, p, hp, rfl⟩ := sell_mem hq
  exact h.u p (List.mem_of_getElem? hp) u hu
theorem fold_nm : ∀ (Q : List SLot) (t : SWorld), NmS t → NmS (Q.foldl sellS t) := by
  intro Q
  induction Q with
  | nil => intro t h; exact h
  | cons l r ih => intro t h; exact ih _ (sell_nm h l)
theorem fold_keep : ∀ (Q : List SLot) (t : SWorld), (Q.foldl sellS t).now = t.now ∧ (Q.foldl sellS t).lots = t.lots := by
  intro Q
  induction Q with
  | nil => intro t; exact ⟨rfl, rfl⟩
  | cons l r ih => intro t; exact ih (sellS t l)

/-- What holds of a world with lots. -/
structure GoodL (s : SWorld) : Prop where
  now : 0 ≤ s.now ∧ s.now ≤ 1000
  wf : WFS s (100 + 1800 * s.now)
  lw : LotWF s.lots (s.players.map (·.bids)) s.now
  nm : NmS s
  cov : Cov s
theorem lots_noempty {lots : List SLot} {bss : List (List SBid)} {now : Int} (h : LotWF lots bss now) : emptyB ∉ lots.map (·.name) := fun hm => by
  obtain ⟨l, hl, e⟩ := List.mem_map.1 hm
  exact h.nm l hl e
theorem GoodL.new {W H S : Int} {ore starts : List SSpot} (h : newB W H S ore starts = true) : GoodL (newS W H S ore starts) := by
  have g := GoodS.new h
  refine ⟨g.now, g.wf, g.lw, g.nm, fun p hp => ?_⟩
  simp only [newS, List.mem_map] at hp
  obtain ⟨s, _, rfl⟩ := hp
  show (0 : Int) ≤ 100
  omega
/-- The world between the units' doings and the lots' closing. -/
def midS (s : SWorld) : SWorld := { tickTo s s.players.length with now := s.now + 1 }
theorem GoodL.mid {s : SWorld} (h : GoodL s) : SellInv (midS s) (100 + 1800 * (s.now + 1)) (s.lots.map (·.name)) [] := by
  have hp := h.wf.pl
  have hw : WFS (tickTo s s.players.length) (100 + 1800 * (s.now + 1)) := (h.wf.tickTo s.players.length).mono (by omega)
  refine ⟨⟨hw.pl, hw.wd, hw.ht, hw.orn, hw.ora, hw.each⟩, h.cov.tickTo h.wf s.players.length, fun p hp' => ?_, fun _ _ _ _ => by simp⟩
  have hb := tickTo_bids s s.players.length
  have : p.bids ∈ (tickTo s s.players.length).players.map (·.bids) := List.mem_map_of_mem hp'
  rw [hb] at this
  exact h.lw.bids p.bids this
theorem GoodL.tick {s : SWorld} (h : GoodL s) (hn : s.now < 1000) : GoodL (tickS s) := by
  have hm := h.mid
  have hl := tickTo_len s s.players.length
  have hlots : (midS s).lots = s.lots := hl.2.2
  have he := lots_noempty h.lw
  have hdue : ∀ l ∈ dueL (midS s).lots (midS s).now, 0 ≤ l.least ∧ l.name ∈ s.lots.map (·.name) := by
    intro l hl'
    have h1 := (List.mem_filter.1 hl').1
    rw [sortL_mem, hlots] at h1
    exact ⟨(h.lw.lst l h1).1, List.mem_map_of_mem h1⟩
  have hf := SellInv.fold he (dueL (midS s).lots (midS s).now) [] (midS s) hdue hm
  have hk := fold_keep (dueL (midS s).lots (midS s).now) (midS s)
  have hnm : NmS (midS s) := ⟨(h.nm.tickTo s.players.length).u, by rw [hlots]; exact h.nm.l⟩
  have hfn := fold_nm (dueL (midS s).lots (midS s).now) (midS s) hnm
  have et : tickS s = { (dueL (midS s).lots (midS s).now).foldl sellS (midS s) with lots := (midS s).lots.filter (fun l => !decide (l.ends = (midS s).now)) } := rfl
  have hnow : (midS s).now = s.now + 1 := rfl
  rw [et]
  refine ⟨⟨?_, ?_⟩, ?_, ?_, ⟨hfn.u, fun l hl' => ?_⟩, hf.cov⟩
  · show 0 ≤ ((dueL (midS s).lots (midS s).now).foldl sellS (midS s)).now
    rw [hk.1, hnow]
    have := h.now.1
    omega
  · show ((dueL (midS s).lots (midS s).now).foldl sellS (midS s)).now ≤ 1000
    rw [hk.1, hnow]
    omega
  · show WFS _ (100 + 1800 * ((dueL (midS s).lots (midS s).now).foldl sellS (midS s)).now)
    rw [hk.1, hnow]
    exact ⟨hf.wf.pl, hf.wf.wd, hf.wf.ht, hf.wf.orn, hf.wf.ora, hf.wf.each⟩
  · show LotWF ((midS s).lots.filter (fun l => !decide (l.ends = (midS s).now))) (((dueL (midS s).lots (midS s).now).foldl sellS (midS s)).players.map (·.bids)) ((dueL (midS s).lots (midS s).now).foldl sellS (midS s)).now
    rw [hk.1, hlots]
    have sub : ∀ l ∈ s.lots.filter (fun l => !decide (l.ends = (midS s).now)), l ∈ s.lots ∧ l.ends ≠ s.now + 1 := fun l hl' => by
      obtain ⟨h1, h2⟩ := List.mem_filter.1 hl'
      refine ⟨h1, fun e => ?_⟩
      rw [hnow, e] at h2
      simp at h2
    refine ⟨h.lw.apart.filter _, fun l hl' => h.lw.nm l (sub l hl').1, fun l hl' => h.lw.lst l (sub l hl').1, fun l hl' => ?_, Nat.le_trans (List.length_filter_le _ _) h.lw.len, fun bs hbs => ?_⟩
    · have h1 := h.lw.ends l (sub l hl').1
      have h2 := (sub l hl').2
      rw [hnow]
      omega
    · rw [← hlots] at hbs
      obtain ⟨p, hp, rfl⟩ := List.mem_map.1 hbs
      have hb := hf.bo p hp
      have ho := hf.out p hp
      refine ⟨fun b hb' => ?_, hb.dist, hb.pos⟩
      obtain ⟨l, hl', e⟩ := List.mem_map.1 (hb.mem b hb')
      have hno := ho b hb'
      refine List.mem_map.2 ⟨l, List.mem_filter.2 ⟨hl', ?_⟩, e⟩
      cases hd : decide (l.ends = (midS s).now)
      · rfl
      · exfalso
        apply hno
        rw [List.append_nil, List.mem_reverse]
        refine List.mem_map.2 ⟨l, List.mem_filter.2 ⟨?_, hd⟩, e⟩
        rw [sortL_mem, hlots]
        exact hl'
  · have h1 := (List.mem_filter.1 hl').1
    rw [hlots] at h1
    exact h.nm.l l h1
theorem number_le (c : List UInt8) : numberI c ≤ 100000 := by
  unfold numberI
  repeat' split
  all_goals omega
theorem GoodL.order {s : SWorld} (h : GoodL s) (n : Int) (t : List UInt8) (ht : t.length ≤ 2000000) : GoodL (orderS s n t).2 := by
  have hnm := h.nm.order n t ht
  revert hnm
  have tell : ∀ (k : Nat) (p : SPlayer) a b c, s.players[k]? = some p → NmS (tellS s k p a b c).2 → GoodL (tellS s k p a b c).2 := by
    intro k p a b c hp hnm
    obtain ⟨h1, h2, h3⟩ := tell_bn s k p a b c hp
    refine ⟨by rw [h3]; exact h.now, by rw [h3]; exact h.wf.tell k p a b c hp, ?_, hnm, ?_⟩
    · rw [bn_bids h1, h2, h3]
      exact h.lw
    · unfold tellS
      repeat' split
      all_goals first
        | exact h.cov
        | exact h.cov.setPl k (show stakedI p.bids emptyB ≤ p.money from h.cov p (List.mem_of_getElem? hp))
  have bid : ∀ (k : Nat) (p : SPlayer) (nm : ByteArray) (x : Int), s.players[k]? = some p → 0 ≤ x → x ≤ 100000 → NmS (bidS s k p nm x).2 → GoodL (bidS s k p nm x).2 := by
    intro k p nm x hp hx0 hx1
    unfold bidS
    split
    · rename_i ho
      split
      · exact fun _ => h
      · rename_i hmon
        intro hnm
        have hmem := List.mem_of_getElem? hp
        have pk := h.wf.each p hmem
        have hnl : nm ∈ s.lots.map (·.name) := by
          unfold openB at ho
          rw [List.any_eq_true] at ho
          obtain ⟨l, hl, e⟩ := ho
          exact List.mem_map.2 ⟨l, hl, eqS_iff.1 e⟩
        have he := lots_noempty h.lw
        have hbo : BidsOK (s.lots.map (·.name)) p.bids := h.lw.bids p.bids (List.mem_map_of_mem hmem)
        have hb2 := hbo.set hnl hx1
        have hne : nm ≠ emptyB := fun e => he (e ▸ hnl)
        refine ⟨h.now, h.wf.setPl k ⟨pk.un, pk.each, pk.mo, ⟨fun b hb => ?_, ?_⟩⟩, ?_, hnm, h.cov.setPl k ?_⟩
        · have := hb2.pos b hb
          omega
        · have h1 := hb2.len
          have h2 := h.lw.len
          rw [List.length_map] at h1
          show (setB p.bids nm x).length ≤ 1000
          omega
        · have e : (s.setPl k { p with bids := setB p.bids nm x }).players.map (·.bids) = (s.players.map (·.bids)).set k (setB p.bids nm x) := by simp [SWorld.setPl, List.map_set]
          show LotWF s.lots ((s.setPl k { p with bids := setB p.bids nm x }).players.map (·.bids)) s.now
          rw [e]
          exact h.lw.setBid (by simp [hp]) hnl hx1
        · show stakedI (setB p.bids nm x) emptyB ≤ p.money
          rw [staked_set he hbo hne hx0]
          omega
    · exact fun _ => h
  unfold orderS
  split
  · split
    · exact fun _ => h
    · rename_i p hp
      unfold wordsS
      split
      · split
        · exact fun hnm => tell _ _ _ _ _ hp hnm
        · exact fun _ => h
      · rename_i a b c e
        split
        · rename_i hc
          simp only [Bool.and_eq_true, decide_eq_true_eq] at hc
          exact fun hnm => bid _ _ _ _ hp hc.2 (number_le c) hnm
        · split
          · exact fun hnm => tell _ _ _ _ _ hp hnm
          · exact fun _ => h
      · exact fun _ => h
  · exact fun _ => h
/-- What Offer answers, and the world behind it. -/
def offerS (s : SWorld) (nm : ByteArray) (least ticks : Int) : Int × SWorld :=
  if nameB nm.data.toList then (if openB s.lots nm then (4, s) else if inB least 0 100000 && inB ticks 1 1000 then (if 4 ≤ s.lots.length then (6, s) else (0, { s with lots := s.lots ++ [⟨nm, least, s.now + ticks⟩] })) else (1, s)) else (2, s)
theorem name_ne {nm : ByteArray} (h : nameB nm.data.toList = true) : nm ≠ emptyB := by
  rintro rfl
  exact absurd h (by decide)
theorem openB_no {ls : List SLot} {nm : ByteArray} (h : openB ls nm = false) : ∀ l ∈ ls, l.name ≠ nm := by
  intro l hl e
  unfold openB at h
  rw [List.any_eq_false] at h
  exact h l hl (eqS_iff.2 e)
theorem GoodL.offer {s : SWorld} (h : GoodL s) (nm : ByteArray) (least ticks : Int) (hs : nm.size ≤ 2000000) : GoodL (offerS s nm least ticks).2 := by
  unfold offerS
  split
  · rename_i hnm
    split
    · exact h
    · rename_i ho
      split
      · rename_i hb
        split
        · exact h
        · rename_i h4
          simp only [inB, Bool.and_eq_true, decide_eq_true_eq] at hb
          refine ⟨h.now, ⟨h.wf.pl, h.wf.wd, h.wf.ht, h.wf.orn, h.wf.ora, h.wf.each⟩, ?_, ⟨h.nm.u, fun l hl => ?_⟩, h.cov⟩
          · exact h.lw.offer (openB_no (by simpa using ho)) (name_ne hnm) ⟨hb.1.1, hb.1.2⟩ ⟨hb.2.1, hb.2.2⟩ (by omega)
          · rcases List.mem_append.1 hl with hl | hl
            · exact h.nm.l l hl
            · obtain rfl := List.mem_singleton.1 hl
              exact hs
      · exact h
  · exact h
end Go.Proofs.YtlafddeoheambaaGreatDoor
