/-
  The worlds of a script, in pairs (the program's, the document's), as they lie in memory.
-/
import Derived.Test.YtlafddeoheambaaGreatDoorT14
import Derived.Test.YtlafddeoheambaaGreatDoorT18
import Derived.Test.YtlafddeoheambaaGreatDoorT20
set_option linter.unusedVariables false
namespace Go.Proofs.YtlafddeoheambaaGreatDoor
open Go.RowKit

structure PRole where
  t : Nat
  i : Nat
abbrev PRole.top : PRole := ⟨0, 0⟩
abbrev PRole.row : PRole := ⟨1, 0⟩
abbrev PRole.x (i : Nat) : PRole := ⟨2, i⟩
abbrev PRole.y (i : Nat) : PRole := ⟨3, i⟩
structure LW where
  b : Nat
  v : Value
  ps : List (XW × YW)
  R : Nat → PRole
def pairCells (q : XW × YW) : List Value := [.pointer (some ⟨q.1.b, 0, none⟩), .pointer (some ⟨q.2.b, 0, none⟩)]
def LW.foot (L : LW) : List Nat := L.b :: (blk L.v ++ L.ps.flatMap (fun q => q.1.foot ++ q.2.foot))
structure LRep (w : World) (L : LW) : Prop where
  top : w.heap[L.b]? = some (.cells #[L.v] 53 (0, 0))
  row : w.ownsRow 0 119 2 L.v L.ps.length (L.ps.flatMap pairCells)
  x : ∀ (i : Nat) q, L.ps[i]? = some q → RepX w q.1
  y : ∀ (i : Nat) q, L.ps[i]? = some q → RepY w q.2
  rb : L.R L.b = .top
  rr : ∀ r ∈ blk L.v, L.R r = .row
  rx : ∀ (i : Nat) q, L.ps[i]? = some q → ∀ r ∈ q.1.foot, L.R r = .x i
  ry : ∀ (i : Nat) q, L.ps[i]? = some q → ∀ r ∈ q.2.foot, L.R r = .y i

theorem lfoot_b {L : LW} : L.b ∈ L.foot := by simp [LW.foot]
theorem lfoot_r {L : LW} {r : Nat} (h : r ∈ blk L.v) : r ∈ L.foot := by simp [LW.foot, h]
theorem lfoot_x {L : LW} {i : Nat} {q : XW × YW} (hq : L.ps[i]? = some q) {r : Nat} (h : r ∈ q.1.foot) : r ∈ L.foot := by
  have := List.mem_of_getElem? hq
  simp only [LW.foot, List.mem_cons, List.mem_append, List.mem_flatMap]
  exact .inr (.inr ⟨q, this, .inl h⟩)
theorem lfoot_y {L : LW} {i : Nat} {q : XW × YW} (hq : L.ps[i]? = some q) {r : Nat} (h : r ∈ q.2.foot) : r ∈ L.foot := by
  have := List.mem_of_getElem? hq
  simp only [LW.foot, List.mem_cons, List.mem_append, List.mem_flatMap]
  exact .inr (.inr ⟨q, this, .inr h⟩)
theorem lfoot_cases {L : LW} {r : Nat} (h : r ∈ L.foot) : r = L.b ∨ r ∈ blk L.v ∨ ∃ (i : Nat) (q : XW × YW), L.ps[i]? = some q ∧ (r ∈ q.1.foot ∨ r ∈ q.2.foot) := by
  simp only [LW.foot, List.mem_cons, List.mem_append, List.mem_flatMap] at h
  rcases h with h | h | ⟨q, hq, h⟩
  · exact .inl h
  · exact .inr (.inl h)
  · obtain ⟨i, hi⟩ := List.getElem?_of_mem hq
    exact .inr (.inr ⟨i, q, hi, h⟩)
theorem LRep.lt {w : World} {L : LW} (h : LRep w L) : ∀ r ∈ L.foot, r < w.heap.size := by
  intro r hr
  rcases lfoot_cases hr with rfl | hr | ⟨i, q, hq, hr | hr⟩
  · exact lt_of_some h.top
  · exact own_lt h.row r hr
  · exact (h.x i q hq).lt r hr
  · exact (h.y i q hq).lt r hr
theorem LRep.same {w w' : World} {L : LW} (h : LRep w L) (hs : ∀ r ∈ L.foot, w'.heap[r]? = w.heap[r]?) : LRep w' L :=
  ⟨by rw [hs _ lfoot_b]; exact h.top, own_same h.row (fun r hr => hs r (lfoot_r hr)), fun i q hq => (h.x i q hq).same (fun r hr => hs r (lfoot_x hq hr)), fun i q hq => (h.y i q hq).same (fun r hr => hs r (lfoot_y hq hr)), h.rb, h.rr, h.rx, h.ry⟩
theorem LRep.below {w w' : World} {L : LW} (h : LRep w L) (hb : Below w.heap.size w w') : LRep w' L := h.same (fun r hr => hb.block r (h.lt r hr))

structure LTurn (w : World) (L : LW) (w' : World) (L' : LW) : Prop where
  rep : LRep w' L'
  kept : Kept L.foot w w'
  ext : ∀ r ∈ L'.foot, r ∈ L.foot ∨ w.heap.size ≤ r
  b : L'.b = L.b
theorem LTurn.refl {w : World} {L : LW} (h : LRep w L) : LTurn w L w L := ⟨h, Kept.refl _ _, fun _ h => .inl h, rfl⟩
theorem LTurn.trans {w w1 w2 : World} {L L1 L2 : LW} (h : LTurn w L w1 L1) (h1 : LTurn w1 L1 w2 L2) : LTurn w L w2 L2 := by
  refine ⟨h1.rep, h.kept.trans h1.kept h.ext, fun r hr => ?_, h1.b.trans h.b⟩
  rcases h1.ext r hr with h' | h'
  · exact h.ext r h'
  · exact .inr (Nat.le_trans h.kept.size h')
theorem LTurn.below {w w1 w2 : World} {L L1 : LW} (h : LTurn w L w1 L1) (hb : Below w1.heap.size w1 w2) : LTurn w L w2 L1 :=
  h.trans ⟨h.rep.below hb, Kept.of_below hb, fun _ h => .inl h, rfl⟩

def newR (R : Nat → PRole) (H : Nat) (ρ : PRole) : Nat → PRole := fun r => if r < H then R r else ρ
def LW.setX (L : LW) (H i : Nat) (X' : XW) (Y : YW) : LW := { L with ps := L.ps.set i (X', Y), R := newR L.R H (.x i) }
def LW.setY (L : LW) (H i : Nat) (X : XW) (Y' : YW) : LW := { L with ps := L.ps.set i (X, Y'), R := newR L.R H (.y i) }

theorem pair_set (L : LW) (i : Nat) (q q' : XW × YW) (hq : L.ps[i]? = some q) (h : pairCells q' = pairCells q) : (L.ps.set i q').flatMap pairCells = L.ps.flatMap pairCells := by
  obtain ⟨hi, rfl⟩ := at_some hq
  rw [List.flatMap_def, List.flatMap_def, List.map_set, h]
  have : (L.ps.map pairCells).set i (pairCells L.ps[i]) = L.ps.map pairCells := set_id (by simp [hi])
  rw [this]

/-- The program's world of a pair turns. -/
theorem LRep.turnX {w w' : World} {L : LW} (h : LRep w L) {i : Nat} {X X' : XW} {Y : YW} (hq : L.ps[i]? = some (X, Y)) (T : TurnX w X w' X') : LTurn w L w' (L.setX w.heap.size i X' Y) := by
  have lt := h.lt
  have far : ∀ r ρ, r ∈ L.foot → L.R r = ρ → ρ ≠ .x i → w'.heap[r]? = w.heap[r]? := fun r ρ hr h1 h2 => T.kept.block r (lt r hr) (fun hm => h2 (by rw [← h1]; exact h.rx i _ hq r hm))
  have old : ∀ r, r < w.heap.size → (L.setX w.heap.size i X' Y).R r = L.R r := fun r hr => by simp [LW.setX, newR, hr]
  have e : (L.ps.set i (X', Y)).flatMap pairCells = L.ps.flatMap pairCells := pair_set L i (X, Y) (X', Y) hq (by simp [pairCells, T.b])
  refine ⟨⟨?_, ?_, ?_, ?_, ?_, ?_, ?_, ?_⟩, ?_, ?_, rfl⟩
  · show w'.heap[L.b]? = _
    rw [far _ _ lfoot_b h.rb (by simp)]
    exact h.top
  · show w'.ownsRow 0 _ 2 L.v (L.ps.set i (X', Y)).length ((L.ps.set i (X', Y)).flatMap pairCells)
    rw [List.length_set, e]
    exact own_same h.row (fun r hr => far r _ (lfoot_r hr) (h.rr r hr) (by simp))
  · intro j q hj
    rcases set_get hq hj with ⟨rfl, rfl⟩ | ⟨hne, hj'⟩
    · exact T.rep
    · exact (h.x j q hj').same (fun r hr => far r _ (lfoot_x hj' hr) (h.rx j q hj' r hr) (by simpa using hne))
  · intro j q hj
    rcases set_get hq hj with ⟨rfl, rfl⟩ | ⟨hne, hj'⟩
    · exact (h.y j _ hq).same (fun r hr => far r _ (lfoot_y hq hr) (h.ry j _ hq r hr) (by simp))
    · exact (h.y j q hj').same (fun r hr => far r _ (lfoot_y hj' hr) (h.ry j q hj' r hr) (by simp))
  · exact (old _ (lt _ lfoot_b)).trans h.rb
  · exact fun r hr => (old _ (lt _ (lfoot_r hr))).trans (h.rr r hr)
  · intro j q hj r hr
    rcases set_get hq hj with ⟨rfl, rfl⟩ | ⟨hne, hj'⟩
    · rcases T.ext r hr with h' | h'
      · exact (old _ (lt _ (lfoot_x hq h'))).trans (h.rx j _ hq r h')
      · show newR L.R w.heap.size (.x j) r = _
        simp [newR, Nat.not_lt.2 h']
    · exact (old _ (lt _ (lfoot_x hj' hr))).trans (h.rx j q hj' r hr)
  · intro j q hj r hr
    rcases set_get hq hj with ⟨rfl, rfl⟩ | ⟨hne, hj'⟩
    · exact (old _ (lt _ (lfoot_y hq hr))).trans (h.ry j _ hq r hr)
    · exact (old _ (lt _ (lfoot_y hj' hr))).trans (h.ry j q hj' r hr)
  · exact ⟨T.kept.os, T.kept.tape, T.kept.output, T.kept.size, fun k hk hn => T.kept.block k hk (fun hm => hn (lfoot_x hq hm))⟩
  · intro r hr
    rcases lfoot_cases hr with rfl | hr | ⟨j, q, hj, hr⟩
    · exact .inl lfoot_b
    · exact .inl (lfoot_r hr)
    · rcases set_get hq hj with ⟨rfl, rfl⟩ | ⟨hne, hj'⟩
      · rcases hr with hr | hr
        · rcases T.ext r hr with h' | h'
          · exact .inl (lfoot_x hq h')
          · exact .inr h'
        · exact .inl (lfoot_y hq hr)
      · rcases hr with hr | hr
        · exact .inl (lfoot_x hj' hr)
        · exact .inl (lfoot_y hj' hr)
/-- The document's world of a pair turns. -/
theorem LRep.turnY {w w' : World} {L : LW} (h : LRep w L) {i : Nat} {X : XW} {Y Y' : YW} (hq : L.ps[i]? = some (X, Y)) (T : Turn w Y w' Y') : LTurn w L w' (L.setY w.heap.size i X Y') := by
  have lt := h.lt
  have far : ∀ r ρ, r ∈ L.foot → L.R r = ρ → ρ ≠ .y i → w'.heap[r]? = w.heap[r]? := fun r ρ hr h1 h2 => T.kept.block r (lt r hr) (fun hm => h2 (by rw [← h1]; exact h.ry i _ hq r hm))
  have old : ∀ r, r < w.heap.size → (L.setY w.heap.size i X Y').R r = L.R r := fun r hr => by simp [LW.setY, newR, hr]
  have e : (L.ps.set i (X, Y')).flatMap pairCells = L.ps.flatMap pairCells := pair_set L i (X, Y) (X, Y') hq (by simp [pairCells, T.b])
  refine ⟨⟨?_, ?_, ?_, ?_, ?_, ?_, ?_, ?_⟩, ?_, ?_, rfl⟩
  · show w'.heap[L.b]? = _
    rw [far _ _ lfoot_b h.rb (by simp)]
    exact h.top
  · show w'.ownsRow 0 _ 2 L.v (L.ps.set i (X, Y')).length ((L.ps.set i (X, Y')).flatMap pairCells)
    rw [List.length_set, e]
    exact own_same h.row (fun r hr => far r _ (lfoot_r hr) (h.rr r hr) (by simp))
  · intro j q hj
    rcases set_get hq hj with ⟨rfl, rfl⟩ | ⟨hne, hj'⟩
    · exact (h.x j _ hq).same (fun r hr => far r _ (lfoot_x hq hr) (h.rx j _ hq r hr) (by simp))
    · exact (h.x j q hj').same (fun r hr => far r _ (lfoot_x hj' hr) (h.rx j q hj' r hr) (by simp))
  · intro j q hj
    rcases set_get hq hj with ⟨rfl, rfl⟩ | ⟨hne, hj'⟩
    · exact T.rep
    · exact (h.y j q hj').same (fun r hr => far r _ (lfoot_y hj' hr) (h.ry j q hj' r hr) (by simpa using hne))
  · exact (old _ (lt _ lfoot_b)).trans h.rb
  · exact fun r hr => (old _ (lt _ (lfoot_r hr))).trans (h.rr r hr)
  · intro j q hj r hr
    rcases set_get hq hj with ⟨rfl, rfl⟩ | ⟨hne, hj'⟩
    · exact (old _ (lt _ (lfoot_x hq hr))).trans (h.rx j _ hq r hr)
    · exact (old _ (lt _ (lfoot_x hj' hr))).trans (h.rx j q hj' r hr)
  · intro j q hj r hr
    rcases set_get hq hj with ⟨rfl, rfl⟩ | ⟨hne, hj'⟩
    · rcases T.ext r hr with h' | h'
      · exact (old _ (lt _ (lfoot_y hq h'))).trans (h.ry j _ hq r h')
      · show newR L.R w.heap.size (.y j) r = _
        simp [newR, Nat.not_lt.2 h']
    · exact (old _ (lt _ (lfoot_y hj' hr))).trans (h.ry j q hj' r hr)
  · exact ⟨T.kept.os, T.kept.tape, T.kept.output, T.kept.size, fun k hk hn => T.kept.block k hk (fun hm => hn (lfoot_y hq hm))⟩
  · intro r hr
    rcases lfoot_cases hr with rfl | hr | ⟨j, q, hj, hr⟩
    · exact .inl lfoot_b
    · exact .inl (lfoot_r hr)
    · rcases set_get hq hj with ⟨rfl, rfl⟩ | ⟨hne, hj'⟩
      · rcases hr with hr | hr
        · exact .inl (lfoot_x hq hr)
        · rcases T.ext r hr with h' | h'
          · exact .inl (lfoot_y hq h')
          · exact .inr h'
      · rcases hr with hr | hr
        · exact .inl (lfoot_x hj' hr)
        · exact .inl (lfoot_y hj' hr)

/-- What holds of a world at any time in a script without lots. -/
structure GoodS (s : SWorld) : Prop where
  now : 0 ≤ s.now ∧ s.now ≤ 1000
  wf : WFS s (100 + 1800 * s.now)
  lw : LotWF s.lots (s.players.map (·.bids)) s.now
  lo : s.lots = []
structure Sync (ps : List (XW × YW)) : Prop where
  s : ∀ q ∈ ps, q.1.S = q.2.S
  o : ∀ q ∈ ps, OkX q.1
  g : ∀ q ∈ ps, GoodS q.2.S
  n : ∀ q ∈ ps, NewsOK q.1
theorem lw_nil {bss : List (List SBid)} {now : Int} (h : LotWF [] bss now) (now' : Int) : LotWF [] bss now' := ⟨by simp [Apart], by simp, by simp, by simp, by simp, h.bids⟩
theorem GoodS.tick {s : SWorld} (h : GoodS s) (hn : s.now < 1000) : GoodS (tickS s) := by
  have hp := h.wf.pl
  have hw := h.wf.tickTo s.players.length
  have hl := tickTo_len s s.players.length
  rw [tickS_nil h.lo]
  refine ⟨⟨?_, ?_⟩, ?_, ?_, rfl⟩
  · show 0 ≤ s.now + 1
    have := h.now.1; omega
  · show s.now + 1 ≤ 1000
    omega
  · have : WFS (tickTo s s.players.length) (100 + 1800 * (s.now + 1)) := hw.mono (by omega)
    exact ⟨this.pl, this.wd, this.ht, this.orn, this.ora, this.each⟩
  · show LotWF [] ((tickTo s s.players.length).players.map (·.bids)) (s.now + 1)
    rw [tickTo_bids]
    have := h.lw
    rw [h.lo] at this
    exact lw_nil this _
theorem tell_bn (s : SWorld) (k : Nat) (p : SPlayer) (a b c : List UInt8) (hp : s.players[k]? = some p) : (tellS s k p a b c).2.players.map bnP = s.players.map bnP ∧ (tellS s k p a b c).2.lots = s.lots ∧ (tellS s k p a b c).2.now = s.now := by
  unfold tellS
  split
  · exact ⟨rfl, rfl, rfl⟩
  · split
    · exact ⟨rfl, rfl, rfl⟩
    · exact ⟨map_set_same bnP s.players k p _ hp rfl, rfl, rfl⟩
theorem WFS.tell {s : SWorld} {M : Int} (h : WFS s M) (k : Nat) (p : SPlayer) (a b c : List UInt8) (hp : s.players[k]? = some p) : WFS (tellS s k p a b c).2 M := by
  unfold tellS
  split
  · exact h
  · split
    · exact h
    · rename_i u hu
      have pk := h.each p (List.mem_of_getElem? hp)
      have hum := List.mem_of_getElem? hu
      have uk := pk.each u hum
      refine h.setPl k ⟨by simpa using pk.un, ?_, pk.mo, pk.bi⟩
      intro v hv
      rcases List.mem_or_eq_of_mem_set hv with hv | rfl
      · exact pk.each v hv
      · exact ⟨uk.x, uk.y, uk.head, uk.cargo⟩
theorem GoodS.order {s : SWorld} (h : GoodS s) (n : Int) (t : List UInt8) : GoodS (orderS s n t).2 := by
  have tell : ∀ (k : Nat) (p : SPlayer) a b c, s.players[k]? = some p → GoodS (tellS s k p a b c).2 := by
    intro k p a b c hp
    obtain ⟨h1, h2, h3⟩ := tell_bn s k p a b c hp
    refine ⟨by rw [h3]; exact h.now, by rw [h3]; exact h.wf.tell k p a b c hp, ?_, by rw [h2]; exact h.lo⟩
    rw [bn_bids h1, h2, h3]
    exact h.lw
  unfold orderS
  split
  · split
    · exact h
    · rename_i p hp
      unfold wordsS
      repeat' split
      all_goals first
        | exact h
        | exact tell _ _ _ _ _ hp
        | (rw [bidS_nil h.lo]; exact h)
  · exact h
/-- An order turns no news. -/
theorem order_news (s : SWorld) (n : Int) (t : List UInt8) : (orderS s n t).2.players.map (·.news) = s.players.map (·.news) := by
  unfold orderS
  split
  · split
    · rfl
    · rename_i p hp
      have bid : ∀ nm k, (bidS s n.toNat p nm k).2.players.map (·.news) = s.players.map (·.news) := by
        intro nm k
        unfold bidS
        repeat' split
        all_goals first
          | rfl
          | exact map_set_same (·.news) s.players _ p { p with bids := setB p.bids nm k } hp rfl
      unfold wordsS
      repeat' split
      all_goals first
        | rfl
        | exact bn_news (tell_bn _ _ _ _ _ _ hp).1
        | exact bid _ _
  · rfl
theorem NewsOK.of {X X' : XW} (h : NewsOK X) (hn : X'.S.players.map (·.news) = X.S.players.map (·.news)) (hs : X'.sales = X.sales) : NewsOK X' := by
  intro i q hq
  rw [hs]
  have e : (X'.S.players.map (·.news))[i]? = some q.1.news := by simp [XW.S, hq]
  rw [hn] at e
  simp only [XW.S, List.map_map, List.getElem?_map, Option.map_eq_some_iff] at e
  obtain ⟨q', hq', e'⟩ := e
  have := h i q' hq'
  simp only [Function.comp] at e'
  rw [← e', this]
end Go.Proofs.YtlafddeoheambaaGreatDoor

/-
  Both worlds of a pair turn alike.
-/
namespace Go.Proofs.YtlafddeoheambaaGreatDoor
open Go.RowKit

def tickC (s : SWorld) : Int := if s.now = 1000 then 6 else 0
def tickN (s : SWorld) : SWorld := if s.now = 1000 then s else tickS s
theorem GoodS.tickN {s : SWorld} (h : GoodS s) : GoodS (tickN s) := by
  unfold Proofs.YtlafddeoheambaaGreatDoor.tickN
  split
  · exact h
  · exact h.tick (by have := h.now.2; omega)
theorem GoodS.allX {X : XW} (h : GoodS X.S) (ho : OkX X) : AllX X (100 + 1800 * X.S.now) := ⟨h.wf, ho, by have := h.lw; simpa [XW.S, Function.comp_def] using this⟩
theorem xtick_c (w : World) (X : XW) (hr : RepX w X) (ho : OkX X) (hg : GoodS X.S) (hN : NewsOK X) :
    Calls Tryz.prog 11 #[.pointer (some ⟨X.b, 0, none⟩)] w fun e w' => e = .returned (.int .i64 (tickC X.S)) ∧ ∃ X', TurnX w X w' X' ∧ OkX X' ∧ X'.S = tickN X.S ∧ NewsOK X' := by
  unfold tickC tickN
  have hn := hg.now
  have e : X.S.now = X.now := rfl
  by_cases h : X.S.now = 1000
  · rw [if_pos h, if_pos h]
    refine (xtick_full w X hr h).mono ?_
    rintro e w' ⟨rfl, rfl⟩
    exact ⟨rfl, X, TurnX.refl hr, ho, rfl, hN⟩
  · rw [if_neg h, if_neg h]
    exact xtick_with w X _ hr (hg.allX ho) (by omega) (by omega) (closeDone_nil ((tickTo_len X.S _).2.2.trans hg.lo))
theorem rtick_c (w : World) (Y : YW) (hr : RepY w Y) (hg : GoodS Y.S) :
    Calls Tryz.prog 53 #[.pointer (some ⟨Y.b, 0, none⟩)] w fun e w' => e = .returned (.int .i64 (tickC Y.S)) ∧ ∃ Y', Turn w Y w' Y' ∧ Y'.S = tickN Y.S := by
  unfold tickC tickN
  have hn := hg.now
  have e : Y.S.now = Y.now := rfl
  by_cases h : Y.S.now = 1000
  · rw [if_pos h, if_pos h]
    refine (rtick_full w Y hr h).mono ?_
    rintro e w' ⟨rfl, rfl⟩
    exact ⟨rfl, Y, Turn.refl hr, rfl⟩
  · rw [if_neg h, if_neg h]
    exact rtick_any w Y _ hr hg.wf (by omega) hg.lo (by omega)
theorem xorder_c (w : World) (X : XW) (n : Int) (t : ByteArray) (hr : RepX w X) (ho : OkX X) (hg : GoodS X.S) (hN : NewsOK X) (hs : t.size ≤ 2000000) :
    Calls Tryz.prog 10 #[.pointer (some ⟨X.b, 0, none⟩), .int .i64 n, .string t] w fun e w' => e = .returned (.int .i64 (orderS X.S n t.data.toList).1) ∧ ∃ X', TurnX w X w' X' ∧ OkX X' ∧ X'.S = (orderS X.S n t.data.toList).2 ∧ NewsOK X' := by
  refine (xorder_any w X _ n t hr (hg.allX ho) (by have := hg.now.2; omega) hs).mono ?_
  rintro e w' ⟨rfl, X', T, O, S, L⟩
  exact ⟨rfl, X', T, O, S, hN.of (by rw [S]; exact order_news X.S n t.data.toList) L⟩
theorem rorder_c (w : World) (Y : YW) (n : Int) (t : ByteArray) (hr : RepY w Y) (hg : GoodS Y.S) (hs : t.size ≤ 2000000) :
    Calls Tryz.prog 52 #[.pointer (some ⟨Y.b, 0, none⟩), .int .i64 n, .string t] w fun e w' => e = .returned (.int .i64 (orderS Y.S n t.data.toList).1) ∧ ∃ Y', Turn w Y w' Y' ∧ Y'.S = (orderS Y.S n t.data.toList).2 :=
  rorder_any w Y _ n t hr hg.wf hg.lo hs

/-- One pair turns, both worlds alike. -/
theorem pairTurn {w w1 w2 : World} {L : LW} {i : Nat} {X X' : XW} {Y Y' : YW} (h : LRep w L) (hS : Sync L.ps) (hq : L.ps[i]? = some (X, Y)) (T : TurnX w X w1 X') (O : OkX X') (U : Turn w1 Y w2 Y') (hE : X'.S = Y'.S) (hG : GoodS Y'.S) (hN : NewsOK X') :
    ∃ L', LTurn w L w2 L' ∧ Sync L'.ps ∧ L'.ps.length = L.ps.length := by
  have t1 := h.turnX hq T
  have hi := (at_some hq).1
  have hq1 : (L.setX w.heap.size i X' Y).ps[i]? = some (X', Y) := by simp [LW.setX, hi]
  have t2 := t1.rep.turnY hq1 U
  refine ⟨_, t1.trans t2, ⟨?_, ?_, ?_, ?_⟩, by simp [LW.setY, LW.setX]⟩
  all_goals
    intro q hq'
    have hq2 : q ∈ L.ps ∨ q = (X', Y') := by
      simp only [LW.setY, LW.setX, List.set_set] at hq'
      exact List.mem_or_eq_of_mem_set hq'
    rcases hq2 with h' | rfl
  · exact hS.s q h'
  · exact hE
  · exact hS.o q h'
  · exact O
  · exact hS.g q h'
  · exact hG
  · exact hS.n q h'
  · exact hN
end Go.Proofs.YtlafddeoheambaaGreatDoor
