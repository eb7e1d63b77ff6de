/-
  How lots close in the program's world: plain words, and what becomes of it in memory.
-/
import Derived.Test.YtlafddeoheambaaDoorT16
import Derived.Deep.RegionHeld3
import Derived.BigQuiet
import Derived.Deep.AppendLies
set_option linter.unusedVariables false
namespace Go.Proofs.YtlafddeoheambaaDoor
open Go.RowKit

def saleOf (l : XLot) : XSale := ⟨l.name, (closeTo l.bid l.least 4).1, (closeTo l.bid l.least 4).2.1⟩
def openX (now : Int) (l : XLot) : Bool := decide (now < l.ends)
def keepTo (ls : List XLot) (now : Int) (k : Nat) : List XLot := (ls.take k).filter (openX now)
def dueTo (ls : List XLot) (now : Int) (k : Nat) : List XLot := (ls.take k).filter (fun l => !openX now l)
def sellX (t : SWorld) (l : XLot) : SWorld := sellS t (lotOf l)
def soldTo (s : SWorld) (ls : List XLot) (k : Nat) : SWorld := (dueTo ls s.now k).foldl sellX s
section
variable {ls : List XLot} {now : Int} {k : Nat} {l : XLot}
theorem keep_yes (h : ls[k]? = some l) (ho : openX now l = true) : keepTo ls now (k + 1) = keepTo ls now k ++ [l] := by
  obtain ⟨hk, rfl⟩ := at_some h
  unfold keepTo
  rw [List.take_succ_eq_append_getElem hk, List.filter_append]
  simp [ho]
theorem keep_no (h : ls[k]? = some l) (ho : openX now l = false) : keepTo ls now (k + 1) = keepTo ls now k := by
  obtain ⟨hk, rfl⟩ := at_some h
  unfold keepTo
  rw [List.take_succ_eq_append_getElem hk, List.filter_append]
  simp [ho]
theorem due_yes (h : ls[k]? = some l) (ho : openX now l = false) : dueTo ls now (k + 1) = dueTo ls now k ++ [l] := by
  obtain ⟨hk, rfl⟩ := at_some h
  unfold dueTo
  rw [List.take_succ_eq_append_getElem hk, List.filter_append]
  simp [ho]
theorem due_no (h : ls[k]? = some l) (ho : openX now l = true) : dueTo ls now (k + 1) = dueTo ls now k := by
  obtain ⟨hk, rfl⟩ := at_some h
  unfold dueTo
  rw [List.take_succ_eq_append_getElem hk, List.filter_append]
  simp [ho]
end
theorem sold_yes {s : SWorld} {ls : List XLot} {k : Nat} {l : XLot} (h : ls[k]? = some l) (ho : openX s.now l = false) : soldTo s ls (k + 1) = sellX (soldTo s ls k) l := by
  unfold soldTo
  rw [due_yes h ho, List.foldl_append]
  rfl
theorem sold_no {s : SWorld} {ls : List XLot} {k : Nat} {l : XLot} (h : ls[k]? = some l) (ho : openX s.now l = true) : soldTo s ls (k + 1) = soldTo s ls k := by
  unfold soldTo
  rw [due_no h ho]
theorem sell_bids (t : SWorld) (l : SLot) {nm : ByteArray} (hne : nm ≠ l.name) (i : Nat) : bidsOf (sellS t l).players nm i = bidsOf t.players nm i := by
  unfold bidsOf sellS
  simp only [List.getElem?_mapIdx]
  cases t.players[i]? with
  | none => rfl
  | some p => exact bidI_set_other p.bids 0 hne
theorem fold_bids (D : List XLot) {nm : ByteArray} (i : Nat) : nm ∉ D.map (·.name) → ∀ t : SWorld, bidsOf (D.foldl sellX t).players nm i = bidsOf t.players nm i := by
  induction D with
  | nil => intro _ t; rfl
  | cons l r ih =>
    intro h t
    simp only [List.map_cons, List.mem_cons, not_or] at h
    rw [List.foldl_cons, ih h.2]
    exact sell_bids t (lotOf l) h.1 i
theorem sell_len (t : SWorld) (l : SLot) : (sellS t l).players.length = t.players.length := by simp [sellS]
theorem fold_len (D : List XLot) : ∀ t : SWorld, (D.foldl sellX t).players.length = t.players.length ∧ (D.foldl sellX t).now = t.now ∧ (D.foldl sellX t).lots = t.lots := by
  induction D with
  | nil => intro t; exact ⟨rfl, rfl, rfl⟩
  | cons l r ih =>
    intro t
    rw [List.foldl_cons]
    obtain ⟨h1, h2, h3⟩ := ih (sellX t l)
    exact ⟨h1.trans (sell_len t (lotOf l)), h2, h3⟩

/-- What a sale leaves of a player. -/
def soldX (l : XLot) (i : Nat) (p : SPlayer) : SPlayer :=
  { p with money := if (i : Int) = (saleOf l).who then p.money - (saleOf l).price else p.money, news := p.news ++ [newsB l.name (saleOf l).who (saleOf l).price i], bids := setB p.bids l.name 0 }
theorem sell_eq {t : SWorld} {l : XLot} (hb : ∀ i, bidsOf t.players l.name i = l.bid i) (h0 : ∀ i, 0 ≤ l.bid i) (h4 : t.players.length ≤ 4) :
    sellX t l = { t with players := t.players.mapIdx (soldX l) } ∧ ((saleOf l).who = -1 ∧ (saleOf l).price = 0 ∨ ∃ j, j < t.players.length ∧ (saleOf l).who = j ∧ l.least ≤ (saleOf l).price ∧ (saleOf l).price ≤ l.bid j) := by
  have hf : bidsOf t.players (lotOf l).name = l.bid := funext hb
  have hz : ∀ k, t.players.length ≤ k → k < 4 → l.bid k = 0 := by
    intro k h1 _
    rw [← hb k]
    unfold bidsOf
    rw [List.getElem?_eq_none h1]
  have hw : winI l.bid l.least 4 = winI l.bid l.least t.players.length := by
    unfold winI
    rw [highTo_more h4 hz]
  have hp : paysI l.bid l.least 4 = paysI l.bid l.least t.players.length := by
    unfold paysI
    rw [hw, highTo_more h4 hz]
  obtain ⟨c1, _, c3, c4⟩ := close_high (bid := l.bid) (least := l.least) h0 4
  have w1 : (saleOf l).who = winI l.bid l.least t.players.length := c1.trans hw
  constructor
  · unfold sellX sellS
    rw [hf]
    show ({ t with players := t.players.mapIdx (soldP (lotOf l) (winI l.bid l.least t.players.length) (paysI l.bid l.least t.players.length)) } : SWorld) = _
    have e : soldP (lotOf l) (winI l.bid l.least t.players.length) (paysI l.bid l.least t.players.length) = soldX l := by
      funext i p
      unfold soldP soldX
      rw [w1]
      by_cases h : 0 ≤ winI l.bid l.least t.players.length
      · have : (saleOf l).price = paysI l.bid l.least t.players.length := (c3 (by rw [hw]; exact h)).trans hp
        rw [this]
        rfl
      · have h1 : ¬ (i : Int) = winI l.bid l.least t.players.length := by omega
        rw [if_neg h1, if_neg h1]
        unfold newsB
        rw [if_neg h1, if_neg h1, if_pos (by omega), if_pos (by omega)]
        rfl
    rw [e]
  · rcases winI_form l.bid l.least t.players.length with h | ⟨j, hj, h, _, _⟩
    · exact .inl ⟨w1.trans h, c4 (by rw [hw, h]; omega)⟩
    · refine .inr ⟨j, hj, w1.trans h, ?_⟩
      have hpr : (saleOf l).price = paysI l.bid l.least t.players.length := (c3 (by rw [hw, h]; omega)).trans hp
      rw [hpr]
      exact pays_le h

/-! In memory. -/
theorem TurnX.far {w w1 w2 : World} {X X1 : XW} {F : List Nat} (h : TurnX w X w1 X1) (K : Kept F w1 w2) (hF : ∀ r ∈ F, r ∉ X1.foot ∧ w.heap.size ≤ r) : TurnX w X w2 X1 := by
  refine ⟨h.rep.same (fun r hr => K.block r (h.rep.lt r hr) (fun hm => (hF r hm).1 hr)), ⟨K.os.trans h.kept.os, K.tape.trans h.kept.tape, K.output.trans h.kept.output, Nat.le_trans h.kept.size K.size, fun k hk hn => ?_⟩, h.ext, h.b, fun i q hq => ?_⟩
  · rw [K.block k (Nat.lt_of_lt_of_le hk h.kept.size) (fun hm => by have := (hF k hm).2; omega), h.kept.block k hk hn]
  · obtain ⟨q', a1, a2, a3⟩ := h.rows i q hq
    refine ⟨q', a1, a2, fun g hg => ?_⟩
    obtain ⟨r1, r2, r3⟩ := a3 g hg
    refine ⟨fun j x hj => ?_, r2, r3⟩
    rw [World.cell?_of_block (w := w1) (a := ⟨g, j, none⟩) (K.block g (Nat.lt_of_lt_of_le r2 h.kept.size) (fun hm => by have := (hF g hm).2; omega))]
    exact r1 j x hj
def clsR (X : XW) (g : Nat) : Nat → Role := fun r => if r = g then .cls else X.R r
/-- A sale more. -/
theorem TurnX.addSale {w0 w w6 : World} {X0 X : XW} (T : TurnX w0 X0 w X) (s : XSale) {o : Obj} {gr cap : Nat} (hg2 : (w.alloc o).drew.grownBy w6 (some gr))
    (ho : w6.ownsRow 0 106 3 (.slice (some ⟨gr, 0, none⟩) (X.sales.length + 1) cap) (X.sales.length + 1) (X.sales.flatMap xsaleCells ++ xsaleCells s)) (hat : X.vCl.ownBlock = some gr ∨ gr = w.heap.size + 1) :
    TurnX w0 X0 (w6.setCell ⟨X.b, 8, none⟩ (.slice (some ⟨gr, 0, none⟩) (X.sales.length + 1) cap)) (X.withL X.vOp X.opens (.slice (some ⟨gr, 0, none⟩) (X.sales.length + 1) cap) (X.sales ++ [s]) (clsR X gr)) := by
  have R := T.rep.roles
  have lt := T.rep.lt
  have hcl : gr ∈ blk X.vCl ∨ gr = w.heap.size + 1 := hat.imp (fun h => by simp [blk, h]) id
  have ngr : ∀ r ∈ X.foot, r ∉ blk X.vCl → r ≠ gr := by
    rintro r hr hn rfl
    rcases hcl with h | h
    · exact hn h
    · have := lt r hr; omega
  have nb : X.b ≠ gr := ngr _ xfoot_b (fun hm => by have := R.lot.2 _ hm; rw [R.b] at this; cases this)
  have nop : ∀ r ∈ blk X.vOp, r ≠ gr ∧ r ≠ X.b ∧ r ∈ X.foot := by
    intro r hr
    have hf : r ∈ X.foot := by simp [XW.foot, hr]
    have h1 := R.lot.1 r hr
    refine ⟨ngr r hf (fun hm => by have := R.lot.2 _ hm; rw [h1] at this; cases this), ?_, hf⟩
    rintro rfl
    rw [R.b] at h1
    cases h1
  have old : ∀ r, r < w.heap.size → r ≠ gr → w6.heap[r]? = w.heap[r]? := by
    intro r hr hn
    have h1 : r < (w.alloc o).drew.heap.size := by show r < (w.alloc o).heap.size; simp; omega
    rw [hg2.block r h1 (fun e => hn (Option.some.inj e))]
    exact Below.heap_alloc w o r hr
  have ht : (w6.setCell ⟨X.b, 8, none⟩ (.slice (some ⟨gr, 0, none⟩) (X.sales.length + 1) cap)).heap[X.b]? = some (.cells (X.withL X.vOp X.opens (.slice (some ⟨gr, 0, none⟩) (X.sales.length + 1) cap) (X.sales ++ [s]) (clsR X gr)).cells 73 (0, 0)) := by
    rw [cells_set (show w6.heap[X.b]? = some (.cells X.cells 73 (0, 0)) by rw [old _ (lt _ xfoot_b) nb]; exact T.rep.top)]
    rfl
  have hrep := T.rep.withL (v := X.vOp) (l := X.opens) (v' := .slice (some ⟨gr, 0, none⟩) (X.sales.length + 1) cap) (l' := X.sales ++ [s]) (R' := clsR X gr)
    (w' := w6.setCell ⟨X.b, 8, none⟩ (.slice (some ⟨gr, 0, none⟩) (X.sales.length + 1) cap))
    (fun r hr hb _ hc => by rw [setCell_far _ _ _ _ r hb, old r (lt r hr) (ngr r hr hc)]) ht
    ⟨own_same T.rep.lot.1 (fun r hr => by obtain ⟨h1, h2, h3⟩ := nop r hr; rw [setCell_far _ _ _ _ r h2, old r (lt r h3) h1]), by
      have e1 : (X.sales ++ [s]).length = X.sales.length + 1 := by simp
      have e2 : (X.sales ++ [s]).flatMap xsaleCells = X.sales.flatMap xsaleCells ++ xsaleCells s := by simp
      rw [e1, e2]
      refine own_same ho (fun r hr => setCell_far _ _ _ _ r ?_)
      have : r = gr := by simpa [blk_slice] using hr
      rw [this]
      exact Ne.symm nb⟩
    (fun r hr _ hc => by unfold clsR; rw [if_neg (ngr r hr hc)])
    ⟨fun r hr => by unfold clsR; rw [if_neg (nop r hr).1]; exact R.lot.1 r hr, fun r hr => by
      have : r = gr := by simpa [blk_slice] using hr
      unfold clsR
      rw [if_pos this]⟩
  refine T.withL hrep ⟨hg2.os, hg2.tape, hg2.output, ?_, fun k hk hn => ?_⟩ (fun r hr => .inl (nop r hr).2.2) (fun r hr => ?_)
  · have := hg2.size
    have h2 : (w.alloc o).drew.heap.size = w.heap.size + 1 := by show (w.alloc o).heap.size = _; simp
    show w.heap.size ≤ (w6.setCell _ _).heap.size
    rw [World.setCell]
    simp only [Array.size_modify]
    omega
  · have h1 : k ≠ X.b := fun e => hn (by rw [e]; exact xfoot_b)
    have h2 : k ≠ gr := by
      rintro rfl
      rcases hcl with h | h
      · exact hn (by simp [XW.foot, h])
      · omega
    rw [setCell_far _ _ _ _ k h1, old k hk h2]
  · have : r = gr := by simpa [blk_slice] using hr
    rw [this]
    rcases hcl with h | h
    · exact .inl (by simp [XW.foot, h])
    · exact .inr (by omega)
end Go.Proofs.YtlafddeoheambaaDoor

/-
  A lot's sale in the program's world, in words; what closeLots holds from round to round.
-/
namespace Go.Proofs.YtlafddeoheambaaDoor
open Go.RowKit

theorem ghost_pos (X : XW) (ls : List SLot) (f : Nat → SPlayer → List SBid × List ByteArray) : posL ((X.ghost ls f).pls.map (·.1)) = posL (X.pls.map (·.1)) := by
  unfold posL
  rw [List.map_map, List.map_map]
  apply List.ext_getElem?
  intro i
  simp only [XW.ghost, List.getElem?_map, List.getElem?_mapIdx]
  cases X.pls[i]? <;> rfl
def saleG (X : XW) (l : XLot) : XW := X.ghost X.lots (fun i p => (setB p.bids l.name 0, p.news ++ [newsB l.name (saleOf l).who (saleOf l).price i]))
theorem saleG_at (X : XW) (l : XLot) (i : Nat) : (saleG X l).pls[i]? = (X.pls[i]?).map (fun q => ({ q.1 with bids := setB q.1.bids l.name 0, news := q.1.news ++ [newsB l.name (saleOf l).who (saleOf l).price i] }, q.2)) := by
  simp only [saleG, XW.ghost, List.getElem?_mapIdx]
theorem S_players {X : XW} {ps : List SPlayer} (h : ∀ i : Nat, (X.pls[i]?).map (fun q => q.1) = ps[i]?) : X.S.players = ps := by
  apply List.ext_getElem?
  intro i
  simp only [XW.S, List.getElem?_map]
  exact h i
theorem saleG_none {X : XW} {l : XLot} (h : (saleOf l).who = -1) : (saleG X l).S = { X.S with players := X.S.players.mapIdx (soldX l) } := by
  have e : (saleG X l).S.players = X.S.players.mapIdx (soldX l) := S_players (fun i => by
    rw [saleG_at]
    simp only [XW.S, List.getElem?_mapIdx, List.getElem?_map]
    cases X.pls[i]? with
    | none => rfl
    | some q =>
      have : ¬ (i : Int) = (saleOf l).who := by rw [h]; omega
      simp only [Option.map_some, soldX, if_neg this])
  have e2 : (saleG X l).S = { X.S with players := (saleG X l).S.players } := rfl
  rw [e2, e]
theorem saleG_some {X : XW} {l : XLot} {j : Nat} {p : SPlayer} {v : XV} (hq : X.pls[j]? = some (p, v)) (h : (saleOf l).who = j) : (saleG (X.setQ j ({ p with money := p.money - (saleOf l).price }, v)) l).S = { X.S with players := X.S.players.mapIdx (soldX l) } := by
  obtain ⟨hj, _⟩ := at_some hq
  have e : (saleG (X.setQ j ({ p with money := p.money - (saleOf l).price }, v)) l).S.players = X.S.players.mapIdx (soldX l) := S_players (fun i => by
    rw [saleG_at]
    simp only [XW.S, XW.setQ, List.getElem?_mapIdx, List.getElem?_map]
    by_cases hi : i = j
    · subst hi
      rw [List.getElem?_set_self hj, hq]
      simp only [Option.map_some, soldX, h, if_true]
    · rw [List.getElem?_set_ne (Ne.symm hi)]
      cases X.pls[i]? with
      | none => rfl
      | some q =>
        have : ¬ (i : Int) = (saleOf l).who := by rw [h]; omega
        simp only [Option.map_some, soldX, if_neg this])
  have e2 : (saleG (X.setQ j ({ p with money := p.money - (saleOf l).price }, v)) l).S = { X.S with players := (saleG (X.setQ j ({ p with money := p.money - (saleOf l).price }, v)) l).S.players } := rfl
  rw [e2, e]

/-- What closeLots holds behind k lots. -/
structure ClK (w : World) (X : XW) (w' : World) (k : Nat) (Xk : XW) (v : Value) : Prop where
  t : TurnX w X w' Xk
  s : Xk.S = soldTo X.S X.opens k
  op : Xk.opens = X.opens
  vo : Xk.vOp = X.vOp
  sl : Xk.sales = (dueTo X.opens X.S.now k).map saleOf
  n : NewsOK Xk
  st : StOK (posL (Xk.pls.map (·.1))) Xk.ls
  ore : OreOK Xk.ore Xk.lo
  di : oreD Xk.ore
  row : w'.ownsRow w.heap.size 93 7 v (keepTo X.opens X.S.now k).length ((keepTo X.opens X.S.now k).flatMap xlotCells)
  ap : ∀ r ∈ blk v, r ∉ Xk.foot
theorem own_same2 {w w' : World} {base : Nat} {e : TypeId} {size : Nat} {v : Value} {n : Nat} {xs : List Value} (h : w.ownsRow base e size v n xs) (hs : ∀ r ∈ blk v, w'.heap[r]? = w.heap[r]?) : w'.ownsRow base e size v n xs := by
  obtain ⟨h1, h2⟩ := h
  refine ⟨h1, ?_⟩
  rcases h2 with h2 | ⟨g, cap, cur, hv, hb, hg, r⟩
  · exact .inl h2
  · exact .inr ⟨g, cap, cur, hv, hb, by rw [hs g (by rw [hv]; simp [blk_slice])]; exact hg, r⟩
theorem ClK.below {w : World} {X : XW} {w1 w2 : World} {k : Nat} {Xk : XW} {v : Value} (h : ClK w X w1 k Xk v) (hb : Below w1.heap.size w1 w2) : ClK w X w2 k Xk v :=
  ⟨h.t.below hb, h.s, h.op, h.vo, h.sl, h.n, h.st, h.ore, h.di, own_same2 h.row (fun r hr => hb.block r (own_lt (own_any h.row) r hr)), h.ap⟩
/-- A lot that stays open. -/
theorem ClK.keep {w : World} {X : XW} {w1 w2 : World} {k : Nat} {Xk : XW} {v : Value} {l : XLot} {o : Obj} {g' cap' : Nat} (h : ClK w X w1 k Xk v) (hl : X.opens[k]? = some l) (ho : openX X.S.now l = true)
    (hg : (w1.alloc o).grownBy w2 v.ownBlock) (hat : v.ownBlock = some g' ∨ (w1.alloc o).heap.size ≤ g')
    (hown : w2.ownsRow w.heap.size 93 7 (.slice (some ⟨g', 0, none⟩) ((keepTo X.opens X.S.now k).length + 1) cap') ((keepTo X.opens X.S.now k).length + 1) ((keepTo X.opens X.S.now k).flatMap xlotCells ++ xlotCells l)) :
    ClK w X w2 (k + 1) Xk (.slice (some ⟨g', 0, none⟩) (keepTo X.opens X.S.now (k + 1)).length cap') := by
  have hsz : (w1.alloc o).heap.size = w1.heap.size + 1 := by simp
  have hv : ∀ r, v.ownBlock = some r → r ∉ Xk.foot ∧ w.heap.size ≤ r := fun r hr => ⟨h.ap r (by simp [blk, hr]), (h.row.lt r hr).1⟩
  have hfar : TurnX w X w2 Xk := by
    cases hvb : v.ownBlock with
    | none =>
      rw [hvb] at hg
      refine h.t.far (F := []) ⟨hg.os, hg.tape, hg.output, by have := hg.size; omega, fun r hr _ => ?_⟩ (fun r hr => by cases hr)
      rw [hg.block r (by omega) (by simp)]
      exact Below.heap_alloc w1 o r hr
    | some r0 =>
      rw [hvb] at hg
      refine h.t.far (F := [r0]) ⟨hg.os, hg.tape, hg.output, by have := hg.size; omega, fun r hr hn => ?_⟩ (fun r hr => by obtain rfl := List.mem_singleton.1 hr; exact hv r hvb)
      rw [hg.block r (by omega) (fun e => hn (by simp [Option.some.inj e]))]
      exact Below.heap_alloc w1 o r hr
  refine ⟨hfar, ?_, h.op, h.vo, ?_, h.n, h.st, h.ore, h.di, ?_, fun r hr => ?_⟩
  · rw [sold_no hl ho]
    exact h.s
  · rw [due_no hl ho]
    exact h.sl
  · rw [keep_yes hl ho]
    have e1 : (keepTo X.opens X.S.now k ++ [l]).length = (keepTo X.opens X.S.now k).length + 1 := by simp
    have e2 : (keepTo X.opens X.S.now k ++ [l]).flatMap xlotCells = (keepTo X.opens X.S.now k).flatMap xlotCells ++ xlotCells l := by simp
    rw [e1, e2]
    exact hown
  · have e : r = g' := by simpa [blk_slice] using hr
    rw [e]
    rcases hat with h' | h'
    · exact (hv g' h').1
    · intro hm
      have := h.t.rep.lt g' hm
      omega
/-- A lot that is sold: the sale is told already, the money paid; the list of sales isn't written yet. -/
structure ClM (w : World) (X : XW) (w' : World) (k : Nat) (Xk : XW) (v : Value) (l : XLot) : Prop where
  t : TurnX w X w' Xk
  s : Xk.S = soldTo X.S X.opens (k + 1)
  op : Xk.opens = X.opens
  vo : Xk.vOp = X.vOp
  sl : Xk.sales = (dueTo X.opens X.S.now k).map saleOf
  n : ∀ (i : Nat) q, Xk.pls[i]? = some q → q.1.news = Xk.sales.map (fun s => newsB s.name s.who s.price i) ++ [newsB l.name (saleOf l).who (saleOf l).price i]
  st : StOK (posL (Xk.pls.map (·.1))) Xk.ls
  ore : OreOK Xk.ore Xk.lo
  di : oreD Xk.ore
  row : w'.ownsRow w.heap.size 93 7 v (keepTo X.opens X.S.now k).length ((keepTo X.opens X.S.now k).flatMap xlotCells)
  ap : ∀ r ∈ blk v, r ∉ Xk.foot
theorem ClK.bid {w : World} {X : XW} {w1 : World} {k : Nat} {Xk : XW} {v : Value} (h : ClK w X w1 k Xk v) (hO : OkX X) (hA : Apart X.lots) {l : XLot} (hl : X.opens[k]? = some l) : ∀ i, bidsOf Xk.S.players l.name i = l.bid i := by
  intro i
  have hd := asc_names (hO.lot.asc hA)
  have hn : l.name ∉ (dueTo X.opens X.S.now k).map (·.name) := by
    intro hm
    obtain ⟨x, hx, e⟩ := List.mem_map.1 hm
    have hx2 : x ∈ X.opens.take k := (List.mem_filter.1 hx).1
    obtain ⟨j, hj⟩ := List.getElem?_of_mem hx2
    obtain ⟨hjl, _⟩ := at_some hj
    rw [List.getElem?_take] at hj
    split at hj
    · rename_i hjk
      obtain ⟨hjo, ej⟩ := at_some hj
      obtain ⟨hko, ek⟩ := at_some hl
      have hne : (X.opens.map (·.name))[j]'(by simpa using hjo) ≠ (X.opens.map (·.name))[k]'(by simpa using hko) := List.pairwise_iff_getElem.1 hd j k (by simpa using hjo) (by simpa using hko) hjk
      apply hne
      simp only [List.getElem_map, ej, ek]
      exact e
    · cases hj
  rw [h.s]
  unfold soldTo
  rw [fold_bids _ i hn, bidsOf_at]
  have := hO.lot.bid l (List.mem_of_getElem? hl) i
  rw [this]
  congr 1
  simp [XW.S, Function.comp_def]
theorem ClK.sell0 {w : World} {X : XW} {w1 : World} {k : Nat} {Xk : XW} {v : Value} (h : ClK w X w1 k Xk v) {l : XLot} (hl : X.opens[k]? = some l) (ho : openX X.S.now l = false) (hw : (saleOf l).who = -1) (hs : sellX Xk.S l = { Xk.S with players := Xk.S.players.mapIdx (soldX l) }) : ClM w X w1 k (saleG Xk l) v l := by
  refine ⟨h.t.ghost _ _, ?_, h.op, h.vo, h.sl, fun i q hq => ?_, by rw [show posL ((saleG Xk l).pls.map (·.1)) = _ from ghost_pos _ _ _]; exact h.st, h.ore, h.di, h.row, fun r hr => by rw [show (saleG Xk l).foot = Xk.foot from ghost_foot _ _ _]; exact h.ap r hr⟩
  · rw [saleG_none hw, ← hs, h.s, sold_yes hl ho]
  · rw [saleG_at, Option.map_eq_some_iff] at hq
    obtain ⟨q0, h1, rfl⟩ := hq
    show q0.1.news ++ _ = _
    rw [h.n i q0 h1]
    rfl
theorem ClK.sell1 {w : World} {X : XW} {w1 : World} {k : Nat} {Xk : XW} {v : Value} (h : ClK w X w1 k Xk v) {l : XLot} (hl : X.opens[k]? = some l) (ho : openX X.S.now l = false) {j : Nat} (hw : (saleOf l).who = j) (hs : sellX Xk.S l = { Xk.S with players := Xk.S.players.mapIdx (soldX l) })
    {p : SPlayer} {u : XV} (hq : Xk.pls[j]? = some (p, u)) {pb cap : Nat} (hv : Xk.vPl = .slice (some ⟨pb, 0, none⟩) Xk.pls.length cap) :
    ClM w X (w1.setCell ⟨pb, j * 2, none⟩ (.int .i64 (p.money - (saleOf l).price))) k (saleG (Xk.setQ j ({ p with money := p.money - (saleOf l).price }, u)) l) v l := by
  have hf := xfoot_setQ Xk j (p, u) ({ p with money := p.money - (saleOf l).price }, u) hq rfl
  have hpl : pb ∈ Xk.foot := xfoot_pl (by rw [hv]; simp [blk_slice])
  refine ⟨(h.t.money1 hq hv _).ghost _ _, ?_, h.op, h.vo, h.sl, fun i q hq' => ?_, ?_, h.ore, h.di, own_same2 h.row (fun r hr => setCell_far _ _ _ _ r (fun e => h.ap r hr (by rw [e]; exact hpl))), fun r hr hm => ?_⟩
  · rw [saleG_some hq hw, ← hs, h.s, sold_yes hl ho]
  · rw [saleG_at, Option.map_eq_some_iff] at hq'
    obtain ⟨q0, h1, rfl⟩ := hq'
    show q0.1.news ++ _ = _
    have e : q0.1.news = Xk.sales.map (fun s => newsB s.name s.who s.price i) := by
      rcases setQ_get hq q0 h1 with ⟨rfl, rfl⟩ | ⟨_, h2⟩
      · exact h.n i (p, u) hq
      · exact h.n i q0 h2
    rw [e]
    rfl
  · rw [show posL ((saleG (Xk.setQ j ({ p with money := p.money - (saleOf l).price }, u)) l).pls.map (·.1)) = _ from ghost_pos _ _ _]
    have e : (Xk.setQ j ({ p with money := p.money - (saleOf l).price }, u)).pls.map (·.1) = (Xk.pls.map (·.1)).set j { p with money := p.money - (saleOf l).price } := by simp [XW.setQ, List.map_set]
    rw [e, posL_money (ps := Xk.pls.map (·.1)) (n := j) (p := p) (by simp [hq]) { p with money := p.money - (saleOf l).price } rfl]
    exact h.st
  · have e : (saleG (Xk.setQ j ({ p with money := p.money - (saleOf l).price }, u)) l).foot = (Xk.setQ j ({ p with money := p.money - (saleOf l).price }, u)).foot := ghost_foot _ _ _
    rw [e, hf] at hm
    exact h.ap r hr hm
theorem ClM.below {w : World} {X : XW} {w1 w2 : World} {k : Nat} {Xk : XW} {v : Value} {l : XLot} (h : ClM w X w1 k Xk v l) (hb : Below w1.heap.size w1 w2) : ClM w X w2 k Xk v l :=
  ⟨h.t.below hb, h.s, h.op, h.vo, h.sl, h.n, h.st, h.ore, h.di, own_same2 h.row (fun r hr => hb.block r (own_lt (own_any h.row) r hr)), h.ap⟩
/-- .. and written. -/
theorem ClM.done {w : World} {X : XW} {w1 w6 : World} {k : Nat} {Xk : XW} {v : Value} {l : XLot} (h : ClM w X w1 k Xk v l) (hl : X.opens[k]? = some l) (ho : openX X.S.now l = false) {o : Obj} {gr cap : Nat} (hg2 : (w1.alloc o).drew.grownBy w6 (some gr))
    (hown : w6.ownsRow 0 106 3 (.slice (some ⟨gr, 0, none⟩) (Xk.sales.length + 1) cap) (Xk.sales.length + 1) (Xk.sales.flatMap xsaleCells ++ xsaleCells (saleOf l))) (hat : Xk.vCl.ownBlock = some gr ∨ gr = w1.heap.size + 1) :
    ClK w X (w6.setCell ⟨Xk.b, 8, none⟩ (.slice (some ⟨gr, 0, none⟩) (Xk.sales.length + 1) cap)) (k + 1) (Xk.withL Xk.vOp Xk.opens (.slice (some ⟨gr, 0, none⟩) (Xk.sales.length + 1) cap) (Xk.sales ++ [saleOf l]) (clsR Xk gr)) v := by
  have T := h.t.addSale (saleOf l) hg2 hown hat
  have hgr : ∀ r ∈ blk v, r ≠ gr ∧ r ≠ Xk.b := fun r hr => by
    have hn := h.ap r hr
    have hlt := own_lt (own_any h.row) r hr
    refine ⟨?_, fun e => hn (by rw [e]; exact xfoot_b)⟩
    rintro rfl
    rcases hat with h' | h'
    · exact hn (by simp [XW.foot, blk, h'])
    · omega
  refine ⟨T, ?_, h.op, h.vo, ?_, fun i q hq => ?_, h.st, h.ore, h.di, ?_, fun r hr hm => ?_⟩
  · exact h.s
  · show Xk.sales ++ [saleOf l] = _
    rw [due_yes hl ho, List.map_append, h.sl]
    rfl
  · show q.1.news = (Xk.sales ++ [saleOf l]).map _
    rw [h.n i q hq, List.map_append]
    rfl
  · rw [keep_no hl ho]
    refine own_same2 h.row (fun r hr => ?_)
    have hlt := own_lt (own_any h.row) r hr
    have h1 : r < (w1.alloc o).drew.heap.size := by show r < (w1.alloc o).heap.size; simp; omega
    rw [setCell_far _ _ _ _ r (hgr r hr).2, hg2.block r h1 (fun e => (hgr r hr).1 (Option.some.inj e))]
    exact Below.heap_alloc w1 o r hlt
  · rcases foot_withL hm with h' | h' | h'
    · exact h.ap r hr h'
    · exact h.ap r hr (by simp [XW.foot, h'])
    · have : r = gr := by simpa [blk_slice] using h'
      exact (hgr r hr).1 this
end Go.Proofs.YtlafddeoheambaaDoor

/-
  What closeLots leaves of the program's world.
-/
namespace Go.Proofs.YtlafddeoheambaaDoor
open Go.RowKit

def opnR (X : XW) (v : Value) : Nat → Role := fun r => if r ∈ blk v then .opn else X.R r
theorem ClK.out {w : World} {X : XW} {w1 : World} {k : Nat} {Xk : XW} {v : Value} (h : ClK w X w1 k Xk v) :
    TurnX w X (w1.setCell ⟨Xk.b, 7, none⟩ v) (Xk.withL v (keepTo X.opens X.S.now k) Xk.vCl Xk.sales (opnR Xk v)) := by
  have R := h.t.rep.roles
  have nb : ∀ r ∈ blk v, r ≠ Xk.b := fun r hr e => h.ap r hr (by rw [e]; exact xfoot_b)
  have ncl : ∀ r ∈ blk Xk.vCl, r ≠ Xk.b ∧ r ∉ blk v := fun r hr => by
    have hf : r ∈ Xk.foot := by simp [XW.foot, hr]
    refine ⟨fun e => ?_, fun hm => h.ap r hm hf⟩
    have h1 := R.lot.2 r hr
    rw [e, R.b] at h1
    cases h1
  have ht : (w1.setCell ⟨Xk.b, 7, none⟩ v).heap[Xk.b]? = some (.cells (Xk.withL v (keepTo X.opens X.S.now k) Xk.vCl Xk.sales (opnR Xk v)).cells 73 (0, 0)) := by
    rw [cells_set h.t.rep.top]
    rfl
  have hrep := h.t.rep.withL (v := v) (l := keepTo X.opens X.S.now k) (v' := Xk.vCl) (l' := Xk.sales) (R' := opnR Xk v) (w' := w1.setCell ⟨Xk.b, 7, none⟩ v)
    (fun r _ hb _ _ => setCell_far _ _ _ _ r hb) ht ⟨own_same (own_any h.row) (fun r hr => setCell_far _ _ _ _ r (nb r hr)), own_same h.t.rep.lot.2 (fun r hr => setCell_far _ _ _ _ r (ncl r hr).1)⟩
    (fun r hr _ _ => by unfold opnR; rw [if_neg (fun hm => h.ap r hm hr)])
    ⟨fun r hr => by unfold opnR; rw [if_pos hr], fun r hr => by unfold opnR; rw [if_neg (ncl r hr).2]; exact R.lot.2 r hr⟩
  have hx : ∀ r ∈ (Xk.withL v (keepTo X.opens X.S.now k) Xk.vCl Xk.sales (opnR Xk v)).foot, r ∈ Xk.foot ∨ w.heap.size ≤ r := by
    intro r hr
    rcases foot_withL hr with h' | h' | h'
    · exact .inl h'
    · refine .inr ?_
      have : v.ownBlock = some r := by
        unfold blk at h'
        cases hv : v.ownBlock with
        | none => rw [hv] at h'; simp at h'
        | some g => rw [hv] at h'; simp at h'; rw [h']
      exact (h.row.lt r this).1
    · exact .inl (by simp [XW.foot, h'])
  have hk : Kept Xk.foot w1 (w1.setCell ⟨Xk.b, 7, none⟩ v) := (Kept.refl _ _).setCell _ _ _ (.inl xfoot_b)
  refine ⟨hrep, h.t.kept.setCell _ _ _ (.inl (by rw [h.t.b]; exact xfoot_b)), fun r hr => ?_, h.t.b, h.t.rows.trans (RowsX.keep h.t.rep.rows_lt hrep (fun i q hq => ⟨q, hq, rfl, rfl⟩)) hk h.t.kept.size hx⟩
  rcases hx r hr with h' | h'
  · exact h.t.ext r h'
  · exact .inr h'
theorem opens_inj {X : XW} (hO : OkX X) (hA : Apart X.lots) {a b : XLot} (ha : a ∈ X.opens) (hb : b ∈ X.opens) (e : a.name = b.name) : a = b := by
  have hd := asc_names (hO.lot.asc hA)
  obtain ⟨i, hi⟩ := List.getElem?_of_mem ha
  obtain ⟨j, hj⟩ := List.getElem?_of_mem hb
  obtain ⟨hil, ei⟩ := at_some hi
  obtain ⟨hjl, ej⟩ := at_some hj
  have key : ∀ (x y : Nat) (hx : x < X.opens.length) (hy : y < X.opens.length), x < y → X.opens[x].name ≠ X.opens[y].name := fun x y hx hy hxy => by
    have := List.pairwise_iff_getElem.1 hd x y (by simpa using hx) (by simpa using hy) hxy
    simpa using this
  rcases Nat.lt_trichotomy i j with h | h | h
  · exact absurd (by rw [ei, ej]; exact e) (key i j hil hjl h)
  · subst h
    rw [← ei, ← ej]
  · exact absurd (by rw [ei, ej]; exact e.symm) (key j i hjl hil h)
theorem openX_ends {now : Int} {l : XLot} (h : now ≤ l.ends) : openX now l = !decide ((lotOf l).ends = now) := by
  unfold openX
  show decide (now < l.ends) = !decide (l.ends = now)
  rw [Bool.eq_iff_iff]
  simp only [decide_eq_true_eq, Bool.not_eq_true', decide_eq_false_iff_not]
  omega
theorem filter_lotOf (ls : List XLot) (p : SLot → Bool) : (ls.map lotOf).filter p = (ls.filter (fun l => p (lotOf l))).map lotOf := by
  induction ls with
  | nil => rfl
  | cons a r ih =>
    simp only [List.map_cons, List.filter_cons]
    split <;> simp [ih]
theorem filter_same {α : Type} {p q : α → Bool} {l : List α} (h : ∀ a ∈ l, p a = q a) : l.filter p = l.filter q := by
  induction l with
  | nil => rfl
  | cons a r ih =>
    simp only [List.filter_cons, h a (by simp), ih (fun b hb => h b (by simp [hb]))]
/-- The world behind closeLots. -/
def doneG (X : XW) (now : Int) : XW := X.ghost (X.lots.filter (fun l => !decide (l.ends = now))) (fun _ p => (p.bids, p.news))
theorem doneG_pls (X : XW) (now : Int) (i : Nat) : (doneG X now).pls[i]? = X.pls[i]? := by
  simp only [doneG, XW.ghost, List.getElem?_mapIdx]
  cases X.pls[i]? <;> rfl
theorem closed_all {w : World} {X : XW} {w1 : World} {Xk : XW} {v : Value} (h : ClK w X w1 X.opens.length Xk v) (hO : OkX X) (hA : Apart X.lots) (he : ∀ l ∈ X.lots, X.S.now ≤ l.ends) :
    ∃ X', TurnX w X (w1.setCell ⟨Xk.b, 7, none⟩ v) X' ∧ OkX X' ∧ X'.S = closeS X.S ∧ NewsOK X' ∧ X'.sales = (dueTo X.opens X.S.now X.opens.length).map saleOf := by
  have hT := h.out
  have hall : ∀ l ∈ X.opens, X.S.now ≤ l.ends := fun l hl => he (lotOf l) (hO.lot.mem hl)
  have hkeep : keepTo X.opens X.S.now X.opens.length = X.opens.filter (openX X.S.now) := by unfold keepTo; rw [List.take_of_length_le (Nat.le_refl _)]
  have hdue : dueTo X.opens X.S.now X.opens.length = X.opens.filter (fun l => !openX X.S.now l) := by unfold dueTo; rw [List.take_of_length_le (Nat.le_refl _)]
  have hlo : Xk.lots = X.lots := by
    have e : Xk.S.lots = (soldTo X.S X.opens X.opens.length).lots := by rw [h.s]
    exact e.trans (fold_len _ _).2.2
  obtain ⟨Y, hY⟩ : ∃ Y, Y = Xk.withL v (keepTo X.opens X.S.now X.opens.length) Xk.vCl Xk.sales (opnR Xk v) := ⟨_, rfl⟩
  rw [← hY] at hT
  have hpl : ∀ i, (doneG Y X.S.now).pls[i]? = Xk.pls[i]? := fun i => by rw [doneG_pls, hY]; rfl
  have hpls : (doneG Y X.S.now).pls = Xk.pls := List.ext_getElem? hpl
  have hS : (doneG Y X.S.now).S = closeS X.S := by
    have e1 : (doneG Y X.S.now).S = { Xk.S with lots := X.lots.filter (fun l => !decide (l.ends = X.S.now)) } := by
      have e2 : (doneG Y X.S.now).S.players = Xk.S.players := by
        show (doneG Y X.S.now).pls.map (·.1) = Xk.pls.map (·.1)
        rw [hpls]
      have e3 : (doneG Y X.S.now).S = { Xk.S with players := (doneG Y X.S.now).S.players, lots := Y.lots.filter (fun l => !decide (l.ends = X.S.now)) } := by rw [hY]; rfl
      rw [e3, e2, hY]
      show ({ Xk.S with players := Xk.S.players, lots := Xk.lots.filter _ } : SWorld) = _
      rw [hlo]
    rw [e1, h.s]
    unfold closeS soldTo
    have e4 : dueL X.S.lots X.S.now = (dueTo X.opens X.S.now X.opens.length).map lotOf := by
      unfold dueL
      show (sortL X.lots).filter _ = _
      rw [← hO.lot.eq, filter_lotOf, hdue]
      congr 1
      refine filter_same (fun a ha => ?_)
      rw [openX_ends (hall a ha)]
      simp
    rw [e4, List.foldl_map]
    rfl
  refine ⟨doneG Y X.S.now, hT.ghost _ _, ⟨?_, ?_, ?_, ?_⟩, hS, ?_, ?_⟩
  · rw [hpls, hY]
    exact h.st
  · rw [hY]
    exact h.ore
  · rw [hY]
    exact h.di
  · show LotRel Y.opens (Y.lots.filter (fun l => !decide (l.ends = X.S.now))) ((doneG Y X.S.now).pls.map (·.1.bids))
    have eo : Y.opens = X.opens.filter (openX X.S.now) := by rw [hY]; exact hkeep
    have el : Y.lots = X.lots := by rw [hY]; exact hlo
    rw [eo, el, hpls]
    constructor
    · rw [sortL_filter hA, ← hO.lot.eq, filter_lotOf]
      congr 1
      exact filter_same (fun a ha => openX_ends (hall a ha))
    · intro l hl i
      obtain ⟨h1, h2⟩ := List.mem_filter.1 hl
      rw [hO.lot.bid l h1 i]
      have hn : l.name ∉ (dueTo X.opens X.S.now X.opens.length).map (·.name) := by
        intro hm
        obtain ⟨x, hx, e⟩ := List.mem_map.1 hm
        rw [hdue] at hx
        obtain ⟨x1, x2⟩ := List.mem_filter.1 hx
        have := opens_inj hO hA x1 h1 e
        subst this
        rw [h2] at x2
        simp at x2
      have e1 := fold_bids (dueTo X.opens X.S.now X.opens.length) i hn X.S
      have e2 : (soldTo X.S X.opens X.opens.length).players = Xk.S.players := by rw [← h.s]
      unfold soldTo at e2
      rw [e2, bidsOf_at, bidsOf_at] at e1
      have e3 : Xk.S.players.map (·.bids) = Xk.pls.map (·.1.bids) := by simp [XW.S, Function.comp_def]
      have e4 : X.S.players.map (·.bids) = X.pls.map (·.1.bids) := by simp [XW.S, Function.comp_def]
      rw [e3, e4] at e1
      exact e1.symm
  · intro i q hq
    rw [hpl] at hq
    rw [h.n i q hq]
    show _ = Y.sales.map _
    rw [hY]
    rfl
  · show Y.sales = _
    rw [hY]
    exact h.sl
end Go.Proofs.YtlafddeoheambaaDoor

/-
  What holds of a world with lots, and stays so: every player has as much as it bids; and what Offer comes to, said plainly.
-/
namespace Go.Proofs.YtlafddeoheambaaDoor
open Go.RowKit

def CovP (p : SPlayer) : Prop := stakedI p.bids emptyB ≤ p.money
def Cov (s : SWorld) : Prop := ∀ p ∈ s.players, CovP p
theorem Cov.setPl {s : SWorld} (h : Cov s) (n : Nat) {p : SPlayer} (hp : CovP p) : Cov (s.setPl n p) := by
  intro q hq
  rcases List.mem_or_eq_of_mem_set hq with h' | rfl
  · exact h q h'
  · exact hp
theorem Cov.act {s : SWorld} (h : Cov s) (n k : Nat) {p : SPlayer} {u : SUnit} (hp : CovP p) (hu : 0 ≤ u.cargo) (what arg : ByteArray) : Cov (actS s n k p u what arg) := by
  unfold CovP at hp
  unfold actS
  simp only
  repeat' split
  all_goals first
    | exact h
    | exact h.setPl n (show stakedI p.bids emptyB ≤ p.money from hp)
    | exact h.setPl n (show stakedI p.bids emptyB ≤ p.money + 10 * u.cargo by omega)
    | (rename_i hc; exact h.setPl n (show stakedI p.bids emptyB ≤ p.money - 50 by omega))
theorem Cov.does {s : SWorld} {M : Int} (h : Cov s) (hw : WFS s M) (n k : Nat) : Cov (doesS s n k) := by
  unfold doesS
  split
  · exact h
  · rename_i p hp
    have hm := List.mem_of_getElem? hp
    split
    · exact h
    · rename_i u hu
      have uk := (hw.each p hm).each u (List.mem_of_getElem? hu)
      have hp0 : CovP { p with units := p.units.set k { u with what := emptyB, arg := emptyB } } := h p hm
      exact (h.setPl n hp0).act n k (u := { u with what := emptyB, arg := emptyB }) hp0 (show 0 ≤ u.cargo from uk.cargo.1) u.what u.arg
theorem Cov.unitsTo {s : SWorld} {M : Int} (h : Cov s) (hw : WFS s M) (n j : Nat) : Cov (unitsTo s n j) := by
  induction j with
  | zero => exact h
  | succ j ih => exact ih.does (hw.unitsTo n j) n j
theorem Cov.clearN {s : SWorld} (h : Cov s) (n : Nat) : Cov (clearN s n) := by
  unfold Proofs.YtlafddeoheambaaDoor.clearN
  split
  · exact h
  · rename_i p hp
    exact h.setPl n (p := { p with news := [] }) (h p (List.mem_of_getElem? hp))
theorem Cov.tickTo {s : SWorld} {M : Int} (h : Cov s) (hw : WFS s M) (n : Nat) : Cov (tickTo s n) := by
  induction n with
  | zero => exact h
  | succ n ih => exact (ih.clearN n).unitsTo ((hw.tickTo n).clearN n) n _

theorem staked_drop {bs : List SBid} (h : ∀ b ∈ bs, b.lot ≠ emptyB) (lot : ByteArray) : stakedI (bs.filter (fun b => !eqS b.lot lot)) emptyB = stakedI bs lot := by
  induction bs with
  | nil => rfl
  | cons b r ih =>
    have ih := ih (fun x hx => h x (by simp [hx]))
    have e1 : eqS b.lot emptyB = false := by
      cases e2 : eqS b.lot emptyB
      · rfl
      · exact absurd (eqS_iff.1 e2) (h b (by simp))
    simp only [List.filter_cons, stakedI]
    cases e : eqS b.lot lot
    · simp only [Bool.not_false, if_true, stakedI, e1, Bool.false_eq_true, if_false, ih]
    · simp only [Bool.not_true, Bool.false_eq_true, if_false, if_true, ih]
      omega
theorem bids_ne {names : List ByteArray} (he : emptyB ∉ names) {bs : List SBid} (h : BidsOK names bs) : ∀ b ∈ bs, b.lot ≠ emptyB := fun b hb e => he (e ▸ h.mem b hb)
theorem staked_set {names : List ByteArray} (he : emptyB ∉ names) {bs : List SBid} (h : BidsOK names bs) {lot : ByteArray} (hl : lot ≠ emptyB) {n : Int} (hn : 0 ≤ n) : stakedI (setB bs lot n) emptyB = stakedI bs lot + n := by
  unfold setB
  have hd := staked_drop (bids_ne he h) lot
  split
  · rw [stakedI_snoc, hd]
    have e1 : eqS lot emptyB = false := by
      cases e2 : eqS lot emptyB
      · rfl
      · exact absurd (eqS_iff.1 e2) hl
    simp [e1]
  · rw [List.append_nil, hd]
    omega
theorem bidI_le {names : List ByteArray} {bs : List SBid} (h : BidsOK names bs) (lot : ByteArray) : 0 ≤ bidI bs lot ∧ bidI bs lot ≤ 100000 := by
  induction bs with
  | nil => simp [bidI]
  | cons b r ih =>
    have ih := ih ⟨fun x hx => h.mem x (by simp [hx]), (List.pairwise_cons.1 h.dist).2, fun x hx => h.pos x (by simp [hx])⟩
    have hp := h.pos b (by simp)
    simp only [bidI]
    split <;> omega
theorem nodup_len : ∀ (a b : List ByteArray), a.Nodup → (∀ x ∈ a, x ∈ b) → a.length ≤ b.length := by
  intro a
  induction a with
  | nil => intro b _ _; simp
  | cons x r ih =>
    intro b hd hs
    have hd' := List.nodup_cons.1 hd
    have h1 := ih (b.filter (fun y => !eqS y x)) hd'.2 (fun y hy => List.mem_filter.2 ⟨hs y (by simp [hy]), by
      cases e : eqS y x
      · rfl
      · exact absurd (eqS_iff.1 e ▸ hy) hd'.1⟩)
    have h2 : (b.filter (fun y => !eqS y x)).length < b.length := by
      rw [List.length_filter_lt_length_iff_exists]
      exact ⟨x, hs x (by simp), by simp [eqS]⟩
    simp only [List.length_cons]
    omega
theorem BidsOK.len {names : List ByteArray} {bs : List SBid} (h : BidsOK names bs) : bs.length ≤ names.length := by
  have := nodup_len (bs.map (·.lot)) names (List.pairwise_map.2 h.dist) (fun x hx => by
    obtain ⟨b, hb, rfl⟩ := List.mem_map.1 hx
    exact h.mem b hb)
  simpa using this

/-- What stays while lots are sold. -/
structure SellInv (t : SWorld) (M : Int) (names D : List ByteArray) : Prop where
  wf : WFS t M
  cov : Cov t
  bo : ∀ p ∈ t.players, BidsOK names p.bids
  out : ∀ p ∈ t.players, ∀ b ∈ p.bids, b.lot ∉ D
theorem sell_mem {t : SWorld} {l : SLot} {q : SPlayer} (h : q ∈ (sellS t l).players) : ∃ (i : Nat) (p : SPlayer), t.players[i]? = some p ∧ q = soldP l (winI (bidsOf t.players l.name) l.least t.players.length) (paysI (bidsOf t.players l.name) l.least t.players.length) i p := by
  obtain ⟨i, hi⟩ := List.getElem?_of_mem h
  unfold sellS at hi
  simp only [List.getElem?_mapIdx, Option.map_eq_some_iff] at hi
  obtain ⟨p, h1, h2⟩ := hi
  exact ⟨i, p, h1, h2.symm⟩
theorem SellInv.sell {t : SWorld} {M : Int} {names D : List ByteArray} (h : SellInv t M names D) (he : emptyB ∉ names) (l : SLot) (hl : 0 ≤ l.least) (hn : l.name ∈ names) : SellInv (sellS t l) M names (l.name :: D) := by
  have hne : l.name ≠ emptyB := fun e => he (e ▸ hn)
  have key : ∀ (i : Nat) (p : SPlayer), t.players[i]? = some p → CovP (soldP l (winI (bidsOf t.players l.name) l.least t.players.length) (paysI (bidsOf t.players l.name) l.least t.players.length) i p) ∧ (soldP l (winI (bidsOf t.players l.name) l.least t.players.length) (paysI (bidsOf t.players l.name) l.least t.players.length) i p).money ≤ p.money := by
    intro i p hp
    have hm := List.mem_of_getElem? hp
    have hb := h.bo p hm
    have hc := h.cov p hm
    unfold CovP at hc ⊢
    have e1 : stakedI (setB p.bids l.name 0) emptyB = stakedI p.bids emptyB - bidI p.bids l.name := by
      rw [staked_set he hb hne (Int.le_refl 0), staked_but he hb l.name]
      omega
    have e2 := bidI_le hb l.name
    unfold soldP
    show stakedI (setB p.bids l.name 0) emptyB ≤ (if (i : Int) = _ then p.money - _ else p.money) ∧ (if (i : Int) = _ then p.money - _ else p.money) ≤ p.money
    rw [e1]
    split
    · rename_i hw
      have := pays_le (bid := bidsOf t.players l.name) (least := l.least) (n := t.players.length) (k := i) hw.symm
      have e3 : bidsOf t.players l.name i = bidI p.bids l.name := by unfold bidsOf; rw [hp]
      omega
    · omega
  refine ⟨⟨?_, h.wf.wd, h.wf.ht, h.wf.orn, h.wf.ora, fun q hq => ?_⟩, fun q hq => ?_, fun q hq => ?_, fun q hq b hb => ?_⟩
  · have := h.wf.pl
    have e : (sellS t l).players.length = t.players.length := sell_len t l
    omega
  · obtain ⟨i, p, hp, rfl⟩ := sell_mem hq
    have hm := List.mem_of_getElem? hp
    have pk := h.wf.each p hm
    obtain ⟨k1, k2⟩ := key i p hp
    have hb2 : BidsOK names (setB p.bids l.name 0) := (h.bo p hm).set hn (by omega)
    refine ⟨pk.un, pk.each, ⟨?_, by have := pk.mo.2; omega⟩, ⟨fun b hb => ?_, ?_⟩⟩
    · have := staked_nonneg hb2 emptyB
      unfold CovP at k1
      exact Int.le_trans this k1
    · have := hb2.pos b hb
      omega
    · have h1 := hb2.len
      show (setB p.bids l.name 0).length ≤ 1000
      have h2 := pk.bi.2
      rw [setB_zero]
      exact Nat.le_trans (List.length_filter_le _ _) h2
  · obtain ⟨i, p, hp, rfl⟩ := sell_mem hq
    exact (key i p hp).1
  · obtain ⟨i, p, hp, rfl⟩ := sell_mem hq
    exact (h.bo p (List.mem_of_getElem? hp)).set hn (by omega)
  · obtain ⟨i, p, hp, rfl⟩ := sell_mem hq
    have hb' : b ∈ setB p.bids l.name 0 := hb
    rw [setB_zero, List.mem_filter] at hb'
    intro hm
    rcases List.mem_cons.1 hm with e | hm
    · have : eqS b.lot l.name = true := eqS_iff.2 e
      rw [this] at hb'
      simp at hb'
    · exact h.out p (List.mem_of_getElem? hp) b hb'.1 hm
theorem SellInv.fold {M : Int} {names : List ByteArray} (he : emptyB ∉ names) : ∀ (Q : List SLot) (D : List ByteArray) (t : SWorld), (∀ l ∈ Q, 0 ≤ l.least ∧ l.name ∈ names) → SellInv t M names D → SellInv (Q.foldl sellS t) M names ((Q.map (·.name)).reverse ++ D) := by
  intro Q
  induction Q with
  | nil => intro D t _ h; exact h
  | cons l r ih =>
    intro D t hq h
    rw [List.foldl_cons]
    have h1 := hq l (by simp)
    have := ih (l.name :: D) (sellS t l) (fun x hx => hq x (by simp [hx])) (h.sell he l h1.1 h1.2)
    simpa using this
theorem sell_nm {t : SWorld} (h : NmS t) (l : SLot) : NmS (sellS t l) := by
  refine ⟨fun q hq u hu => ?_, h.l⟩
  obtain ⟨i, p, hp, rfl⟩ := sell_mem hq
  exact h.u p (List.mem_of_getElem? hp) u hu
theorem fold_nm : ∀ (Q : List SLot) (t : SWorld), NmS t → NmS (Q.foldl sellS t) := by
  intro Q
  induction Q with
  | nil => intro t h; exact h
  | cons l r ih => intro t h; exact ih _ (sell_nm h l)
theorem fold_keep : ∀ (Q : List SLot) (t : SWorld), (Q.foldl sellS t).now = t.now ∧ (Q.foldl sellS t).lots = t.lots := by
  intro Q
  induction Q with
  | nil => intro t; exact ⟨rfl, rfl⟩
  | cons l r ih => intro t; exact ih (sellS t l)

/-- What holds of a world with lots. -/
structure GoodL (s : SWorld) : Prop where
  now : 0 ≤ s.now ∧ s.now ≤ 1000
  wf : WFS s (100 + 1800 * s.now)
  lw : LotWF s.lots (s.players.map (·.bids)) s.now
  nm : NmS s
  cov : Cov s
theorem lots_noempty {lots : List SLot} {bss : List (List SBid)} {now : Int} (h : LotWF lots bss now) : emptyB ∉ lots.map (·.name) := fun hm => by
  obtain ⟨l, hl, e⟩ := List.mem_map.1 hm
  exact h.nm l hl e
theorem GoodL.new {W H S : Int} {ore starts : List SSpot} (h : newB W H S ore starts = true) : GoodL (newS W H S ore starts) := by
  have g := GoodS.new h
  refine ⟨g.now, g.wf, g.lw, g.nm, fun p hp => ?_⟩
  simp only [newS, List.mem_map] at hp
  obtain ⟨s, _, rfl⟩ := hp
  show (0 : Int) ≤ 100
  omega
/-- The world between the units' doings and the lots' closing. -/
def midS (s : SWorld) : SWorld := { tickTo s s.players.length with now := s.now + 1 }
theorem GoodL.mid {s : SWorld} (h : GoodL s) : SellInv (midS s) (100 + 1800 * (s.now + 1)) (s.lots.map (·.name)) [] := by
  have hp := h.wf.pl
  have hw : WFS (tickTo s s.players.length) (100 + 1800 * (s.now + 1)) := (h.wf.tickTo s.players.length).mono (by omega)
  refine ⟨⟨hw.pl, hw.wd, hw.ht, hw.orn, hw.ora, hw.each⟩, h.cov.tickTo h.wf s.players.length, fun p hp' => ?_, fun _ _ _ _ => by simp⟩
  have hb := tickTo_bids s s.players.length
  have : p.bids ∈ (tickTo s s.players.length).players.map (·.bids) := List.mem_map_of_mem hp'
  rw [hb] at this
  exact h.lw.bids p.bids this
theorem GoodL.tick {s : SWorld} (h : GoodL s) (hn : s.now < 1000) : GoodL (tickS s) := by
  have hm := h.mid
  have hl := tickTo_len s s.players.length
  have hlots : (midS s).lots = s.lots := hl.2.2
  have he := lots_noempty h.lw
  have hdue : ∀ l ∈ dueL (midS s).lots (midS s).now, 0 ≤ l.least ∧ l.name ∈ s.lots.map (·.name) := by
    intro l hl'
    have h1 := (List.mem_filter.1 hl').1
    rw [sortL_mem, hlots] at h1
    exact ⟨(h.lw.lst l h1).1, List.mem_map_of_mem h1⟩
  have hf := SellInv.fold he (dueL (midS s).lots (midS s).now) [] (midS s) hdue hm
  have hk := fold_keep (dueL (midS s).lots (midS s).now) (midS s)
  have hnm : NmS (midS s) := ⟨(h.nm.tickTo s.players.length).u, by rw [hlots]; exact h.nm.l⟩
  have hfn := fold_nm (dueL (midS s).lots (midS s).now) (midS s) hnm
  have et : tickS s = { (dueL (midS s).lots (midS s).now).foldl sellS (midS s) with lots := (midS s).lots.filter (fun l => !decide (l.ends = (midS s).now)) } := rfl
  have hnow : (midS s).now = s.now + 1 := rfl
  rw [et]
  refine ⟨⟨?_, ?_⟩, ?_, ?_, ⟨hfn.u, fun l hl' => ?_⟩, hf.cov⟩
  · show 0 ≤ ((dueL (midS s).lots (midS s).now).foldl sellS (midS s)).now
    rw [hk.1, hnow]
    have := h.now.1
    omega
  · show ((dueL (midS s).lots (midS s).now).foldl sellS (midS s)).now ≤ 1000
    rw [hk.1, hnow]
    omega
  · show WFS _ (100 + 1800 * ((dueL (midS s).lots (midS s).now).foldl sellS (midS s)).now)
    rw [hk.1, hnow]
    exact ⟨hf.wf.pl, hf.wf.wd, hf.wf.ht, hf.wf.orn, hf.wf.ora, hf.wf.each⟩
  · show LotWF ((midS s).lots.filter (fun l => !decide (l.ends = (midS s).now))) (((dueL (midS s).lots (midS s).now).foldl sellS (midS s)).players.map (·.bids)) ((dueL (midS s).lots (midS s).now).foldl sellS (midS s)).now
    rw [hk.1, hlots]
    have sub : ∀ l ∈ s.lots.filter (fun l => !decide (l.ends = (midS s).now)), l ∈ s.lots ∧ l.ends ≠ s.now + 1 := fun l hl' => by
      obtain ⟨h1, h2⟩ := List.mem_filter.1 hl'
      refine ⟨h1, fun e => ?_⟩
      rw [hnow, e] at h2
      simp at h2
    refine ⟨h.lw.apart.filter _, fun l hl' => h.lw.nm l (sub l hl').1, fun l hl' => h.lw.lst l (sub l hl').1, fun l hl' => ?_, Nat.le_trans (List.length_filter_le _ _) h.lw.len, fun bs hbs => ?_⟩
    · have h1 := h.lw.ends l (sub l hl').1
      have h2 := (sub l hl').2
      rw [hnow]
      omega
    · rw [← hlots] at hbs
      obtain ⟨p, hp, rfl⟩ := List.mem_map.1 hbs
      have hb := hf.bo p hp
      have ho := hf.out p hp
      refine ⟨fun b hb' => ?_, hb.dist, hb.pos⟩
      obtain ⟨l, hl', e⟩ := List.mem_map.1 (hb.mem b hb')
      have hno := ho b hb'
      refine List.mem_map.2 ⟨l, List.mem_filter.2 ⟨hl', ?_⟩, e⟩
      cases hd : decide (l.ends = (midS s).now)
      · rfl
      · exfalso
        apply hno
        rw [List.append_nil, List.mem_reverse]
        refine List.mem_map.2 ⟨l, List.mem_filter.2 ⟨?_, hd⟩, e⟩
        rw [sortL_mem, hlots]
        exact hl'
  · have h1 := (List.mem_filter.1 hl').1
    rw [hlots] at h1
    exact h.nm.l l h1
theorem number_le (c : List UInt8) : numberI c ≤ 100000 := by
  unfold numberI
  repeat' split
  all_goals omega
theorem GoodL.order {s : SWorld} (h : GoodL s) (n : Int) (t : List UInt8) (ht : t.length ≤ 2000000) : GoodL (orderS s n t).2 := by
  have hnm := h.nm.order n t ht
  revert hnm
  have tell : ∀ (k : Nat) (p : SPlayer) a b c, s.players[k]? = some p → NmS (tellS s k p a b c).2 → GoodL (tellS s k p a b c).2 := by
    intro k p a b c hp hnm
    obtain ⟨h1, h2, h3⟩ := tell_bn s k p a b c hp
    refine ⟨by rw [h3]; exact h.now, by rw [h3]; exact h.wf.tell k p a b c hp, ?_, hnm, ?_⟩
    · rw [bn_bids h1, h2, h3]
      exact h.lw
    · unfold tellS
      repeat' split
      all_goals first
        | exact h.cov
        | exact h.cov.setPl k (show stakedI p.bids emptyB ≤ p.money from h.cov p (List.mem_of_getElem? hp))
  have bid : ∀ (k : Nat) (p : SPlayer) (nm : ByteArray) (x : Int), s.players[k]? = some p → 0 ≤ x → x ≤ 100000 → NmS (bidS s k p nm x).2 → GoodL (bidS s k p nm x).2 := by
    intro k p nm x hp hx0 hx1
    unfold bidS
    split
    · rename_i ho
      split
      · exact fun _ => h
      · rename_i hmon
        intro hnm
        have hmem := List.mem_of_getElem? hp
        have pk := h.wf.each p hmem
        have hnl : nm ∈ s.lots.map (·.name) := by
          unfold openB at ho
          rw [List.any_eq_true] at ho
          obtain ⟨l, hl, e⟩ := ho
          exact List.mem_map.2 ⟨l, hl, eqS_iff.1 e⟩
        have he := lots_noempty h.lw
        have hbo : BidsOK (s.lots.map (·.name)) p.bids := h.lw.bids p.bids (List.mem_map_of_mem hmem)
        have hb2 := hbo.set hnl hx1
        have hne : nm ≠ emptyB := fun e => he (e ▸ hnl)
        refine ⟨h.now, h.wf.setPl k ⟨pk.un, pk.each, pk.mo, ⟨fun b hb => ?_, ?_⟩⟩, ?_, hnm, h.cov.setPl k ?_⟩
        · have := hb2.pos b hb
          omega
        · have h1 := hb2.len
          have h2 := h.lw.len
          rw [List.length_map] at h1
          show (setB p.bids nm x).length ≤ 1000
          omega
        · have e : (s.setPl k { p with bids := setB p.bids nm x }).players.map (·.bids) = (s.players.map (·.bids)).set k (setB p.bids nm x) := by simp [SWorld.setPl, List.map_set]
          show LotWF s.lots ((s.setPl k { p with bids := setB p.bids nm x }).players.map (·.bids)) s.now
          rw [e]
          exact h.lw.setBid (by simp [hp]) hnl hx1
        · show stakedI (setB p.bids nm x) emptyB ≤ p.money
          rw [staked_set he hbo hne hx0]
          omega
    · exact fun _ => h
  unfold orderS
  split
  · split
    · exact fun _ => h
    · rename_i p hp
      unfold wordsS
      split
      · split
        · exact fun hnm => tell _ _ _ _ _ hp hnm
        · exact fun _ => h
      · rename_i a b c e
        split
        · rename_i hc
          simp only [Bool.and_eq_true, decide_eq_true_eq] at hc
          exact fun hnm => bid _ _ _ _ hp hc.2 (number_le c) hnm
        · split
          · exact fun hnm => tell _ _ _ _ _ hp hnm
          · exact fun _ => h
      · exact fun _ => h
  · exact fun _ => h
/-- What Offer answers, and the world behind it. -/
def offerS (s : SWorld) (nm : ByteArray) (least ticks : Int) : Int × SWorld :=
  if nameB nm.data.toList then (if openB s.lots nm then (4, s) else if inB least 0 100000 && inB ticks 1 1000 then (if 4 ≤ s.lots.length then (6, s) else (0, { s with lots := s.lots ++ [⟨nm, least, s.now + ticks⟩] })) else (1, s)) else (2, s)
theorem name_ne {nm : ByteArray} (h : nameB nm.data.toList = true) : nm ≠ emptyB := by
  rintro rfl
  exact absurd h (by decide)
theorem openB_no {ls : List SLot} {nm : ByteArray} (h : openB ls nm = false) : ∀ l ∈ ls, l.name ≠ nm := by
  intro l hl e
  unfold openB at h
  rw [List.any_eq_false] at h
  exact h l hl (eqS_iff.2 e)
theorem GoodL.offer {s : SWorld} (h : GoodL s) (nm : ByteArray) (least ticks : Int) (hs : nm.size ≤ 2000000) : GoodL (offerS s nm least ticks).2 := by
  unfold offerS
  split
  · rename_i hnm
    split
    · exact h
    · rename_i ho
      split
      · rename_i hb
        split
        · exact h
        · rename_i h4
          simp only [inB, Bool.and_eq_true, decide_eq_true_eq] at hb
          refine ⟨h.now, ⟨h.wf.pl, h.wf.wd, h.wf.ht, h.wf.orn, h.wf.ora, h.wf.each⟩, ?_, ⟨h.nm.u, fun l hl => ?_⟩, h.cov⟩
          · exact h.lw.offer (openB_no (by simpa using ho)) (name_ne hnm) ⟨hb.1.1, hb.1.2⟩ ⟨hb.2.1, hb.2.2⟩ (by omega)
          · rcases List.mem_append.1 hl with hl | hl
            · exact h.nm.l l hl
            · obtain rfl := List.mem_singleton.1 hl
              exact hs
      · exact h
  · exact h
end Go.Proofs.YtlafddeoheambaaDoor

/-
  The function Close of package lots: who gets a lot, and for how much, in one pass.
-/
namespace Go.Proofs.YtlafddeoheambaaDoor
open Go.RowKit

/-- A lot's cells. -/
structure LotAt (w : World) (g o : Nat) (l : XLot) : Prop where
  c0 : w.cell? ⟨g, o, none⟩ = some (.string l.name)
  c1 : w.cell? ⟨g, o + 1, none⟩ = some (.int .i64 l.ends)
  c2 : w.cell? ⟨g, o + 2, none⟩ = some (.int .i64 l.least)
  c3 : w.cell? ⟨g, o + 3, none⟩ = some (.int .i64 (l.bid 0))
  c4 : w.cell? ⟨g, o + 4, none⟩ = some (.int .i64 (l.bid 1))
  c5 : w.cell? ⟨g, o + 5, none⟩ = some (.int .i64 (l.bid 2))
  c6 : w.cell? ⟨g, o + 6, none⟩ = some (.int .i64 (l.bid 3))
theorem LotAt.below {w w' : World} {g o : Nat} {l : XLot} (h : LotAt w g o l) (hb : Below w.heap.size w w') : LotAt w' g o l := by
  have lt := block_lt_of_cell h.c0
  exact ⟨(hb.cell (p := ⟨g, o, none⟩) lt).trans h.c0, (hb.cell (p := ⟨g, o + 1, none⟩) lt).trans h.c1, (hb.cell (p := ⟨g, o + 2, none⟩) lt).trans h.c2, (hb.cell (p := ⟨g, o + 3, none⟩) lt).trans h.c3, (hb.cell (p := ⟨g, o + 4, none⟩) lt).trans h.c4, (hb.cell (p := ⟨g, o + 5, none⟩) lt).trans h.c5, (hb.cell (p := ⟨g, o + 6, none⟩) lt).trans h.c6⟩
theorem lot_at {w : World} {g cap : Nat} {l : List XLot} (h : w.ownsRow 0 93 7 (.slice (some ⟨g, 0, none⟩) l.length cap) l.length (l.flatMap xlotCells)) {k : Nat} {x : XLot} (hk : l[k]? = some x) : LotAt w g (k * 7) x := by
  obtain ⟨hl, rfl⟩ := at_some hk
  have f := fun j (hj : j < 7) => flat_at xlotCells 7 (fun _ => rfl) l k j hl hj
  have c := fun j (hj : j < 7) u (hu : (xlotCells l[k])[j]? = some u) => own_cell h ((f j hj).trans hu)
  exact ⟨c 0 (by omega) _ rfl, c 1 (by omega) _ rfl, c 2 (by omega) _ rfl, c 3 (by omega) _ rfl, c 4 (by omega) _ rfl, c 5 (by omega) _ rfl, c 6 (by omega) _ rfl⟩
/-- The sale so far, in a block of its own. -/
structure SaleAt (w w' : World) (nm : ByteArray) (who price : Int) : Prop where
  b : Below w.heap.size w w'
  s : w'.heap[w.heap.size + 1]? = some (.cells #[.string nm, .int .i64 who, .int .i64 price] 106 (0, 0))
  z : w'.heap[w.heap.size]? = some (.cells #[.string ⟨#[]⟩, .int .i64 0, .int .i64 0] 106 (0, 0))
theorem SaleAt.drewN {w w' : World} {nm : ByteArray} {who price : Int} (h : SaleAt w w' nm who price) (n : Nat) : SaleAt w (w'.drewN n) nm who price := ⟨⟨h.b.os, h.b.tape, h.b.output, h.b.size, h.b.block⟩, h.s, h.z⟩
theorem SaleAt.first (w : World) (nm : ByteArray) : SaleAt w ((w.alloc (.cells #[.string ⟨#[]⟩, .int .i64 0, .int .i64 0] 106)).alloc (.cells #[.string nm, .int .i64 (-1), .int .i64 0] 106)) nm (-1) 0 := by
  have s1 : (w.alloc (.cells #[.string ⟨#[]⟩, .int .i64 0, .int .i64 0] 106)).heap.size = w.heap.size + 1 := by simp
  have h1 := Go.heap_alloc_new w (.cells #[.string ⟨#[]⟩, .int .i64 0, .int .i64 0] 106)
  have h2 := Go.heap_alloc_new (w.alloc (.cells #[.string ⟨#[]⟩, .int .i64 0, .int .i64 0] 106)) (.cells #[.string nm, .int .i64 (-1), .int .i64 0] 106)
  rw [s1] at h2
  exact ⟨((Below.refl _ w).alloc (Nat.le_refl _) _).alloc (by simp) _, h2, by rw [Below.heap_alloc _ _ _ (by simp), h1]⟩
theorem SaleAt.cells {w w' : World} {nm : ByteArray} {who price : Int} (h : SaleAt w w' nm who price) : w'.cell? ⟨w.heap.size + 1, 0, none⟩ = some (.string nm) ∧ w'.cell? ⟨w.heap.size + 1, 1, none⟩ = some (.int .i64 who) ∧ w'.cell? ⟨w.heap.size + 1, 2, none⟩ = some (.int .i64 price) ∧ (∀ j, w'.frozen? ⟨w.heap.size + 1, j, none⟩ = false) ∧ (∀ j, w'.frozen? ⟨w.heap.size, j, none⟩ = false) ∧ w'.cell? ⟨w.heap.size, 0, none⟩ = some (.string ⟨#[]⟩) ∧ w'.cell? ⟨w.heap.size, 1, none⟩ = some (.int .i64 0) ∧ w'.cell? ⟨w.heap.size, 2, none⟩ = some (.int .i64 0) :=
  ⟨by rw [cell_of_row _ _ _ _ _ _ h.s]; rfl, by rw [cell_of_row _ _ _ _ _ _ h.s]; rfl, by rw [cell_of_row _ _ _ _ _ _ h.s]; rfl, fun j => by simp [World.frozen?, h.s], fun j => by simp [World.frozen?, h.z], by rw [cell_of_row _ _ _ _ _ _ h.z]; rfl, by rw [cell_of_row _ _ _ _ _ _ h.z]; rfl, by rw [cell_of_row _ _ _ _ _ _ h.z]; rfl⟩
theorem SaleAt.set {w w' : World} {nm : ByteArray} {who price : Int} (h : SaleAt w w' nm who price) (a b : Int) : SaleAt w ((w'.setCell ⟨w.heap.size + 1, 1, none⟩ (.int .i64 a)).setCell ⟨w.heap.size + 1, 2, none⟩ (.int .i64 b)) nm a b := by
  refine ⟨(h.b.setCell (p := ⟨w.heap.size + 1, 1, none⟩) (by show w.heap.size ≤ w.heap.size + 1; omega) _).setCell (p := ⟨w.heap.size + 1, 2, none⟩) (by show w.heap.size ≤ w.heap.size + 1; omega) _, ?_, ?_⟩
  · rw [cells_set (cells_set h.s)]
    rfl
  · rw [setCell_far _ _ _ _ _ (by omega), setCell_far _ _ _ _ _ (by omega), h.z]
theorem SaleAt.set2 {w w' : World} {nm : ByteArray} {who price : Int} (h : SaleAt w w' nm who price) (b : Int) : SaleAt w (w'.setCell ⟨w.heap.size + 1, 2, none⟩ (.int .i64 b)) nm who b := by
  refine ⟨h.b.setCell (p := ⟨w.heap.size + 1, 2, none⟩) (by show w.heap.size ≤ w.heap.size + 1; omega) _, ?_, ?_⟩
  · rw [cells_set h.s]
    rfl
  · rw [setCell_far _ _ _ _ _ (by omega), h.z]
theorem close_bd (bid : Nat → Int) (least : Int) (n : Nat) : -1 ≤ (closeTo bid least n).1 ∧ (closeTo bid least n).1 < n := by
  induction n with
  | zero => exact ⟨Int.le_refl _, show (-1 : Int) < 0 by omega⟩
  | succ n ih =>
    simp only [closeTo]
    repeat' split
    all_goals (push_cast; omega)

theorem Tryd.sizeSale : (Tryd.prog.info? 106).map (·.size) = some 3 := by kernel_rfl
theorem ix0_any (a b c d : Int) (w : World) : (Instr.index 91 (.agg #[.int .i64 a, .int .i64 b, .int .i64 c, .int .i64 d]) (.int .i64 0)).run Tryd.prog w = .ok (.int .i64 a) w := by
  simp [Instr.index, run_underlying Tryd.underlying91, asIntOf, go_sem]
theorem ix1_any (a b c d : Int) (w : World) : (Instr.index 91 (.agg #[.int .i64 a, .int .i64 b, .int .i64 c, .int .i64 d]) (.int .i64 1)).run Tryd.prog w = .ok (.int .i64 b) w := by
  simp [Instr.index, run_underlying Tryd.underlying91, asIntOf, go_sem]
theorem ix2_any (a b c d : Int) (w : World) : (Instr.index 91 (.agg #[.int .i64 a, .int .i64 b, .int .i64 c, .int .i64 d]) (.int .i64 2)).run Tryd.prog w = .ok (.int .i64 c) w := by
  simp [Instr.index, run_underlying Tryd.underlying91, asIntOf, go_sem]
theorem ix3_any (a b c d : Int) (w : World) : (Instr.index 91 (.agg #[.int .i64 a, .int .i64 b, .int .i64 c, .int .i64 d]) (.int .i64 3)).run Tryd.prog w = .ok (.int .i64 d) w := by
  simp [Instr.index, run_underlying Tryd.underlying91, asIntOf, go_sem]

set_option maxRecDepth 100000 in
set_option maxHeartbeats 8000000 in
theorem lclose_any (w : World) (g o : Nat) (l : XLot) (h : LotAt w g o l) :
    Calls Tryd.prog 51 #[.pointer (some ⟨g, o, none⟩)] w fun e w' => e = .returned (.agg #[.string l.name, .int .i64 (closeTo l.bid l.least 4).1, .int .i64 (closeTo l.bid l.least 4).2.1]) ∧ Below w.heap.size w w' := by
  have HL : Hid (∀ wx, Below w.heap.size w wx → LotAt wx g o l) := fun wx hb => h.below hb
  obtain ⟨c0, c1, c2, c3, c4, c5, c6⟩ := h
  have HF := hidOf (SaleAt.first w l.name)
  have hgl := block_lt_of_cell c0
  go_enter Tryd.func51, Tryd.ntmps51
  go_wp2_with fail
  clear c0 c1 c2 c3 c4 c5 c6
  go_loopw [4, 5, 6, 16, 20, 31, 43, 52] (fun hi _ _ i _ _ _ _ w' => ∃ m : Nat, m ≤ 4 ∧ i = .int .i64 m ∧ hi = .int .i64 (closeTo l.bid l.least m).2.2 ∧ Hid (SaleAt w w' l.name (closeTo l.bid l.least m).1 (closeTo l.bid l.least m).2.1)) (fun _ _ _ i _ _ _ _ _ => 5 - (intOf i).toNat)
  case atStart => exact ⟨0, by omega, rfl, rfl, HF⟩
  case round =>
    obtain ⟨m, hm, rfl, rfl, hS⟩ := hrel
    clear HF
    obtain ⟨s0, s1, s2, sf, zf, z0, z1, z2⟩ := hS.out.cells
    have c2 := (HL.out wr hS.out.b).c2
    by_cases hm4 : m < 4
    · have hm4' : (m : Int) < 4 := by omega
      have hstep : closeTo l.bid l.least (m + 1) = (if l.bid m = 0 ∨ l.bid m < l.least then closeTo l.bid l.least m else if (closeTo l.bid l.least m).1 = -1 then ((m : Int), l.least, l.bid m) else if (closeTo l.bid l.least m).2.2 < l.bid m then ((m : Int), (closeTo l.bid l.least m).2.2, l.bid m) else if (closeTo l.bid l.least m).2.1 < l.bid m then ((closeTo l.bid l.least m).1, l.bid m, (closeTo l.bid l.least m).2.2) else closeTo l.bid l.least m) := rfl
      obtain ⟨⟨wh, pr, hg⟩, hr⟩ : ∃ r, r = closeTo l.bid l.least m := ⟨_, rfl⟩
      rw [← hr] at hstep hS s1 s2
      rw [← hr]
      simp only at hstep hS s1 s2 ⊢
      have HStep := hidOf hstep
      have HR := hidOf hr
      clear hr hstep
      have hcs : m = 0 ∨ m = 1 ∨ m = 2 ∨ m = 3 := by omega
      rcases hcs with rfl | rfl | rfl | rfl
      · have HStep : Hid (closeTo l.bid l.least (0 + 1) = (if l.bid 0 = 0 ∨ l.bid 0 < l.least then (wh, pr, hg) else if wh = -1 then (((0 : Nat) : Int), l.least, l.bid 0) else if hg < l.bid 0 then (((0 : Nat) : Int), hg, l.bid 0) else if pr < l.bid 0 then (wh, l.bid 0, hg) else (wh, pr, hg))) := HStep
        go_wp2_with fail
        rw [ix0_any]
        by_cases h0 : (l.bid 0) = 0
        · have HN : Hid (closeTo l.bid l.least (0 + 1) = (wh, pr, hg)) := by unfold Hid; rw [HStep.out, if_pos (.inl h0)]
          have e0 : ((l.bid 0) == 0) = true := by simpa using h0
          clear HStep h0
          go_wp2
          exact ⟨⟨0 + 1, by omega, by go_num, by rw [HN.out], by rw [HN.out]; exact hS⟩, by simp [intOf]⟩
        · have e0 : ((l.bid 0) == 0) = false := by simpa using h0
          by_cases h1 : (l.bid 0) < l.least
          · have HN : Hid (closeTo l.bid l.least (0 + 1) = (wh, pr, hg)) := by unfold Hid; rw [HStep.out, if_pos (.inr h1)]
            have e1 : decide ((l.bid 0) < l.least) = true := decide_eq_true h1
            clear HStep h0 h1
            go_wp2
            exact ⟨⟨0 + 1, by omega, by go_num, by rw [HN.out], by rw [HN.out]; exact hS⟩, by simp [intOf]⟩
          · have e1 : decide ((l.bid 0) < l.least) = false := decide_eq_false h1
            have HStep2 : Hid (closeTo l.bid l.least (0 + 1) = (if wh = -1 then (((0 : Nat) : Int), l.least, (l.bid 0)) else if hg < (l.bid 0) then (((0 : Nat) : Int), hg, (l.bid 0)) else if pr < (l.bid 0) then (wh, (l.bid 0), hg) else (wh, pr, hg))) := by unfold Hid; rw [HStep.out, if_neg (by omega)]
            clear HStep h0 h1
            by_cases h2 : wh = -1
            · have HN : Hid (closeTo l.bid l.least (0 + 1) = (((0 : Nat) : Int), l.least, (l.bid 0))) := by unfold Hid; rw [HStep2.out, if_pos h2]
              subst h2
              have hS2 := hidOf (hS.out.set 0 l.least)
              clear HStep2
              go_wp2_with fail
              go_region
              all_goals
                go_wp2
                exact ⟨⟨0 + 1, by omega, by go_num, by rw [HN.out], by rw [HN.out]; exact hS2.out.drewN _⟩, by simp [intOf]⟩
            · have e2 : (wh == -1) = false := by simpa using h2
              by_cases h3 : hg < (l.bid 0)
              · have HN : Hid (closeTo l.bid l.least (0 + 1) = (((0 : Nat) : Int), hg, (l.bid 0))) := by unfold Hid; rw [HStep2.out, if_neg h2, if_pos h3]
                have e3 : decide (hg < (l.bid 0)) = true := decide_eq_true h3
                have hS2 := hidOf (hS.out.set 0 hg)
                clear HStep2 h2 h3
                go_wp2
                exact ⟨⟨0 + 1, by omega, by go_num, by rw [HN.out], by rw [HN.out]; exact hS2⟩, by simp [intOf]⟩
              · have e3 : decide (hg < (l.bid 0)) = false := decide_eq_false h3
                by_cases h4 : pr < (l.bid 0)
                · have HN : Hid (closeTo l.bid l.least (0 + 1) = (wh, (l.bid 0), hg)) := by unfold Hid; rw [HStep2.out, if_neg h2, if_neg h3, if_pos h4]
                  have e4 : decide (pr < (l.bid 0)) = true := decide_eq_true h4
                  have hS2 := hidOf (hS.out.set2 (l.bid 0))
                  clear HStep2 h2 h3 h4
                  go_wp2
                  exact ⟨⟨0 + 1, by omega, by go_num, by rw [HN.out], by rw [HN.out]; exact hS2⟩, by simp [intOf]⟩
                · have HN : Hid (closeTo l.bid l.least (0 + 1) = (wh, pr, hg)) := by unfold Hid; rw [HStep2.out, if_neg h2, if_neg h3, if_neg h4]
                  have e4 : decide (pr < (l.bid 0)) = false := decide_eq_false h4
                  clear HStep2 h2 h3 h4
                  go_wp2
                  exact ⟨⟨0 + 1, by omega, by go_num, by rw [HN.out], by rw [HN.out]; exact hS⟩, by simp [intOf]⟩
      · have HStep : Hid (closeTo l.bid l.least (1 + 1) = (if l.bid 1 = 0 ∨ l.bid 1 < l.least then (wh, pr, hg) else if wh = -1 then (((1 : Nat) : Int), l.least, l.bid 1) else if hg < l.bid 1 then (((1 : Nat) : Int), hg, l.bid 1) else if pr < l.bid 1 then (wh, l.bid 1, hg) else (wh, pr, hg))) := HStep
        go_wp2_with fail
        rw [ix1_any]
        by_cases h0 : (l.bid 1) = 0
        · have HN : Hid (closeTo l.bid l.least (1 + 1) = (wh, pr, hg)) := by unfold Hid; rw [HStep.out, if_pos (.inl h0)]
          have e0 : ((l.bid 1) == 0) = true := by simpa using h0
          clear HStep h0
          go_wp2
          exact ⟨⟨1 + 1, by omega, by go_num, by rw [HN.out], by rw [HN.out]; exact hS⟩, by simp [intOf]⟩
        · have e0 : ((l.bid 1) == 0) = false := by simpa using h0
          by_cases h1 : (l.bid 1) < l.least
          · have HN : Hid (closeTo l.bid l.least (1 + 1) = (wh, pr, hg)) := by unfold Hid; rw [HStep.out, if_pos (.inr h1)]
            have e1 : decide ((l.bid 1) < l.least) = true := decide_eq_true h1
            clear HStep h0 h1
            go_wp2
            exact ⟨⟨1 + 1, by omega, by go_num, by rw [HN.out], by rw [HN.out]; exact hS⟩, by simp [intOf]⟩
          · have e1 : decide ((l.bid 1) < l.least) = false := decide_eq_false h1
            have HStep2 : Hid (closeTo l.bid l.least (1 + 1) = (if wh = -1 then (((1 : Nat) : Int), l.least, (l.bid 1)) else if hg < (l.bid 1) then (((1 : Nat) : Int), hg, (l.bid 1)) else if pr < (l.bid 1) then (wh, (l.bid 1), hg) else (wh, pr, hg))) := by unfold Hid; rw [HStep.out, if_neg (by omega)]
            clear HStep h0 h1
            by_cases h2 : wh = -1
            · have HN : Hid (closeTo l.bid l.least (1 + 1) = (((1 : Nat) : Int), l.least, (l.bid 1))) := by unfold Hid; rw [HStep2.out, if_pos h2]
              subst h2
              have hS2 := hidOf (hS.out.set 1 l.least)
              clear HStep2
              go_wp2_with fail
              go_region
              all_goals
                go_wp2
                exact ⟨⟨1 + 1, by omega, by go_num, by rw [HN.out], by rw [HN.out]; exact hS2.out.drewN _⟩, by simp [intOf]⟩
            · have e2 : (wh == -1) = false := by simpa using h2
              by_cases h3 : hg < (l.bid 1)
              · have HN : Hid (closeTo l.bid l.least (1 + 1) = (((1 : Nat) : Int), hg, (l.bid 1))) := by unfold Hid; rw [HStep2.out, if_neg h2, if_pos h3]
                have e3 : decide (hg < (l.bid 1)) = true := decide_eq_true h3
                have hS2 := hidOf (hS.out.set 1 hg)
                clear HStep2 h2 h3
                go_wp2
                exact ⟨⟨1 + 1, by omega, by go_num, by rw [HN.out], by rw [HN.out]; exact hS2⟩, by simp [intOf]⟩
              · have e3 : decide (hg < (l.bid 1)) = false := decide_eq_false h3
                by_cases h4 : pr < (l.bid 1)
                · have HN : Hid (closeTo l.bid l.least (1 + 1) = (wh, (l.bid 1), hg)) := by unfold Hid; rw [HStep2.out, if_neg h2, if_neg h3, if_pos h4]
                  have e4 : decide (pr < (l.bid 1)) = true := decide_eq_true h4
                  have hS2 := hidOf (hS.out.set2 (l.bid 1))
                  clear HStep2 h2 h3 h4
                  go_wp2
                  exact ⟨⟨1 + 1, by omega, by go_num, by rw [HN.out], by rw [HN.out]; exact hS2⟩, by simp [intOf]⟩
                · have HN : Hid (closeTo l.bid l.least (1 + 1) = (wh, pr, hg)) := by unfold Hid; rw [HStep2.out, if_neg h2, if_neg h3, if_neg h4]
                  have e4 : decide (pr < (l.bid 1)) = false := decide_eq_false h4
                  clear HStep2 h2 h3 h4
                  go_wp2
                  exact ⟨⟨1 + 1, by omega, by go_num, by rw [HN.out], by rw [HN.out]; exact hS⟩, by simp [intOf]⟩
      · have HStep : Hid (closeTo l.bid l.least (2 + 1) = (if l.bid 2 = 0 ∨ l.bid 2 < l.least then (wh, pr, hg) else if wh = -1 then (((2 : Nat) : Int), l.least, l.bid 2) else if hg < l.bid 2 then (((2 : Nat) : Int), hg, l.bid 2) else if pr < l.bid 2 then (wh, l.bid 2, hg) else (wh, pr, hg))) := HStep
        go_wp2_with fail
        rw [ix2_any]
        by_cases h0 : (l.bid 2) = 0
        · have HN : Hid (closeTo l.bid l.least (2 + 1) = (wh, pr, hg)) := by unfold Hid; rw [HStep.out, if_pos (.inl h0)]
          have e0 : ((l.bid 2) == 0) = true := by simpa using h0
          clear HStep h0
          go_wp2
          exact ⟨⟨2 + 1, by omega, by go_num, by rw [HN.out], by rw [HN.out]; exact hS⟩, by simp [intOf]⟩
        · have e0 : ((l.bid 2) == 0) = false := by simpa using h0
          by_cases h1 : (l.bid 2) < l.least
          · have HN : Hid (closeTo l.bid l.least (2 + 1) = (wh, pr, hg)) := by unfold Hid; rw [HStep.out, if_pos (.inr h1)]
            have e1 : decide ((l.bid 2) < l.least) = true := decide_eq_true h1
            clear HStep h0 h1
            go_wp2
            exact ⟨⟨2 + 1, by omega, by go_num, by rw [HN.out], by rw [HN.out]; exact hS⟩, by simp [intOf]⟩
          · have e1 : decide ((l.bid 2) < l.least) = false := decide_eq_false h1
            have HStep2 : Hid (closeTo l.bid l.least (2 + 1) = (if wh = -1 then (((2 : Nat) : Int), l.least, (l.bid 2)) else if hg < (l.bid 2) then (((2 : Nat) : Int), hg, (l.bid 2)) else if pr < (l.bid 2) then (wh, (l.bid 2), hg) else (wh, pr, hg))) := by unfold Hid; rw [HStep.out, if_neg (by omega)]
            clear HStep h0 h1
            by_cases h2 : wh = -1
            · have HN : Hid (closeTo l.bid l.least (2 + 1) = (((2 : Nat) : Int), l.least, (l.bid 2))) := by unfold Hid; rw [HStep2.out, if_pos h2]
              subst h2
              have hS2 := hidOf (hS.out.set 2 l.least)
              clear HStep2
              go_wp2_with fail
              go_region
              all_goals
                go_wp2
                exact ⟨⟨2 + 1, by omega, by go_num, by rw [HN.out], by rw [HN.out]; exact hS2.out.drewN _⟩, by simp [intOf]⟩
            · have e2 : (wh == -1) = false := by simpa using h2
              by_cases h3 : hg < (l.bid 2)
              · have HN : Hid (closeTo l.bid l.least (2 + 1) = (((2 : Nat) : Int), hg, (l.bid 2))) := by unfold Hid; rw [HStep2.out, if_neg h2, if_pos h3]
                have e3 : decide (hg < (l.bid 2)) = true := decide_eq_true h3
                have hS2 := hidOf (hS.out.set 2 hg)
                clear HStep2 h2 h3
                go_wp2
                exact ⟨⟨2 + 1, by omega, by go_num, by rw [HN.out], by rw [HN.out]; exact hS2⟩, by simp [intOf]⟩
              · have e3 : decide (hg < (l.bid 2)) = false := decide_eq_false h3
                by_cases h4 : pr < (l.bid 2)
                · have HN : Hid (closeTo l.bid l.least (2 + 1) = (wh, (l.bid 2), hg)) := by unfold Hid; rw [HStep2.out, if_neg h2, if_neg h3, if_pos h4]
                  have e4 : decide (pr < (l.bid 2)) = true := decide_eq_true h4
                  have hS2 := hidOf (hS.out.set2 (l.bid 2))
                  clear HStep2 h2 h3 h4
                  go_wp2
                  exact ⟨⟨2 + 1, by omega, by go_num, by rw [HN.out], by rw [HN.out]; exact hS2⟩, by simp [intOf]⟩
                · have HN : Hid (closeTo l.bid l.least (2 + 1) = (wh, pr, hg)) := by unfold Hid; rw [HStep2.out, if_neg h2, if_neg h3, if_neg h4]
                  have e4 : decide (pr < (l.bid 2)) = false := decide_eq_false h4
                  clear HStep2 h2 h3 h4
                  go_wp2
                  exact ⟨⟨2 + 1, by omega, by go_num, by rw [HN.out], by rw [HN.out]; exact hS⟩, by simp [intOf]⟩
      · have HStep : Hid (closeTo l.bid l.least (3 + 1) = (if l.bid 3 = 0 ∨ l.bid 3 < l.least then (wh, pr, hg) else if wh = -1 then (((3 : Nat) : Int), l.least, l.bid 3) else if hg < l.bid 3 then (((3 : Nat) : Int), hg, l.bid 3) else if pr < l.bid 3 then (wh, l.bid 3, hg) else (wh, pr, hg))) := HStep
        go_wp2_with fail
        rw [ix3_any]
        by_cases h0 : (l.bid 3) = 0
        · have HN : Hid (closeTo l.bid l.least (3 + 1) = (wh, pr, hg)) := by unfold Hid; rw [HStep.out, if_pos (.inl h0)]
          have e0 : ((l.bid 3) == 0) = true := by simpa using h0
          clear HStep h0
          go_wp2
          exact ⟨⟨3 + 1, by omega, by go_num, by rw [HN.out], by rw [HN.out]; exact hS⟩, by simp [intOf]⟩
        · have e0 : ((l.bid 3) == 0) = false := by simpa using h0
          by_cases h1 : (l.bid 3) < l.least
          · have HN : Hid (closeTo l.bid l.least (3 + 1) = (wh, pr, hg)) := by unfold Hid; rw [HStep.out, if_pos (.inr h1)]
            have e1 : decide ((l.bid 3) < l.least) = true := decide_eq_true h1
            clear HStep h0 h1
            go_wp2
            exact ⟨⟨3 + 1, by omega, by go_num, by rw [HN.out], by rw [HN.out]; exact hS⟩, by simp [intOf]⟩
          · have e1 : decide ((l.bid 3) < l.least) = false := decide_eq_false h1
            have HStep2 : Hid (closeTo l.bid l.least (3 + 1) = (if wh = -1 then (((3 : Nat) : Int), l.least, (l.bid 3)) else if hg < (l.bid 3) then (((3 : Nat) : Int), hg, (l.bid 3)) else if pr < (l.bid 3) then (wh, (l.bid 3), hg) else (wh, pr, hg))) := by unfold Hid; rw [HStep.out, if_neg (by omega)]
            clear HStep h0 h1
            by_cases h2 : wh = -1
            · have HN : Hid (closeTo l.bid l.least (3 + 1) = (((3 : Nat) : Int), l.least, (l.bid 3))) := by unfold Hid; rw [HStep2.out, if_pos h2]
              subst h2
              have hS2 := hidOf (hS.out.set 3 l.least)
              clear HStep2
              go_wp2_with fail
              go_region
              all_goals
                go_wp2
                exact ⟨⟨3 + 1, by omega, by go_num, by rw [HN.out], by rw [HN.out]; exact hS2.out.drewN _⟩, by simp [intOf]⟩
            · have e2 : (wh == -1) = false := by simpa using h2
              by_cases h3 : hg < (l.bid 3)
              · have HN : Hid (closeTo l.bid l.least (3 + 1) = (((3 : Nat) : Int), hg, (l.bid 3))) := by unfold Hid; rw [HStep2.out, if_neg h2, if_pos h3]
                have e3 : decide (hg < (l.bid 3)) = true := decide_eq_true h3
                have hS2 := hidOf (hS.out.set 3 hg)
                clear HStep2 h2 h3
                go_wp2
                exact ⟨⟨3 + 1, by omega, by go_num, by rw [HN.out], by rw [HN.out]; exact hS2⟩, by simp [intOf]⟩
              · have e3 : decide (hg < (l.bid 3)) = false := decide_eq_false h3
                by_cases h4 : pr < (l.bid 3)
                · have HN : Hid (closeTo l.bid l.least (3 + 1) = (wh, (l.bid 3), hg)) := by unfold Hid; rw [HStep2.out, if_neg h2, if_neg h3, if_pos h4]
                  have e4 : decide (pr < (l.bid 3)) = true := decide_eq_true h4
                  have hS2 := hidOf (hS.out.set2 (l.bid 3))
                  clear HStep2 h2 h3 h4
                  go_wp2
                  exact ⟨⟨3 + 1, by omega, by go_num, by rw [HN.out], by rw [HN.out]; exact hS2⟩, by simp [intOf]⟩
                · have HN : Hid (closeTo l.bid l.least (3 + 1) = (wh, pr, hg)) := by unfold Hid; rw [HStep2.out, if_neg h2, if_neg h3, if_neg h4]
                  have e4 : decide (pr < (l.bid 3)) = false := decide_eq_false h4
                  clear HStep2 h2 h3 h4
                  go_wp2
                  exact ⟨⟨3 + 1, by omega, by go_num, by rw [HN.out], by rw [HN.out]; exact hS⟩, by simp [intOf]⟩
    · have hm5 : m = 4 := by omega
      subst hm5
      obtain ⟨⟨wh, pr, hg⟩, hr⟩ : ∃ r, r = closeTo l.bid l.least 4 := ⟨_, rfl⟩
      rw [← hr] at hS s1 s2 ⊢
      simp only at hS s1 s2 ⊢
      have HBl := hidOf hS.out.b
      have hlt : decide ((((4 : Nat) : Int)) < 4) = false := by decide
      have h3 : Hid ((((wr.setCell ⟨w.heap.size, 0, none⟩ (.string l.name)).setCell ⟨w.heap.size, 1, none⟩ (.int .i64 wh)).setCell ⟨w.heap.size, 2, none⟩ (.int .i64 pr)).heap[w.heap.size]? = some (.cells #[.string l.name, .int .i64 wh, .int .i64 pr] 106 (0, 0))) := by
        unfold Hid
        rw [cells_set (cells_set (cells_set hS.out.z))]
        rfl
      have HR := hidOf hr
      clear hr
      go_wp2
      refine bodyPost_ret (results_cell_row rfl _ _ w.heap.size 106 _ (0, 0) _ rfl h3.out Tryd.underlying106 rfl Tryd.sizeSale) rfl ?_
      refine ⟨by rw [← HR.out], ?_⟩
      exact ((HBl.out.setCell (p := ⟨w.heap.size, 0, none⟩) (Nat.le_refl _) _).setCell (p := ⟨w.heap.size, 1, none⟩) (Nat.le_refl _) _).setCell (p := ⟨w.heap.size, 2, none⟩) (Nat.le_refl _) _
end Go.Proofs.YtlafddeoheambaaDoor

/-
  The function closeLots of package haze.
-/
namespace Go.Proofs.YtlafddeoheambaaDoor
open Go.RowKit

theorem Tryd.infoLot : (Tryd.prog.info? 93).map (fun i => (i.zero, i.size, i.bytes)) = some (some (.agg #[.string ⟨#[]⟩, .int .i64 0, .int .i64 0, .int .i64 0, .int .i64 0, .int .i64 0, .int .i64 0]), 7, 64) := by kernel_rfl
theorem Tryd.infoSale : (Tryd.prog.info? 106).map (fun i => (i.zero, i.size, i.bytes)) = some (some (.agg #[.string ⟨#[]⟩, .int .i64 0, .int .i64 0]), 3, 32) := by kernel_rfl
/-- What closeLots asks of the world. -/
structure ClA (X : XW) : Prop where
  pl : 2 ≤ X.pls.length ∧ X.pls.length ≤ 4
  mo : ∀ p ∈ X.S.players, -1000000000000 ≤ p.money ∧ p.money ≤ 1000000000000
  ap : Apart X.lots
  len : X.lots.length ≤ 4
  lst : ∀ l ∈ X.lots, 0 ≤ l.least ∧ l.least ≤ 100000
  en : ∀ l ∈ X.lots, X.S.now ≤ l.ends
  bd : ∀ l ∈ X.opens, ∀ i, 0 ≤ l.bid i ∧ l.bid i ≤ 100000
theorem clK_first {w : World} {X : XW} (hr : RepX w X) (hO : OkX X) (hn : ∀ p ∈ X.S.players, p.news = []) : ClK w X (w.setCell ⟨X.b, 8, none⟩ (.slice none 0 0)) 0 (X.withL X.vOp X.opens (.slice none 0 0) [] X.R) (.slice none 0 0) := by
  have hb0 : blk (.slice none 0 0) = [] := rfl
  have R := hr.roles
  have nop : ∀ r ∈ blk X.vOp, r ≠ X.b := fun r hr' e => by
    have h1 := R.lot.1 r hr'
    rw [e, R.b] at h1
    cases h1
  have ht : (w.setCell ⟨X.b, 8, none⟩ (.slice none 0 0)).heap[X.b]? = some (.cells (X.withL X.vOp X.opens (.slice none 0 0) [] X.R).cells 73 (0, 0)) := by
    rw [cells_set hr.top]
    rfl
  have hrep := hr.withL (v := X.vOp) (v' := .slice none 0 0) (l := X.opens) (l' := []) (R' := X.R) (w' := w.setCell ⟨X.b, 8, none⟩ (.slice none 0 0)) (fun r _ hb _ _ => setCell_far _ _ _ _ r hb) ht
    ⟨own_same hr.lot.1 (fun r hr' => setCell_far _ _ _ _ r (nop r hr')), ⟨rfl, .inl ⟨rfl, rfl⟩⟩⟩ (fun _ _ _ _ => rfl) ⟨fun r hr' => R.lot.1 r hr', by simp [hb0]⟩
  refine ⟨(TurnX.refl hr).withL hrep ((Kept.refl _ _).setCell _ _ _ (.inl xfoot_b)) (fun r hr' => .inl (by simp [XW.foot, hr'])) (by simp [hb0]), rfl, rfl, rfl, rfl, fun i q hq => ?_, hO.st, hO.ore, hO.dist, World.ownsRow_nil _ _ _ _, by simp [hb0]⟩
  have : q.1 ∈ X.S.players := List.mem_map_of_mem (List.mem_of_getElem? hq)
  exact hn _ this
theorem bel_drewN {B : Nat} {w w' : World} (h : Below B w w') (n : Nat) : Below B w (w'.drewN n) := ⟨h.os, h.tape, h.output, h.size, h.block⟩
theorem mem_mapIdx' {α β : Type} {f : Nat → α → β} {l : List α} {b : β} (h : b ∈ l.mapIdx f) : ∃ i a, l[i]? = some a ∧ b = f i a := by
  obtain ⟨i, hi⟩ := List.getElem?_of_mem h
  rw [List.getElem?_mapIdx, Option.map_eq_some_iff] at hi
  obtain ⟨a, h1, h2⟩ := hi
  exact ⟨i, a, h1, h2.symm⟩
/-- No player has more than it had, or much less. -/
theorem ClK.money {w : World} {X : XW} (hO : OkX X) (hA : ClA X) : ∀ (k : Nat), k ≤ X.opens.length → ∀ (w1 : World) (Xk : XW) (v : Value), ClK w X w1 k Xk v → ∀ p ∈ Xk.S.players, -1000000000000 - 100000 * (k : Int) ≤ p.money ∧ p.money ≤ 1000000000000 := by
  intro k
  have gen : ∀ k, k ≤ X.opens.length → (∀ p ∈ (soldTo X.S X.opens k).players, -1000000000000 - 100000 * (k : Int) ≤ p.money ∧ p.money ≤ 1000000000000) := by
    intro k
    induction k with
    | zero => intro _ p hp; have := hA.mo p hp; push_cast; omega
    | succ k ih =>
      intro hk p hp
      have ih' := ih (by omega)
      obtain ⟨l, hl⟩ : ∃ l, X.opens[k]? = some l := ⟨X.opens[k], by simp [show k < X.opens.length by omega]⟩
      cases ho : openX X.S.now l
      · rw [sold_yes hl ho] at hp
        have hm := List.mem_of_getElem? hl
        have hb : ∀ i, bidsOf (soldTo X.S X.opens k).players l.name i = l.bid i := by
          intro i
          have hn : l.name ∉ (dueTo X.opens X.S.now k).map (·.name) := by
            intro hm'
            obtain ⟨x, hx, e⟩ := List.mem_map.1 hm'
            have hx2 : x ∈ X.opens.take k := (List.mem_filter.1 hx).1
            have := opens_inj hO hA.ap (List.mem_of_mem_take hx2) hm e
            subst this
            obtain ⟨j, hj⟩ := List.getElem?_of_mem hx2
            rw [List.getElem?_take] at hj
            split at hj
            · rename_i hjk
              have hd := asc_names (hO.lot.asc hA.ap)
              obtain ⟨hjo, ej⟩ := at_some hj
              obtain ⟨hko, ek⟩ := at_some hl
              have := List.pairwise_iff_getElem.1 hd j k (by simpa using hjo) (by simpa using hko) hjk
              apply this
              simp only [List.getElem_map, ej, ek]
            · cases hj
          unfold soldTo
          rw [fold_bids _ i hn, bidsOf_at, hO.lot.bid l hm i]
          congr 1
          simp [XW.S, Function.comp_def]
        have h4 : (soldTo X.S X.opens k).players.length ≤ 4 := by
          have := (fold_len (dueTo X.opens X.S.now k) X.S).1
          have e : X.S.players.length = X.pls.length := by simp [XW.S]
          have := hA.pl
          unfold soldTo
          omega
        obtain ⟨e1, e2⟩ := sell_eq hb (fun i => (hA.bd l hm i).1) h4
        rw [e1] at hp
        obtain ⟨i, q, hq, rfl⟩ := mem_mapIdx' hp
        have hq' := ih' q (List.mem_of_getElem? hq)
        have hpr : 0 ≤ (saleOf l).price ∧ (saleOf l).price ≤ 100000 := by
          rcases e2 with ⟨_, h⟩ | ⟨j, _, _, h1, h2⟩
          · omega
          · have := hA.lst (lotOf l) (hO.lot.mem hm)
            have := hA.bd l hm j
            have h3 : (lotOf l).least = l.least := rfl
            omega
        unfold soldX
        push_cast
        show _ ≤ (if (i : Int) = (saleOf l).who then q.money - (saleOf l).price else q.money) ∧ (if (i : Int) = (saleOf l).who then q.money - (saleOf l).price else q.money) ≤ _
        split <;> omega
      · rw [sold_no hl ho] at hp
        have := ih' p hp
        push_cast
        omega
  intro hk w1 Xk v h p hp
  rw [h.s] at hp
  exact gen k hk p hp

set_option maxRecDepth 100000 in
set_option maxHeartbeats 8000000 in
theorem xclose_any (w : World) (X : XW) (hr : RepX w X) (hO : OkX X) (hn : ∀ p ∈ X.S.players, p.news = []) (hA : ClA X) :
    Calls Tryd.prog 25 #[.pointer (some ⟨X.b, 0, none⟩)] w fun e w' => e = .returned (.tuple #[]) ∧ ∃ X', TurnX w X w' X' ∧ OkX X' ∧ X'.S = closeS X.S ∧ NewsOK X' ∧ X'.sales = (dueTo X.opens X.S.now X.opens.length).map saleOf := by
  obtain ⟨ao, g, cap, hv, hcap, hmax, rd⟩ := own_rd hr.lot.1
  unfold maxLen at hmax
  have c7 : w.cell? ⟨X.b, 7, none⟩ = some (.slice ao X.opens.length cap) := by rw [← hv]; exact hr.cellTop rfl
  have c8 : w.cell? ⟨X.b, 8, none⟩ = some X.vCl := hr.cellTop rfl
  have f8 : w.frozen? ⟨X.b, 8, none⟩ = false := hr.frozenTop 8
  have hol : X.opens.length ≤ 4 := by rw [hO.lot.len]; exact hA.len
  have HF := hidOf (clK_first hr hO hn)
  have HE : Hid (∀ (w1 : World) (Xk : XW) (v : Value), ClK w X w1 X.opens.length Xk v → ∃ X', TurnX w X (w1.setCell ⟨Xk.b, 7, none⟩ v) X' ∧ OkX X' ∧ X'.S = closeS X.S ∧ NewsOK X' ∧ X'.sales = (dueTo X.opens X.S.now X.opens.length).map saleOf) := fun w1 Xk v h => closed_all h hO hA.ap hA.en
  have HA := hidOf hA
  have HO := hidOf hO
  have HV := hidOf hv
  have HB0 := hidOf rd.base
  obtain ⟨i0, hi0, hz0, hz1, hz2⟩ := info_parts Tryd.infoLot
  obtain ⟨j0, hj0, hy0, hy1, hy2⟩ := info_parts Tryd.infoSale
  clear hr hO hn hA hv rd
  go_enter Tryd.func25, Tryd.ntmps25
  go_wp2_with fail
  go_loopw [2, 3, 4, 5, 14] (fun o _ _ _ i w' => ∃ (k c : Nat) (a : Option Addr) (Xk : XW), k ≤ X.opens.length ∧ i = .int .i64 k ∧ o = .slice a (keepTo X.opens X.S.now k).length c ∧ Hid (ClK w X w' k Xk (.slice a (keepTo X.opens X.S.now k).length c))) (fun _ _ _ _ i _ => X.opens.length + 1 - (intOf i).toNat)
  case atStart => exact ⟨0, 0, none, _, Nat.zero_le _, rfl, rfl, HF⟩
  case round =>
    clear c7 c8 f8 HF
    obtain ⟨k, c, a, Xk, hk, rfl, rfl, K⟩ := hrel
    have hb : Xk.b = X.b := K.out.t.b
    have c7 : wr.cell? ⟨X.b, 7, none⟩ = some (.slice ao X.opens.length cap) := by rw [← hb, ← HV.out, ← K.out.vo]; exact K.out.t.rep.cellTop rfl
    have f7 : wr.frozen? ⟨X.b, 7, none⟩ = false := by rw [← hb]; exact K.out.t.rep.frozenTop 7
    have hn4 : (keepTo X.opens X.S.now k).length ≤ 4 := by
      unfold keepTo
      have h1 := List.length_filter_le (openX X.S.now) (X.opens.take k)
      have h2 := List.length_take_le k X.opens
      omega
    by_cases hlt : k < X.opens.length
    · have hlt' : (k : Int) < (X.opens.length : Int) := by omega
      obtain ⟨l, hl⟩ : ∃ l, X.opens[k]? = some l := ⟨X.opens[k], by simp [hlt]⟩
      have eao : ao = some ⟨g, 0, none⟩ := HB0.out (by omega)
      subst eao
      have LA : Hid (∀ wx, Below wr.heap.size wr wx → LotAt wx g (k * 7) l) := fun wx hbx => by
        have hrow := K.out.t.rep.lot.1
        rw [K.out.vo, K.out.op, HV.out] at hrow
        exact (lot_at hrow hl).below hbx
      have hnow : Xk.now = X.S.now := by
        have e : Xk.S.now = (soldTo X.S X.opens k).now := by rw [K.out.s]
        exact e.trans (fold_len _ _).2.1
      have c0 : wr.cell? ⟨X.b, 0, none⟩ = some (.int .i64 X.S.now) := by rw [← hb, ← hnow]; exact K.out.t.rep.cellTop rfl
      obtain ⟨l0, l1, l2, l3, l4, l5, l6⟩ := LA.out wr (Below.refl _ _)
      have HL := hidOf hl
      clear hnow hl
      obtain ⟨now, hnw⟩ : ∃ now, now = X.S.now := ⟨_, rfl⟩
      rw [← hnw] at c0
      have HNw := hidOf hnw
      cases hop : openX X.S.now l
      · have e1 : decide (now < l.ends) = false := by rw [hnw]; exact hop
        have HOp := hidOf hop
        have hm := List.mem_of_getElem? HL.out
        have hpls : Xk.S.players.length = Xk.pls.length := by simp [XW.S]
        have hlenp : Xk.pls.length = X.pls.length := by
          have e : Xk.S.players.length = (soldTo X.S X.opens k).players.length := by rw [K.out.s]
          have e2 := (fold_len (dueTo X.opens X.S.now k) X.S).1
          have e3 : X.S.players.length = X.pls.length := by simp [XW.S]
          unfold soldTo at e
          omega
        have hp4 := HA.out.pl
        obtain ⟨se, sw⟩ := sell_eq (K.out.bid HO.out HA.out.ap HL.out) (fun i => (HA.out.bd l hm i).1) (by omega)
        have HSe := hidOf se
        have hpb : 0 ≤ (saleOf l).price ∧ (saleOf l).price ≤ 100000 := by
          rcases sw with ⟨_, h⟩ | ⟨j, _, _, h1, h2⟩
          · omega
          · have := HA.out.lst (lotOf l) (HO.out.lot.mem hm)
            have := HA.out.bd l hm j
            have h3 : (lotOf l).least = l.least := rfl
            omega
        have HCl : Hid (∀ wx, Below wr.heap.size wr wx → Calls Tryd.prog 51 #[.pointer (some ⟨g, k * 7, none⟩)] wx fun e w' => e = .returned (.agg #[.string l.name, .int .i64 (saleOf l).who, .int .i64 (saleOf l).price]) ∧ Below wx.heap.size wx w') := fun wx h => lclose_any wx g (k * 7) l (LA.out wx h)
        have hkeq : Hid (keepTo X.opens X.S.now (k + 1) = keepTo X.opens X.S.now k) := keep_no HL.out HOp.out
        have hsc : Hid (xsaleCells (saleOf l) = [.string l.name, .int .i64 (saleOf l).who, .int .i64 (saleOf l).price]) := rfl
        obtain ⟨wh, hwh⟩ : ∃ wh, wh = (saleOf l).who := ⟨_, rfl⟩
        obtain ⟨pr, hpr⟩ : ∃ pr, pr = (saleOf l).price := ⟨_, rfl⟩
        rw [← hwh, ← hpr] at HCl hsc
        rw [← hpr] at hpb
        have HWh := hidOf hwh
        have HPr := hidOf hpr
        have hdl : Hid ((dueTo X.opens X.S.now k).length ≤ 4) := by
          unfold Hid dueTo
          have h1 := List.length_filter_le (fun l => !openX X.S.now l) (X.opens.take k)
          have h2 := List.length_take_le k X.opens
          omega
        clear hop hnw hm se hpls hpr
        go_wp2_with fail
        go_quiet (fail)
        go_wp2_with fail
        refine (HCl.out (wr.drewN nq) (bel_drewN (Below.refl _ _) nq)).mono ?_
        rintro e w1 ⟨rfl, hb1⟩
        have B1 : Hid (Below wr.heap.size wr w1) := (bel_drewN (Below.refl _ _) nq).trans hb1
        have B2 : Hid (Below w1.heap.size w1 (w1.alloc (.cells #[.string l.name, .int .i64 wh, .int .i64 pr] 106))) := (Below.refl _ _).alloc (Nat.le_refl _) _
        have hnew := Go.heap_alloc_new w1 (.cells #[.string l.name, .int .i64 wh, .int .i64 pr] 106)
        have HNew := hidOf hnew
        clear hb1 HCl hnew c7 c0 l0 l1 l2 l3 l4 l5 l6 f7
        have K2 := hidOf ((K.out.below B1.out).below B2.out)
        have HKp2 := hidOf (K.out.below B1.out)
        clear K
        rcases sw with ⟨hw1, _⟩ | ⟨j, hj, hwj, _, _⟩
        · have hwm : wh = -1 := hwh.trans hw1
          clear hwh
          subst hwm
          have M3 := hidOf (K2.out.sell0 HL.out HOp.out hw1 HSe.out)
          obtain ⟨Xm, hXm⟩ : ∃ Xm, Xm = saleG Xk l := ⟨_, rfl⟩
          have hbm : Xm.b = X.b := M3.out.t.b ▸ (by rw [hXm])
          rw [← hXm] at M3
          clear hXm K2
          go_wp2_with fail
          obtain ⟨w3, hw3⟩ : ∃ w3, w3 = w1.alloc (.cells #[.string l.name, .int .i64 (-1), .int .i64 pr] 106) := ⟨_, rfl⟩
          rw [← hw3] at M3 HNew B2
          rw [← hw3]
          clear hw3
          have t0 : w3.cell? ⟨w1.heap.size, 0, none⟩ = some (.string l.name) := by rw [cell_of_row _ _ _ _ _ _ HNew.out]; rfl
          have t1 : w3.cell? ⟨w1.heap.size, 1, none⟩ = some (.int .i64 (-1)) := by rw [cell_of_row _ _ _ _ _ _ HNew.out]; rfl
          have t2 : w3.cell? ⟨w1.heap.size, 2, none⟩ = some (.int .i64 pr) := by rw [cell_of_row _ _ _ _ _ _ HNew.out]; rfl
          obtain ⟨wq, hwq⟩ : ∃ wq : Int, wq = -1 := ⟨_, rfl⟩
          rw [← hwq] at hsc t1
          rw [← hwq]
          clear hwq
          obtain ⟨a8, g8, c8n, hv8, hc8, hm8, _⟩ := own_rd M3.out.t.rep.lot.2
          unfold maxLen at hm8
          have c8 : w3.cell? ⟨X.b, 8, none⟩ = some (.slice a8 Xm.sales.length c8n) := by rw [← hbm, ← hv8]; exact M3.out.t.rep.cellTop rfl
          have f8 : w3.frozen? ⟨X.b, 8, none⟩ = false := by rw [← hbm]; exact M3.out.t.rep.frozenTop 8
          have hs4 : Xm.sales.length ≤ 4 := by rw [M3.out.sl, List.length_map]; exact hdl.out
          have hownX : Hid (∀ (wx : World) (o : Obj), wx.heap = w3.heap.push o → wx.ownsRow 0 106 3 (.slice a8 Xm.sales.length c8n) Xm.sales.length (Xm.sales.flatMap xsaleCells)) := by
            intro wx o hxx
            have h1 := M3.out.t.rep.lot.2
            rw [hv8] at h1
            refine own_same h1 (fun r hr => ?_)
            have := own_lt h1 r hr
            rw [hxx]
            simp [Array.getElem?_push, Nat.ne_of_lt this]
          have hlX : Hid (X.b < w3.heap.size) := by rw [← hbm]; exact M3.out.t.rep.lt _ xfoot_b
          have hneX : Hid ((Value.slice a8 Xm.sales.length c8n).ownBlock ≠ some X.b) := by
            intro e
            have e1 := M3.out.t.rep.roles.lot.2 X.b (by rw [hv8]; simp [blk, e])
            rw [← hbm, M3.out.t.rep.roles.b] at e1
            cases e1
          have a8' : ∀ o, (w3.alloc o).cell? ⟨X.b, 8, none⟩ = some (.slice a8 Xm.sales.length c8n) := fun o => by rw [World.cell?_alloc_past _ _ _ hlX.out]; exact c8
          have HV8 := hidOf hv8
          have HDn : Hid (∀ (o : Obj) (gr cp : Nat) (w6 : World), (w3.alloc o).drew.grownBy w6 (some gr) → w6.ownsRow 0 106 3 (.slice (some ⟨gr, 0, none⟩) (Xm.sales.length + 1) cp) (Xm.sales.length + 1) (Xm.sales.flatMap xsaleCells ++ [.string l.name, .int .i64 wq, .int .i64 pr]) → ((Value.slice a8 Xm.sales.length c8n).ownBlock = some gr ∨ gr = w3.heap.size + 1) → ∃ Xn, Hid (ClK w X (w6.setCell ⟨X.b, 8, none⟩ (.slice (some ⟨gr, 0, none⟩) (Xm.sales.length + 1) cp)) (k + 1) Xn (.slice a (keepTo X.opens X.S.now (k + 1)).length c))) := fun o gr cp w6 h1 h2 h3 => by
            rw [← hsc.out] at h2
            have := M3.out.done HL.out HOp.out h1 h2 (by rw [HV8.out]; exact h3)
            rw [hbm] at this
            rw [hkeq.out]
            exact ⟨_, this⟩
          obtain ⟨m8, hm8e⟩ : ∃ m8, m8 = Xm.sales.length := ⟨_, rfl⟩
          obtain ⟨xs8, hx8⟩ : ∃ xs8, xs8 = Xm.sales.flatMap xsaleCells := ⟨_, rfl⟩
          rw [← hm8e, ← hx8] at HDn hownX
          rw [← hm8e] at a8' c8 hs4 hc8
          rw [← hm8e] at hneX
          clear hv8 HV8 hm8e hx8 M3
          go_region_law (refine step_append_only (by rfl) _ _ _ (by rfl) 0 106 j0 _ 3 32 Tryd.underlying71 hj0 hy0 hy1 hy2 (by rfl) (by omega) (.slice a8 m8 c8n) m8 xs8 (by rfl) (by exact hownX.out _ _ rfl) ⟨w3.heap.size, 0, none⟩ 1 1 [.string l.name, .int .i64 wq, .int .i64 pr] (by rfl) (by rfl) (by exact World.news_of_block (Go.heap_alloc_new w3 _)) (by intro u hu; simp at hu; rcases hu with rfl | rfl | rfl <;> rfl) (by omega) (by unfold maxLen; omega) (by omega) (by omega) (w3.heap.size + 1) (by simp) ?_; intro gr cp6 w6 hown6 hgrow hat hgrow2; obtain ⟨q1, q2⟩ := keepOther (((Below.refl _ w3).alloc (Nat.le_refl _) _).drew) hgrow hlX.out (Ne.symm hneX.out) 8; rw [c8] at q1; rw [f8] at q2)
          all_goals
            obtain ⟨Xn, KN⟩ := HDn.out _ gr cp6 w6 hgrow2 hown6 hat
            clear hgrow2 hown6 hat hgrow
            go_wp2
            exact ⟨⟨k + 1, c, a, Xn, by omega, by go_num, by rw [hkeq.out], KN⟩, by simp [intOf]; omega⟩
        · have hwm : wh = (j : Int) := hwh.trans hwj
          clear hwh
          subst hwm
          have hjl : j < Xk.pls.length := by
            have : Xk.S.players.length = Xk.pls.length := by simp [XW.S]
            omega
          obtain ⟨p, u, hq⟩ := xat_of_lt hjl
          obtain ⟨pb, pcap, hvp, hpc, hpm⟩ := K2.out.t.rep.plForm (by omega)
          unfold maxLen at hpm
          have hmo := ClK.money HO.out HA.out k (by omega) _ _ _ K2.out p (List.mem_of_getElem? (XS_at hq))
          have M2 := hidOf (K2.out.sell1 HL.out HOp.out hwj HSe.out hq hvp)
          rw [← HPr.out] at M2
          obtain ⟨Xm, hXm⟩ : ∃ Xm, Xm = saleG (Xk.setQ j ({ p with money := p.money - pr }, u)) l := ⟨_, rfl⟩
          have hbm : Xm.b = X.b := by rw [hXm]; exact hb
          rw [← hXm] at M2
          have c6 : (w1.alloc (.cells #[.string l.name, .int .i64 (j : Int), .int .i64 pr] 106)).cell? ⟨X.b, 6, none⟩ = some (.slice (some ⟨pb, 0, none⟩) Xk.pls.length pcap) := by rw [← hb, ← hvp]; exact K2.out.t.rep.cellTop rfl
          have m0 : (w1.alloc (.cells #[.string l.name, .int .i64 (j : Int), .int .i64 pr] 106)).cell? ⟨pb, j * 2, none⟩ = some (.int .i64 p.money) := (K2.out.t.rep.plCell hq hvp).1
          have fz : (w1.alloc (.cells #[.string l.name, .int .i64 (j : Int), .int .i64 pr] 106)).frozen? ⟨pb, j * 2, none⟩ = false := K2.out.t.rep.plFrozen hvp (j * 2)
          have t0 : (w1.alloc (.cells #[.string l.name, .int .i64 (j : Int), .int .i64 pr] 106)).cell? ⟨w1.heap.size, 0, none⟩ = some (.string l.name) := by rw [cell_of_row _ _ _ _ _ _ HNew.out]; rfl
          have t1 : (w1.alloc (.cells #[.string l.name, .int .i64 (j : Int), .int .i64 pr] 106)).cell? ⟨w1.heap.size, 1, none⟩ = some (.int .i64 (j : Int)) := by rw [cell_of_row _ _ _ _ _ _ HNew.out]; rfl
          have t2 : (w1.alloc (.cells #[.string l.name, .int .i64 (j : Int), .int .i64 pr] 106)).cell? ⟨w1.heap.size, 2, none⟩ = some (.int .i64 pr) := by rw [cell_of_row _ _ _ _ _ _ HNew.out]; rfl
          have hpbw : pb ≠ w1.heap.size := by
            have h1 := HKp2.out.t.rep.lt pb (xfoot_pl (by rw [hvp]; simp [blk_slice]))
            omega
          have hwr : IntKind.i64.wrap (p.money - pr) = p.money - pr := by rw [IntKind.wrap_i64]; omega
          have e2 : ((j : Int) == -1) = false := by rw [beq_eq_false_iff_ne]; omega
          have hjl' : (j : Int) < (Xk.pls.length : Int) := by omega
          clear hXm hvp hq hmo K2
          go_wp2_with fail
          go_region
          have HN3 : Hid (((w1.alloc (.cells #[.string l.name, .int .i64 (j : Int), .int .i64 pr] 106)).setCell ⟨pb, j * 2, none⟩ (.int .i64 (p.money - pr))).drew.heap[w1.heap.size]? = some (.cells #[.string l.name, .int .i64 (j : Int), .int .i64 pr] 106 (0, 0))) := by
            unfold Hid
            show ((w1.alloc (.cells #[.string l.name, .int .i64 (j : Int), .int .i64 pr] 106)).setCell ⟨pb, j * 2, none⟩ (.int .i64 (p.money - pr))).heap[w1.heap.size]? = _
            rw [setCell_far _ _ _ _ _ (Ne.symm hpbw)]
            exact HNew.out
          have M3 : Hid (ClM w X ((w1.alloc (.cells #[.string l.name, .int .i64 (j : Int), .int .i64 pr] 106)).setCell ⟨pb, j * 2, none⟩ (.int .i64 (p.money - pr))).drew k Xm (.slice a (keepTo X.opens X.S.now k).length c) l) := M2.out.below (bel_drewN (Below.refl _ _) 1)
          clear M2 c6 m0 fz t0 t1 t2 HNew
          go_wp2_with fail
          obtain ⟨w3, hw3⟩ : ∃ w3, w3 = ((w1.alloc (.cells #[.string l.name, .int .i64 (j : Int), .int .i64 pr] 106)).setCell ⟨pb, j * 2, none⟩ (.int .i64 (p.money - pr))).drew := ⟨_, rfl⟩
          rw [← hw3] at M3 HN3
          rw [← hw3]
          have t0 : w3.cell? ⟨w1.heap.size, 0, none⟩ = some (.string l.name) := by rw [cell_of_row _ _ _ _ _ _ HN3.out]; rfl
          have t1 : w3.cell? ⟨w1.heap.size, 1, none⟩ = some (.int .i64 (j : Int)) := by rw [cell_of_row _ _ _ _ _ _ HN3.out]; rfl
          have t2 : w3.cell? ⟨w1.heap.size, 2, none⟩ = some (.int .i64 pr) := by rw [cell_of_row _ _ _ _ _ _ HN3.out]; rfl
          clear hw3
          obtain ⟨wq, hwq⟩ : ∃ wq : Int, wq = (j : Int) := ⟨_, rfl⟩
          rw [← hwq] at hsc t1
          rw [← hwq]
          clear hwq
          obtain ⟨a8, g8, c8n, hv8, hc8, hm8, _⟩ := own_rd M3.out.t.rep.lot.2
          unfold maxLen at hm8
          have c8 : w3.cell? ⟨X.b, 8, none⟩ = some (.slice a8 Xm.sales.length c8n) := by rw [← hbm, ← hv8]; exact M3.out.t.rep.cellTop rfl
          have f8 : w3.frozen? ⟨X.b, 8, none⟩ = false := by rw [← hbm]; exact M3.out.t.rep.frozenTop 8
          have hs4 : Xm.sales.length ≤ 4 := by rw [M3.out.sl, List.length_map]; exact hdl.out
          have hownX : Hid (∀ (wx : World) (o : Obj), wx.heap = w3.heap.push o → wx.ownsRow 0 106 3 (.slice a8 Xm.sales.length c8n) Xm.sales.length (Xm.sales.flatMap xsaleCells)) := by
            intro wx o hxx
            have h1 := M3.out.t.rep.lot.2
            rw [hv8] at h1
            refine own_same h1 (fun r hr => ?_)
            have := own_lt h1 r hr
            rw [hxx]
            simp [Array.getElem?_push, Nat.ne_of_lt this]
          have hlX : Hid (X.b < w3.heap.size) := by rw [← hbm]; exact M3.out.t.rep.lt _ xfoot_b
          have hneX : Hid ((Value.slice a8 Xm.sales.length c8n).ownBlock ≠ some X.b) := by
            intro e
            have e1 := M3.out.t.rep.roles.lot.2 X.b (by rw [hv8]; simp [blk, e])
            rw [← hbm, M3.out.t.rep.roles.b] at e1
            cases e1
          have a8' : ∀ o, (w3.alloc o).cell? ⟨X.b, 8, none⟩ = some (.slice a8 Xm.sales.length c8n) := fun o => by rw [World.cell?_alloc_past _ _ _ hlX.out]; exact c8
          have HV8 := hidOf hv8
          have HDn : Hid (∀ (o : Obj) (gr cp : Nat) (w6 : World), (w3.alloc o).drew.grownBy w6 (some gr) → w6.ownsRow 0 106 3 (.slice (some ⟨gr, 0, none⟩) (Xm.sales.length + 1) cp) (Xm.sales.length + 1) (Xm.sales.flatMap xsaleCells ++ [.string l.name, .int .i64 wq, .int .i64 pr]) → ((Value.slice a8 Xm.sales.length c8n).ownBlock = some gr ∨ gr = w3.heap.size + 1) → ∃ Xn, Hid (ClK w X (w6.setCell ⟨X.b, 8, none⟩ (.slice (some ⟨gr, 0, none⟩) (Xm.sales.length + 1) cp)) (k + 1) Xn (.slice a (keepTo X.opens X.S.now (k + 1)).length c))) := fun o gr cp w6 h1 h2 h3 => by
            rw [← hsc.out] at h2
            have := M3.out.done HL.out HOp.out h1 h2 (by rw [HV8.out]; exact h3)
            rw [hbm] at this
            rw [hkeq.out]
            exact ⟨_, this⟩
          obtain ⟨m8, hm8e⟩ : ∃ m8, m8 = Xm.sales.length := ⟨_, rfl⟩
          obtain ⟨xs8, hx8⟩ : ∃ xs8, xs8 = Xm.sales.flatMap xsaleCells := ⟨_, rfl⟩
          rw [← hm8e, ← hx8] at HDn hownX
          rw [← hm8e] at a8' c8 hs4 hc8
          rw [← hm8e] at hneX
          clear hv8 HV8 hm8e hx8 M3
          go_region_law (refine step_append_only (by rfl) _ _ _ (by rfl) 0 106 j0 _ 3 32 Tryd.underlying71 hj0 hy0 hy1 hy2 (by rfl) (by omega) (.slice a8 m8 c8n) m8 xs8 (by rfl) (by exact hownX.out _ _ rfl) ⟨w3.heap.size, 0, none⟩ 1 1 [.string l.name, .int .i64 wq, .int .i64 pr] (by rfl) (by rfl) (by exact World.news_of_block (Go.heap_alloc_new w3 _)) (by intro u hu; simp at hu; rcases hu with rfl | rfl | rfl <;> rfl) (by omega) (by unfold maxLen; omega) (by omega) (by omega) (w3.heap.size + 1) (by simp) ?_; intro gr cp6 w6 hown6 hgrow hat hgrow2; obtain ⟨q1, q2⟩ := keepOther (((Below.refl _ w3).alloc (Nat.le_refl _) _).drew) hgrow hlX.out (Ne.symm hneX.out) 8; rw [c8] at q1; rw [f8] at q2)
          all_goals
            obtain ⟨Xn, KN⟩ := HDn.out _ gr cp6 w6 hgrow2 hown6 hat
            clear hgrow2 hown6 hat hgrow
            go_wp2
            exact ⟨⟨k + 1, c, a, Xn, by omega, by go_num, by rw [hkeq.out], KN⟩, by simp [intOf]; omega⟩
      · have e1 : decide (now < l.ends) = true := by rw [hnw]; exact hop
        have HOp := hidOf hop
        clear hop hnw
        have HO2 : Hid (∀ o nq, ((wr.drewN nq).alloc o).ownsRow w.heap.size 93 7 (.slice a (keepTo X.opens X.S.now k).length c) (keepTo X.opens X.S.now k).length ((keepTo X.opens X.S.now k).flatMap xlotCells)) := fun o nq => ownsRow_alloc (own_same2 K.out.row (fun _ _ => rfl)) o
        have HBs := hidOf K.out.t.kept.size
        have HKp : Hid (∀ (o : Obj) (w2 : World) (g' cap' nq : Nat), ((wr.drewN nq).alloc o).grownBy w2 (Value.slice a (keepTo X.opens X.S.now k).length c).ownBlock → ((Value.slice a (keepTo X.opens X.S.now k).length c).ownBlock = some g' ∨ g' = wr.heap.size + 1) → w2.ownsRow w.heap.size 93 7 (.slice (some ⟨g', 0, none⟩) ((keepTo X.opens X.S.now k).length + 1) cap') ((keepTo X.opens X.S.now k).length + 1) ((keepTo X.opens X.S.now k).flatMap xlotCells ++ xlotCells l) → Hid (ClK w X w2 (k + 1) Xk (.slice (some ⟨g', 0, none⟩) (keepTo X.opens X.S.now (k + 1)).length cap'))) := fun o w2 g' cap' nq hg hat ho => by
          have hsz : ((wr.drewN nq).alloc o).heap.size = wr.heap.size + 1 := by
            show ((wr.drewN nq).heap.push _).size = _
            rw [Array.size_push]
            rfl
          have hK : ClK w X (wr.drewN nq) k Xk (.slice a (keepTo X.opens X.S.now k).length c) := K.out.below ⟨rfl, rfl, rfl, Nat.le_refl _, fun _ _ => rfl⟩
          exact hK.keep HL.out HOp.out hg (hat.imp id (fun e => by omega)) ho
        have hlen : Hid ((keepTo X.opens X.S.now (k + 1)).length = (keepTo X.opens X.S.now k).length + 1) := by unfold Hid; rw [keep_yes HL.out HOp.out]; simp
        have hgw : g < wr.heap.size := block_lt_of_cell l0
        clear K
        go_wp2_with fail
        go_quiet (fail)
        go_wp2_with (at_builtin; refine wpList_append_lies _ rfl _ _ _ rfl w.heap.size 93 i0 _ 7 64 Tryd.underlying70 hi0 hz0 hz1 hz2 rfl (by omega) (.slice a (keepTo X.opens X.S.now k).length c) (keepTo X.opens X.S.now k).length ((keepTo X.opens X.S.now k).flatMap xlotCells) rfl (by exact HO2.out _ _) ⟨wr.heap.size, 0, none⟩ 1 1 (xlotCells l) rfl rfl (by exact World.news_of_block (Go.heap_alloc_new _ _)) (by intro u hu; simp [xlotCells] at hu; rcases hu with rfl | rfl | rfl | rfl | rfl | rfl | rfl <;> rfl) (by omega) (by unfold maxLen; omega) (by omega) (by have := HBs.out; simp; omega) (wr.heap.size + 1) (by simp) ?_; intro g' cap' w2 hown1 hgrow hat hlt2)
        have K2 := HKp.out _ w2 g' cap' _ hgrow hat hown1
        exact ⟨⟨k + 1, cap', _, Xk, by omega, by go_num, by rw [hlen.out], K2⟩, by simp [intOf]; omega⟩
    · have hlt' : decide ((k : Int) < (X.opens.length : Int)) = false := decide_eq_false (by omega)
      have hke : k = X.opens.length := by omega
      have HEk : Hid (∃ X', TurnX w X (wr.setCell ⟨X.b, 7, none⟩ (.slice a (keepTo X.opens X.S.now k).length c)) X' ∧ OkX X' ∧ X'.S = closeS X.S ∧ NewsOK X' ∧ X'.sales = (dueTo X.opens X.S.now X.opens.length).map saleOf) := by
        have := HE.out wr Xk _ (by rw [← hke]; exact K.out)
        rw [hb] at this
        exact this
      clear hke K
      go_wp2
      go_end0
      exact ⟨rfl, HEk.out⟩
end Go.Proofs.YtlafddeoheambaaDoor
