/-
  Plain facts on names, numbers and words of texts: what the functions of the seed's texts come to, said of lists of bytes. No Go in sight.
-/
import Derived.Laws.AppendOwn
import Derived.Below
import Derived.Lib.Strings
import Derived.Test.YtlafddeoheambaaGreatDoorProg
import Derived.WalkKit
import Derived.WalkSpells
import Derived.WalkLawsBesides
set_option linter.unusedVariables false
namespace Go.Proofs.YtlafddeoheambaaGreatDoor

/-- A byte that is a letter from a to z. -/
def lowB (c : Nat) : Bool := decide (97 ≤ c) && decide (c ≤ 122)
/-- Two bytes that are a Greek small letter. -/
def grkB (c d : Nat) : Bool := (decide (c = 206) && decide (177 ≤ d) && decide (d ≤ 191)) || (decide (c = 207) && decide (128 ≤ d) && decide (d ≤ 137))

/-- How many letters a text has, if it is made of letters alone. -/
def runesL : List UInt8 → Option Nat
  | [] => some 0
  | [c] => if lowB c.toNat then some 1 else none
  | c :: d :: r => if lowB c.toNat then (runesL (d :: r)).map (· + 1) else if grkB c.toNat d.toNat then (runesL r).map (· + 1) else none

/-- The number of letters of a name; 0: it is none. -/
def runesN (l : List UInt8) : Nat := match runesL l with
  | some m => if m ≤ 6 then m else 0
  | none => 0

/-- Is the text a name? -/
def nameB (l : List UInt8) : Bool := decide (0 < runesN l)

theorem runesL_low (c : UInt8) (r : List UInt8) (h : lowB c.toNat = true) : runesL (c :: r) = (runesL r).map (· + 1) := by
  cases r with
  | nil => simp [runesL, h]
  | cons d r => simp [runesL, h]
theorem runesL_grk (c d : UInt8) (r : List UInt8) (h : lowB c.toNat = false) (g : grkB c.toNat d.toNat = true) : runesL (c :: d :: r) = (runesL r).map (· + 1) := by
  simp [runesL, h, g]
theorem runesL_none (c d : UInt8) (r : List UInt8) (h : lowB c.toNat = false) (g : grkB c.toNat d.toNat = false) : runesL (c :: d :: r) = none := by
  simp [runesL, h, g]
theorem runesL_last (c : UInt8) (h : lowB c.toNat = false) : runesL [c] = none := by simp [runesL, h]

/-- The rest of a text from a place on, at a place inside. -/
theorem drop_at (s : ByteArray) (k : Nat) (h : k < s.size) : s.data.toList.drop k = s[k] :: s.data.toList.drop (k + 1) := by
  rw [List.drop_eq_getElem_cons (by simpa using h)]; rfl

/-- What is left of the count behind k bytes, n letters counted. -/
def runesGo (s : ByteArray) (n k : Nat) : Prop := runesL s.data.toList = (runesL (s.data.toList.drop k)).map (· + n)

theorem runesGo_start (s : ByteArray) : runesGo s 0 0 := by simp [runesGo]
theorem runesGo_low {s : ByteArray} {n k : Nat} (hg : runesGo s n k) (h : k < s.size) (hl : lowB s[k].toNat = true) : runesGo s (n + 1) (k + 1) := by
  unfold runesGo at *
  rw [hg, drop_at s k h, runesL_low _ _ hl]
  cases runesL (s.data.toList.drop (k + 1)) <;> simp; omega
theorem runesGo_grk {s : ByteArray} {n k : Nat} (hg : runesGo s n k) (h : k + 1 < s.size) (hl : lowB s[k].toNat = false) (hk : grkB s[k].toNat s[k + 1].toNat = true) : runesGo s (n + 1) (k + 2) := by
  unfold runesGo at *
  rw [hg, drop_at s k (by omega), drop_at s (k + 1) h, runesL_grk _ _ _ hl hk]
  cases runesL (s.data.toList.drop (k + 1 + 1)) <;> simp; omega
theorem runesGo_no {s : ByteArray} {n k : Nat} (hg : runesGo s n k) (h : k < s.size) (hl : lowB s[k].toNat = false) (hk : ∀ h' : k + 1 < s.size, grkB s[k].toNat s[k + 1].toNat = false) : runesN s.data.toList = 0 := by
  unfold runesGo at hg
  unfold runesN
  rw [hg, drop_at s k h]
  by_cases h' : k + 1 < s.size
  · rw [drop_at s (k + 1) h', runesL_none _ _ _ hl (hk h')]; rfl
  · rw [List.drop_of_length_le (by simp; omega), runesL_last _ hl]; rfl
theorem runesGo_end {s : ByteArray} {n k : Nat} (hg : runesGo s n k) (h : s.size ≤ k) : runesN s.data.toList = if n ≤ 6 then n else 0 := by
  unfold runesGo at hg
  unfold runesN
  rw [hg, List.drop_of_length_le (by simpa using h)]
  simp [runesL]
theorem runesGo_le {s : ByteArray} {n k : Nat} (hg : runesGo s n k) (hn : n ≤ k) (h : s.size ≤ k) (hk : k ≤ s.size + 1) : n ≤ s.size + 1 := by omega

end Go.Proofs.YtlafddeoheambaaGreatDoor

/-
  The document's world, said plainly (lists, numbers), and what the functions of package hazeref come to on it. No walk in sight.
-/
namespace Go.Proofs.YtlafddeoheambaaGreatDoor
open Go.RowKit

/-- A unit: its name, its spot, its heading (0 e, 1 n, 2 w, 3 s), its cargo; what it was told, with which name. -/
structure SUnit where
  name : ByteArray
  x : Int
  y : Int
  head : Int
  cargo : Int
  what : ByteArray
  arg : ByteArray

structure SBid where
  lot : ByteArray
  n : Int

structure SLot where
  name : ByteArray
  least : Int
  ends : Int

structure SPlayer where
  money : Int
  units : List SUnit
  bids : List SBid
  news : List ByteArray

structure SSpot where
  x : Int
  y : Int
  amount : Int

structure SWorld where
  width : Int
  height : Int
  sight : Int
  now : Int
  ore : List SSpot
  players : List SPlayer
  lots : List SLot

/-- The cells of a unit, as package hazeref lays them. -/
def unitCells (u : SUnit) : List Value := [.string u.name, .int .i64 u.x, .int .i64 u.y, .int .i64 u.head, .int .i64 u.cargo, .string u.what, .string u.arg]
def spotCells (s : SSpot) : List Value := [.int .i64 s.x, .int .i64 s.y, .int .i64 s.amount]
def bidCells (b : SBid) : List Value := [.string b.lot, .int .i64 b.n]
def lotCells (l : SLot) : List Value := [.string l.name, .int .i64 l.least, .int .i64 l.ends]

/-- The cells of a list of things, each of as many cells as every other. -/
theorem flat_length {α : Type} (f : α → List Value) (size : Nat) (h : ∀ a, (f a).length = size) (l : List α) : (l.flatMap f).length = l.length * size := by
  induction l with
  | nil => simp
  | cons a l ih => simp only [List.flatMap_cons, List.length_append, h, ih, List.length_cons, Nat.succ_mul]; omega
theorem flat_at {α : Type} (f : α → List Value) (size : Nat) (h : ∀ a, (f a).length = size) (l : List α) (k j : Nat) (hk : k < l.length) (hj : j < size) :
    (l.flatMap f)[k * size + j]? = (f l[k])[j]? := by
  induction l generalizing k with
  | nil => simp at hk
  | cons a l ih =>
    simp only [List.flatMap_cons]
    cases k with
    | zero => rw [List.getElem?_append_left (by rw [h]; omega)]; simp
    | succ k =>
      rw [List.getElem?_append_right (by rw [h, Nat.succ_mul]; omega), h]
      have e : (k + 1) * size + j - size = k * size + j := by rw [Nat.succ_mul]; omega
      rw [e, ih k (by simpa using hk)]
      simp

/-- What is known of a row of things that is read: where it lies, what its cells hold. -/
structure Rd (w : World) (size : Nat) (ao : Option Addr) (g n : Nat) (xs : List Value) : Prop where
  base : 0 < n → ao = some ⟨g, 0, none⟩
  cell : ∀ j u, xs[j]? = some u → w.cell? ⟨g, j, none⟩ = some u

theorem own_rd {w : World} {e : TypeId} {size : Nat} {v : Value} {n : Nat} {xs : List Value} (h : w.ownsRow 0 e size v n xs) :
    ∃ ao g cap, v = .slice ao n cap ∧ n ≤ cap ∧ cap ≤ maxLen ∧ Rd w size ao g n xs := by
  obtain ⟨hl, h⟩ := h
  rcases h with ⟨rfl, rfl⟩ | ⟨g, cap, cur, rfl, _, hb, h1, h2, h3, h4⟩
  · refine ⟨none, 0, 0, rfl, Nat.le_refl _, by unfold maxLen; omega, fun h => by omega, ?_⟩
    intro j u hu
    have : xs = [] := List.eq_nil_of_length_eq_zero (by simpa using hl)
    simp [this] at hu
  · refine ⟨_, g, cap, rfl, h1, h2, fun _ => rfl, ?_⟩
    intro j u hu
    subst h4
    have hj : j < n * size := by
      rw [List.getElem?_eq_some_iff] at hu
      obtain ⟨hj, _⟩ := hu
      simp at hj; omega
    rw [List.getElem?_take, if_pos hj] at hu
    simp only [World.cell?, hb]
    simpa using hu

/-- The place of the first thing that is so; -1. -/
def ixOf {α : Type} (p : α → Bool) : List α → Int
  | [] => -1
  | u :: r => if p u then 0 else if ixOf p r < 0 then -1 else ixOf p r + 1
theorem ixOf_hit {α : Type} (p : α → Bool) (l : List α) (k : Nat) (hk : k < l.length) (hb : ∀ j (hj : j < l.length), j < k → p l[j] = false) (h : p l[k] = true) : ixOf p l = k := by
  induction l generalizing k with
  | nil => simp at hk
  | cons a l ih =>
    cases k with
    | zero => simp at h; simp [ixOf, h]
    | succ k =>
      have h0 := hb 0 (by simp) (by omega)
      simp at h0
      have := ih k (by simpa using hk) (fun j hj hjk => by have := hb (j + 1) (by simpa using hj) (by omega); simpa using this) (by simpa using h)
      simp [ixOf, h0, this]; omega
theorem ixOf_miss {α : Type} (p : α → Bool) (l : List α) (hb : ∀ j (hj : j < l.length), p l[j] = false) : ixOf p l = -1 := by
  induction l with
  | nil => rfl
  | cons a l ih =>
    have h0 := hb 0 (by simp)
    simp at h0
    have := ih (fun j hj => by have := hb (j + 1) (by simpa using hj); simpa using this)
    simp [ixOf, h0, this]
/-- Two texts are the same, as the walk asks it. -/
def eqS (a b : ByteArray) : Bool := a.toList == b.toList
theorem eqS_iff {a b : ByteArray} : eqS a b = true ↔ a = b := by
  unfold eqS
  rw [beq_iff_eq, Lib.toList_data, Lib.toList_data]
  constructor
  · intro h
    obtain ⟨⟨a⟩⟩ := a
    obtain ⟨⟨b⟩⟩ := b
    simp at h
    rw [h]
  · rintro rfl; rfl
/-- The place of the first unit of that name; -1. -/
def unitIx (us : List SUnit) (nm : ByteArray) : Int := ixOf (fun u => eqS u.name nm) us
/-- Is there an open lot of that name? -/
def openB (ls : List SLot) (nm : ByteArray) : Bool := ls.any (fun l => eqS l.name nm)
def amongB (l : List ByteArray) (s : ByteArray) : Bool := l.any (fun x => eqS x s)
/-- All bids together, but for one lot. -/
def stakedI : List SBid → ByteArray → Int
  | [], _ => 0
  | b :: r, but => (if eqS b.lot but then 0 else b.n) + stakedI r but
/-- A player's bid for a lot. -/
def bidI : List SBid → ByteArray → Int
  | [], _ => 0
  | b :: r, lot => if eqS b.lot lot then b.n else bidI r lot
theorem stakedI_snoc (l : List SBid) (b : SBid) (but : ByteArray) : stakedI (l ++ [b]) but = stakedI l but + (if eqS b.lot but then 0 else b.n) := by
  induction l with
  | nil => simp [stakedI]
  | cons a l ih => simp only [List.cons_append, stakedI, ih]; omega
theorem stakedI_bd (l : List SBid) (but : ByteArray) (h : ∀ b ∈ l, 0 ≤ b.n ∧ b.n ≤ 100000) : 0 ≤ stakedI l but ∧ stakedI l but ≤ 100000 * l.length := by
  induction l with
  | nil => simp [stakedI]
  | cons a l ih =>
    have h1 := h a (by simp)
    have h2 := ih (fun b hb => h b (by simp [hb]))
    simp only [stakedI, List.length_cons]
    split <;> omega
theorem any_hit {α : Type} (p : α → Bool) (l : List α) (k : Nat) (hk : k < l.length) (h : p l[k] = true) : l.any p = true :=
  List.any_eq_true.2 ⟨l[k], List.getElem_mem hk, h⟩
theorem any_miss {α : Type} (p : α → Bool) (l : List α) (hb : ∀ j (hj : j < l.length), p l[j] = false) : l.any p = false := by
  rw [List.any_eq_false]
  intro x hx
  obtain ⟨j, hj, rfl⟩ := List.mem_iff_getElem.1 hx
  simp [hb j hj]
theorem bidI_hit (l : List SBid) (lot : ByteArray) (k : Nat) (hk : k < l.length) (hb : ∀ j (hj : j < l.length), j < k → eqS l[j].lot lot = false) (h : eqS l[k].lot lot = true) : bidI l lot = l[k].n := by
  induction l generalizing k with
  | nil => simp at hk
  | cons a l ih =>
    cases k with
    | zero => simp at h; simp [bidI, h]
    | succ k =>
      have h0 := hb 0 (by simp) (by omega)
      simp at h0
      have := ih k (by simpa using hk) (fun j hj hjk => by have := hb (j + 1) (by simpa using hj) (by omega); simpa using this) (by simpa using h)
      simp [bidI, h0, this]
theorem bidI_miss (l : List SBid) (lot : ByteArray) (hb : ∀ j (hj : j < l.length), eqS l[j].lot lot = false) : bidI l lot = 0 := by
  induction l with
  | nil => rfl
  | cons a l ih =>
    have h0 := hb 0 (by simp)
    simp at h0
    have := ih (fun j hj => by have := hb (j + 1) (by simpa using hj); simpa using this)
    simp [bidI, h0, this]

end Go.Proofs.YtlafddeoheambaaGreatDoor

/-
  How the document's world (package hazeref) lies in memory: what its blocks hold, which blocks it owns, and that it stays as it is where those blocks stay as they are.
-/
namespace Go.Proofs.YtlafddeoheambaaGreatDoor
open Go.RowKit

/-- Where a player's lists lie. -/
structure PV where
  u : Value
  b : Value
  n : Value

/-- The document's world with the places of its lists. -/
structure YW where
  b : Nat
  width : Int
  height : Int
  sight : Int
  now : Int
  ore : List SSpot
  vOre : Value
  pls : List (SPlayer × PV)
  vPl : Value
  lots : List SLot
  vLots : Value

def plCells (p : SPlayer × PV) : List Value := [.int .i64 p.1.money, p.2.u, p.2.b, p.2.n]
def YW.cells (y : YW) : Array Value := #[.int .i64 y.width, .int .i64 y.height, .int .i64 y.sight, .int .i64 y.now, y.vOre, y.vPl, y.vLots]

def blk (v : Value) : List Nat := v.ownBlock.toList
def pvFoot (p : SPlayer × PV) : List Nat := blk p.2.u ++ (blk p.2.b ++ blk p.2.n)
/-- The blocks that it owns. -/
def YW.foot (y : YW) : List Nat := y.b :: (blk y.vOre ++ (blk y.vPl ++ (blk y.vLots ++ y.pls.flatMap pvFoot)))

structure RepP (w : World) (p : SPlayer × PV) : Prop where
  units : w.ownsRow 0 158 7 p.2.u p.1.units.length (p.1.units.flatMap unitCells)
  bids : w.ownsRow 0 196 2 p.2.b p.1.bids.length (p.1.bids.flatMap bidCells)
  news : w.ownsRow 0 9 1 p.2.n p.1.news.length (p.1.news.map Value.string)

structure RepY (w : World) (y : YW) : Prop where
  top : w.heap[y.b]? = some (.cells y.cells 156 (0, 0))
  ore : w.ownsRow 0 63 3 y.vOre y.ore.length (y.ore.flatMap spotCells)
  pl : w.ownsRow 0 162 4 y.vPl y.pls.length (y.pls.flatMap plCells)
  lots : w.ownsRow 0 168 3 y.vLots y.lots.length (y.lots.flatMap lotCells)
  each : ∀ p ∈ y.pls, RepP w p
  sep : y.foot.Nodup

/-- What a value that owns a row looks like. -/
theorem own_form {w : World} {e : TypeId} {size : Nat} {v : Value} {n : Nat} {xs : List Value} (h : w.ownsRow 0 e size v n xs) :
    (v = .slice none 0 0 ∧ n = 0 ∧ xs = []) ∨ ∃ g cap, v = .slice (some ⟨g, 0, none⟩) n cap ∧ n ≤ cap ∧ cap ≤ maxLen ∧ g < w.heap.size := by
  obtain ⟨hl, h⟩ := h
  rcases h with ⟨rfl, rfl⟩ | ⟨g, cap, cur, rfl, _, hb, h1, h2, h3, h4⟩
  · exact .inl ⟨rfl, rfl, List.eq_nil_of_length_eq_zero (by simpa using hl)⟩
  · refine .inr ⟨g, cap, rfl, h1, h2, ?_⟩
    rcases Nat.lt_or_ge g w.heap.size with hlt | hge
    · exact hlt
    · rw [Array.getElem?_eq_none hge] at hb; cases hb
/-- The cells of a row that is owned. -/
theorem own_cell {w : World} {e : TypeId} {size g cap n : Nat} {xs : List Value} (h : w.ownsRow 0 e size (.slice (some ⟨g, 0, none⟩) n cap) n xs) {j : Nat} {u : Value} (hu : xs[j]? = some u) :
    w.cell? ⟨g, j, none⟩ = some u := by
  obtain ⟨ao, g', cap', e1, _, _, rd⟩ := own_rd h
  injection e1 with e1 e2 e3
  have hn : 0 < n := by
    rcases Nat.eq_zero_or_pos n with h0 | h0
    · subst h0
      have h1 := h.1
      have h2 : xs = [] := List.eq_nil_of_length_eq_zero (by simpa using h1)
      subst h2
      simp at hu
    · exact h0
  have := rd.base hn
  rw [← e1] at this
  injection this with this
  injection this with this
  subst this
  exact rd.cell j u hu
theorem own_frozen {w : World} {e : TypeId} {size g cap n : Nat} {xs : List Value} (h : w.ownsRow 0 e size (.slice (some ⟨g, 0, none⟩) n cap) n xs) (j : Nat) : w.frozen? ⟨g, j, none⟩ = false := by
  rcases h.2 with ⟨h, _⟩ | ⟨g', cap', cur, e1, _, hb, _⟩
  · cases h
  · injection e1 with e1 e2 e3
    injection e1 with e1
    injection e1 with e1
    subst e1
    simp [World.frozen?, hb]
/-- A row that is owned stays as it is where its block stays as it is. -/
theorem own_same {w w' : World} {e : TypeId} {size : Nat} {v : Value} {n : Nat} {xs : List Value} (h : w.ownsRow 0 e size v n xs) (hs : ∀ r ∈ blk v, w'.heap[r]? = w.heap[r]?) : w'.ownsRow 0 e size v n xs := by
  obtain ⟨hl, h⟩ := h
  refine ⟨hl, ?_⟩
  rcases h with h | ⟨g, cap, cur, rfl, h0, hb, r⟩
  · exact .inl h
  · exact .inr ⟨g, cap, cur, rfl, h0, by rw [hs g (by simp [blk, Value.ownBlock]), hb], r⟩
theorem own_lt {w : World} {e : TypeId} {size : Nat} {v : Value} {n : Nat} {xs : List Value} (h : w.ownsRow 0 e size v n xs) : ∀ r ∈ blk v, r < w.heap.size := by
  rcases own_form h with ⟨rfl, _⟩ | ⟨g, cap, rfl, _, _, hg⟩
  · intro r hr; simp [blk, Value.ownBlock] at hr
  · intro r hr
    simp [blk, Value.ownBlock] at hr
    subst hr; exact hg
theorem RepP.same {w w' : World} {p : SPlayer × PV} (h : RepP w p) (hs : ∀ r ∈ pvFoot p, w'.heap[r]? = w.heap[r]?) : RepP w' p :=
  ⟨own_same h.units (fun r hr => hs r (by simp [pvFoot, hr])), own_same h.bids (fun r hr => hs r (by simp [pvFoot, hr])), own_same h.news (fun r hr => hs r (by simp [pvFoot, hr]))⟩
theorem RepP.lt {w : World} {p : SPlayer × PV} (h : RepP w p) : ∀ r ∈ pvFoot p, r < w.heap.size := by
  intro r hr
  simp only [pvFoot, List.mem_append] at hr
  rcases hr with hr | hr | hr
  · exact own_lt h.units r hr
  · exact own_lt h.bids r hr
  · exact own_lt h.news r hr
/-- The world stays as it is where its blocks stay as they are. -/
theorem RepY.same {w w' : World} {y : YW} (h : RepY w y) (hs : ∀ r ∈ y.foot, w'.heap[r]? = w.heap[r]?) : RepY w' y := by
  refine ⟨by rw [hs y.b (by simp [YW.foot]), h.top], own_same h.ore (fun r hr => hs r (by simp [YW.foot, hr])), own_same h.pl (fun r hr => hs r (by simp [YW.foot, hr])), own_same h.lots (fun r hr => hs r (by simp [YW.foot, hr])), ?_, h.sep⟩
  intro p hp
  refine (h.each p hp).same (fun r hr => hs r ?_)
  simp only [YW.foot, List.mem_cons, List.mem_append, List.mem_flatMap]
  exact .inr (.inr (.inr (.inr ⟨p, hp, hr⟩)))
theorem RepY.lt {w : World} {y : YW} (h : RepY w y) : ∀ r ∈ y.foot, r < w.heap.size := by
  intro r hr
  simp only [YW.foot, List.mem_cons, List.mem_append, List.mem_flatMap] at hr
  rcases hr with rfl | hr | hr | hr | ⟨p, hp, hr⟩
  · rcases Nat.lt_or_ge y.b w.heap.size with hlt | hge
    · exact hlt
    · have := h.top; rw [Array.getElem?_eq_none hge] at this; cases this
  · exact own_lt h.ore r hr
  · exact own_lt h.pl r hr
  · exact own_lt h.lots r hr
  · exact (h.each p hp).lt r hr
theorem RepY.below {w w' : World} {y : YW} (h : RepY w y) (hb : Below w.heap.size w w') : RepY w' y :=
  h.same (fun r hr => hb.block r (h.lt r hr))
theorem RepY.cellTop {w : World} {y : YW} (h : RepY w y) {j : Nat} {u : Value} (hu : y.cells[j]? = some u) : w.cell? ⟨y.b, j, none⟩ = some u := by
  simp only [World.cell?, h.top]
  simpa using hu
theorem RepY.frozenTop {w : World} {y : YW} (h : RepY w y) (j : Nat) : w.frozen? ⟨y.b, j, none⟩ = false := by
  simp [World.frozen?, h.top]

/-- The seven cells of a unit. -/
theorem unit_cells {w : World} {us : List SUnit} {ub cap j : Nat} (h : w.ownsRow 0 158 7 (.slice (some ⟨ub, 0, none⟩) us.length cap) us.length (us.flatMap unitCells)) (hj : j < us.length) :
    w.cell? ⟨ub, j * 7, none⟩ = some (.string us[j].name) ∧ w.cell? ⟨ub, j * 7 + 1, none⟩ = some (.int .i64 us[j].x) ∧ w.cell? ⟨ub, j * 7 + 2, none⟩ = some (.int .i64 us[j].y) ∧ w.cell? ⟨ub, j * 7 + 3, none⟩ = some (.int .i64 us[j].head) ∧
    w.cell? ⟨ub, j * 7 + 4, none⟩ = some (.int .i64 us[j].cargo) ∧ w.cell? ⟨ub, j * 7 + 5, none⟩ = some (.string us[j].what) ∧ w.cell? ⟨ub, j * 7 + 6, none⟩ = some (.string us[j].arg) := by
  have f := fun i (hi : i < 7) => flat_at unitCells 7 (fun _ => rfl) us j i hj hi
  exact ⟨own_cell h (f 0 (by omega)), own_cell h (f 1 (by omega)), own_cell h (f 2 (by omega)), own_cell h (f 3 (by omega)), own_cell h (f 4 (by omega)), own_cell h (f 5 (by omega)), own_cell h (f 6 (by omega))⟩

/-- Which player's unit stands on a spot; -1. -/
def standsB (x y : Int) (p : SPlayer) : Bool := p.units.any (fun u => decide (u.x = x) && decide (u.y = y))
def holderI (ps : List SPlayer) (x y : Int) : Int := ixOf (standsB x y) ps

end Go.Proofs.YtlafddeoheambaaGreatDoor

/-
  What becomes of the document's world in memory where one of its cells is written: the same world with that one thing turned.
-/
namespace Go.Proofs.YtlafddeoheambaaGreatDoor
open Go.RowKit

theorem flat_disj {α : Type} (f : α → List Nat) : ∀ (l : List α), (l.flatMap f).Nodup → ∀ i j (hi : i < l.length) (hj : j < l.length), i ≠ j → ∀ r, r ∈ f l[i] → r ∈ f l[j] → False := by
  intro l
  induction l with
  | nil => intro _ i j hi; simp at hi
  | cons a l ih =>
    intro hn i j hi hj hij r h1 h2
    rw [List.flatMap_cons, List.nodup_append] at hn
    obtain ⟨_, n2, n3⟩ := hn
    cases i with
    | zero =>
      cases j with
      | zero => exact hij rfl
      | succ j =>
        simp only [List.getElem_cons_zero] at h1
        simp only [List.getElem_cons_succ] at h2
        exact n3 r h1 r (List.mem_flatMap.2 ⟨_, List.getElem_mem (by simpa using hj), h2⟩) rfl
    | succ i =>
      cases j with
      | zero =>
        simp only [List.getElem_cons_zero] at h2
        simp only [List.getElem_cons_succ] at h1
        exact n3 r h2 r (List.mem_flatMap.2 ⟨_, List.getElem_mem (by simpa using hi), h1⟩) rfl
      | succ j =>
        simp only [List.getElem_cons_succ] at h1 h2
        exact ih n2 i j (by simpa using hi) (by simpa using hj) (by omega) r h1 h2
theorem flat_nodup {α : Type} (f : α → List Nat) (l : List α) (h : (l.flatMap f).Nodup) (i : Nat) (hi : i < l.length) : (f l[i]).Nodup := by
  induction l generalizing i with
  | nil => simp at hi
  | cons a l ih =>
    rw [List.flatMap_cons, List.nodup_append] at h
    cases i with
    | zero => exact h.1
    | succ i => simpa using ih h.2.1 i (by simpa using hi)

theorem foot_o {y : YW} {r : Nat} (h : r ∈ blk y.vOre) : r ∈ y.foot := by simp [YW.foot, h]
theorem foot_p {y : YW} {r : Nat} (h : r ∈ blk y.vPl) : r ∈ y.foot := by simp [YW.foot, h]
theorem foot_l {y : YW} {r : Nat} (h : r ∈ blk y.vLots) : r ∈ y.foot := by simp [YW.foot, h]
theorem foot_b {y : YW} : y.b ∈ y.foot := by simp [YW.foot]
theorem foot_e {y : YW} {r : Nat} {p : SPlayer × PV} (hp : p ∈ y.pls) (h : r ∈ pvFoot p) : r ∈ y.foot := by
  simp only [YW.foot, List.mem_cons, List.mem_append, List.mem_flatMap]
  exact .inr (.inr (.inr (.inr ⟨p, hp, h⟩)))

/-- No two of the world's lists share a block. -/
structure Sep (y : YW) : Prop where
  bo : y.b ∉ blk y.vOre
  bp : y.b ∉ blk y.vPl
  bl : y.b ∉ blk y.vLots
  be : ∀ p ∈ y.pls, y.b ∉ pvFoot p
  op : ∀ r ∈ blk y.vOre, r ∉ blk y.vPl
  ol : ∀ r ∈ blk y.vOre, r ∉ blk y.vLots
  oe : ∀ r ∈ blk y.vOre, ∀ p ∈ y.pls, r ∉ pvFoot p
  pl : ∀ r ∈ blk y.vPl, r ∉ blk y.vLots
  pe : ∀ r ∈ blk y.vPl, ∀ p ∈ y.pls, r ∉ pvFoot p
  le : ∀ r ∈ blk y.vLots, ∀ p ∈ y.pls, r ∉ pvFoot p
  ee : ∀ i j (hi : i < y.pls.length) (hj : j < y.pls.length), i ≠ j → ∀ r, r ∈ pvFoot y.pls[i] → r ∈ pvFoot y.pls[j] → False
  e1 : ∀ i (hi : i < y.pls.length), (pvFoot y.pls[i]).Nodup

theorem sep_of {y : YW} (h : y.foot.Nodup) : Sep y := by
  unfold YW.foot at h
  simp only [List.nodup_cons, List.nodup_append, List.mem_append, List.mem_flatMap, not_or, not_exists, not_and] at h
  obtain ⟨⟨h1, h2, h3, h4⟩, _, ⟨_, ⟨_, h5, h6⟩, h7⟩, h8⟩ := h
  refine ⟨h1, h2, h3, h4, ?_, ?_, ?_, ?_, ?_, ?_, flat_disj pvFoot y.pls h5, flat_nodup pvFoot y.pls h5⟩
  · intro r hr hr'; exact h8 r hr r (.inl hr') rfl
  · intro r hr hr'; exact h8 r hr r (.inr (.inl hr')) rfl
  · intro r hr p hp hr'; exact h8 r hr r (.inr (.inr ⟨p, hp, hr'⟩)) rfl
  · intro r hr hr'; exact h7 r hr r (.inl hr') rfl
  · intro r hr p hp hr'; exact h7 r hr r (.inr ⟨p, hp, hr'⟩) rfl
  · intro r hr p hp hr'; exact h6 r hr r ⟨p, hp, hr'⟩ rfl

/-- A row of one's own, one cell written. -/
theorem own_set {w : World} {e : TypeId} {size g cap n : Nat} {xs : List Value} (h : w.ownsRow 0 e size (.slice (some ⟨g, 0, none⟩) n cap) n xs) (j : Nat) (u : Value) (hj : j < n * size) :
    (w.setCell ⟨g, j, none⟩ u).ownsRow 0 e size (.slice (some ⟨g, 0, none⟩) n cap) n (xs.set j u) := by
  obtain ⟨hl, h⟩ := h
  refine ⟨by simpa using hl, ?_⟩
  rcases h with ⟨h, _⟩ | ⟨g', cap', cur, e1, h0, hb, h1, h2, h3, h4⟩
  · cases h
  · injection e1 with e1 e2 e3
    injection e1 with e1
    injection e1 with e1
    subst e1 e3
    refine .inr ⟨g, cap, cur.setIfInBounds j u, rfl, h0, ?_, h1, h2, by simpa using h3, ?_⟩
    · simp only [World.setCell, Array.getElem?_modify, hb]
      simp
    · rw [← h4, Array.toList_setIfInBounds, List.take_set]

theorem blk_slice (g n cap : Nat) : blk (.slice (some ⟨g, 0, none⟩) n cap) = [g] := rfl
theorem setCell_far (w : World) (g j : Nat) (u : Value) (r : Nat) (h : r ≠ g) : (w.setCell ⟨g, j, none⟩ u).heap[r]? = w.heap[r]? := Below.heap_setCell w ⟨g, j, none⟩ u r h

theorem flat_set {α : Type} (f : α → List Value) (size : Nat) (h : ∀ a, (f a).length = size) (l : List α) (k j : Nat) (a : α) (u : Value) (hk : k < l.length) (hj : j < size) (ha : f a = (f l[k]).set j u) :
    (l.flatMap f).set (k * size + j) u = (l.set k a).flatMap f := by
  induction l generalizing k with
  | nil => simp at hk
  | cons b l ih =>
    cases k with
    | zero =>
      simp only [List.flatMap_cons, List.set_cons_zero, Nat.zero_mul, Nat.zero_add]
      rw [List.set_append_left _ _ (by rw [h]; omega)]
      simp only [List.getElem_cons_zero] at ha
      rw [ha]
    | succ k =>
      simp only [List.flatMap_cons, List.set_cons_succ]
      rw [List.set_append_right _ _ (by rw [h, Nat.succ_mul]; omega), h]
      have e : (k + 1) * size + j - size = k * size + j := by rw [Nat.succ_mul]; omega
      rw [e, ih k (by simpa using hk) (by simpa using ha)]

/-- The world with another player at place i. -/
def YW.setQ (y : YW) (i : Nat) (q : SPlayer × PV) : YW := { y with pls := y.pls.set i q }

def YW.withOre (y : YW) (l : List SSpot) : YW := { y with ore := l }
def YW.withNow (y : YW) (n : Int) : YW := { y with now := n }

theorem foot_setQ (y : YW) (i : Nat) (q : SPlayer × PV) (hi : i < y.pls.length) (hq : q.2 = y.pls[i].2) : (y.setQ i q).foot = y.foot := by
  have e : (y.pls.set i q).flatMap pvFoot = y.pls.flatMap pvFoot := by
    rw [List.flatMap_def, List.flatMap_def, List.map_set]
    have : pvFoot q = (y.pls.map pvFoot)[i]'(by simpa using hi) := by simp [pvFoot, hq]
    rw [this, List.set_getElem_self]
  simp only [YW.foot, YW.setQ, e]

/-- One player's lists turned, its money as it was. -/
theorem RepY.setP {w w' : World} {y : YW} (h : RepY w y) (i : Nat) (hi : i < y.pls.length) (p' : SPlayer) (hm : p'.money = y.pls[i].1.money)
    (hs : ∀ r ∈ y.foot, r ∉ pvFoot y.pls[i] → w'.heap[r]? = w.heap[r]?) (hp : RepP w' (p', y.pls[i].2)) : RepY w' (y.setQ i (p', y.pls[i].2)) := by
  have sp := sep_of h.sep
  have hmem : y.pls[i] ∈ y.pls := List.getElem_mem hi
  have hf := foot_setQ y i (p', y.pls[i].2) hi rfl
  refine ⟨?_, ?_, ?_, ?_, ?_, by rw [hf]; exact h.sep⟩
  · show w'.heap[y.b]? = _
    rw [hs y.b (by simp [YW.foot]) (sp.be _ hmem), h.top]; rfl
  · exact own_same h.ore (fun r hr => hs r (foot_o hr) (sp.oe r hr _ hmem))
  · have e : ((y.pls.set i (p', y.pls[i].2)).flatMap plCells) = y.pls.flatMap plCells := by
      rw [List.flatMap_def, List.flatMap_def, List.map_set]
      have : plCells (p', y.pls[i].2) = (y.pls.map plCells)[i]'(by simpa using hi) := by simp [plCells, hm]
      rw [this, List.set_getElem_self]
    show w'.ownsRow 0 _ 4 y.vPl (y.pls.set i (p', y.pls[i].2)).length ((y.pls.set i (p', y.pls[i].2)).flatMap plCells)
    rw [e, List.length_set]
    exact own_same h.pl (fun r hr => hs r (by simp [YW.foot, hr]) (sp.pe r hr _ hmem))
  · exact own_same h.lots (fun r hr => hs r (foot_l hr) (sp.le r hr _ hmem))
  · intro p hpm
    obtain ⟨j, hj, rfl⟩ := List.mem_iff_getElem.1 hpm
    simp only [YW.setQ, List.length_set] at hj
    simp only [YW.setQ, List.getElem_set]
    split
    · exact hp
    · rename_i hne
      refine (h.each _ (List.getElem_mem hj)).same (fun r hr => hs r ?_ (fun hr' => sp.ee i j hi hj hne r hr' hr))
      simp only [YW.foot, List.mem_cons, List.mem_append, List.mem_flatMap]
      exact .inr (.inr (.inr (.inr ⟨_, List.getElem_mem hj, hr⟩)))

/-- One cell of one unit written. -/
theorem RepY.setUnit {w : World} {y : YW} (h : RepY w y) (i k j : Nat) (hi : i < y.pls.length) (hk : k < y.pls[i].1.units.length) (hj : j < 7) (ub cap : Nat) (hv : y.pls[i].2.u = .slice (some ⟨ub, 0, none⟩) y.pls[i].1.units.length cap)
    (u' : SUnit) (v : Value) (hu : unitCells u' = (unitCells y.pls[i].1.units[k]).set j v) :
    RepY (w.setCell ⟨ub, k * 7 + j, none⟩ v) (y.setQ i ({ y.pls[i].1 with units := y.pls[i].1.units.set k u' }, y.pls[i].2)) := by
  have hmem : y.pls[i] ∈ y.pls := List.getElem_mem hi
  have hp := h.each _ hmem
  have nd := (sep_of h.sep).e1 i hi
  have hbu : blk y.pls[i].2.u = [ub] := by rw [hv]; rfl
  have hub : ub ∈ pvFoot y.pls[i] := by simp [pvFoot, hbu]
  refine h.setP i hi _ rfl (fun r _ hr => setCell_far w ub _ v r (fun e => hr (e ▸ hub))) ⟨?_, ?_, ?_⟩
  · show (w.setCell _ v).ownsRow 0 _ 7 y.pls[i].2.u (y.pls[i].1.units.set k u').length ((y.pls[i].1.units.set k u').flatMap unitCells)
    rw [List.length_set, ← flat_set unitCells 7 (fun _ => rfl) _ k j u' v hk hj hu, hv]
    exact own_set (hv ▸ hp.units) (k * 7 + j) v (by omega)
  · refine own_same hp.bids (fun r hr => setCell_far w ub _ v r (fun e => ?_))
    subst e
    simp only [pvFoot, hbu, List.singleton_append, List.nodup_cons, List.mem_append, not_or] at nd
    exact nd.1.1 hr
  · refine own_same hp.news (fun r hr => setCell_far w ub _ v r (fun e => ?_))
    subst e
    simp only [pvFoot, hbu, List.singleton_append, List.nodup_cons, List.mem_append, not_or] at nd
    exact nd.1.2 hr

/-- A player's money written. -/
theorem RepY.setMoney {w : World} {y : YW} (h : RepY w y) (i : Nat) (hi : i < y.pls.length) (pb cap : Nat) (hv : y.vPl = .slice (some ⟨pb, 0, none⟩) y.pls.length cap) (m : Int) :
    RepY (w.setCell ⟨pb, i * 4, none⟩ (.int .i64 m)) (y.setQ i ({ y.pls[i].1 with money := m }, y.pls[i].2)) := by
  have sp := sep_of h.sep
  have hb : blk y.vPl = [pb] := by rw [hv]; rfl
  have hpb : pb ∈ blk y.vPl := by simp [hb]
  have hf := foot_setQ y i ({ y.pls[i].1 with money := m }, y.pls[i].2) hi rfl
  have far : ∀ r, r ≠ pb → (w.setCell ⟨pb, i * 4, none⟩ (.int .i64 m)).heap[r]? = w.heap[r]? := fun r hr => setCell_far w pb _ _ r hr
  refine ⟨?_, ?_, ?_, ?_, ?_, by rw [hf]; exact h.sep⟩
  · show (w.setCell _ _).heap[y.b]? = _
    rw [far y.b (fun e => sp.bp (e ▸ hpb)), h.top]; rfl
  · exact own_same h.ore (fun r hr => far r (fun e => sp.op r hr (e ▸ hpb)))
  · show (w.setCell _ _).ownsRow 0 _ 4 y.vPl (y.pls.set i ({ y.pls[i].1 with money := m }, y.pls[i].2)).length ((y.pls.set i ({ y.pls[i].1 with money := m }, y.pls[i].2)).flatMap plCells)
    rw [List.length_set, ← flat_set plCells 4 (fun _ => rfl) y.pls i 0 _ (.int .i64 m) hi (by omega) rfl, hv]
    exact own_set (hv ▸ h.pl) (i * 4 + 0) _ (by omega)
  · exact own_same h.lots (fun r hr => far r (fun e => sp.pl pb hpb (e ▸ hr)))
  · intro p hpm
    obtain ⟨j, hj, rfl⟩ := List.mem_iff_getElem.1 hpm
    simp only [YW.setQ, List.length_set] at hj
    simp only [YW.setQ, List.getElem_set]
    have hj' := (h.each _ (List.getElem_mem hj)).same (w' := w.setCell ⟨pb, i * 4, none⟩ (.int .i64 m)) (fun r hr => far r (fun e => sp.pe pb hpb _ (List.getElem_mem hj) (e ▸ hr)))
    split
    · rename_i hji
      subst hji
      exact ⟨hj'.units, hj'.bids, hj'.news⟩
    · exact hj'

/-- An amount of ore written. -/
theorem RepY.setOre {w : World} {y : YW} (h : RepY w y) (k : Nat) (hk : k < y.ore.length) (ob cap : Nat) (hv : y.vOre = .slice (some ⟨ob, 0, none⟩) y.ore.length cap) (m : Int) :
    RepY (w.setCell ⟨ob, k * 3 + 2, none⟩ (.int .i64 m)) (y.withOre (y.ore.set k { y.ore[k] with amount := m })) := by
  have sp := sep_of h.sep
  have hb : blk y.vOre = [ob] := by rw [hv]; rfl
  have hob : ob ∈ blk y.vOre := by simp [hb]
  have far : ∀ r, r ≠ ob → (w.setCell ⟨ob, k * 3 + 2, none⟩ (.int .i64 m)).heap[r]? = w.heap[r]? := fun r hr => setCell_far w ob _ _ r hr
  refine ⟨?_, ?_, ?_, ?_, ?_, h.sep⟩
  · show (w.setCell _ _).heap[y.b]? = _
    rw [far y.b (fun e => sp.bo (e ▸ hob)), h.top]; rfl
  · show (w.setCell _ _).ownsRow 0 _ 3 y.vOre (y.ore.set k _).length ((y.ore.set k _).flatMap spotCells)
    rw [List.length_set, ← flat_set spotCells 3 (fun _ => rfl) y.ore k 2 _ (.int .i64 m) hk (by omega) rfl, hv]
    exact own_set (hv ▸ h.ore) (k * 3 + 2) _ (by omega)
  · exact own_same h.pl (fun r hr => far r (fun e => sp.op ob hob (e ▸ hr)))
  · exact own_same h.lots (fun r hr => far r (fun e => sp.ol ob hob (e ▸ hr)))
  · intro p hpm
    exact (h.each p hpm).same (fun r hr => far r (fun e => sp.oe ob hob p hpm (e ▸ hr)))

/-- The tick written. -/
theorem RepY.setNow {w : World} {y : YW} (h : RepY w y) (m : Int) : RepY (w.setCell ⟨y.b, 3, none⟩ (.int .i64 m)) (y.withNow m) := by
  have sp := sep_of h.sep
  have far : ∀ r, r ≠ y.b → (w.setCell ⟨y.b, 3, none⟩ (.int .i64 m)).heap[r]? = w.heap[r]? := fun r hr => setCell_far w y.b _ _ r hr
  refine ⟨?_, own_same h.ore (fun r hr => far r (fun e => sp.bo (e ▸ hr))), own_same h.pl (fun r hr => far r (fun e => sp.bp (e ▸ hr))), own_same h.lots (fun r hr => far r (fun e => sp.bl (e ▸ hr))), fun p hp => (h.each p hp).same (fun r hr => far r (fun e => sp.be p hp (e ▸ hr))), h.sep⟩
  show (w.setCell _ _).heap[y.b]? = _
  simp only [World.setCell, Array.getElem?_modify, h.top]
  simp [YW.cells, YW.withNow]

end Go.Proofs.YtlafddeoheambaaGreatDoor

/-
  What a call leaves alone; how the document's world turns from one memory to the next; what holds of its numbers.
-/
namespace Go.Proofs.YtlafddeoheambaaGreatDoor
open Go.RowKit

/-- Of what was there only blocks of F may have turned. -/
structure Kept (F : List Nat) (w w' : World) : Prop where
  os : w'.os = w.os
  tape : w'.tape = w.tape
  output : w'.output = w.output
  size : w.heap.size ≤ w'.heap.size
  block : ∀ k, k < w.heap.size → k ∉ F → w'.heap[k]? = w.heap[k]?

theorem Kept.refl (F : List Nat) (w : World) : Kept F w w := ⟨rfl, rfl, rfl, Nat.le_refl _, fun _ _ _ => rfl⟩
theorem Kept.of_below {F : List Nat} {w w' : World} (h : Below w.heap.size w w') : Kept F w w' := ⟨h.os, h.tape, h.output, h.size, fun k hk _ => h.block k hk⟩
theorem Kept.trans {F F1 : List Nat} {a b c : World} (h : Kept F a b) (h1 : Kept F1 b c) (hx : ∀ r ∈ F1, r ∈ F ∨ a.heap.size ≤ r) : Kept F a c := by
  refine ⟨h1.os.trans h.os, h1.tape.trans h.tape, h1.output.trans h.output, Nat.le_trans h.size h1.size, fun k hk hn => ?_⟩
  have hk1 : k ∉ F1 := by
    intro hk1
    rcases hx k hk1 with h' | h'
    · exact hn h'
    · omega
  rw [h1.block k (Nat.lt_of_lt_of_le hk h.size) hk1, h.block k hk hn]
theorem Kept.setCell {F : List Nat} {w w' : World} (h : Kept F w w') (g j : Nat) (u : Value) (hg : g ∈ F ∨ w.heap.size ≤ g) : Kept F w (w'.setCell ⟨g, j, none⟩ u) := by
  refine ⟨h.os, h.tape, h.output, by simpa [World.setCell] using h.size, fun k hk hn => ?_⟩
  rw [setCell_far w' g j u k ?_, h.block k hk hn]
  rintro rfl
  rcases hg with hg | hg
  · exact hn hg
  · omega
theorem Kept.alloc {F : List Nat} {w w' : World} (h : Kept F w w') (o : Obj) : Kept F w (w'.alloc o) := by
  refine ⟨h.os, h.tape, h.output, by have := h.size; simp; omega, fun k hk hn => ?_⟩
  rw [Below.heap_alloc _ _ _ (Nat.lt_of_lt_of_le hk h.size), h.block k hk hn]
theorem Kept.drew {F : List Nat} {w w' : World} (h : Kept F w w') : Kept F w w'.drew := ⟨h.os, h.tape, h.output, h.size, h.block⟩
theorem Kept.below {F : List Nat} {w w' w'' : World} (h : Kept F w w') (hb : Below w'.heap.size w' w'') : Kept F w w'' :=
  h.trans (F1 := []) (Kept.of_below hb) (fun r hr => by simp at hr)

/-- The world of the document turns from Y in w to Y' in w'. -/
structure Turn (w : World) (Y : YW) (w' : World) (Y' : YW) : Prop where
  rep : RepY w' Y'
  kept : Kept Y.foot w w'
  ext : ∀ r ∈ Y'.foot, r ∈ Y.foot ∨ w.heap.size ≤ r
  b : Y'.b = Y.b

theorem Turn.refl {w : World} {Y : YW} (h : RepY w Y) : Turn w Y w Y := ⟨h, Kept.refl _ _, fun _ h => .inl h, rfl⟩
theorem Turn.trans {w w1 w2 : World} {Y Y1 Y2 : YW} (h : Turn w Y w1 Y1) (h1 : Turn w1 Y1 w2 Y2) : Turn w Y w2 Y2 := by
  refine ⟨h1.rep, h.kept.trans h1.kept h.ext, fun r hr => ?_, h1.b.trans h.b⟩
  rcases h1.ext r hr with h' | h'
  · exact h.ext r h'
  · exact .inr (Nat.le_trans h.kept.size h')
theorem Turn.below {w w1 w2 : World} {Y Y1 : YW} (h : Turn w Y w1 Y1) (hb : Below w1.heap.size w1 w2) : Turn w Y w2 Y1 :=
  ⟨h.rep.below hb, h.kept.below hb, h.ext, h.b⟩
theorem RepY.drew {w : World} {y : YW} (h : RepY w y) : RepY w.drew y := h.same (fun _ _ => rfl)

/-- A spot with ore left at this place. -/
def hitB (x y : Int) (s : SSpot) : Bool := decide (s.x = x) && decide (s.y = y) && decide (0 < s.amount)
def digB (l : List SSpot) (x y : Int) : Bool := l.any (hitB x y)
def digL (x y : Int) : List SSpot → List SSpot
  | [] => []
  | s :: r => if hitB x y s then { s with amount := s.amount - 1 } :: r else s :: digL x y r
theorem digL_hit (x y : Int) (l : List SSpot) (k : Nat) (hk : k < l.length) (hb : ∀ j (hj : j < l.length), j < k → hitB x y l[j] = false) (h : hitB x y l[k] = true) : digL x y l = l.set k { l[k] with amount := l[k].amount - 1 } := by
  induction l generalizing k with
  | nil => simp at hk
  | cons a l ih =>
    cases k with
    | zero => simp at h; simp [digL, h]
    | succ k =>
      have h0 := hb 0 (by simp) (by omega)
      simp at h0
      have := ih k (by simpa using hk) (fun j hj hjk => by have := hb (j + 1) (by simpa using hj) (by omega); simpa using this) (by simpa using h)
      simp [digL, h0, this]
theorem digL_miss (x y : Int) (l : List SSpot) (hb : ∀ j (hj : j < l.length), hitB x y l[j] = false) : digL x y l = l := by
  induction l with
  | nil => rfl
  | cons a l ih =>
    have h0 := hb 0 (by simp)
    simp at h0
    have := ih (fun j hj => by have := hb (j + 1) (by simpa using hj); simpa using this)
    simp [digL, h0, this]

/-- The document's world without its places. -/
def YW.S (y : YW) : SWorld := { width := y.width, height := y.height, sight := y.sight, now := y.now, ore := y.ore, players := y.pls.map (·.1), lots := y.lots }
def SWorld.setPl (s : SWorld) (n : Nat) (p : SPlayer) : SWorld := { s with players := s.players.set n p }
theorem S_setQ (y : YW) (n : Nat) (q : SPlayer × PV) : (y.setQ n q).S = y.S.setPl n q.1 := by simp [YW.S, YW.setQ, SWorld.setPl, List.map_set]
theorem setPl_setPl (s : SWorld) (n : Nat) (p q : SPlayer) : (s.setPl n p).setPl n q = s.setPl n q := by simp [SWorld.setPl]

def inB (n lo hi : Int) : Bool := decide (lo ≤ n) && decide (n ≤ hi)
def dxI (h : Int) : Int := if h = 0 then 1 else if h = 2 then -1 else 0
def dyI (h : Int) : Int := if h = 1 then 1 else if h = 3 then -1 else 0
/-- Is there a spot, and does nobody stand there? -/
def freeS (s : SWorld) (x y : Int) : Bool := inB x 0 (s.width - 1) && inB y 0 (s.height - 1) && decide (holderI s.players x y < 0)

def emptyB : ByteArray := ⟨#[]⟩
/-- What a unit's order leaves of the world, the order itself taken away: p the player, u the unit without its order. -/
def actS (s : SWorld) (n k : Nat) (p : SPlayer) (u : SUnit) (what arg : ByteArray) : SWorld :=
  let x := u.x + dxI u.head
  let y := u.y + dyI u.head
  let putU := fun (v : SUnit) => s.setPl n { p with units := p.units.set k v }
  if what.toList == [103, 111] then (if freeS s x y then putU { u with x := x, y := y } else s)
  else if what.toList == [108, 101, 102, 116] then putU { u with head := (u.head + 1) % 4 }
  else if what.toList == [98, 97, 99, 107] then putU { u with head := (u.head + 2) % 4 }
  else if what.toList == [114, 105, 103, 104, 116] then putU { u with head := (u.head + 3) % 4 }
  else if what.toList == [100, 105, 103] then
    (if u.cargo < 9 then (if digB s.ore u.x u.y then { s.setPl n { p with units := p.units.set k { u with cargo := u.cargo + 1 } } with ore := digL u.x u.y s.ore } else s) else s)
  else if what.toList == [115, 101, 108, 108] then s.setPl n { p with money := p.money + 10 * u.cargo, units := p.units.set k { u with cargo := 0 } }
  else if what.toList == [99, 97, 108, 108] then (if unitIx p.units arg < 0 then putU { u with name := arg } else s)
  else if what.toList == [98, 117, 105, 108, 100] then
    (if unitIx p.units arg < 0 ∧ p.units.length < 5 ∧ 50 ≤ p.money - stakedI p.bids emptyB ∧ freeS s x y = true then
      s.setPl n { p with money := p.money - 50, units := p.units ++ [{ name := arg, x := x, y := y, head := u.head, cargo := 0, what := emptyB, arg := emptyB }] } else s)
  else s
/-- What the k-th unit of the n-th player does. -/
def doesS (s : SWorld) (n k : Nat) : SWorld := match s.players[n]? with
  | none => s
  | some p => match p.units[k]? with
    | none => s
    | some u =>
      let u0 := { u with what := emptyB, arg := emptyB }
      let p0 := { p with units := p.units.set k u0 }
      actS (s.setPl n p0) n k p0 u0 u.what u.arg

/-- What holds of a world's numbers and lists. (M: no player has more money.) -/
structure WF (Y : YW) (M : Int) : Prop where
  pl : 2 ≤ Y.pls.length ∧ Y.pls.length ≤ 4
  un : ∀ p ∈ Y.pls, 1 ≤ p.1.units.length ∧ p.1.units.length ≤ 5
  wd : 3 ≤ Y.width ∧ Y.width ≤ 10
  ht : 3 ≤ Y.height ∧ Y.height ≤ 10
  orn : Y.ore.length ≤ 6
  ora : ∀ s ∈ Y.ore, 0 ≤ s.amount ∧ s.amount ≤ 99
  ux : ∀ p ∈ Y.pls, ∀ u ∈ p.1.units, 0 ≤ u.x ∧ u.x < Y.width ∧ 0 ≤ u.y ∧ u.y < Y.height
  uh : ∀ p ∈ Y.pls, ∀ u ∈ p.1.units, 0 ≤ u.head ∧ u.head ≤ 3
  uc : ∀ p ∈ Y.pls, ∀ u ∈ p.1.units, 0 ≤ u.cargo ∧ u.cargo ≤ 9
  mo : ∀ p ∈ Y.pls, 0 ≤ p.1.money ∧ p.1.money ≤ M
  bi : ∀ p ∈ Y.pls, (∀ b ∈ p.1.bids, 0 ≤ b.n ∧ b.n ≤ 100000) ∧ p.1.bids.length ≤ 1000

end Go.Proofs.YtlafddeoheambaaGreatDoor

/-
  The small functions of the seed's own packages (within, num, pick, bids, runes, Name): each returns what its text says, and leaves the world as it was.
-/
namespace Go.Proofs.YtlafddeoheambaaGreatDoor
open Go.RowKit


theorem ret_int {k : IntKind} {a b : Int} (h : a = b) : Ending.returned (.int k a) = .returned (.int k b) := by rw [h]
theorem ret_bool {a b : Bool} (h : a = b) : Ending.returned (.bool a) = .returned (.bool b) := by rw [h]

set_option maxHeartbeats 400000 in
theorem within_any (n lo hi : Int) (w : World) :
    Calls Tryz.prog 88 #[.int .i64 n, .int .i64 lo, .int .i64 hi] w fun e w' => e = .returned (.bool (inB n lo hi)) ∧ w' = w := by
  unfold inB
  by_cases h : lo ≤ n
  all_goals
    go_enter Tryz.func88, Tryz.ntmps88
    go_wp2
    go_ret
    exact ⟨ret_bool (by first | (simp [h]; done) | (simp; omega)), rfl⟩

set_option maxHeartbeats 400000 in
theorem num_any (n : Int) (w : World) :
    Calls Tryz.prog 49 #[.int .i64 n] w fun e w' => e = .returned (.int .i64 n) ∧ w' = w := by
  go_enter Tryz.func49, Tryz.ntmps49
  go_wp2
  go_ret
  exact ⟨rfl, rfl⟩

theorem low_of {c : UInt8} (h : 97 ≤ (c.toNat : Int) ∧ (c.toNat : Int) ≤ 122) : lowB c.toNat = true := by
  simp [lowB]; omega
theorem low_no {c : UInt8} (h : ¬ (97 ≤ (c.toNat : Int) ∧ (c.toNat : Int) ≤ 122)) : lowB c.toNat = false := by
  simp [lowB]; omega
def GrkI (c d : Int) : Prop := (c = 206 ∧ 177 ≤ d ∧ d ≤ 191) ∨ (c = 207 ∧ 128 ≤ d ∧ d ≤ 137)
theorem grk_of {c d : UInt8} (h : GrkI c.toNat d.toNat) : grkB c.toNat d.toNat = true := by
  unfold GrkI at h; simp [grkB]; omega
theorem grk_no {c d : UInt8} (h : ¬ GrkI c.toNat d.toNat) : grkB c.toNat d.toNat = false := by
  unfold GrkI at h; simp [grkB]; omega

set_option maxHeartbeats 1000000 in
theorem runes_any (s : ByteArray) (w : World) (hs : s.size ≤ maxLen) :
    Calls Tryz.prog 124 #[.string s] w fun e w' => e = .returned (.int .i64 (runesN s.data.toList)) ∧ w' = w := by
  unfold maxLen at hs
  go_enter Tryz.func124, Tryz.ntmps124
  go_wp2
  go_loop [3, 4] (fun n i => ∃ m k : Nat, m ≤ k ∧ k ≤ s.size ∧ n = .int .i64 m ∧ i = .int .i64 k ∧ runesGo s m k) (fun _ i => s.size + 1 - (intOf i).toNat)
  case atStart => exact ⟨0, 0, Nat.le_refl _, Nat.zero_le _, rfl, rfl, runesGo_start s⟩
  case round =>
    obtain ⟨m, k, hmk, hk, rfl, rfl, hg⟩ := hrel
    by_cases hlt : k < s.size
    · by_cases hlt2 : k + 1 < s.size
      · by_cases hl : 97 ≤ (s[k].toNat : Int) ∧ (s[k].toNat : Int) ≤ 122
        · have g := runesGo_low hg hlt (low_of hl)
          obtain ⟨l1, l2⟩ := hl
          go_wp2
          exact ⟨⟨m + 1, k + 1, by omega, by omega, by go_num, by go_num, g⟩, by simp [intOf]; omega⟩
        · by_cases hgk : GrkI s[k].toNat s[k + 1].toNat
          · have g := runesGo_grk hg hlt2 (low_no hl) (grk_of hgk)
            have H := hgk
            unfold GrkI at H
            rcases H with ⟨l1, l2, l3⟩ | ⟨l1, l2, l3⟩
            all_goals
              have l4 : 122 < (s[k].toNat : Int) := by omega
              clear hl hgk
              go_wp2
              exact ⟨⟨m + 1, k + 2, by omega, by omega, by go_num, by go_num, g⟩, by simp [intOf]; omega⟩
          · have g := runesGo_no hg hlt (low_no hl) (fun _ => grk_no hgk)
            have G : Hid (runesN s.data.toList = 0) := g
            clear g
            unfold GrkI at hgk
            go_wp2
            all_goals first
              | (go_ret; exact ⟨ret_int (by rw [G.out]; rfl), rfl⟩)
              | (exfalso; omega)
      · by_cases hl : 97 ≤ (s[k].toNat : Int) ∧ (s[k].toNat : Int) ≤ 122
        · have g := runesGo_low hg hlt (low_of hl)
          obtain ⟨l1, l2⟩ := hl
          go_wp2
          exact ⟨⟨m + 1, k + 1, by omega, by omega, by go_num, by go_num, g⟩, by simp [intOf]; omega⟩
        · have g := runesGo_no hg hlt (low_no hl) (fun h' => absurd h' hlt2)
          have G : Hid (runesN s.data.toList = 0) := g
          clear g
          go_wp2
          all_goals first
            | (go_ret; exact ⟨ret_int (by rw [G.out]; rfl), rfl⟩)
            | (exfalso; omega)
    · have g := runesGo_end hg (by omega)
      have G : Hid (runesN s.data.toList = if m ≤ 6 then m else 0) := g
      clear g
      by_cases h6 : m ≤ 6
      all_goals
        go_wp2
        go_ret
        exact ⟨ret_int (by rw [G.out]; simp [h6]), rfl⟩

set_option maxHeartbeats 400000 in
theorem name_any (s : ByteArray) (w : World) (hs : s.size ≤ maxLen) :
    Calls Tryz.prog 91 #[.string s] w fun e w' => e = .returned (.bool (nameB s.data.toList)) ∧ w' = w := by
  go_enter Tryz.func91, Tryz.ntmps91
  go_wp2_with (go_at_call 124; refine (runes_any s _ hs).mono ?_; rintro e w' ⟨rfl, rfl⟩)
  go_ret
  exact ⟨ret_bool (by simp [nameB]), rfl⟩

end Go.Proofs.YtlafddeoheambaaGreatDoor

/-
  The small functions pick, bids and Number of the seed's own packages: each returns what its text says, and leaves the world as it was.
-/
namespace Go.Proofs.YtlafddeoheambaaGreatDoor
open Go.RowKit

/-- Which of n things the number c speaks of. -/
def pickI (c n : Int) : Int := if c < 0 then (-(c + 1)) % n else c % n
theorem pickI_bd (c n : Int) (hn : 0 < n) : 0 ≤ pickI c n ∧ pickI c n < n := by
  unfold pickI
  split
  · exact ⟨Int.emod_nonneg _ (by omega), Int.emod_lt_of_pos _ hn⟩
  · exact ⟨Int.emod_nonneg _ (by omega), Int.emod_lt_of_pos _ hn⟩
theorem pickI_neg (c n : Int) (h : c < 0) : -(c + 1).tmod n = pickI c n := by
  unfold pickI
  rw [if_pos h, ← Int.neg_tmod, Int.tmod_eq_emod_of_nonneg (by omega)]
theorem pickI_pos (c n : Int) (h : ¬ c < 0) : c % n = pickI c n := by
  unfold pickI
  rw [if_neg h]

set_option maxHeartbeats 400000 in
theorem pick_any (c n : Int) (w : World) (h1 : -9223372036854775808 ≤ c) (h2 : c ≤ 9223372036854775807) (hn : 0 < n) (hn2 : n ≤ 9223372036854775807) :
    Calls Tryz.prog 50 #[.int .i64 c, .int .i64 n] w fun e w' => e = .returned (.int .i64 (pickI c n)) ∧ w' = w := by
  by_cases h : c < 0
  · go_enter Tryz.func50, Tryz.ntmps50
    go_wp2
    go_ret
    exact ⟨ret_int (pickI_neg c n h), rfl⟩
  · go_enter Tryz.func50, Tryz.ntmps50
    go_wp2
    go_ret
    exact ⟨ret_int (pickI_pos c n (by omega)), rfl⟩

/-- Does a text begin with the word bid and a blank? -/
def bidsB (l : List UInt8) : Bool := l.take 4 == [98, 105, 100, 32]

theorem bidsB_short (s : ByteArray) (h : ¬ 3 < s.size) : bidsB s.data.toList = false := by
  have hl : s.data.toList.length = s.size := by simp
  unfold bidsB
  rw [List.take_of_length_le (by omega)]
  apply beq_eq_false_iff_ne.2
  intro e
  rw [e] at hl
  simp at hl
  omega

set_option maxHeartbeats 400000 in
theorem bids_any (s : ByteArray) (w : World) (hs : s.size ≤ maxLen) :
    Calls Tryz.prog 51 #[.string s] w fun e w' => e = .returned (.bool (bidsB s.data.toList)) ∧ w' = w := by
  unfold maxLen at hs
  by_cases h : 3 < s.size
  · go_enter Tryz.func51, Tryz.ntmps51
    go_wp2
    go_ret
    exact ⟨ret_bool (by rw [Lib.toList_data, Lib.extract_data]; rfl), rfl⟩
  · have g := bidsB_short s h
    have G : Hid (bidsB s.data.toList = false) := g
    clear g
    go_enter Tryz.func51, Tryz.ntmps51
    go_wp2
    go_ret
    exact ⟨ret_bool G.out.symm, rfl⟩

/-- The number that digits make, behind some; none: it is none. (i: how many digits were read.) -/
def numGo : Nat → Nat → List UInt8 → Option Nat
  | n, _, [] => some n
  | n, i, c :: r => if c.toNat < 48 ∨ 57 < c.toNat ∨ 5 < i ∨ (n = 0 ∧ 0 < i) then none else numGo (10 * n + (c.toNat - 48)) (i + 1) r
/-- The number of an order; -1: it is none. -/
def numberI (l : List UInt8) : Int := match numGo 0 0 l with
  | some n => if l = [] ∨ 100000 < n then -1 else n
  | none => -1
theorem numGo_stop (s : ByteArray) (n k : Nat) (hg : numGo 0 0 s.data.toList = numGo n k (s.data.toList.drop k)) (h : k < s.size) (hc : s[k].toNat < 48 ∨ 57 < s[k].toNat ∨ 5 < k ∨ (n = 0 ∧ 0 < k)) : numberI s.data.toList = -1 := by
  unfold numberI
  rw [hg, drop_at s k h]
  simp only [numGo, if_pos hc]
theorem numGo_on (s : ByteArray) (n k : Nat) (hg : numGo 0 0 s.data.toList = numGo n k (s.data.toList.drop k)) (h : k < s.size) (hc : ¬ (s[k].toNat < 48 ∨ 57 < s[k].toNat ∨ 5 < k ∨ (n = 0 ∧ 0 < k))) :
    numGo 0 0 s.data.toList = numGo (10 * n + (s[k].toNat - 48)) (k + 1) (s.data.toList.drop (k + 1)) := by
  rw [hg, drop_at s k h]
  simp only [numGo, if_neg hc]
theorem numGo_end (s : ByteArray) (n k : Nat) (hg : numGo 0 0 s.data.toList = numGo n k (s.data.toList.drop k)) (h : s.size ≤ k) : numberI s.data.toList = if s.data.toList = [] ∨ 100000 < n then -1 else (n : Int) := by
  unfold numberI
  rw [hg, List.drop_of_length_le (by simpa using h)]
  simp only [numGo]

theorem vint {a b : Int} (h : a = b) : Value.int .i64 a = .int .i64 b := by rw [h]
theorem pow_on {m k d : Nat} (h : m < 10 ^ k) (hd : d ≤ 9) : 10 * m + d < 10 ^ (k + 1) := by
  rw [Nat.pow_succ]; omega
theorem pow_six {m k : Nat} (h : m < 10 ^ k) (hk : k ≤ 6) : m < 1000000 :=
  Nat.lt_of_lt_of_le h (Nat.pow_le_pow_right (by decide) hk)

set_option maxHeartbeats 1000000 in
theorem number_any (s : ByteArray) (w : World) (hs : s.size ≤ maxLen) :
    Calls Tryz.prog 92 #[.string s] w fun e w' => e = .returned (.int .i64 (numberI s.data.toList)) ∧ w' = w := by
  unfold maxLen at hs
  go_enter Tryz.func92, Tryz.ntmps92
  go_wp2
  go_loop [3, 4] (fun n i => ∃ m k : Nat, k ≤ s.size ∧ k ≤ 6 ∧ Hid (m < 10 ^ k) ∧ n = .int .i64 m ∧ i = .int .i64 k ∧ Hid (numGo 0 0 s.data.toList = numGo m k (s.data.toList.drop k))) (fun _ i => s.size + 1 - (intOf i).toNat)
  case atStart => exact ⟨0, 0, Nat.zero_le _, by omega, by unfold Hid; decide, rfl, rfl, by unfold Hid; simp⟩
  case round =>
    obtain ⟨m, k, hk, hk6, hm, rfl, rfl, hg⟩ := hrel
    have hm6 := pow_six hm.out hk6
    by_cases hlt : k < s.size
    · by_cases hc : s[k].toNat < 48 ∨ 57 < s[k].toNat ∨ 5 < k ∨ (m = 0 ∧ 0 < k)
      · have G : Hid (numberI s.data.toList = -1) := numGo_stop s m k hg.out hlt hc
        clear hg
        go_wp2
        all_goals first
          | (go_ret; exact ⟨ret_int G.out.symm, rfl⟩)
          | (exfalso; omega)
      · have G : Hid _ := numGo_on s m k hg.out hlt hc
        have hm' : Hid (10 * m + (s[k].toNat - 48) < 10 ^ (k + 1)) := pow_on hm.out (by omega)
        have c1 : 48 ≤ (s[k].toNat : Int) := by omega
        have c2 : (s[k].toNat : Int) ≤ 57 := by omega
        have c3 : (k : Int) ≤ 5 := by omega
        clear hg hm
        by_cases hm0 : m = 0
        · subst hm0
          have hk0 : k = 0 := by omega
          subst hk0
          clear hc
          go_wp2
          exact ⟨⟨10 * 0 + (s[0].toNat - 48), 0 + 1, by omega, by omega, hm', vint (by omega), rfl, G⟩, by simp [intOf]⟩
        · have c4 : ¬ (m : Int) = 0 := by omega
          clear hc
          go_wp2
          exact ⟨⟨10 * m + (s[k].toNat - 48), k + 1, by omega, by omega, hm', vint (by omega), vint (by omega), G⟩, by simp [intOf]; omega⟩
    · have G : Hid _ := numGo_end s m k hg.out (by omega)
      clear hg
      by_cases hz : s.data.toList = []
      · have e1 : s.toList = [] := by rw [Lib.toList_data]; exact hz
        have G2 : Hid (numberI s.data.toList = -1) := by unfold Hid; rw [G.out, if_pos (Or.inl hz)]
        clear G hz
        go_wp2
        go_ret
        exact ⟨ret_int G2.out.symm, rfl⟩
      · have e1 : s.toList.isEmpty = false := by rw [Lib.toList_data]; simpa using hz
        by_cases hm1 : 100000 < m
        · have G2 : Hid (numberI s.data.toList = -1) := by unfold Hid; rw [G.out, if_pos (Or.inr hm1)]
          clear G hz
          go_wp2
          go_ret
          exact ⟨ret_int G2.out.symm, rfl⟩
        · have G2 : Hid (numberI s.data.toList = m) := by unfold Hid; rw [G.out, if_neg (by rintro (h | h); exact hz h; exact hm1 h)]
          clear G hz
          go_wp2
          go_ret
          exact ⟨ret_int G2.out.symm, rfl⟩
end Go.Proofs.YtlafddeoheambaaGreatDoor

/-
  Whole numbers as floats: how they stand to nought and to a world's side.
-/
namespace Go.Proofs.YtlafddeoheambaaGreatDoor
open Go.RowKit Ieee

/-- A whole number as a float of 64 bits. -/
def flI (n : Int) : Nat := floatOfInt .f64 n

set_option maxHeartbeats 100000 in
theorem cut_bd (mag drop : Nat) (hm : 0 < mag) (hd : drop ≤ mag.log2) : mag / 2 ^ drop ≤ Toward.even.cut false mag drop ∧ Toward.even.cut false mag drop ≤ mag / 2 ^ drop + 1 := by
  unfold Toward.cut
  have e : min drop (mag.log2 + 2) = drop := by omega
  simp only [e, Nat.one_shiftLeft]
  constructor
  · omega
  · have : ∀ b : Bool, b.toNat ≤ 1 := fun b => by cases b <;> decide
    have := this (decide (2 ^ drop < 2 * (mag % 2 ^ drop)) || 2 ^ drop == 2 * (mag % 2 ^ drop) && mag / 2 ^ drop % 2 == 1)
    omega

theorem lp_double : double.leastPlace = -1074 := by kernel_rfl
theorem bin_double : double.binade = 4503599627370496 := by kernel_rfl
theorem inf_double : double.infRung = 9218868437227405312 := by kernel_rfl
theorem sw_double : double.signWeight = 9223372036854775808 := by kernel_rfl

/-- What is kept of a whole number of L + 1 digits. -/
def keptOf (mag L : Nat) : Nat := Toward.even.cut false (mag * 2 ^ (52 - L)) (L - 52)
set_option maxHeartbeats 100000 in
theorem kept_bd (mag L : Nat) (hL : mag.log2 = L) (hm : 0 < mag) : 4503599627370496 ≤ keptOf mag L ∧ keptOf mag L ≤ 9007199254740992 := by
  have lo : 2 ^ L ≤ mag := by rw [← hL]; exact Nat.log2_self_le (by omega)
  have hi : mag < 2 ^ (L + 1) := by rw [← hL]; exact Nat.lt_log2_self
  have n52 : (2 : Nat) ^ 52 = 4503599627370496 := by kernel_rfl
  have n53 : (2 : Nat) ^ 53 = 9007199254740992 := by kernel_rfl
  rw [← n52, ← n53]
  unfold keptOf
  by_cases h : L ≤ 52
  · have e1 : L - 52 = 0 := by omega
    rw [e1]
    have b := cut_bd (mag * 2 ^ (52 - L)) 0 (Nat.mul_pos hm (Nat.two_pow_pos _)) (Nat.zero_le _)
    simp only [Nat.pow_zero, Nat.div_one] at b
    have p1 : 2 ^ L * 2 ^ (52 - L) = 2 ^ 52 := by rw [← Nat.pow_add, show L + (52 - L) = 52 by omega]
    have p2 : 2 ^ (L + 1) * 2 ^ (52 - L) = 2 ^ 53 := by rw [← Nat.pow_add, show L + 1 + (52 - L) = 53 by omega]
    have q1 : 2 ^ L * 2 ^ (52 - L) ≤ mag * 2 ^ (52 - L) := Nat.mul_le_mul_right _ lo
    have q2 : mag * 2 ^ (52 - L) < 2 ^ (L + 1) * 2 ^ (52 - L) := Nat.mul_lt_mul_of_pos_right hi (Nat.two_pow_pos _)
    rw [p1] at q1
    rw [p2] at q2
    exact ⟨Nat.le_trans q1 b.1, Nat.le_trans b.2 q2⟩
  · have e1 : 52 - L = 0 := by omega
    rw [e1, Nat.pow_zero, Nat.mul_one]
    have b := cut_bd mag (L - 52) hm (by omega)
    have p1 : 2 ^ L = 2 ^ 52 * 2 ^ (L - 52) := by rw [← Nat.pow_add, show 52 + (L - 52) = L by omega]
    have p2 : 2 ^ (L + 1) = 2 ^ 53 * 2 ^ (L - 52) := by rw [← Nat.pow_add, show 53 + (L - 52) = L + 1 by omega]
    have q1 : 2 ^ 52 ≤ mag / 2 ^ (L - 52) := (Nat.le_div_iff_mul_le (Nat.two_pow_pos _)).2 (by rw [← p1]; exact lo)
    have q2 : mag / 2 ^ (L - 52) < 2 ^ 53 := (Nat.div_lt_iff_lt_mul (Nat.two_pow_pos _)).2 (by rw [← p2]; exact hi)
    exact ⟨Nat.le_trans q1 b.1, Nat.le_trans b.2 q2⟩
set_option maxHeartbeats 100000 in
theorem near_eq (neg : Bool) (mag L : Nat) (hL : mag.log2 = L) (hm : 0 < mag) (h63 : L ≤ 63) (hk : Toward.even.cut neg (mag * 2 ^ (52 - L)) (L - 52) = keptOf mag L) : double.nearest neg mag 0 = double.word neg ((L + 1022) * 4503599627370496 + keptOf mag L) := by
  have kb := kept_bd mag L hL hm
  unfold Format.nearest
  rw [if_neg (by omega)]
  simp only [lp_double, bin_double, inf_double, hL]
  have e1 : max ((0 : Int) + (L : Int) - (double.fractionBits : Int)) (-1074) = (L : Int) - 52 := by
    show max ((0 : Int) + (L : Int) - (52 : Int)) (-1074) = _
    omega
  rw [e1]
  have e2 : ((0 : Int) - ((L : Int) - 52)).toNat = 52 - L := by omega
  have e3 : (((L : Int) - 52) - 0).toNat = L - 52 := by omega
  have e4 : (((L : Int) - 52) - (-1074)).toNat = L + 1022 := by omega
  rw [e2, e3, e4, Nat.shiftLeft_eq, hk]
  rw [Nat.min_eq_left (by omega)]
theorem cut_neg (neg : Bool) (a b : Nat) : Toward.even.cut neg a b = Toward.even.cut false a b := rfl

end Go.Proofs.YtlafddeoheambaaGreatDoor

/-
  Whole numbers as floats, read again: how they stand to nought and to a world's side.
-/
namespace Go.Proofs.YtlafddeoheambaaGreatDoor
open Go.RowKit Ieee

set_option maxHeartbeats 200000 in
theorem read_word (neg : Bool) (r : Nat) (h1 : 4503599627370496 ≤ r) (h2 : r < 9218868437227405312) :
    double.read (double.word neg r) = .number neg (4503599627370496 + r % 4503599627370496) (-1074 + ((r / 4503599627370496 - 1 : Nat) : Int)) := by
  unfold Format.read Format.word
  simp only [sw_double, bin_double, inf_double, lp_double]
  cases neg
  · simp only [Bool.false_eq_true, if_false]
    have a : r / 9223372036854775808 = 0 := by omega
    have b : r % 9223372036854775808 = r := by omega
    rw [a, b, if_neg (by omega), if_pos h2]
    rfl
  · simp only [if_true]
    have a : (9223372036854775808 + r) / 9223372036854775808 = 1 := by omega
    have b : (9223372036854775808 + r) % 9223372036854775808 = r := by omega
    rw [a, b, if_neg (by omega), if_pos h2]
    rfl

set_option maxHeartbeats 200000 in
/-- A whole number of at least one, read again. -/
theorem read_near (neg : Bool) (mag : Nat) (h : 0 < mag) (h2 : mag ≤ 9223372036854775808) :
    ∃ m p, double.read (double.nearest neg mag 0) = .number neg m p ∧ 4503599627370496 ≤ m ∧ (mag.log2 : Int) - 52 ≤ p := by
  have hL2 : mag.log2 ≤ 63 := by
    have : mag.log2 < 64 := by rw [Nat.log2_lt (by omega)]; omega
    omega
  have kb := kept_bd mag mag.log2 rfl h
  rw [near_eq neg mag mag.log2 rfl h hL2 rfl]
  generalize keptOf mag mag.log2 = kept at kb
  generalize mag.log2 = L at *
  rw [read_word neg _ (by omega) (by omega)]
  exact ⟨_, _, rfl, by omega, by omega⟩

theorem ord_pos (m : Nat) (p : Int) (hm : 0 < m) : Datum.order (.number false 0 (-1074)) (.number false m p) = some .lt := by
  have : 0 < m <<< (p - min (-1074) p).toNat := by rw [Nat.shiftLeft_eq]; exact Nat.mul_pos hm (Nat.two_pow_pos _)
  simp only [Datum.order, signed, Nat.zero_shiftLeft, Bool.false_eq_true, if_false]
  congr 1
  rw [compare, instOrdInt]
  simp only [compareOfLessAndEq]
  rw [if_pos (by omega)]
theorem ord_neg (m : Nat) (p : Int) (hm : 0 < m) : Datum.order (.number false 0 (-1074)) (.number true m p) = some .gt := by
  have : 0 < m <<< (p - min (-1074) p).toNat := by rw [Nat.shiftLeft_eq]; exact Nat.mul_pos hm (Nat.two_pow_pos _)
  simp only [Datum.order, signed, Nat.zero_shiftLeft, Bool.false_eq_true, if_false, if_true]
  congr 1
  rw [compare, instOrdInt]
  simp only [compareOfLessAndEq]
  rw [if_neg (by omega), if_neg (by omega)]
theorem ord_big (m mW : Nat) (p pW : Int) (hm : 4503599627370496 ≤ m) (hp : -48 ≤ p) (hW : mW < 9007199254740992) (hpW : pW ≤ -49) : Datum.order (.number false m p) (.number false mW pW) = some .gt := by
  have e1 : min p pW = pW := by omega
  obtain ⟨d, hd⟩ : ∃ d : Nat, (p - pW).toNat = d + 1 := ⟨(p - pW).toNat - 1, by omega⟩
  have e2 : (pW - pW).toNat = 0 := by omega
  simp only [Datum.order, signed, Bool.false_eq_true, if_false, e1, hd, e2]
  have b1 : m * 2 ≤ m <<< (d + 1) := by
    rw [Nat.shiftLeft_eq, Nat.pow_succ]
    have := Nat.two_pow_pos d
    have : 2 ≤ 2 ^ d * 2 := by omega
    exact Nat.mul_le_mul_left _ this
  have b2 : mW <<< 0 = mW := rfl
  rw [b2]
  congr 1
  rw [compare, instOrdInt]
  simp only [compareOfLessAndEq]
  rw [if_neg (by omega), if_neg (by omega)]

end Go.Proofs.YtlafddeoheambaaGreatDoor

/-
  A spot lies in the world, asked of floats, just where it lies there by its whole numbers; headings as complex numbers.
-/
namespace Go.Proofs.YtlafddeoheambaaGreatDoor
open Go.RowKit Ieee

theorem small_ord : ∀ n : Fin 16, ∀ W : Fin 11, 3 ≤ W.val → (double.order (flI (n.val : Int)) (flI (W.val : Int)) == some .lt) = decide (n.val < W.val) := by decide +kernel
theorem side_read : ∀ W : Fin 11, 3 ≤ W.val → ∃ m p, double.read (flI (W.val : Int)) = .number false m p ∧ m < 9007199254740992 ∧ p ≤ -49 := by
  intro W hW
  have key : ∀ W : Fin 11, 3 ≤ W.val → (match double.read (flI (W.val : Int)) with | .number s m p => s == false && decide (m < 9007199254740992) && decide (p ≤ -49) | _ => false) = true := by decide +kernel
  have := key W hW
  split at this
  · rename_i s m p he
    simp only [Bool.and_eq_true, beq_iff_eq, decide_eq_true_eq] at this
    exact ⟨m, p, by rw [he, this.1.1], this.1.2, this.2⟩
  · cases this
theorem zero_read : double.read 0 = .number false 0 (-1074) := by kernel_rfl
theorem zero_self : double.order 0 (flI 0) = some .eq := by kernel_rfl
theorem fl_read (n : Int) (h0 : n ≠ 0) (h1 : -9223372036854775808 ≤ n) (h2 : n ≤ 9223372036854775807) : ∃ m p, double.read (flI n) = .number (decide (n < 0)) m p ∧ 4503599627370496 ≤ m ∧ (n.natAbs.log2 : Int) - 52 ≤ p :=
  read_near (decide (n < 0)) n.natAbs (by omega) (by omega)

/-- Nought against a whole number. -/
theorem hold_lo (n : Int) (h1 : -9223372036854775808 ≤ n) (h2 : n ≤ 9223372036854775807) : (double.order 0 (flI n) == some .lt || double.order 0 (flI n) == some .eq) = decide (0 ≤ n) := by
  by_cases h0 : n = 0
  · subst h0
    rw [zero_self]
    decide
  · obtain ⟨m, p, he, hm, _⟩ := fl_read n h0 h1 h2
    unfold Format.order
    rw [he, zero_read]
    by_cases hn : n < 0
    · rw [decide_eq_true hn, ord_neg m p (by omega), decide_eq_false (by omega)]
      decide
    · rw [decide_eq_false hn, ord_pos m p (by omega), decide_eq_true (by omega)]
      decide
/-- A whole number that is not below nought against a side. -/
theorem hold_hi (n W : Int) (h1 : 0 ≤ n) (h2 : n ≤ 9223372036854775807) (hW : 3 ≤ W) (hW2 : W ≤ 10) : (double.order (flI n) (flI W) == some .lt) = decide (n < W) := by
  obtain ⟨k, rfl⟩ := Int.eq_ofNat_of_zero_le (show 0 ≤ W by omega)
  by_cases h16 : n < 16
  · obtain ⟨j, rfl⟩ := Int.eq_ofNat_of_zero_le h1
    have := small_ord ⟨j, by omega⟩ ⟨k, by omega⟩ (by simp only; omega)
    simp only at this
    rw [this]
    exact decide_eq_decide.2 (by omega)
  · obtain ⟨m, p, he, hm, hp⟩ := fl_read n (by omega) (by omega) h2
    obtain ⟨mW, pW, heW, hmW, hpW⟩ := side_read ⟨k, by omega⟩ (by simp only; omega)
    simp only at heW
    have hL : 4 ≤ n.natAbs.log2 := by rw [Nat.le_log2 (by omega)]; omega
    unfold Format.order
    rw [he, heW, decide_eq_false (show ¬ n < 0 by omega), ord_big m mW p pW hm (by omega) hmW hpW, decide_eq_false (by omega)]
    decide

end Go.Proofs.YtlafddeoheambaaGreatDoor

/-
  The functions of the program's package spots: spots and headings as complex numbers.
-/
namespace Go.Proofs.YtlafddeoheambaaGreatDoor
open Go.RowKit

set_option maxRecDepth 100000 in
set_option maxHeartbeats 400000 in
theorem at_any (x y : Int) (w : World) :
    Calls Tryz.prog 58 #[.int .i64 x, .int .i64 y] w fun e w' => e = .returned (.complex .f64 (flI x) (flI y)) ∧ w' = w := by
  go_enter Tryz.func58, Tryz.ntmps58
  go_wp2
  go_ret
  exact ⟨rfl, rfl⟩

def ordF (a b : Nat) : Option Ordering := FloatKind.f64.format.order a b
theorem lo_iff (n : Int) (h : -9223372036854775808 ≤ n ∧ n ≤ 9223372036854775807) : (FloatKind.f64.format.order 0 (flI n) = some Ordering.lt ∨ FloatKind.f64.format.order 0 (flI n) = some Ordering.eq) ↔ 0 ≤ n := by
  have this : (FloatKind.f64.format.order 0 (flI n) == some Ordering.lt || FloatKind.f64.format.order 0 (flI n) == some Ordering.eq) = decide (0 ≤ n) := hold_lo n h.1 h.2
  rw [Bool.eq_iff_iff] at this
  simpa using this
theorem hi_iff (n W : Int) (h1 : 0 ≤ n) (h2 : n ≤ 9223372036854775807) (hW : 3 ≤ W ∧ W ≤ 10) : FloatKind.f64.format.order (flI n) (floatOfInt FloatKind.f64 W) = some Ordering.lt ↔ n < W := by
  have this : (FloatKind.f64.format.order (flI n) (floatOfInt FloatKind.f64 W) == some Ordering.lt) = decide (n < W) := hold_hi n W h1 h2 hW.1 hW.2
  rw [Bool.eq_iff_iff] at this
  simpa using this
theorem in_iff (n W : Int) : inB n 0 (W - 1) = decide (0 ≤ n ∧ n < W) := by
  simp only [inB]
  by_cases h : 0 ≤ n <;> by_cases h' : n < W <;> simp [h, h'] <;> omega

set_option maxRecDepth 100000 in
set_option maxHeartbeats 400000 in
theorem hold_any (W H x y : Int) (w : World) (hx : -9223372036854775808 ≤ x ∧ x ≤ 9223372036854775807) (hy : -9223372036854775808 ≤ y ∧ y ≤ 9223372036854775807) (hW : 3 ≤ W ∧ W ≤ 10) (hH : 3 ≤ H ∧ H ≤ 10) :
    Calls Tryz.prog 130 #[.agg #[.int .i64 W, .int .i64 H], .complex .f64 (flI x) (flI y)] w fun e w' => e = .returned (.bool (inB x 0 (W - 1) && inB y 0 (H - 1))) ∧ Below w.heap.size w w' := by
  go_enter Tryz.func130, Tryz.ntmps130
  go_wp2
  · rename_i h1 h2 h3
    go_ret
    refine ⟨ret_bool ?_, (Below.refl _ _).alloc (Nat.le_refl _) _⟩
    have g1 := (lo_iff x hx).1 h1
    have g2 := (hi_iff x W g1 hx.2 hW).1 h2
    have g3 := (lo_iff y hy).1 h3
    rw [in_iff, in_iff, decide_eq_true (And.intro g1 g2), Bool.true_and, Bool.eq_iff_iff]
    simp [hi_iff y H g3 hy.2 hH, g3, h1, h3]
  · rename_i h1 h2 h3
    go_ret
    refine ⟨ret_bool ?_, (Below.refl _ _).alloc (Nat.le_refl _) _⟩
    rw [in_iff y, decide_eq_false (fun h => h3 ((lo_iff y hy).2 h.1)), Bool.and_false]
  · rename_i h1 h2
    go_ret
    refine ⟨ret_bool ?_, (Below.refl _ _).alloc (Nat.le_refl _) _⟩
    have g1 := (lo_iff x hx).1 h1
    rw [in_iff x, decide_eq_false (fun h => h2 ((hi_iff x W g1 hx.2 hW).2 h.2)), Bool.false_and]
  · rename_i h1
    go_ret
    refine ⟨ret_bool ?_, (Below.refl _ _).alloc (Nat.le_refl _) _⟩
    rw [in_iff x, decide_eq_false (fun h => h1 ((lo_iff x hx).2 h.1)), Bool.false_and]

/-- The bits of one, of minus one, of minus nought. -/
def oneF : Nat := 4607182418800017408
def mOneF : Nat := 13830554455654793216
def mZeroF : Nat := 9223372036854775808
/-- The complex numbers that are a heading (0 e, 1 n, 2 w, 3 s): the part that is nought may have a sign. -/
def HeadC (h : Int) (a b : Nat) : Prop :=
  (h = 0 ∧ a = oneF ∧ (b = 0 ∨ b = mZeroF)) ∨ (h = 1 ∧ b = oneF ∧ (a = 0 ∨ a = mZeroF)) ∨ (h = 2 ∧ a = mOneF ∧ (b = 0 ∨ b = mZeroF)) ∨ (h = 3 ∧ b = mOneF ∧ (a = 0 ∨ a = mZeroF))
theorem turnL (h : Int) (a b : Nat) (hh : HeadC h a b) : ∃ re im, cMulBits a b 0 oneF = some (re, im) ∧ HeadC ((h + 1) % 4) re im := by
  rcases hh with ⟨rfl, rfl, rfl | rfl⟩ | ⟨rfl, rfl, rfl | rfl⟩ | ⟨rfl, rfl, rfl | rfl⟩ | ⟨rfl, rfl, rfl | rfl⟩
  · exact ⟨0, oneF, by kernel_rfl, .inr (.inl ⟨by decide, rfl, .inl rfl⟩)⟩
  · exact ⟨0, oneF, by kernel_rfl, .inr (.inl ⟨by decide, rfl, .inl rfl⟩)⟩
  · exact ⟨mOneF, 0, by kernel_rfl, .inr (.inr (.inl ⟨by decide, rfl, .inl rfl⟩))⟩
  · exact ⟨mOneF, 0, by kernel_rfl, .inr (.inr (.inl ⟨by decide, rfl, .inl rfl⟩))⟩
  · exact ⟨mZeroF, mOneF, by kernel_rfl, .inr (.inr (.inr ⟨by decide, rfl, .inr rfl⟩))⟩
  · exact ⟨0, mOneF, by kernel_rfl, .inr (.inr (.inr ⟨by decide, rfl, .inl rfl⟩))⟩
  · exact ⟨oneF, 0, by kernel_rfl, .inl ⟨by decide, rfl, .inl rfl⟩⟩
  · exact ⟨oneF, mZeroF, by kernel_rfl, .inl ⟨by decide, rfl, .inr rfl⟩⟩
theorem turnR (h : Int) (a b : Nat) (hh : HeadC h a b) : ∃ re im, cMulBits a b 0 mOneF = some (re, im) ∧ HeadC ((h + 3) % 4) re im := by
  rcases hh with ⟨rfl, rfl, rfl | rfl⟩ | ⟨rfl, rfl, rfl | rfl⟩ | ⟨rfl, rfl, rfl | rfl⟩ | ⟨rfl, rfl, rfl | rfl⟩
  · exact ⟨0, mOneF, by kernel_rfl, .inr (.inr (.inr ⟨by decide, rfl, .inl rfl⟩))⟩
  · exact ⟨0, mOneF, by kernel_rfl, .inr (.inr (.inr ⟨by decide, rfl, .inl rfl⟩))⟩
  · exact ⟨oneF, 0, by kernel_rfl, .inl ⟨by decide, rfl, .inl rfl⟩⟩
  · exact ⟨oneF, 0, by kernel_rfl, .inl ⟨by decide, rfl, .inl rfl⟩⟩
  · exact ⟨0, oneF, by kernel_rfl, .inr (.inl ⟨by decide, rfl, .inl rfl⟩)⟩
  · exact ⟨mZeroF, oneF, by kernel_rfl, .inr (.inl ⟨by decide, rfl, .inr rfl⟩)⟩
  · exact ⟨mOneF, mZeroF, by kernel_rfl, .inr (.inr (.inl ⟨by decide, rfl, .inr rfl⟩))⟩
  · exact ⟨mOneF, 0, by kernel_rfl, .inr (.inr (.inl ⟨by decide, rfl, .inl rfl⟩))⟩
theorem turnB (h : Int) (a b : Nat) (hh : HeadC h a b) : ∃ re im, cMulBits a b mOneF 0 = some (re, im) ∧ HeadC ((h + 2) % 4) re im := by
  rcases hh with ⟨rfl, rfl, rfl | rfl⟩ | ⟨rfl, rfl, rfl | rfl⟩ | ⟨rfl, rfl, rfl | rfl⟩ | ⟨rfl, rfl, rfl | rfl⟩
  · exact ⟨mOneF, 0, by kernel_rfl, .inr (.inr (.inl ⟨by decide, rfl, .inl rfl⟩))⟩
  · exact ⟨mOneF, 0, by kernel_rfl, .inr (.inr (.inl ⟨by decide, rfl, .inl rfl⟩))⟩
  · exact ⟨mZeroF, mOneF, by kernel_rfl, .inr (.inr (.inr ⟨by decide, rfl, .inr rfl⟩))⟩
  · exact ⟨0, mOneF, by kernel_rfl, .inr (.inr (.inr ⟨by decide, rfl, .inl rfl⟩))⟩
  · exact ⟨oneF, mZeroF, by kernel_rfl, .inl ⟨by decide, rfl, .inr rfl⟩⟩
  · exact ⟨oneF, 0, by kernel_rfl, .inl ⟨by decide, rfl, .inl rfl⟩⟩
  · exact ⟨0, oneF, by kernel_rfl, .inr (.inl ⟨by decide, rfl, .inl rfl⟩)⟩
  · exact ⟨0, oneF, by kernel_rfl, .inr (.inl ⟨by decide, rfl, .inl rfl⟩)⟩

set_option maxRecDepth 100000 in
set_option maxHeartbeats 400000 in
theorem left_any (h : Int) (a b : Nat) (w : World) (hh : HeadC h a b) :
    Calls Tryz.prog 68 #[.complex .f64 a b] w fun e w' => ∃ re im, e = .returned (.complex .f64 re im) ∧ HeadC ((h + 1) % 4) re im ∧ w' = w := by
  obtain ⟨re, im, hm, ht⟩ := turnL h a b hh
  have hmul : ∀ w, (binOp .mul 89 (.complex .f64 a b) (.complex .f64 0 4607182418800017408)).run Tryz.prog w = .ok (.complex .f64 re im) w := fun w => run_complex_mul w 89 a b 0 oneF re im hm
  go_enter Tryz.func68, Tryz.ntmps68
  go_wp2
  go_ret
  exact ⟨re, im, rfl, ht, rfl⟩
set_option maxRecDepth 100000 in
set_option maxHeartbeats 400000 in
theorem right_any (h : Int) (a b : Nat) (w : World) (hh : HeadC h a b) :
    Calls Tryz.prog 69 #[.complex .f64 a b] w fun e w' => ∃ re im, e = .returned (.complex .f64 re im) ∧ HeadC ((h + 3) % 4) re im ∧ w' = w := by
  obtain ⟨re, im, hm, ht⟩ := turnR h a b hh
  have hmul : ∀ w, (binOp .mul 89 (.complex .f64 a b) (.complex .f64 0 13830554455654793216)).run Tryz.prog w = .ok (.complex .f64 re im) w := fun w => run_complex_mul w 89 a b 0 mOneF re im hm
  go_enter Tryz.func69, Tryz.ntmps69
  go_wp2
  go_ret
  exact ⟨re, im, rfl, ht, rfl⟩
set_option maxRecDepth 100000 in
set_option maxHeartbeats 400000 in
theorem back_any (h : Int) (a b : Nat) (w : World) (hh : HeadC h a b) :
    Calls Tryz.prog 70 #[.complex .f64 a b] w fun e w' => ∃ re im, e = .returned (.complex .f64 re im) ∧ HeadC ((h + 2) % 4) re im ∧ w' = w := by
  obtain ⟨re, im, hm, ht⟩ := turnB h a b hh
  have hmul : ∀ w, (binOp .mul 89 (.complex .f64 a b) (.complex .f64 13830554455654793216 0)).run Tryz.prog w = .ok (.complex .f64 re im) w := fun w => run_complex_mul w 89 a b mOneF 0 re im hm
  go_enter Tryz.func70, Tryz.ntmps70
  go_wp2
  go_ret
  exact ⟨re, im, rfl, ht, rfl⟩
end Go.Proofs.YtlafddeoheambaaGreatDoor

/-
  The function Ahead of the program's package spots: the spot ahead, and whether there is one.
-/
namespace Go.Proofs.YtlafddeoheambaaGreatDoor
open Go.RowKit

theorem hidOf4 {p : Prop} (h : p) : Hid p := h
theorem add_one : ∀ x : Fin 10, floatBits .add .f64 (flI (x.val : Int)) 4607182418800017408 = some (flI ((x.val : Int) + 1)) := by decide +kernel
theorem add_mone : ∀ x : Fin 10, floatBits .add .f64 (flI (x.val : Int)) 13830554455654793216 = some (flI ((x.val : Int) - 1)) := by decide +kernel
theorem add_zero : ∀ x : Fin 10, floatBits .add .f64 (flI (x.val : Int)) 0 = some (flI (x.val : Int)) := by decide +kernel
theorem add_mzero : ∀ x : Fin 10, floatBits .add .f64 (flI (x.val : Int)) 9223372036854775808 = some (flI (x.val : Int)) := by decide +kernel

theorem sum_head (h x y : Int) (a b : Nat) (hh : HeadC h a b) (hx : 0 ≤ x ∧ x ≤ 9) (hy : 0 ≤ y ∧ y ≤ 9) : cSumBits .add .f64 (flI x) (flI y) a b = some (flI (x + dxI h), flI (y + dyI h)) := by
  obtain ⟨i, rfl⟩ := Int.eq_ofNat_of_zero_le hx.1
  obtain ⟨j, rfl⟩ := Int.eq_ofNat_of_zero_le hy.1
  have p1 := add_one ⟨i, by omega⟩
  have p2 := add_mone ⟨i, by omega⟩
  have p3 := add_zero ⟨i, by omega⟩
  have p4 := add_mzero ⟨i, by omega⟩
  have q1 := add_one ⟨j, by omega⟩
  have q2 := add_mone ⟨j, by omega⟩
  have q3 := add_zero ⟨j, by omega⟩
  have q4 := add_mzero ⟨j, by omega⟩
  simp only at p1 p2 p3 p4 q1 q2 q3 q4
  unfold cSumBits
  rcases hh with ⟨rfl, rfl, rfl | rfl⟩ | ⟨rfl, rfl, rfl | rfl⟩ | ⟨rfl, rfl, rfl | rfl⟩ | ⟨rfl, rfl, rfl | rfl⟩
  all_goals
    simp only [oneF, mOneF, mZeroF, p1, p2, p3, p4, q1, q2, q3, q4, dxI, dyI]
    simp
  all_goals try (constructor <;> rfl)

set_option maxRecDepth 100000 in
set_option maxHeartbeats 1000000 in
theorem xahead_any (W H x y h : Int) (a b : Nat) (w : World) (hh : HeadC h a b) (hx : 0 ≤ x ∧ x ≤ 9) (hy : 0 ≤ y ∧ y ≤ 9) (hW : 3 ≤ W ∧ W ≤ 10) (hH : 3 ≤ H ∧ H ≤ 10) :
    Calls Tryz.prog 131 #[.agg #[.int .i64 W, .int .i64 H], .complex .f64 (flI x) (flI y), .complex .f64 a b] w fun e w' =>
      e = .returned (if inB (x + dxI h) 0 (W - 1) && inB (y + dyI h) 0 (H - 1) then .tuple #[.complex .f64 (flI (x + dxI h)) (flI (y + dyI h)), .bool true] else .tuple #[.complex .f64 0 0, .bool false]) ∧ Below w.heap.size w w' := by
  have hsum : ∀ w, (binOp .add 88 (.complex .f64 (flI x) (flI y)) (.complex .f64 a b)).run Tryz.prog w = .ok (.complex .f64 (flI (x + dxI h)) (flI (y + dyI h))) w := fun w => run_complex_sum w .add (.inl rfl) 88 .f64 _ _ _ _ _ _ (sum_head h x y a b hh hx hy)
  have bx : -1 ≤ x + dxI h ∧ x + dxI h ≤ 10 := by unfold dxI; split <;> (try split) <;> omega
  have bY : -1 ≤ y + dyI h ∧ y + dyI h ≤ 10 := by unfold dyI; split <;> (try split) <;> omega
  have HC := hidOf4 (hold_any W H (x + dxI h) (y + dyI h) (w.alloc (.cells #[.int .i64 W, .int .i64 H] 78)) (by omega) (by omega) hW hH)
  generalize hgx : x + dxI h = X at *
  generalize hgy : y + dyI h = Y at *
  clear hgx hgy bx bY hh
  cases hb : (inB X 0 (W - 1) && inB Y 0 (H - 1))
  all_goals
    rw [hb] at HC
    go_enter Tryz.func131, Tryz.ntmps131
    go_wp2_with fail
    refine HC.out.mono ?_
    rintro e w1 ⟨rfl, hb1⟩
    go_wp2
    go_ret2
    exact ⟨rfl, ((Below.refl _ _).alloc (Nat.le_refl _) _).trans (hb1.mono (by simp))⟩
end Go.Proofs.YtlafddeoheambaaGreatDoor
