/-
  Plain facts on names, numbers and words of texts: what the functions of the seed's texts come to, said of lists of bytes. No Go in sight.
-/
import Derived.Laws.AppendOwn
import Derived.Below
import Derived.Lib.Strings
import Derived.Test.YtlafddeoheambaaDoorProg
import Derived.WalkKit
import Derived.WalkSpells
import Derived.WalkLawsBesides
import Derived.Maps.OwnSet
import Derived.Lib.Bytealg
import Derived.Lib.ItoaNum
set_option linter.unusedVariables false
namespace Go.Proofs.YtlafddeoheambaaDoor

/-- A byte that is a letter from a to z. -/
def lowB (c : Nat) : Bool := decide (97 ≤ c) && decide (c ≤ 122)
/-- Two bytes that are a Greek small letter. -/
def grkB (c d : Nat) : Bool := (decide (c = 206) && decide (177 ≤ d) && decide (d ≤ 191)) || (decide (c = 207) && decide (128 ≤ d) && decide (d ≤ 137))

/-- How many letters a text has, if it is made of letters alone. -/
def runesL : List UInt8 → Option Nat
  | [] => some 0
  | [c] => if lowB c.toNat then some 1 else none
  | c :: d :: r => if lowB c.toNat then (runesL (d :: r)).map (· + 1) else if grkB c.toNat d.toNat then (runesL r).map (· + 1) else none

/-- The number of letters of a name; 0: it is none. -/
def runesN (l : List UInt8) : Nat := match runesL l with
  | some m => if m ≤ 6 then m else 0
  | none => 0

/-- Is the text a name? -/
def nameB (l : List UInt8) : Bool := decide (0 < runesN l)

theorem runesL_low (c : UInt8) (r : List UInt8) (h : lowB c.toNat = true) : runesL (c :: r) = (runesL r).map (· + 1) := by
  cases r with
  | nil => simp [runesL, h]
  | cons d r => simp [runesL, h]
theorem runesL_grk (c d : UInt8) (r : List UInt8) (h : lowB c.toNat = false) (g : grkB c.toNat d.toNat = true) : runesL (c :: d :: r) = (runesL r).map (· + 1) := by
  simp [runesL, h, g]
theorem runesL_none (c d : UInt8) (r : List UInt8) (h : lowB c.toNat = false) (g : grkB c.toNat d.toNat = false) : runesL (c :: d :: r) = none := by
  simp [runesL, h, g]
theorem runesL_last (c : UInt8) (h : lowB c.toNat = false) : runesL [c] = none := by simp [runesL, h]

/-- The rest of a text from a place on, at a place inside. -/
theorem drop_at (s : ByteArray) (k : Nat) (h : k < s.size) : s.data.toList.drop k = s[k] :: s.data.toList.drop (k + 1) := by
  rw [List.drop_eq_getElem_cons (by simpa using h)]; rfl

/-- What is left of the count behind k bytes, n letters counted. -/
def runesGo (s : ByteArray) (n k : Nat) : Prop := runesL s.data.toList = (runesL (s.data.toList.drop k)).map (· + n)

theorem runesGo_start (s : ByteArray) : runesGo s 0 0 := by simp [runesGo]
theorem runesGo_low {s : ByteArray} {n k : Nat} (hg : runesGo s n k) (h : k < s.size) (hl : lowB s[k].toNat = true) : runesGo s (n + 1) (k + 1) := by
  unfold runesGo at *
  rw [hg, drop_at s k h, runesL_low _ _ hl]
  cases runesL (s.data.toList.drop (k + 1)) <;> simp; omega
theorem runesGo_grk {s : ByteArray} {n k : Nat} (hg : runesGo s n k) (h : k + 1 < s.size) (hl : lowB s[k].toNat = false) (hk : grkB s[k].toNat s[k + 1].toNat = true) : runesGo s (n + 1) (k + 2) := by
  unfold runesGo at *
  rw [hg, drop_at s k (by omega), drop_at s (k + 1) h, runesL_grk _ _ _ hl hk]
  cases runesL (s.data.toList.drop (k + 1 + 1)) <;> simp; omega
theorem runesGo_no {s : ByteArray} {n k : Nat} (hg : runesGo s n k) (h : k < s.size) (hl : lowB s[k].toNat = false) (hk : ∀ h' : k + 1 < s.size, grkB s[k].toNat s[k + 1].toNat = false) : runesN s.data.toList = 0 := by
  unfold runesGo at hg
  unfold runesN
  rw [hg, drop_at s k h]
  by_cases h' : k + 1 < s.size
  · rw [drop_at s (k + 1) h', runesL_none _ _ _ hl (hk h')]; rfl
  · rw [List.drop_of_length_le (by simp; omega), runesL_last _ hl]; rfl
theorem runesGo_end {s : ByteArray} {n k : Nat} (hg : runesGo s n k) (h : s.size ≤ k) : runesN s.data.toList = if n ≤ 6 then n else 0 := by
  unfold runesGo at hg
  unfold runesN
  rw [hg, List.drop_of_length_le (by simpa using h)]
  simp [runesL]
theorem runesGo_le {s : ByteArray} {n k : Nat} (hg : runesGo s n k) (hn : n ≤ k) (h : s.size ≤ k) (hk : k ≤ s.size + 1) : n ≤ s.size + 1 := by omega

end Go.Proofs.YtlafddeoheambaaDoor

/-
  The document's world, said plainly (lists, numbers), and what the functions of package hazeref come to on it. No walk in sight.
-/
namespace Go.Proofs.YtlafddeoheambaaDoor
open Go.RowKit

/-- A unit: its name, its spot, its heading (0 e, 1 n, 2 w, 3 s), its cargo; what it was told, with which name. -/
structure SUnit where
  name : ByteArray
  x : Int
  y : Int
  head : Int
  cargo : Int
  what : ByteArray
  arg : ByteArray

structure SBid where
  lot : ByteArray
  n : Int

structure SLot where
  name : ByteArray
  least : Int
  ends : Int

structure SPlayer where
  money : Int
  units : List SUnit
  bids : List SBid
  news : List ByteArray

structure SSpot where
  x : Int
  y : Int
  amount : Int

structure SWorld where
  width : Int
  height : Int
  sight : Int
  now : Int
  ore : List SSpot
  players : List SPlayer
  lots : List SLot

/-- The cells of a unit, as package hazeref lays them. -/
def unitCells (u : SUnit) : List Value := [.string u.name, .int .i64 u.x, .int .i64 u.y, .int .i64 u.head, .int .i64 u.cargo, .string u.what, .string u.arg]
def spotCells (s : SSpot) : List Value := [.int .i64 s.x, .int .i64 s.y, .int .i64 s.amount]
def bidCells (b : SBid) : List Value := [.string b.lot, .int .i64 b.n]
def lotCells (l : SLot) : List Value := [.string l.name, .int .i64 l.least, .int .i64 l.ends]

/-- The cells of a list of things, each of as many cells as every other. -/
theorem flat_length {α : Type} (f : α → List Value) (size : Nat) (h : ∀ a, (f a).length = size) (l : List α) : (l.flatMap f).length = l.length * size := by
  induction l with
  | nil => simp
  | cons a l ih => simp only [List.flatMap_cons, List.length_append, h, ih, List.length_cons, Nat.succ_mul]; omega
theorem flat_at {α : Type} (f : α → List Value) (size : Nat) (h : ∀ a, (f a).length = size) (l : List α) (k j : Nat) (hk : k < l.length) (hj : j < size) :
    (l.flatMap f)[k * size + j]? = (f l[k])[j]? := by
  induction l generalizing k with
  | nil => simp at hk
  | cons a l ih =>
    simp only [List.flatMap_cons]
    cases k with
    | zero => rw [List.getElem?_append_left (by rw [h]; omega)]; simp
    | succ k =>
      rw [List.getElem?_append_right (by rw [h, Nat.succ_mul]; omega), h]
      have e : (k + 1) * size + j - size = k * size + j := by rw [Nat.succ_mul]; omega
      rw [e, ih k (by simpa using hk)]
      simp

/-- What is known of a row of things that is read: where it lies, what its cells hold. -/
structure Rd (w : World) (size : Nat) (ao : Option Addr) (g n : Nat) (xs : List Value) : Prop where
  base : 0 < n → ao = some ⟨g, 0, none⟩
  cell : ∀ j u, xs[j]? = some u → w.cell? ⟨g, j, none⟩ = some u

theorem own_rd {w : World} {e : TypeId} {size : Nat} {v : Value} {n : Nat} {xs : List Value} (h : w.ownsRow 0 e size v n xs) :
    ∃ ao g cap, v = .slice ao n cap ∧ n ≤ cap ∧ cap ≤ maxLen ∧ Rd w size ao g n xs := by
  obtain ⟨hl, h⟩ := h
  rcases h with ⟨rfl, rfl⟩ | ⟨g, cap, cur, rfl, _, hb, h1, h2, h3, h4⟩
  · refine ⟨none, 0, 0, rfl, Nat.le_refl _, by unfold maxLen; omega, fun h => by omega, ?_⟩
    intro j u hu
    have : xs = [] := List.eq_nil_of_length_eq_zero (by simpa using hl)
    simp [this] at hu
  · refine ⟨_, g, cap, rfl, h1, h2, fun _ => rfl, ?_⟩
    intro j u hu
    subst h4
    have hj : j < n * size := by
      rw [List.getElem?_eq_some_iff] at hu
      obtain ⟨hj, _⟩ := hu
      simp at hj; omega
    rw [List.getElem?_take, if_pos hj] at hu
    simp only [World.cell?, hb]
    simpa using hu

/-- The place of the first thing that is so; -1. -/
def ixOf {α : Type} (p : α → Bool) : List α → Int
  | [] => -1
  | u :: r => if p u then 0 else if ixOf p r < 0 then -1 else ixOf p r + 1
theorem ixOf_hit {α : Type} (p : α → Bool) (l : List α) (k : Nat) (hk : k < l.length) (hb : ∀ j (hj : j < l.length), j < k → p l[j] = false) (h : p l[k] = true) : ixOf p l = k := by
  induction l generalizing k with
  | nil => simp at hk
  | cons a l ih =>
    cases k with
    | zero => simp at h; simp [ixOf, h]
    | succ k =>
      have h0 := hb 0 (by simp) (by omega)
      simp at h0
      have := ih k (by simpa using hk) (fun j hj hjk => by have := hb (j + 1) (by simpa using hj) (by omega); simpa using this) (by simpa using h)
      simp [ixOf, h0, this]; omega
theorem ixOf_miss {α : Type} (p : α → Bool) (l : List α) (hb : ∀ j (hj : j < l.length), p l[j] = false) : ixOf p l = -1 := by
  induction l with
  | nil => rfl
  | cons a l ih =>
    have h0 := hb 0 (by simp)
    simp at h0
    have := ih (fun j hj => by have := hb (j + 1) (by simpa using hj); simpa using this)
    simp [ixOf, h0, this]
/-- Two texts are the same, as the walk asks it. -/
def eqS (a b : ByteArray) : Bool := a.toList == b.toList
theorem eqS_iff {a b : ByteArray} : eqS a b = true ↔ a = b := by
  unfold eqS
  rw [beq_iff_eq, Lib.toList_data, Lib.toList_data]
  constructor
  · intro h
    obtain ⟨⟨a⟩⟩ := a
    obtain ⟨⟨b⟩⟩ := b
    simp at h
    rw [h]
  · rintro rfl; rfl
/-- The place of the first unit of that name; -1. -/
def unitIx (us : List SUnit) (nm : ByteArray) : Int := ixOf (fun u => eqS u.name nm) us
/-- Is there an open lot of that name? -/
def openB (ls : List SLot) (nm : ByteArray) : Bool := ls.any (fun l => eqS l.name nm)
def amongB (l : List ByteArray) (s : ByteArray) : Bool := l.any (fun x => eqS x s)
/-- All bids together, but for one lot. -/
def stakedI : List SBid → ByteArray → Int
  | [], _ => 0
  | b :: r, but => (if eqS b.lot but then 0 else b.n) + stakedI r but
/-- A player's bid for a lot. -/
def bidI : List SBid → ByteArray → Int
  | [], _ => 0
  | b :: r, lot => if eqS b.lot lot then b.n else bidI r lot
theorem stakedI_snoc (l : List SBid) (b : SBid) (but : ByteArray) : stakedI (l ++ [b]) but = stakedI l but + (if eqS b.lot but then 0 else b.n) := by
  induction l with
  | nil => simp [stakedI]
  | cons a l ih => simp only [List.cons_append, stakedI, ih]; omega
theorem stakedI_bd (l : List SBid) (but : ByteArray) (h : ∀ b ∈ l, 0 ≤ b.n ∧ b.n ≤ 100000) : 0 ≤ stakedI l but ∧ stakedI l but ≤ 100000 * l.length := by
  induction l with
  | nil => simp [stakedI]
  | cons a l ih =>
    have h1 := h a (by simp)
    have h2 := ih (fun b hb => h b (by simp [hb]))
    simp only [stakedI, List.length_cons]
    split <;> omega
theorem any_hit {α : Type} (p : α → Bool) (l : List α) (k : Nat) (hk : k < l.length) (h : p l[k] = true) : l.any p = true :=
  List.any_eq_true.2 ⟨l[k], List.getElem_mem hk, h⟩
theorem any_miss {α : Type} (p : α → Bool) (l : List α) (hb : ∀ j (hj : j < l.length), p l[j] = false) : l.any p = false := by
  rw [List.any_eq_false]
  intro x hx
  obtain ⟨j, hj, rfl⟩ := List.mem_iff_getElem.1 hx
  simp [hb j hj]
theorem bidI_hit (l : List SBid) (lot : ByteArray) (k : Nat) (hk : k < l.length) (hb : ∀ j (hj : j < l.length), j < k → eqS l[j].lot lot = false) (h : eqS l[k].lot lot = true) : bidI l lot = l[k].n := by
  induction l generalizing k with
  | nil => simp at hk
  | cons a l ih =>
    cases k with
    | zero => simp at h; simp [bidI, h]
    | succ k =>
      have h0 := hb 0 (by simp) (by omega)
      simp at h0
      have := ih k (by simpa using hk) (fun j hj hjk => by have := hb (j + 1) (by simpa using hj) (by omega); simpa using this) (by simpa using h)
      simp [bidI, h0, this]
theorem bidI_miss (l : List SBid) (lot : ByteArray) (hb : ∀ j (hj : j < l.length), eqS l[j].lot lot = false) : bidI l lot = 0 := by
  induction l with
  | nil => rfl
  | cons a l ih =>
    have h0 := hb 0 (by simp)
    simp at h0
    have := ih (fun j hj => by have := hb (j + 1) (by simpa using hj); simpa using this)
    simp [bidI, h0, this]

end Go.Proofs.YtlafddeoheambaaDoor

/-
  How the document's world (package hazeref) lies in memory: what its blocks hold, which blocks it owns, and that it stays as it is where those blocks stay as they are.
-/
namespace Go.Proofs.YtlafddeoheambaaDoor
open Go.RowKit

/-- Where a player's lists lie. -/
structure PV where
  u : Value
  b : Value
  n : Value

/-- The document's world with the places of its lists. -/
structure YW where
  b : Nat
  width : Int
  height : Int
  sight : Int
  now : Int
  ore : List SSpot
  vOre : Value
  pls : List (SPlayer × PV)
  vPl : Value
  lots : List SLot
  vLots : Value

def plCells (p : SPlayer × PV) : List Value := [.int .i64 p.1.money, p.2.u, p.2.b, p.2.n]
def YW.cells (y : YW) : Array Value := #[.int .i64 y.width, .int .i64 y.height, .int .i64 y.sight, .int .i64 y.now, y.vOre, y.vPl, y.vLots]

def blk (v : Value) : List Nat := v.ownBlock.toList
def pvFoot (p : SPlayer × PV) : List Nat := blk p.2.u ++ (blk p.2.b ++ blk p.2.n)
/-- The blocks that it owns. -/
def YW.foot (y : YW) : List Nat := y.b :: (blk y.vOre ++ (blk y.vPl ++ (blk y.vLots ++ y.pls.flatMap pvFoot)))

/-- What a value that owns a row looks like. -/
theorem own_form {w : World} {e : TypeId} {size : Nat} {v : Value} {n : Nat} {xs : List Value} (h : w.ownsRow 0 e size v n xs) :
    (v = .slice none 0 0 ∧ n = 0 ∧ xs = []) ∨ ∃ g cap, v = .slice (some ⟨g, 0, none⟩) n cap ∧ n ≤ cap ∧ cap ≤ maxLen ∧ g < w.heap.size := by
  obtain ⟨hl, h⟩ := h
  rcases h with ⟨rfl, rfl⟩ | ⟨g, cap, cur, rfl, _, hb, h1, h2, h3, h4⟩
  · exact .inl ⟨rfl, rfl, List.eq_nil_of_length_eq_zero (by simpa using hl)⟩
  · refine .inr ⟨g, cap, rfl, h1, h2, ?_⟩
    rcases Nat.lt_or_ge g w.heap.size with hlt | hge
    · exact hlt
    · rw [Array.getElem?_eq_none hge] at hb; cases hb
/-- The cells of a row that is owned. -/
theorem own_cell {w : World} {e : TypeId} {size g cap n : Nat} {xs : List Value} (h : w.ownsRow 0 e size (.slice (some ⟨g, 0, none⟩) n cap) n xs) {j : Nat} {u : Value} (hu : xs[j]? = some u) :
    w.cell? ⟨g, j, none⟩ = some u := by
  obtain ⟨ao, g', cap', e1, _, _, rd⟩ := own_rd h
  injection e1 with e1 e2 e3
  have hn : 0 < n := by
    rcases Nat.eq_zero_or_pos n with h0 | h0
    · subst h0
      have h1 := h.1
      have h2 : xs = [] := List.eq_nil_of_length_eq_zero (by simpa using h1)
      subst h2
      simp at hu
    · exact h0
  have := rd.base hn
  rw [← e1] at this
  injection this with this
  injection this with this
  subst this
  exact rd.cell j u hu
theorem own_frozen {w : World} {e : TypeId} {size g cap n : Nat} {xs : List Value} (h : w.ownsRow 0 e size (.slice (some ⟨g, 0, none⟩) n cap) n xs) (j : Nat) : w.frozen? ⟨g, j, none⟩ = false := by
  rcases h.2 with ⟨h, _⟩ | ⟨g', cap', cur, e1, _, hb, _⟩
  · cases h
  · injection e1 with e1 e2 e3
    injection e1 with e1
    injection e1 with e1
    subst e1
    simp [World.frozen?, hb]
/-- A row that is owned stays as it is where its block stays as it is. -/
theorem own_same {w w' : World} {e : TypeId} {size : Nat} {v : Value} {n : Nat} {xs : List Value} (h : w.ownsRow 0 e size v n xs) (hs : ∀ r ∈ blk v, w'.heap[r]? = w.heap[r]?) : w'.ownsRow 0 e size v n xs := by
  obtain ⟨hl, h⟩ := h
  refine ⟨hl, ?_⟩
  rcases h with h | ⟨g, cap, cur, rfl, h0, hb, r⟩
  · exact .inl h
  · exact .inr ⟨g, cap, cur, rfl, h0, by rw [hs g (by simp [blk, Value.ownBlock]), hb], r⟩
theorem own_lt {w : World} {e : TypeId} {size : Nat} {v : Value} {n : Nat} {xs : List Value} (h : w.ownsRow 0 e size v n xs) : ∀ r ∈ blk v, r < w.heap.size := by
  rcases own_form h with ⟨rfl, _⟩ | ⟨g, cap, rfl, _, _, hg⟩
  · intro r hr; simp [blk, Value.ownBlock] at hr
  · intro r hr
    simp [blk, Value.ownBlock] at hr
    subst hr; exact hg
/-- Which player's unit stands on a spot; -1. -/
def standsB (x y : Int) (p : SPlayer) : Bool := p.units.any (fun u => decide (u.x = x) && decide (u.y = y))
def holderI (ps : List SPlayer) (x y : Int) : Int := ixOf (standsB x y) ps

end Go.Proofs.YtlafddeoheambaaDoor

/-
  What becomes of the document's world in memory where one of its cells is written: the same world with that one thing turned.
-/
namespace Go.Proofs.YtlafddeoheambaaDoor
open Go.RowKit

theorem flat_disj {α : Type} (f : α → List Nat) : ∀ (l : List α), (l.flatMap f).Nodup → ∀ i j (hi : i < l.length) (hj : j < l.length), i ≠ j → ∀ r, r ∈ f l[i] → r ∈ f l[j] → False := by
  intro l
  induction l with
  | nil => intro _ i j hi; simp at hi
  | cons a l ih =>
    intro hn i j hi hj hij r h1 h2
    rw [List.flatMap_cons, List.nodup_append] at hn
    obtain ⟨_, n2, n3⟩ := hn
    cases i with
    | zero =>
      cases j with
      | zero => exact hij rfl
      | succ j =>
        simp only [List.getElem_cons_zero] at h1
        simp only [List.getElem_cons_succ] at h2
        exact n3 r h1 r (List.mem_flatMap.2 ⟨_, List.getElem_mem (by simpa using hj), h2⟩) rfl
    | succ i =>
      cases j with
      | zero =>
        simp only [List.getElem_cons_zero] at h2
        simp only [List.getElem_cons_succ] at h1
        exact n3 r h2 r (List.mem_flatMap.2 ⟨_, List.getElem_mem (by simpa using hi), h1⟩) rfl
      | succ j =>
        simp only [List.getElem_cons_succ] at h1 h2
        exact ih n2 i j (by simpa using hi) (by simpa using hj) (by omega) r h1 h2
theorem flat_nodup {α : Type} (f : α → List Nat) (l : List α) (h : (l.flatMap f).Nodup) (i : Nat) (hi : i < l.length) : (f l[i]).Nodup := by
  induction l generalizing i with
  | nil => simp at hi
  | cons a l ih =>
    rw [List.flatMap_cons, List.nodup_append] at h
    cases i with
    | zero => exact h.1
    | succ i => simpa using ih h.2.1 i (by simpa using hi)

theorem foot_o {y : YW} {r : Nat} (h : r ∈ blk y.vOre) : r ∈ y.foot := by simp [YW.foot, h]
theorem foot_p {y : YW} {r : Nat} (h : r ∈ blk y.vPl) : r ∈ y.foot := by simp [YW.foot, h]
theorem foot_l {y : YW} {r : Nat} (h : r ∈ blk y.vLots) : r ∈ y.foot := by simp [YW.foot, h]
theorem foot_b {y : YW} : y.b ∈ y.foot := by simp [YW.foot]
theorem foot_e {y : YW} {r : Nat} {p : SPlayer × PV} (hp : p ∈ y.pls) (h : r ∈ pvFoot p) : r ∈ y.foot := by
  simp only [YW.foot, List.mem_cons, List.mem_append, List.mem_flatMap]
  exact .inr (.inr (.inr (.inr ⟨p, hp, h⟩)))

/-- No two of the world's lists share a block. -/
structure Sep (y : YW) : Prop where
  bo : y.b ∉ blk y.vOre
  bp : y.b ∉ blk y.vPl
  bl : y.b ∉ blk y.vLots
  be : ∀ p ∈ y.pls, y.b ∉ pvFoot p
  op : ∀ r ∈ blk y.vOre, r ∉ blk y.vPl
  ol : ∀ r ∈ blk y.vOre, r ∉ blk y.vLots
  oe : ∀ r ∈ blk y.vOre, ∀ p ∈ y.pls, r ∉ pvFoot p
  pl : ∀ r ∈ blk y.vPl, r ∉ blk y.vLots
  pe : ∀ r ∈ blk y.vPl, ∀ p ∈ y.pls, r ∉ pvFoot p
  le : ∀ r ∈ blk y.vLots, ∀ p ∈ y.pls, r ∉ pvFoot p
  ee : ∀ i j (hi : i < y.pls.length) (hj : j < y.pls.length), i ≠ j → ∀ r, r ∈ pvFoot y.pls[i] → r ∈ pvFoot y.pls[j] → False
  e1 : ∀ i (hi : i < y.pls.length), (pvFoot y.pls[i]).Nodup

theorem sep_of {y : YW} (h : y.foot.Nodup) : Sep y := by
  unfold YW.foot at h
  simp only [List.nodup_cons, List.nodup_append, List.mem_append, List.mem_flatMap, not_or, not_exists, not_and] at h
  obtain ⟨⟨h1, h2, h3, h4⟩, _, ⟨_, ⟨_, h5, h6⟩, h7⟩, h8⟩ := h
  refine ⟨h1, h2, h3, h4, ?_, ?_, ?_, ?_, ?_, ?_, flat_disj pvFoot y.pls h5, flat_nodup pvFoot y.pls h5⟩
  · intro r hr hr'; exact h8 r hr r (.inl hr') rfl
  · intro r hr hr'; exact h8 r hr r (.inr (.inl hr')) rfl
  · intro r hr p hp hr'; exact h8 r hr r (.inr (.inr ⟨p, hp, hr'⟩)) rfl
  · intro r hr hr'; exact h7 r hr r (.inl hr') rfl
  · intro r hr p hp hr'; exact h7 r hr r (.inr ⟨p, hp, hr'⟩) rfl
  · intro r hr p hp hr'; exact h6 r hr r ⟨p, hp, hr'⟩ rfl

/-- A row of one's own, one cell written. -/
theorem own_set {w : World} {e : TypeId} {size g cap n : Nat} {xs : List Value} (h : w.ownsRow 0 e size (.slice (some ⟨g, 0, none⟩) n cap) n xs) (j : Nat) (u : Value) (hj : j < n * size) :
    (w.setCell ⟨g, j, none⟩ u).ownsRow 0 e size (.slice (some ⟨g, 0, none⟩) n cap) n (xs.set j u) := by
  obtain ⟨hl, h⟩ := h
  refine ⟨by simpa using hl, ?_⟩
  rcases h with ⟨h, _⟩ | ⟨g', cap', cur, e1, h0, hb, h1, h2, h3, h4⟩
  · cases h
  · injection e1 with e1 e2 e3
    injection e1 with e1
    injection e1 with e1
    subst e1 e3
    refine .inr ⟨g, cap, cur.setIfInBounds j u, rfl, h0, ?_, h1, h2, by simpa using h3, ?_⟩
    · simp only [World.setCell, Array.getElem?_modify, hb]
      simp
    · rw [← h4, Array.toList_setIfInBounds, List.take_set]

theorem blk_slice (g n cap : Nat) : blk (.slice (some ⟨g, 0, none⟩) n cap) = [g] := rfl
theorem setCell_far (w : World) (g j : Nat) (u : Value) (r : Nat) (h : r ≠ g) : (w.setCell ⟨g, j, none⟩ u).heap[r]? = w.heap[r]? := Below.heap_setCell w ⟨g, j, none⟩ u r h

theorem flat_set {α : Type} (f : α → List Value) (size : Nat) (h : ∀ a, (f a).length = size) (l : List α) (k j : Nat) (a : α) (u : Value) (hk : k < l.length) (hj : j < size) (ha : f a = (f l[k]).set j u) :
    (l.flatMap f).set (k * size + j) u = (l.set k a).flatMap f := by
  induction l generalizing k with
  | nil => simp at hk
  | cons b l ih =>
    cases k with
    | zero =>
      simp only [List.flatMap_cons, List.set_cons_zero, Nat.zero_mul, Nat.zero_add]
      rw [List.set_append_left _ _ (by rw [h]; omega)]
      simp only [List.getElem_cons_zero] at ha
      rw [ha]
    | succ k =>
      simp only [List.flatMap_cons, List.set_cons_succ]
      rw [List.set_append_right _ _ (by rw [h, Nat.succ_mul]; omega), h]
      have e : (k + 1) * size + j - size = k * size + j := by rw [Nat.succ_mul]; omega
      rw [e, ih k (by simpa using hk) (by simpa using ha)]

/-- The world with another player at place i. -/
def YW.setQ (y : YW) (i : Nat) (q : SPlayer × PV) : YW := { y with pls := y.pls.set i q }

def YW.withOre (y : YW) (l : List SSpot) : YW := { y with ore := l }
def YW.withNow (y : YW) (n : Int) : YW := { y with now := n }

theorem foot_setQ (y : YW) (i : Nat) (q : SPlayer × PV) (hi : i < y.pls.length) (hq : q.2 = y.pls[i].2) : (y.setQ i q).foot = y.foot := by
  have e : (y.pls.set i q).flatMap pvFoot = y.pls.flatMap pvFoot := by
    rw [List.flatMap_def, List.flatMap_def, List.map_set]
    have : pvFoot q = (y.pls.map pvFoot)[i]'(by simpa using hi) := by simp [pvFoot, hq]
    rw [this, List.set_getElem_self]
  simp only [YW.foot, YW.setQ, e]

end Go.Proofs.YtlafddeoheambaaDoor

/-
  What a call leaves alone; how the document's world turns from one memory to the next; what holds of its numbers.
-/
namespace Go.Proofs.YtlafddeoheambaaDoor
open Go.RowKit

/-- Of what was there only blocks of F may have turned. -/
structure Kept (F : List Nat) (w w' : World) : Prop where
  os : w'.os = w.os
  tape : w'.tape = w.tape
  output : w'.output = w.output
  size : w.heap.size ≤ w'.heap.size
  block : ∀ k, k < w.heap.size → k ∉ F → w'.heap[k]? = w.heap[k]?

theorem Kept.refl (F : List Nat) (w : World) : Kept F w w := ⟨rfl, rfl, rfl, Nat.le_refl _, fun _ _ _ => rfl⟩
theorem Kept.of_below {F : List Nat} {w w' : World} (h : Below w.heap.size w w') : Kept F w w' := ⟨h.os, h.tape, h.output, h.size, fun k hk _ => h.block k hk⟩
theorem Kept.trans {F F1 : List Nat} {a b c : World} (h : Kept F a b) (h1 : Kept F1 b c) (hx : ∀ r ∈ F1, r ∈ F ∨ a.heap.size ≤ r) : Kept F a c := by
  refine ⟨h1.os.trans h.os, h1.tape.trans h.tape, h1.output.trans h.output, Nat.le_trans h.size h1.size, fun k hk hn => ?_⟩
  have hk1 : k ∉ F1 := by
    intro hk1
    rcases hx k hk1 with h' | h'
    · exact hn h'
    · omega
  rw [h1.block k (Nat.lt_of_lt_of_le hk h.size) hk1, h.block k hk hn]
theorem Kept.setCell {F : List Nat} {w w' : World} (h : Kept F w w') (g j : Nat) (u : Value) (hg : g ∈ F ∨ w.heap.size ≤ g) : Kept F w (w'.setCell ⟨g, j, none⟩ u) := by
  refine ⟨h.os, h.tape, h.output, by simpa [World.setCell] using h.size, fun k hk hn => ?_⟩
  rw [setCell_far w' g j u k ?_, h.block k hk hn]
  rintro rfl
  rcases hg with hg | hg
  · exact hn hg
  · omega
theorem Kept.alloc {F : List Nat} {w w' : World} (h : Kept F w w') (o : Obj) : Kept F w (w'.alloc o) := by
  refine ⟨h.os, h.tape, h.output, by have := h.size; simp; omega, fun k hk hn => ?_⟩
  rw [Below.heap_alloc _ _ _ (Nat.lt_of_lt_of_le hk h.size), h.block k hk hn]
theorem Kept.drew {F : List Nat} {w w' : World} (h : Kept F w w') : Kept F w w'.drew := ⟨h.os, h.tape, h.output, h.size, h.block⟩
theorem Kept.below {F : List Nat} {w w' w'' : World} (h : Kept F w w') (hb : Below w'.heap.size w' w'') : Kept F w w'' :=
  h.trans (F1 := []) (Kept.of_below hb) (fun r hr => by simp at hr)

/-- A spot with ore left at this place. -/
def hitB (x y : Int) (s : SSpot) : Bool := decide (s.x = x) && decide (s.y = y) && decide (0 < s.amount)
def digB (l : List SSpot) (x y : Int) : Bool := l.any (hitB x y)
def digL (x y : Int) : List SSpot → List SSpot
  | [] => []
  | s :: r => if hitB x y s then { s with amount := s.amount - 1 } :: r else s :: digL x y r
theorem digL_hit (x y : Int) (l : List SSpot) (k : Nat) (hk : k < l.length) (hb : ∀ j (hj : j < l.length), j < k → hitB x y l[j] = false) (h : hitB x y l[k] = true) : digL x y l = l.set k { l[k] with amount := l[k].amount - 1 } := by
  induction l generalizing k with
  | nil => simp at hk
  | cons a l ih =>
    cases k with
    | zero => simp at h; simp [digL, h]
    | succ k =>
      have h0 := hb 0 (by simp) (by omega)
      simp at h0
      have := ih k (by simpa using hk) (fun j hj hjk => by have := hb (j + 1) (by simpa using hj) (by omega); simpa using this) (by simpa using h)
      simp [digL, h0, this]
theorem digL_miss (x y : Int) (l : List SSpot) (hb : ∀ j (hj : j < l.length), hitB x y l[j] = false) : digL x y l = l := by
  induction l with
  | nil => rfl
  | cons a l ih =>
    have h0 := hb 0 (by simp)
    simp at h0
    have := ih (fun j hj => by have := hb (j + 1) (by simpa using hj); simpa using this)
    simp [digL, h0, this]

/-- The document's world without its places. -/
def YW.S (y : YW) : SWorld := { width := y.width, height := y.height, sight := y.sight, now := y.now, ore := y.ore, players := y.pls.map (·.1), lots := y.lots }
def SWorld.setPl (s : SWorld) (n : Nat) (p : SPlayer) : SWorld := { s with players := s.players.set n p }
theorem S_setQ (y : YW) (n : Nat) (q : SPlayer × PV) : (y.setQ n q).S = y.S.setPl n q.1 := by simp [YW.S, YW.setQ, SWorld.setPl, List.map_set]
theorem setPl_setPl (s : SWorld) (n : Nat) (p q : SPlayer) : (s.setPl n p).setPl n q = s.setPl n q := by simp [SWorld.setPl]

def inB (n lo hi : Int) : Bool := decide (lo ≤ n) && decide (n ≤ hi)
def dxI (h : Int) : Int := if h = 0 then 1 else if h = 2 then -1 else 0
def dyI (h : Int) : Int := if h = 1 then 1 else if h = 3 then -1 else 0
/-- Is there a spot, and does nobody stand there? -/
def freeS (s : SWorld) (x y : Int) : Bool := inB x 0 (s.width - 1) && inB y 0 (s.height - 1) && decide (holderI s.players x y < 0)

def emptyB : ByteArray := ⟨#[]⟩
/-- What a unit's order leaves of the world, the order itself taken away: p the player, u the unit without its order. -/
def actS (s : SWorld) (n k : Nat) (p : SPlayer) (u : SUnit) (what arg : ByteArray) : SWorld :=
  let x := u.x + dxI u.head
  let y := u.y + dyI u.head
  let putU := fun (v : SUnit) => s.setPl n { p with units := p.units.set k v }
  if what.toList == [103, 111] then (if freeS s x y then putU { u with x := x, y := y } else s)
  else if what.toList == [108, 101, 102, 116] then putU { u with head := (u.head + 1) % 4 }
  else if what.toList == [98, 97, 99, 107] then putU { u with head := (u.head + 2) % 4 }
  else if what.toList == [114, 105, 103, 104, 116] then putU { u with head := (u.head + 3) % 4 }
  else if what.toList == [100, 105, 103] then
    (if u.cargo < 9 then (if digB s.ore u.x u.y then { s.setPl n { p with units := p.units.set k { u with cargo := u.cargo + 1 } } with ore := digL u.x u.y s.ore } else s) else s)
  else if what.toList == [115, 101, 108, 108] then s.setPl n { p with money := p.money + 10 * u.cargo, units := p.units.set k { u with cargo := 0 } }
  else if what.toList == [99, 97, 108, 108] then (if unitIx p.units arg < 0 then putU { u with name := arg } else s)
  else if what.toList == [98, 117, 105, 108, 100] then
    (if unitIx p.units arg < 0 ∧ p.units.length < 5 ∧ 50 ≤ p.money - stakedI p.bids emptyB ∧ freeS s x y = true then
      s.setPl n { p with money := p.money - 50, units := p.units ++ [{ name := arg, x := x, y := y, head := u.head, cargo := 0, what := emptyB, arg := emptyB }] } else s)
  else s
/-- What the k-th unit of the n-th player does. -/
def doesS (s : SWorld) (n k : Nat) : SWorld := match s.players[n]? with
  | none => s
  | some p => match p.units[k]? with
    | none => s
    | some u =>
      let u0 := { u with what := emptyB, arg := emptyB }
      let p0 := { p with units := p.units.set k u0 }
      actS (s.setPl n p0) n k p0 u0 u.what u.arg

/-- What holds of a world's numbers and lists. (M: no player has more money.) -/
structure WF (Y : YW) (M : Int) : Prop where
  pl : 2 ≤ Y.pls.length ∧ Y.pls.length ≤ 4
  un : ∀ p ∈ Y.pls, 1 ≤ p.1.units.length ∧ p.1.units.length ≤ 5
  wd : 3 ≤ Y.width ∧ Y.width ≤ 10
  ht : 3 ≤ Y.height ∧ Y.height ≤ 10
  orn : Y.ore.length ≤ 6
  ora : ∀ s ∈ Y.ore, 0 ≤ s.amount ∧ s.amount ≤ 99
  ux : ∀ p ∈ Y.pls, ∀ u ∈ p.1.units, 0 ≤ u.x ∧ u.x < Y.width ∧ 0 ≤ u.y ∧ u.y < Y.height
  uh : ∀ p ∈ Y.pls, ∀ u ∈ p.1.units, 0 ≤ u.head ∧ u.head ≤ 3
  uc : ∀ p ∈ Y.pls, ∀ u ∈ p.1.units, 0 ≤ u.cargo ∧ u.cargo ≤ 9
  mo : ∀ p ∈ Y.pls, 0 ≤ p.1.money ∧ p.1.money ≤ M
  bi : ∀ p ∈ Y.pls, (∀ b ∈ p.1.bids, 0 ≤ b.n ∧ b.n ≤ 100000) ∧ p.1.bids.length ≤ 1000

end Go.Proofs.YtlafddeoheambaaDoor

/-
  The small functions of the seed's own packages (within, num, pick, bids, runes, Name): each returns what its text says, and leaves the world as it was.
-/
namespace Go.Proofs.YtlafddeoheambaaDoor
open Go.RowKit


theorem ret_int {k : IntKind} {a b : Int} (h : a = b) : Ending.returned (.int k a) = .returned (.int k b) := by rw [h]
theorem ret_bool {a b : Bool} (h : a = b) : Ending.returned (.bool a) = .returned (.bool b) := by rw [h]

theorem low_of {c : UInt8} (h : 97 ≤ (c.toNat : Int) ∧ (c.toNat : Int) ≤ 122) : lowB c.toNat = true := by
  simp [lowB]; omega
theorem low_no {c : UInt8} (h : ¬ (97 ≤ (c.toNat : Int) ∧ (c.toNat : Int) ≤ 122)) : lowB c.toNat = false := by
  simp [lowB]; omega
def GrkI (c d : Int) : Prop := (c = 206 ∧ 177 ≤ d ∧ d ≤ 191) ∨ (c = 207 ∧ 128 ≤ d ∧ d ≤ 137)
theorem grk_of {c d : UInt8} (h : GrkI c.toNat d.toNat) : grkB c.toNat d.toNat = true := by
  unfold GrkI at h; simp [grkB]; omega
theorem grk_no {c d : UInt8} (h : ¬ GrkI c.toNat d.toNat) : grkB c.toNat d.toNat = false := by
  unfold GrkI at h; simp [grkB]; omega

end Go.Proofs.YtlafddeoheambaaDoor

/-
  The small functions pick, bids and Number of the seed's own packages: each returns what its text says, and leaves the world as it was.
-/
namespace Go.Proofs.YtlafddeoheambaaDoor
open Go.RowKit

/-- Which of n things the number c speaks of. -/
def pickI (c n : Int) : Int := if c < 0 then (-(c + 1)) % n else c % n
theorem pickI_bd (c n : Int) (hn : 0 < n) : 0 ≤ pickI c n ∧ pickI c n < n := by
  unfold pickI
  split
  · exact ⟨Int.emod_nonneg _ (by omega), Int.emod_lt_of_pos _ hn⟩
  · exact ⟨Int.emod_nonneg _ (by omega), Int.emod_lt_of_pos _ hn⟩
theorem pickI_neg (c n : Int) (h : c < 0) : -(c + 1).tmod n = pickI c n := by
  unfold pickI
  rw [if_pos h, ← Int.neg_tmod, Int.tmod_eq_emod_of_nonneg (by omega)]
theorem pickI_pos (c n : Int) (h : ¬ c < 0) : c % n = pickI c n := by
  unfold pickI
  rw [if_neg h]

/-- Does a text begin with the word bid and a blank? -/
def bidsB (l : List UInt8) : Bool := l.take 4 == [98, 105, 100, 32]

theorem bidsB_short (s : ByteArray) (h : ¬ 3 < s.size) : bidsB s.data.toList = false := by
  have hl : s.data.toList.length = s.size := by simp
  unfold bidsB
  rw [List.take_of_length_le (by omega)]
  apply beq_eq_false_iff_ne.2
  intro e
  rw [e] at hl
  simp at hl
  omega

/-- The number that digits make, behind some; none: it is none. (i: how many digits were read.) -/
def numGo : Nat → Nat → List UInt8 → Option Nat
  | n, _, [] => some n
  | n, i, c :: r => if c.toNat < 48 ∨ 57 < c.toNat ∨ 5 < i ∨ (n = 0 ∧ 0 < i) then none else numGo (10 * n + (c.toNat - 48)) (i + 1) r
/-- The number of an order; -1: it is none. -/
def numberI (l : List UInt8) : Int := match numGo 0 0 l with
  | some n => if l = [] ∨ 100000 < n then -1 else n
  | none => -1
theorem numGo_stop (s : ByteArray) (n k : Nat) (hg : numGo 0 0 s.data.toList = numGo n k (s.data.toList.drop k)) (h : k < s.size) (hc : s[k].toNat < 48 ∨ 57 < s[k].toNat ∨ 5 < k ∨ (n = 0 ∧ 0 < k)) : numberI s.data.toList = -1 := by
  unfold numberI
  rw [hg, drop_at s k h]
  simp only [numGo, if_pos hc]
theorem numGo_on (s : ByteArray) (n k : Nat) (hg : numGo 0 0 s.data.toList = numGo n k (s.data.toList.drop k)) (h : k < s.size) (hc : ¬ (s[k].toNat < 48 ∨ 57 < s[k].toNat ∨ 5 < k ∨ (n = 0 ∧ 0 < k))) :
    numGo 0 0 s.data.toList = numGo (10 * n + (s[k].toNat - 48)) (k + 1) (s.data.toList.drop (k + 1)) := by
  rw [hg, drop_at s k h]
  simp only [numGo, if_neg hc]
theorem numGo_end (s : ByteArray) (n k : Nat) (hg : numGo 0 0 s.data.toList = numGo n k (s.data.toList.drop k)) (h : s.size ≤ k) : numberI s.data.toList = if s.data.toList = [] ∨ 100000 < n then -1 else (n : Int) := by
  unfold numberI
  rw [hg, List.drop_of_length_le (by simpa using h)]
  simp only [numGo]

theorem vint {a b : Int} (h : a = b) : Value.int .i64 a = .int .i64 b := by rw [h]
theorem pow_on {m k d : Nat} (h : m < 10 ^ k) (hd : d ≤ 9) : 10 * m + d < 10 ^ (k + 1) := by
  rw [Nat.pow_succ]; omega
theorem pow_six {m k : Nat} (h : m < 10 ^ k) (hk : k ≤ 6) : m < 1000000 :=
  Nat.lt_of_lt_of_le h (Nat.pow_le_pow_right (by decide) hk)

end Go.Proofs.YtlafddeoheambaaDoor

/-
  Whole numbers as floats: how they stand to nought and to a world's side.
-/
namespace Go.Proofs.YtlafddeoheambaaDoor
open Go.RowKit Ieee

/-- A whole number as a float of 64 bits. -/
def flI (n : Int) : Nat := floatOfInt .f64 n

set_option maxHeartbeats 100000 in
theorem cut_bd (mag drop : Nat) (hm : 0 < mag) (hd : drop ≤ mag.log2) : mag / 2 ^ drop ≤ Toward.even.cut false mag drop ∧ Toward.even.cut false mag drop ≤ mag / 2 ^ drop + 1 := by
  unfold Toward.cut
  have e : min drop (mag.log2 + 2) = drop := by omega
  simp only [e, Nat.one_shiftLeft]
  constructor
  · omega
  · have : ∀ b : Bool, b.toNat ≤ 1 := fun b => by cases b <;> decide
    have := this (decide (2 ^ drop < 2 * (mag % 2 ^ drop)) || 2 ^ drop == 2 * (mag % 2 ^ drop) && mag / 2 ^ drop % 2 == 1)
    omega

theorem lp_double : double.leastPlace = -1074 := by kernel_rfl
theorem bin_double : double.binade = 4503599627370496 := by kernel_rfl
theorem inf_double : double.infRung = 9218868437227405312 := by kernel_rfl
theorem sw_double : double.signWeight = 9223372036854775808 := by kernel_rfl

/-- What is kept of a whole number of L + 1 digits. -/
def keptOf (mag L : Nat) : Nat := Toward.even.cut false (mag * 2 ^ (52 - L)) (L - 52)
set_option maxHeartbeats 100000 in
theorem kept_bd (mag L : Nat) (hL : mag.log2 = L) (hm : 0 < mag) : 4503599627370496 ≤ keptOf mag L ∧ keptOf mag L ≤ 9007199254740992 := by
  have lo : 2 ^ L ≤ mag := by rw [← hL]; exact Nat.log2_self_le (by omega)
  have hi : mag < 2 ^ (L + 1) := by rw [← hL]; exact Nat.lt_log2_self
  have n52 : (2 : Nat) ^ 52 = 4503599627370496 := by kernel_rfl
  have n53 : (2 : Nat) ^ 53 = 9007199254740992 := by kernel_rfl
  rw [← n52, ← n53]
  unfold keptOf
  by_cases h : L ≤ 52
  · have e1 : L - 52 = 0 := by omega
    rw [e1]
    have b := cut_bd (mag * 2 ^ (52 - L)) 0 (Nat.mul_pos hm (Nat.two_pow_pos _)) (Nat.zero_le _)
    simp only [Nat.pow_zero, Nat.div_one] at b
    have p1 : 2 ^ L * 2 ^ (52 - L) = 2 ^ 52 := by rw [← Nat.pow_add, show L + (52 - L) = 52 by omega]
    have p2 : 2 ^ (L + 1) * 2 ^ (52 - L) = 2 ^ 53 := by rw [← Nat.pow_add, show L + 1 + (52 - L) = 53 by omega]
    have q1 : 2 ^ L * 2 ^ (52 - L) ≤ mag * 2 ^ (52 - L) := Nat.mul_le_mul_right _ lo
    have q2 : mag * 2 ^ (52 - L) < 2 ^ (L + 1) * 2 ^ (52 - L) := Nat.mul_lt_mul_of_pos_right hi (Nat.two_pow_pos _)
    rw [p1] at q1
    rw [p2] at q2
    exact ⟨Nat.le_trans q1 b.1, Nat.le_trans b.2 q2⟩
  · have e1 : 52 - L = 0 := by omega
    rw [e1, Nat.pow_zero, Nat.mul_one]
    have b := cut_bd mag (L - 52) hm (by omega)
    have p1 : 2 ^ L = 2 ^ 52 * 2 ^ (L - 52) := by rw [← Nat.pow_add, show 52 + (L - 52) = L by omega]
    have p2 : 2 ^ (L + 1) = 2 ^ 53 * 2 ^ (L - 52) := by rw [← Nat.pow_add, show 53 + (L - 52) = L + 1 by omega]
    have q1 : 2 ^ 52 ≤ mag / 2 ^ (L - 52) := (Nat.le_div_iff_mul_le (Nat.two_pow_pos _)).2 (by rw [← p1]; exact lo)
    have q2 : mag / 2 ^ (L - 52) < 2 ^ 53 := (Nat.div_lt_iff_lt_mul (Nat.two_pow_pos _)).2 (by rw [← p2]; exact hi)
    exact ⟨Nat.le_trans q1 b.1, Nat.le_trans b.2 q2⟩
set_option maxHeartbeats 100000 in
theorem near_eq (neg : Bool) (mag L : Nat) (hL : mag.log2 = L) (hm : 0 < mag) (h63 : L ≤ 63) (hk : Toward.even.cut neg (mag * 2 ^ (52 - L)) (L - 52) = keptOf mag L) : double.nearest neg mag 0 = double.word neg ((L + 1022) * 4503599627370496 + keptOf mag L) := by
  have kb := kept_bd mag L hL hm
  unfold Format.nearest
  rw [if_neg (by omega)]
  simp only [lp_double, bin_double, inf_double, hL]
  have e1 : max ((0 : Int) + (L : Int) - (double.fractionBits : Int)) (-1074) = (L : Int) - 52 := by
    show max ((0 : Int) + (L : Int) - (52 : Int)) (-1074) = _
    omega
  rw [e1]
  have e2 : ((0 : Int) - ((L : Int) - 52)).toNat = 52 - L := by omega
  have e3 : (((L : Int) - 52) - 0).toNat = L - 52 := by omega
  have e4 : (((L : Int) - 52) - (-1074)).toNat = L + 1022 := by omega
  rw [e2, e3, e4, Nat.shiftLeft_eq, hk]
  rw [Nat.min_eq_left (by omega)]
theorem cut_neg (neg : Bool) (a b : Nat) : Toward.even.cut neg a b = Toward.even.cut false a b := rfl

end Go.Proofs.YtlafddeoheambaaDoor

/-
  Whole numbers as floats, read again: how they stand to nought and to a world's side.
-/
namespace Go.Proofs.YtlafddeoheambaaDoor
open Go.RowKit Ieee

set_option maxHeartbeats 200000 in
theorem read_word (neg : Bool) (r : Nat) (h1 : 4503599627370496 ≤ r) (h2 : r < 9218868437227405312) :
    double.read (double.word neg r) = .number neg (4503599627370496 + r % 4503599627370496) (-1074 + ((r / 4503599627370496 - 1 : Nat) : Int)) := by
  unfold Format.read Format.word
  simp only [sw_double, bin_double, inf_double, lp_double]
  cases neg
  · simp only [Bool.false_eq_true, if_false]
    have a : r / 9223372036854775808 = 0 := by omega
    have b : r % 9223372036854775808 = r := by omega
    rw [a, b, if_neg (by omega), if_pos h2]
    rfl
  · simp only [if_true]
    have a : (9223372036854775808 + r) / 9223372036854775808 = 1 := by omega
    have b : (9223372036854775808 + r) % 9223372036854775808 = r := by omega
    rw [a, b, if_neg (by omega), if_pos h2]
    rfl

set_option maxHeartbeats 200000 in
/-- A whole number of at least one, read again. -/
theorem read_near (neg : Bool) (mag : Nat) (h : 0 < mag) (h2 : mag ≤ 9223372036854775808) :
    ∃ m p, double.read (double.nearest neg mag 0) = .number neg m p ∧ 4503599627370496 ≤ m ∧ (mag.log2 : Int) - 52 ≤ p := by
  have hL2 : mag.log2 ≤ 63 := by
    have : mag.log2 < 64 := by rw [Nat.log2_lt (by omega)]; omega
    omega
  have kb := kept_bd mag mag.log2 rfl h
  rw [near_eq neg mag mag.log2 rfl h hL2 rfl]
  generalize keptOf mag mag.log2 = kept at kb
  generalize mag.log2 = L at *
  rw [read_word neg _ (by omega) (by omega)]
  exact ⟨_, _, rfl, by omega, by omega⟩

theorem ord_pos (m : Nat) (p : Int) (hm : 0 < m) : Datum.order (.number false 0 (-1074)) (.number false m p) = some .lt := by
  have : 0 < m <<< (p - min (-1074) p).toNat := by rw [Nat.shiftLeft_eq]; exact Nat.mul_pos hm (Nat.two_pow_pos _)
  simp only [Datum.order, signed, Nat.zero_shiftLeft, Bool.false_eq_true, if_false]
  congr 1
  rw [compare, instOrdInt]
  simp only [compareOfLessAndEq]
  rw [if_pos (by omega)]
theorem ord_neg (m : Nat) (p : Int) (hm : 0 < m) : Datum.order (.number false 0 (-1074)) (.number true m p) = some .gt := by
  have : 0 < m <<< (p - min (-1074) p).toNat := by rw [Nat.shiftLeft_eq]; exact Nat.mul_pos hm (Nat.two_pow_pos _)
  simp only [Datum.order, signed, Nat.zero_shiftLeft, Bool.false_eq_true, if_false, if_true]
  congr 1
  rw [compare, instOrdInt]
  simp only [compareOfLessAndEq]
  rw [if_neg (by omega), if_neg (by omega)]
theorem ord_big (m mW : Nat) (p pW : Int) (hm : 4503599627370496 ≤ m) (hp : -48 ≤ p) (hW : mW < 9007199254740992) (hpW : pW ≤ -49) : Datum.order (.number false m p) (.number false mW pW) = some .gt := by
  have e1 : min p pW = pW := by omega
  obtain ⟨d, hd⟩ : ∃ d : Nat, (p - pW).toNat = d + 1 := ⟨(p - pW).toNat - 1, by omega⟩
  have e2 : (pW - pW).toNat = 0 := by omega
  simp only [Datum.order, signed, Bool.false_eq_true, if_false, e1, hd, e2]
  have b1 : m * 2 ≤ m <<< (d + 1) := by
    rw [Nat.shiftLeft_eq, Nat.pow_succ]
    have := Nat.two_pow_pos d
    have : 2 ≤ 2 ^ d * 2 := by omega
    exact Nat.mul_le_mul_left _ this
  have b2 : mW <<< 0 = mW := rfl
  rw [b2]
  congr 1
  rw [compare, instOrdInt]
  simp only [compareOfLessAndEq]
  rw [if_neg (by omega), if_neg (by omega)]

end Go.Proofs.YtlafddeoheambaaDoor

/-
  A spot lies in the world, asked of floats, just where it lies there by its whole numbers; headings as complex numbers.
-/
namespace Go.Proofs.YtlafddeoheambaaDoor
open Go.RowKit Ieee

theorem small_ord : ∀ n : Fin 16, ∀ W : Fin 11, 3 ≤ W.val → (double.order (flI (n.val : Int)) (flI (W.val : Int)) == some .lt) = decide (n.val < W.val) := by decide +kernel
theorem side_read : ∀ W : Fin 11, 3 ≤ W.val → ∃ m p, double.read (flI (W.val : Int)) = .number false m p ∧ m < 9007199254740992 ∧ p ≤ -49 := by
  intro W hW
  have key : ∀ W : Fin 11, 3 ≤ W.val → (match double.read (flI (W.val : Int)) with | .number s m p => s == false && decide (m < 9007199254740992) && decide (p ≤ -49) | _ => false) = true := by decide +kernel
  have := key W hW
  split at this
  · rename_i s m p he
    simp only [Bool.and_eq_true, beq_iff_eq, decide_eq_true_eq] at this
    exact ⟨m, p, by rw [he, this.1.1], this.1.2, this.2⟩
  · cases this
theorem zero_read : double.read 0 = .number false 0 (-1074) := by kernel_rfl
theorem zero_self : double.order 0 (flI 0) = some .eq := by kernel_rfl
theorem fl_read (n : Int) (h0 : n ≠ 0) (h1 : -9223372036854775808 ≤ n) (h2 : n ≤ 9223372036854775807) : ∃ m p, double.read (flI n) = .number (decide (n < 0)) m p ∧ 4503599627370496 ≤ m ∧ (n.natAbs.log2 : Int) - 52 ≤ p :=
  read_near (decide (n < 0)) n.natAbs (by omega) (by omega)

/-- Nought against a whole number. -/
theorem hold_lo (n : Int) (h1 : -9223372036854775808 ≤ n) (h2 : n ≤ 9223372036854775807) : (double.order 0 (flI n) == some .lt || double.order 0 (flI n) == some .eq) = decide (0 ≤ n) := by
  by_cases h0 : n = 0
  · subst h0
    rw [zero_self]
    decide
  · obtain ⟨m, p, he, hm, _⟩ := fl_read n h0 h1 h2
    unfold Format.order
    rw [he, zero_read]
    by_cases hn : n < 0
    · rw [decide_eq_true hn, ord_neg m p (by omega), decide_eq_false (by omega)]
      decide
    · rw [decide_eq_false hn, ord_pos m p (by omega), decide_eq_true (by omega)]
      decide
/-- A whole number that is not below nought against a side. -/
theorem hold_hi (n W : Int) (h1 : 0 ≤ n) (h2 : n ≤ 9223372036854775807) (hW : 3 ≤ W) (hW2 : W ≤ 10) : (double.order (flI n) (flI W) == some .lt) = decide (n < W) := by
  obtain ⟨k, rfl⟩ := Int.eq_ofNat_of_zero_le (show 0 ≤ W by omega)
  by_cases h16 : n < 16
  · obtain ⟨j, rfl⟩ := Int.eq_ofNat_of_zero_le h1
    have := small_ord ⟨j, by omega⟩ ⟨k, by omega⟩ (by simp only; omega)
    simp only at this
    rw [this]
    exact decide_eq_decide.2 (by omega)
  · obtain ⟨m, p, he, hm, hp⟩ := fl_read n (by omega) (by omega) h2
    obtain ⟨mW, pW, heW, hmW, hpW⟩ := side_read ⟨k, by omega⟩ (by simp only; omega)
    simp only at heW
    have hL : 4 ≤ n.natAbs.log2 := by rw [Nat.le_log2 (by omega)]; omega
    unfold Format.order
    rw [he, heW, decide_eq_false (show ¬ n < 0 by omega), ord_big m mW p pW hm (by omega) hmW hpW, decide_eq_false (by omega)]
    decide

end Go.Proofs.YtlafddeoheambaaDoor

/-
  The functions of the program's package spots: spots and headings as complex numbers.
-/
namespace Go.Proofs.YtlafddeoheambaaDoor
open Go.RowKit

set_option maxRecDepth 100000 in
set_option maxHeartbeats 400000 in
theorem at_any (x y : Int) (w : World) :
    Calls Tryd.prog 36 #[.int .i64 x, .int .i64 y] w fun e w' => e = .returned (.complex .f64 (flI x) (flI y)) ∧ w' = w := by
  go_enter Tryd.func36, Tryd.ntmps36
  go_wp2
  go_ret
  exact ⟨rfl, rfl⟩

def ordF (a b : Nat) : Option Ordering := FloatKind.f64.format.order a b
theorem lo_iff (n : Int) (h : -9223372036854775808 ≤ n ∧ n ≤ 9223372036854775807) : (FloatKind.f64.format.order 0 (flI n) = some Ordering.lt ∨ FloatKind.f64.format.order 0 (flI n) = some Ordering.eq) ↔ 0 ≤ n := by
  have this : (FloatKind.f64.format.order 0 (flI n) == some Ordering.lt || FloatKind.f64.format.order 0 (flI n) == some Ordering.eq) = decide (0 ≤ n) := hold_lo n h.1 h.2
  rw [Bool.eq_iff_iff] at this
  simpa using this
theorem hi_iff (n W : Int) (h1 : 0 ≤ n) (h2 : n ≤ 9223372036854775807) (hW : 3 ≤ W ∧ W ≤ 10) : FloatKind.f64.format.order (flI n) (floatOfInt FloatKind.f64 W) = some Ordering.lt ↔ n < W := by
  have this : (FloatKind.f64.format.order (flI n) (floatOfInt FloatKind.f64 W) == some Ordering.lt) = decide (n < W) := hold_hi n W h1 h2 hW.1 hW.2
  rw [Bool.eq_iff_iff] at this
  simpa using this
theorem in_iff (n W : Int) : inB n 0 (W - 1) = decide (0 ≤ n ∧ n < W) := by
  simp only [inB]
  by_cases h : 0 ≤ n <;> by_cases h' : n < W <;> simp [h, h'] <;> omega

set_option maxRecDepth 100000 in
set_option maxHeartbeats 400000 in
theorem hold_any (W H x y : Int) (w : World) (hx : -9223372036854775808 ≤ x ∧ x ≤ 9223372036854775807) (hy : -9223372036854775808 ≤ y ∧ y ≤ 9223372036854775807) (hW : 3 ≤ W ∧ W ≤ 10) (hH : 3 ≤ H ∧ H ≤ 10) :
    Calls Tryd.prog 78 #[.agg #[.int .i64 W, .int .i64 H], .complex .f64 (flI x) (flI y)] w fun e w' => e = .returned (.bool (inB x 0 (W - 1) && inB y 0 (H - 1))) ∧ Below w.heap.size w w' := by
  go_enter Tryd.func78, Tryd.ntmps78
  go_wp2
  · rename_i h1 h2 h3
    go_ret
    refine ⟨ret_bool ?_, (Below.refl _ _).alloc (Nat.le_refl _) _⟩
    have g1 := (lo_iff x hx).1 h1
    have g2 := (hi_iff x W g1 hx.2 hW).1 h2
    have g3 := (lo_iff y hy).1 h3
    rw [in_iff, in_iff, decide_eq_true (And.intro g1 g2), Bool.true_and, Bool.eq_iff_iff]
    simp [hi_iff y H g3 hy.2 hH, g3, h1, h3]
  · rename_i h1 h2 h3
    go_ret
    refine ⟨ret_bool ?_, (Below.refl _ _).alloc (Nat.le_refl _) _⟩
    rw [in_iff y, decide_eq_false (fun h => h3 ((lo_iff y hy).2 h.1)), Bool.and_false]
  · rename_i h1 h2
    go_ret
    refine ⟨ret_bool ?_, (Below.refl _ _).alloc (Nat.le_refl _) _⟩
    have g1 := (lo_iff x hx).1 h1
    rw [in_iff x, decide_eq_false (fun h => h2 ((hi_iff x W g1 hx.2 hW).2 h.2)), Bool.false_and]
  · rename_i h1
    go_ret
    refine ⟨ret_bool ?_, (Below.refl _ _).alloc (Nat.le_refl _) _⟩
    rw [in_iff x, decide_eq_false (fun h => h1 ((lo_iff x hx).2 h.1)), Bool.false_and]

/-- The bits of one, of minus one, of minus nought. -/
def oneF : Nat := 4607182418800017408
def mOneF : Nat := 13830554455654793216
def mZeroF : Nat := 9223372036854775808
/-- The complex numbers that are a heading (0 e, 1 n, 2 w, 3 s): the part that is nought may have a sign. -/
def HeadC (h : Int) (a b : Nat) : Prop :=
  (h = 0 ∧ a = oneF ∧ (b = 0 ∨ b = mZeroF)) ∨ (h = 1 ∧ b = oneF ∧ (a = 0 ∨ a = mZeroF)) ∨ (h = 2 ∧ a = mOneF ∧ (b = 0 ∨ b = mZeroF)) ∨ (h = 3 ∧ b = mOneF ∧ (a = 0 ∨ a = mZeroF))
theorem turnL (h : Int) (a b : Nat) (hh : HeadC h a b) : ∃ re im, cMulBits a b 0 oneF = some (re, im) ∧ HeadC ((h + 1) % 4) re im := by
  rcases hh with ⟨rfl, rfl, rfl | rfl⟩ | ⟨rfl, rfl, rfl | rfl⟩ | ⟨rfl, rfl, rfl | rfl⟩ | ⟨rfl, rfl, rfl | rfl⟩
  · exact ⟨0, oneF, by kernel_rfl, .inr (.inl ⟨by decide, rfl, .inl rfl⟩)⟩
  · exact ⟨0, oneF, by kernel_rfl, .inr (.inl ⟨by decide, rfl, .inl rfl⟩)⟩
  · exact ⟨mOneF, 0, by kernel_rfl, .inr (.inr (.inl ⟨by decide, rfl, .inl rfl⟩))⟩
  · exact ⟨mOneF, 0, by kernel_rfl, .inr (.inr (.inl ⟨by decide, rfl, .inl rfl⟩))⟩
  · exact ⟨mZeroF, mOneF, by kernel_rfl, .inr (.inr (.inr ⟨by decide, rfl, .inr rfl⟩))⟩
  · exact ⟨0, mOneF, by kernel_rfl, .inr (.inr (.inr ⟨by decide, rfl, .inl rfl⟩))⟩
  · exact ⟨oneF, 0, by kernel_rfl, .inl ⟨by decide, rfl, .inl rfl⟩⟩
  · exact ⟨oneF, mZeroF, by kernel_rfl, .inl ⟨by decide, rfl, .inr rfl⟩⟩
theorem turnR (h : Int) (a b : Nat) (hh : HeadC h a b) : ∃ re im, cMulBits a b 0 mOneF = some (re, im) ∧ HeadC ((h + 3) % 4) re im := by
  rcases hh with ⟨rfl, rfl, rfl | rfl⟩ | ⟨rfl, rfl, rfl | rfl⟩ | ⟨rfl, rfl, rfl | rfl⟩ | ⟨rfl, rfl, rfl | rfl⟩
  · exact ⟨0, mOneF, by kernel_rfl, .inr (.inr (.inr ⟨by decide, rfl, .inl rfl⟩))⟩
  · exact ⟨0, mOneF, by kernel_rfl, .inr (.inr (.inr ⟨by decide, rfl, .inl rfl⟩))⟩
  · exact ⟨oneF, 0, by kernel_rfl, .inl ⟨by decide, rfl, .inl rfl⟩⟩
  · exact ⟨oneF, 0, by kernel_rfl, .inl ⟨by decide, rfl, .inl rfl⟩⟩
  · exact ⟨0, oneF, by kernel_rfl, .inr (.inl ⟨by decide, rfl, .inl rfl⟩)⟩
  · exact ⟨mZeroF, oneF, by kernel_rfl, .inr (.inl ⟨by decide, rfl, .inr rfl⟩)⟩
  · exact ⟨mOneF, mZeroF, by kernel_rfl, .inr (.inr (.inl ⟨by decide, rfl, .inr rfl⟩))⟩
  · exact ⟨mOneF, 0, by kernel_rfl, .inr (.inr (.inl ⟨by decide, rfl, .inl rfl⟩))⟩
theorem turnB (h : Int) (a b : Nat) (hh : HeadC h a b) : ∃ re im, cMulBits a b mOneF 0 = some (re, im) ∧ HeadC ((h + 2) % 4) re im := by
  rcases hh with ⟨rfl, rfl, rfl | rfl⟩ | ⟨rfl, rfl, rfl | rfl⟩ | ⟨rfl, rfl, rfl | rfl⟩ | ⟨rfl, rfl, rfl | rfl⟩
  · exact ⟨mOneF, 0, by kernel_rfl, .inr (.inr (.inl ⟨by decide, rfl, .inl rfl⟩))⟩
  · exact ⟨mOneF, 0, by kernel_rfl, .inr (.inr (.inl ⟨by decide, rfl, .inl rfl⟩))⟩
  · exact ⟨mZeroF, mOneF, by kernel_rfl, .inr (.inr (.inr ⟨by decide, rfl, .inr rfl⟩))⟩
  · exact ⟨0, mOneF, by kernel_rfl, .inr (.inr (.inr ⟨by decide, rfl, .inl rfl⟩))⟩
  · exact ⟨oneF, mZeroF, by kernel_rfl, .inl ⟨by decide, rfl, .inr rfl⟩⟩
  · exact ⟨oneF, 0, by kernel_rfl, .inl ⟨by decide, rfl, .inl rfl⟩⟩
  · exact ⟨0, oneF, by kernel_rfl, .inr (.inl ⟨by decide, rfl, .inl rfl⟩)⟩
  · exact ⟨0, oneF, by kernel_rfl, .inr (.inl ⟨by decide, rfl, .inl rfl⟩)⟩

set_option maxRecDepth 100000 in
set_option maxHeartbeats 400000 in
theorem left_any (h : Int) (a b : Nat) (w : World) (hh : HeadC h a b) :
    Calls Tryd.prog 46 #[.complex .f64 a b] w fun e w' => ∃ re im, e = .returned (.complex .f64 re im) ∧ HeadC ((h + 1) % 4) re im ∧ w' = w := by
  obtain ⟨re, im, hm, ht⟩ := turnL h a b hh
  have hmul : ∀ w, (binOp .mul 78 (.complex .f64 a b) (.complex .f64 0 4607182418800017408)).run Tryd.prog w = .ok (.complex .f64 re im) w := fun w => run_complex_mul w 78 a b 0 oneF re im hm
  go_enter Tryd.func46, Tryd.ntmps46
  go_wp2
  go_ret
  exact ⟨re, im, rfl, ht, rfl⟩
set_option maxRecDepth 100000 in
set_option maxHeartbeats 400000 in
theorem right_any (h : Int) (a b : Nat) (w : World) (hh : HeadC h a b) :
    Calls Tryd.prog 47 #[.complex .f64 a b] w fun e w' => ∃ re im, e = .returned (.complex .f64 re im) ∧ HeadC ((h + 3) % 4) re im ∧ w' = w := by
  obtain ⟨re, im, hm, ht⟩ := turnR h a b hh
  have hmul : ∀ w, (binOp .mul 78 (.complex .f64 a b) (.complex .f64 0 13830554455654793216)).run Tryd.prog w = .ok (.complex .f64 re im) w := fun w => run_complex_mul w 78 a b 0 mOneF re im hm
  go_enter Tryd.func47, Tryd.ntmps47
  go_wp2
  go_ret
  exact ⟨re, im, rfl, ht, rfl⟩
set_option maxRecDepth 100000 in
set_option maxHeartbeats 400000 in
theorem back_any (h : Int) (a b : Nat) (w : World) (hh : HeadC h a b) :
    Calls Tryd.prog 48 #[.complex .f64 a b] w fun e w' => ∃ re im, e = .returned (.complex .f64 re im) ∧ HeadC ((h + 2) % 4) re im ∧ w' = w := by
  obtain ⟨re, im, hm, ht⟩ := turnB h a b hh
  have hmul : ∀ w, (binOp .mul 78 (.complex .f64 a b) (.complex .f64 13830554455654793216 0)).run Tryd.prog w = .ok (.complex .f64 re im) w := fun w => run_complex_mul w 78 a b mOneF 0 re im hm
  go_enter Tryd.func48, Tryd.ntmps48
  go_wp2
  go_ret
  exact ⟨re, im, rfl, ht, rfl⟩
end Go.Proofs.YtlafddeoheambaaDoor

/-
  The function Ahead of the program's package spots: the spot ahead, and whether there is one.
-/
namespace Go.Proofs.YtlafddeoheambaaDoor
open Go.RowKit

theorem hidOf4 {p : Prop} (h : p) : Hid p := h
theorem add_one : ∀ x : Fin 10, floatBits .add .f64 (flI (x.val : Int)) 4607182418800017408 = some (flI ((x.val : Int) + 1)) := by decide +kernel
theorem add_mone : ∀ x : Fin 10, floatBits .add .f64 (flI (x.val : Int)) 13830554455654793216 = some (flI ((x.val : Int) - 1)) := by decide +kernel
theorem add_zero : ∀ x : Fin 10, floatBits .add .f64 (flI (x.val : Int)) 0 = some (flI (x.val : Int)) := by decide +kernel
theorem add_mzero : ∀ x : Fin 10, floatBits .add .f64 (flI (x.val : Int)) 9223372036854775808 = some (flI (x.val : Int)) := by decide +kernel

theorem sum_head (h x y : Int) (a b : Nat) (hh : HeadC h a b) (hx : 0 ≤ x ∧ x ≤ 9) (hy : 0 ≤ y ∧ y ≤ 9) : cSumBits .add .f64 (flI x) (flI y) a b = some (flI (x + dxI h), flI (y + dyI h)) := by
  obtain ⟨i, rfl⟩ := Int.eq_ofNat_of_zero_le hx.1
  obtain ⟨j, rfl⟩ := Int.eq_ofNat_of_zero_le hy.1
  have p1 := add_one ⟨i, by omega⟩
  have p2 := add_mone ⟨i, by omega⟩
  have p3 := add_zero ⟨i, by omega⟩
  have p4 := add_mzero ⟨i, by omega⟩
  have q1 := add_one ⟨j, by omega⟩
  have q2 := add_mone ⟨j, by omega⟩
  have q3 := add_zero ⟨j, by omega⟩
  have q4 := add_mzero ⟨j, by omega⟩
  simp only at p1 p2 p3 p4 q1 q2 q3 q4
  unfold cSumBits
  rcases hh with ⟨rfl, rfl, rfl | rfl⟩ | ⟨rfl, rfl, rfl | rfl⟩ | ⟨rfl, rfl, rfl | rfl⟩ | ⟨rfl, rfl, rfl | rfl⟩
  all_goals
    simp only [oneF, mOneF, mZeroF, p1, p2, p3, p4, q1, q2, q3, q4, dxI, dyI]
    simp
  all_goals try (constructor <;> rfl)

set_option maxRecDepth 100000 in
set_option maxHeartbeats 1000000 in
theorem xahead_any (W H x y h : Int) (a b : Nat) (w : World) (hh : HeadC h a b) (hx : 0 ≤ x ∧ x ≤ 9) (hy : 0 ≤ y ∧ y ≤ 9) (hW : 3 ≤ W ∧ W ≤ 10) (hH : 3 ≤ H ∧ H ≤ 10) :
    Calls Tryd.prog 79 #[.agg #[.int .i64 W, .int .i64 H], .complex .f64 (flI x) (flI y), .complex .f64 a b] w fun e w' =>
      e = .returned (if inB (x + dxI h) 0 (W - 1) && inB (y + dyI h) 0 (H - 1) then .tuple #[.complex .f64 (flI (x + dxI h)) (flI (y + dyI h)), .bool true] else .tuple #[.complex .f64 0 0, .bool false]) ∧ Below w.heap.size w w' := by
  have hsum : ∀ w, (binOp .add 77 (.complex .f64 (flI x) (flI y)) (.complex .f64 a b)).run Tryd.prog w = .ok (.complex .f64 (flI (x + dxI h)) (flI (y + dyI h))) w := fun w => run_complex_sum w .add (.inl rfl) 77 .f64 _ _ _ _ _ _ (sum_head h x y a b hh hx hy)
  have bx : -1 ≤ x + dxI h ∧ x + dxI h ≤ 10 := by unfold dxI; split <;> (try split) <;> omega
  have bY : -1 ≤ y + dyI h ∧ y + dyI h ≤ 10 := by unfold dyI; split <;> (try split) <;> omega
  have HC := hidOf4 (hold_any W H (x + dxI h) (y + dyI h) (w.alloc (.cells #[.int .i64 W, .int .i64 H] 67)) (by omega) (by omega) hW hH)
  generalize hgx : x + dxI h = X at *
  generalize hgy : y + dyI h = Y at *
  clear hgx hgy bx bY hh
  cases hb : (inB X 0 (W - 1) && inB Y 0 (H - 1))
  all_goals
    rw [hb] at HC
    go_enter Tryd.func79, Tryd.ntmps79
    go_wp2_with fail
    refine HC.out.mono ?_
    rintro e w1 ⟨rfl, hb1⟩
    go_wp2
    go_ret2
    exact ⟨rfl, ((Below.refl _ _).alloc (Nat.le_refl _) _).trans (hb1.mono (by simp))⟩
end Go.Proofs.YtlafddeoheambaaDoor

/-
  Maps by spots (complex keys): what looking up, storing and deleting come to.
-/
namespace Go.Proofs.YtlafddeoheambaaDoor
open Go.RowKit

/-- An entry: a spot, a number, when it was laid. -/
structure CE where
  x : Int
  y : Int
  v : Int
  born : Nat
def CE.e (c : CE) : MapEntry := { key := .complex .f64 (flI c.x) (flI c.y), val := .int .i64 c.v, born := c.born }
def CE.ok (c : CE) : Prop := (0 ≤ c.x ∧ c.x ≤ 9) ∧ (0 ≤ c.y ∧ c.y ≤ 9)
/-- Where the entry of a spot stands, and what it holds. -/
def cfind (x y : Int) : List CE → Nat → Option (Nat × Int)
  | [], _ => none
  | c :: r, i => if x = c.x ∧ y = c.y then some (i, c.v) else cfind x y r (i + 1)

theorem fl_same : ∀ x : Fin 10, ∀ y : Fin 10, Op.floatEq .f64 (flI (x.val : Int)) (flI (y.val : Int)) = decide (x.val = y.val) := by decide +kernel
theorem fl_eq (x y : Int) (hx : 0 ≤ x ∧ x ≤ 9) (hy : 0 ≤ y ∧ y ≤ 9) : Op.floatEq .f64 (flI x) (flI y) = decide (x = y) := by
  obtain ⟨i, rfl⟩ := Int.eq_ofNat_of_zero_le hx.1
  obtain ⟨j, rfl⟩ := Int.eq_ofNat_of_zero_le hy.1
  have := fl_same ⟨i, by omega⟩ ⟨j, by omega⟩
  simp only at this
  rw [this]
  exact decide_eq_decide.2 (by omega)

theorem run_equalIn_c {P : Program} (w : World) (n : Nat) (t : TypeId) (a b c d : Nat) (h : P.underlying t = some (.complex .f64)) : (Op.equalIn (n + 1) t (.complex .f64 a b) (.complex .f64 c d)).run P w = .ok (Op.floatEq .f64 a c && Op.floatEq .f64 b d) w := by
  simp [Op.equalIn, run_underlying h]
theorem run_equal_c {P : Program} (w : World) (t : TypeId) (a b c d : Nat) (h : P.underlying t = some (.complex .f64)) : (Op.equal t (.complex .f64 a b) (.complex .f64 c d)).run P w = .ok (Op.floatEq .f64 a c && Op.floatEq .f64 b d) w := run_equalIn_c w 9999 t a b c d h

theorem run_asking {P : Program} (w : World) (t : TypeId) (x y : Int) (h : P.underlying t = some (.complex .f64)) (hx : 0 ≤ x ∧ x ≤ 9) (hy : 0 ≤ y ∧ y ≤ 9) : ∀ (l : List CE) (i : Nat), (∀ c ∈ l, c.ok) →
    (Instr.findAsking t (.complex .f64 (flI x) (flI y)) (l.map CE.e) i).run P w = .ok ((cfind x y l i).map (fun p => (p.1, .int .i64 p.2))) w := by
  intro l
  induction l with
  | nil => intro i _; simp [Instr.findAsking, cfind]
  | cons c l ih =>
    intro i hok
    have hc := hok c (by simp)
    simp only [List.map_cons, Instr.findAsking, cfind]
    rw [Sem.run_bind]
    show (Result.andThen ((Op.equal t (.complex .f64 (flI x) (flI y)) (.complex .f64 (flI c.x) (flI c.y))).run P w) _) = _
    rw [run_equal_c w t _ _ _ _ h, fl_eq x c.x hx hc.1, fl_eq y c.y hy hc.2, Result.andThen_ok]
    by_cases e : x = c.x ∧ y = c.y
    · rw [if_pos e]
      simp [e.1, e.2, CE.e]
    · rw [if_neg e]
      have : (decide (x = c.x) && decide (y = c.y)) = false := by simpa using e
      rw [this]
      simp only [Bool.false_eq_true, if_false]
      exact ih (i + 1) (fun d hd => hok d (by simp [hd]))

theorem run_find {P : Program} (w : World) (t : TypeId) (x y : Int) (h : P.underlying t = some (.complex .f64)) (hx : 0 ≤ x ∧ x ≤ 9) (hy : 0 ≤ y ∧ y ≤ 9) (l : List CE) (hok : ∀ c ∈ l, c.ok) :
    (Instr.findKey t (.complex .f64 (flI x) (flI y)) (l.map CE.e)).run P w = .ok ((cfind x y l 0).map (fun p => (p.1, .int .i64 p.2))) w := by
  have ha := run_asking w t x y h hx hy l 0 hok
  unfold Instr.findKey
  rw [Sem.run_bind, run_underlying h]
  simp only [Result.andThen_ok]
  cases l with
  | nil => simp [Instr.findNow, cfind]
  | cons c l =>
    have : Instr.findNow (.complex .f64) (.complex .f64 (flI x) (flI y)) ((c :: l).map CE.e) 0 = none := by simp [Instr.findNow, Instr.sameNow, CE.e]
    rw [this]
    exact ha

theorem run_checkKey_c {P : Program} (w : World) (b : Bool) (n : Nat) (t : TypeId) (a c : Nat) (h : P.underlying t = some (.complex .f64)) : (Instr.checkKey b (n + 1) t (.complex .f64 a c)).run P w = .ok () w := by
  simp [Instr.checkKey, run_underlying h]

/-- The map that lies in block r. -/
def MapIs (w : World) (r : Nat) (l : List CE) (clock : Nat) : Prop := w.heap[r]? = some (.map (l.map CE.e).toArray clock) ∧ ∀ c ∈ l, c.ok

theorem run_lookup_c {P : Program} {w : World} {r clock : Nat} {l : List CE} (hm : MapIs w r l clock) (mt t e : TypeId) (ok : Bool) (x y : Int) (hmt : P.underlying mt = some (.map t e)) (h : P.underlying t = some (.complex .f64)) (hz : (P.info? e).bind (·.zero) = some (.int .i64 0)) (hx : 0 ≤ x ∧ x ≤ 9) (hy : 0 ≤ y ∧ y ≤ 9) :
    (Instr.lookup mt (.map (some r)) (.complex .f64 (flI x) (flI y)) ok).run P w = .ok (if ok then .tuple #[.int .i64 (((cfind x y l 0).map (·.2)).getD 0), .bool (cfind x y l 0).isSome] else .int .i64 (((cfind x y l 0).map (·.2)).getD 0)) w := by
  have hf := run_find w t x y h hx hy l hm.2
  have hc := fun b => run_checkKey_c (P := P) w b 9999 t (flI x) (flI y) h
  cases hi : P.info? e with
  | none => rw [hi] at hz; cases hz
  | some i =>
    rw [hi] at hz
    simp only [Option.bind_some] at hz
    unfold Instr.lookup
    simp only [Sem.run_bind, run_underlying hmt, Result.andThen_ok, getObj, Sem.run, hm.1, hc, hf, Sem.run_pure]
    cases hcf : cfind x y l 0 with
    | none => simp [zeroValue, typeInfo, hi, hz]
    | some p => simp

/-- A block put in the place of another. -/
def World.putObj (w : World) (r : Nat) (o : Obj) : World := { w with heap := w.heap.setIfInBounds r o }
/-- What a map holds behind a store, behind a delete. -/
def cput (x y v : Int) (clock : Nat) : List CE → List CE
  | [] => [⟨x, y, v, clock⟩]
  | c :: r => if x = c.x ∧ y = c.y then { c with v := v } :: r else c :: cput x y v clock r
def cdel (x y : Int) : List CE → List CE
  | [] => []
  | c :: r => if x = c.x ∧ y = c.y then r else c :: cdel x y r
theorem cfind_up (x y : Int) (l : List CE) (i : Nat) : cfind x y l i = (cfind x y l 0).map (fun p => (p.1 + i, p.2)) := by
  induction l generalizing i with
  | nil => rfl
  | cons c l ih =>
    simp only [cfind]
    split
    · simp
    · rw [ih (i + 1), ih 1]
      cases cfind x y l 0 <;> simp; omega
theorem cput_hit {x y v : Int} {clock : Nat} {l : List CE} {i : Nat} {u : Int} (h : cfind x y l 0 = some (i, u)) : ∃ c, l[i]? = some c ∧ c.x = x ∧ c.y = y ∧ cput x y v clock l = l.set i { c with v := v } := by
  induction l generalizing i with
  | nil => simp [cfind] at h
  | cons c l ih =>
    simp only [cfind] at h
    split at h
    · rename_i e
      simp at h
      obtain ⟨rfl, rfl⟩ := h
      exact ⟨c, rfl, e.1.symm, e.2.symm, by simp [cput, e]⟩
    · rename_i e
      rw [cfind_up] at h
      cases hf : cfind x y l 0 with
      | none => rw [hf] at h; simp at h
      | some p =>
        rw [hf] at h
        simp at h
        obtain ⟨rfl, rfl⟩ := h
        obtain ⟨d, h1, h2, h3, h4⟩ := ih (i := p.1) (by rw [hf])
        exact ⟨d, by simpa using h1, h2, h3, by simp [cput, e, h4]⟩
theorem cput_miss {x y v : Int} {clock : Nat} {l : List CE} (h : cfind x y l 0 = none) : cput x y v clock l = l ++ [⟨x, y, v, clock⟩] := by
  induction l with
  | nil => rfl
  | cons c l ih =>
    simp only [cfind] at h
    split at h
    · cases h
    · rename_i e
      rw [cfind_up] at h
      have := ih (by cases hf : cfind x y l 0 with | none => rfl | some p => rw [hf] at h; simp at h)
      simp [cput, e, this]
theorem cdel_hit {x y : Int} {l : List CE} {i : Nat} {u : Int} (h : cfind x y l 0 = some (i, u)) : i < l.length ∧ cdel x y l = l.eraseIdx i := by
  induction l generalizing i with
  | nil => simp [cfind] at h
  | cons c l ih =>
    simp only [cfind] at h
    split at h
    · rename_i e
      simp at h
      obtain ⟨rfl, rfl⟩ := h
      simp [cdel, e]
    · rename_i e
      rw [cfind_up] at h
      cases hf : cfind x y l 0 with
      | none => rw [hf] at h; simp at h
      | some p =>
        rw [hf] at h
        simp at h
        obtain ⟨rfl, rfl⟩ := h
        obtain ⟨h1, h2⟩ := ih (i := p.1) (by rw [hf])
        exact ⟨by simpa using h1, by simp [cdel, e, h2]⟩
theorem cdel_miss {x y : Int} {l : List CE} (h : cfind x y l 0 = none) : cdel x y l = l := by
  induction l with
  | nil => rfl
  | cons c l ih =>
    simp only [cfind] at h
    split at h
    · cases h
    · rename_i e
      rw [cfind_up] at h
      have := ih (by cases hf : cfind x y l 0 with | none => rfl | some p => rw [hf] at h; simp at h)
      simp [cdel, e, this]

end Go.Proofs.YtlafddeoheambaaDoor

/-
  The document's world, one thing of it turned, said by what stands at a place.
-/
namespace Go.Proofs.YtlafddeoheambaaDoor
open Go.RowKit

theorem at_some {α : Type} {l : List α} {i : Nat} {a : α} (h : l[i]? = some a) : ∃ hi : i < l.length, l[i] = a := List.getElem?_eq_some_iff.1 h
theorem setQ_at {Y : YW} {i : Nat} {q q' : SPlayer × PV} (h : Y.pls[i]? = some q) : (Y.setQ i q').pls[i]? = some q' := by
  obtain ⟨hi, _⟩ := at_some h
  simp [YW.setQ, hi]
theorem set_at {α : Type} {l : List α} {i : Nat} {a b : α} (h : l[i]? = some a) : (l.set i b)[i]? = some b := by
  obtain ⟨hi, _⟩ := at_some h
  simp [hi]
theorem setQ_setQ (Y : YW) (i : Nat) (q q' : SPlayer × PV) : (Y.setQ i q).setQ i q' = Y.setQ i q' := by simp [YW.setQ]

theorem S_at {Y : YW} {i : Nat} {p : SPlayer} {v : PV} (hq : Y.pls[i]? = some (p, v)) : Y.S.players[i]? = some p := by simp [YW.S, hq]
theorem doesS_at {Y : YW} {n k : Nat} {p : SPlayer} {v : PV} {u : SUnit} (hq : Y.pls[n]? = some (p, v)) (hu : p.units[k]? = some u) :
    doesS Y.S n k = actS (Y.S.setPl n { p with units := p.units.set k { u with what := emptyB, arg := emptyB } }) n k { p with units := p.units.set k { u with what := emptyB, arg := emptyB } } { u with what := emptyB, arg := emptyB } u.what u.arg := by
  unfold doesS
  rw [S_at hq]
  simp only [hu]

theorem actS_go (s : SWorld) (n k : Nat) (p : SPlayer) (u : SUnit) (what arg : ByteArray)  (h0 : (what.toList == [103, 111]) = true) (hx : freeS s (u.x + dxI u.head) (u.y + dyI u.head) = true) : actS s n k p u what arg = s.setPl n { p with units := p.units.set k { u with x := u.x + dxI u.head, y := u.y + dyI u.head } } := by simp [actS, h0, hx]
theorem actS_go_no (s : SWorld) (n k : Nat) (p : SPlayer) (u : SUnit) (what arg : ByteArray)  (h0 : (what.toList == [103, 111]) = true) (hx : freeS s (u.x + dxI u.head) (u.y + dyI u.head) = false) : actS s n k p u what arg = s := by simp [actS, h0, hx]
theorem actS_left (s : SWorld) (n k : Nat) (p : SPlayer) (u : SUnit) (what arg : ByteArray) (h0 : (what.toList == [103, 111]) = false) (h1 : (what.toList == [108, 101, 102, 116]) = true)  : actS s n k p u what arg = s.setPl n { p with units := p.units.set k { u with head := (u.head + 1) % 4 } } := by simp [actS, h0, h1]
theorem actS_back (s : SWorld) (n k : Nat) (p : SPlayer) (u : SUnit) (what arg : ByteArray) (h0 : (what.toList == [103, 111]) = false) (h1 : (what.toList == [108, 101, 102, 116]) = false) (h2 : (what.toList == [98, 97, 99, 107]) = true)  : actS s n k p u what arg = s.setPl n { p with units := p.units.set k { u with head := (u.head + 2) % 4 } } := by simp [actS, h0, h1, h2]
theorem actS_right (s : SWorld) (n k : Nat) (p : SPlayer) (u : SUnit) (what arg : ByteArray) (h0 : (what.toList == [103, 111]) = false) (h1 : (what.toList == [108, 101, 102, 116]) = false) (h2 : (what.toList == [98, 97, 99, 107]) = false) (h3 : (what.toList == [114, 105, 103, 104, 116]) = true)  : actS s n k p u what arg = s.setPl n { p with units := p.units.set k { u with head := (u.head + 3) % 4 } } := by simp [actS, h0, h1, h2, h3]
theorem actS_dig (s : SWorld) (n k : Nat) (p : SPlayer) (u : SUnit) (what arg : ByteArray) (h0 : (what.toList == [103, 111]) = false) (h1 : (what.toList == [108, 101, 102, 116]) = false) (h2 : (what.toList == [98, 97, 99, 107]) = false) (h3 : (what.toList == [114, 105, 103, 104, 116]) = false) (h4 : (what.toList == [100, 105, 103]) = true) (hx : u.cargo < 9) (hy : digB s.ore u.x u.y = true) : actS s n k p u what arg = { s.setPl n { p with units := p.units.set k { u with cargo := u.cargo + 1 } } with ore := digL u.x u.y s.ore } := by simp [actS, h0, h1, h2, h3, h4, hx, hy]
theorem actS_dig_full (s : SWorld) (n k : Nat) (p : SPlayer) (u : SUnit) (what arg : ByteArray) (h0 : (what.toList == [103, 111]) = false) (h1 : (what.toList == [108, 101, 102, 116]) = false) (h2 : (what.toList == [98, 97, 99, 107]) = false) (h3 : (what.toList == [114, 105, 103, 104, 116]) = false) (h4 : (what.toList == [100, 105, 103]) = true) (hx : ¬ u.cargo < 9) : actS s n k p u what arg = s := by simp [actS, h0, h1, h2, h3, h4, hx]
theorem actS_dig_none (s : SWorld) (n k : Nat) (p : SPlayer) (u : SUnit) (what arg : ByteArray) (h0 : (what.toList == [103, 111]) = false) (h1 : (what.toList == [108, 101, 102, 116]) = false) (h2 : (what.toList == [98, 97, 99, 107]) = false) (h3 : (what.toList == [114, 105, 103, 104, 116]) = false) (h4 : (what.toList == [100, 105, 103]) = true) (hx : u.cargo < 9) (hy : digB s.ore u.x u.y = false) : actS s n k p u what arg = s := by simp [actS, h0, h1, h2, h3, h4, hx, hy]
theorem actS_sell (s : SWorld) (n k : Nat) (p : SPlayer) (u : SUnit) (what arg : ByteArray) (h0 : (what.toList == [103, 111]) = false) (h1 : (what.toList == [108, 101, 102, 116]) = false) (h2 : (what.toList == [98, 97, 99, 107]) = false) (h3 : (what.toList == [114, 105, 103, 104, 116]) = false) (h4 : (what.toList == [100, 105, 103]) = false) (h5 : (what.toList == [115, 101, 108, 108]) = true)  : actS s n k p u what arg = s.setPl n { p with money := p.money + 10 * u.cargo, units := p.units.set k { u with cargo := 0 } } := by simp [actS, h0, h1, h2, h3, h4, h5]
theorem actS_call (s : SWorld) (n k : Nat) (p : SPlayer) (u : SUnit) (what arg : ByteArray) (h0 : (what.toList == [103, 111]) = false) (h1 : (what.toList == [108, 101, 102, 116]) = false) (h2 : (what.toList == [98, 97, 99, 107]) = false) (h3 : (what.toList == [114, 105, 103, 104, 116]) = false) (h4 : (what.toList == [100, 105, 103]) = false) (h5 : (what.toList == [115, 101, 108, 108]) = false) (h6 : (what.toList == [99, 97, 108, 108]) = true) (hx : unitIx p.units arg < 0) : actS s n k p u what arg = s.setPl n { p with units := p.units.set k { u with name := arg } } := by simp [actS, h0, h1, h2, h3, h4, h5, h6, hx]
theorem actS_call_no (s : SWorld) (n k : Nat) (p : SPlayer) (u : SUnit) (what arg : ByteArray) (h0 : (what.toList == [103, 111]) = false) (h1 : (what.toList == [108, 101, 102, 116]) = false) (h2 : (what.toList == [98, 97, 99, 107]) = false) (h3 : (what.toList == [114, 105, 103, 104, 116]) = false) (h4 : (what.toList == [100, 105, 103]) = false) (h5 : (what.toList == [115, 101, 108, 108]) = false) (h6 : (what.toList == [99, 97, 108, 108]) = true) (hx : ¬ unitIx p.units arg < 0) : actS s n k p u what arg = s := by simp [actS, h0, h1, h2, h3, h4, h5, h6, hx]
theorem actS_build (s : SWorld) (n k : Nat) (p : SPlayer) (u : SUnit) (what arg : ByteArray) (h0 : (what.toList == [103, 111]) = false) (h1 : (what.toList == [108, 101, 102, 116]) = false) (h2 : (what.toList == [98, 97, 99, 107]) = false) (h3 : (what.toList == [114, 105, 103, 104, 116]) = false) (h4 : (what.toList == [100, 105, 103]) = false) (h5 : (what.toList == [115, 101, 108, 108]) = false) (h6 : (what.toList == [99, 97, 108, 108]) = false) (h7 : (what.toList == [98, 117, 105, 108, 100]) = true) (hx : unitIx p.units arg < 0) (hl : p.units.length < 5) (hm : 50 ≤ p.money - stakedI p.bids emptyB) (hg : freeS s (u.x + dxI u.head) (u.y + dyI u.head) = true) : actS s n k p u what arg = s.setPl n { p with money := p.money - 50, units := p.units ++ [{ name := arg, x := u.x + dxI u.head, y := u.y + dyI u.head, head := u.head, cargo := 0, what := emptyB, arg := emptyB }] } := by simp [actS, h0, h1, h2, h3, h4, h5, h6, h7, hx, hl, hm, hg]
theorem actS_build_no (s : SWorld) (n k : Nat) (p : SPlayer) (u : SUnit) (what arg : ByteArray) (h0 : (what.toList == [103, 111]) = false) (h1 : (what.toList == [108, 101, 102, 116]) = false) (h2 : (what.toList == [98, 97, 99, 107]) = false) (h3 : (what.toList == [114, 105, 103, 104, 116]) = false) (h4 : (what.toList == [100, 105, 103]) = false) (h5 : (what.toList == [115, 101, 108, 108]) = false) (h6 : (what.toList == [99, 97, 108, 108]) = false) (h7 : (what.toList == [98, 117, 105, 108, 100]) = true) (hx : ¬ (unitIx p.units arg < 0 ∧ p.units.length < 5 ∧ 50 ≤ p.money - stakedI p.bids emptyB ∧ freeS s (u.x + dxI u.head) (u.y + dyI u.head) = true)) : actS s n k p u what arg = s := by simp only [actS, h0, h1, h2, h3, h4, h5, h6, h7, if_neg hx]; rfl
theorem actS_none (s : SWorld) (n k : Nat) (p : SPlayer) (u : SUnit) (what arg : ByteArray) (h0 : (what.toList == [103, 111]) = false) (h1 : (what.toList == [108, 101, 102, 116]) = false) (h2 : (what.toList == [98, 97, 99, 107]) = false) (h3 : (what.toList == [114, 105, 103, 104, 116]) = false) (h4 : (what.toList == [100, 105, 103]) = false) (h5 : (what.toList == [115, 101, 108, 108]) = false) (h6 : (what.toList == [99, 97, 108, 108]) = false) (h7 : (what.toList == [98, 117, 105, 108, 100]) = false) : actS s n k p u what arg = s := by simp [actS, h0, h1, h2, h3, h4, h5, h6, h7]

end Go.Proofs.YtlafddeoheambaaDoor

/-
  Maps by spots: a store and a delete, as the model runs them.
-/
namespace Go.Proofs.YtlafddeoheambaaDoor
open Go.RowKit

def cclock (x y : Int) (l : List CE) (clock : Nat) : Nat := if (cfind x y l 0).isSome then clock else clock + 1

theorem modify_e (l : List CE) (i : Nat) (c : CE) (x y v : Int) (hc : l[i]? = some c) (hx : c.x = x) (hy : c.y = y) :
    ((l.map CE.e).toArray.modify i fun e => { e with key := .complex .f64 (flI x) (flI y), val := .int .i64 v }) = ((l.set i { c with v := v }).map CE.e).toArray := by
  obtain ⟨hi, he⟩ := at_some hc
  apply Array.ext
  · simp
  · intro j h1 h2
    simp only [Array.getElem_modify, List.getElem_toArray, List.getElem_map, List.getElem_set]
    split
    · rename_i hij
      subst hij
      rw [he]
      simp [CE.e, hx, hy]
    · rfl

theorem run_update_c {P : Program} {w : World} {r clock : Nat} {l : List CE} (hm : MapIs w r l clock) (mt t e : TypeId) (x y v : Int) (hmt : P.underlying mt = some (.map t e)) (h : P.underlying t = some (.complex .f64)) (hx : 0 ≤ x ∧ x ≤ 9) (hy : 0 ≤ y ∧ y ≤ 9) :
    (Instr.mapUpdate mt (.map (some r)) (.complex .f64 (flI x) (flI y)) (.int .i64 v)).run P w = .ok () (World.putObj w r (.map ((cput x y v clock l).map CE.e).toArray (cclock x y l clock))) := by
  have hf := run_find w t x y h hx hy l hm.2
  have hc := fun b => run_checkKey_c (P := P) w b 9999 t (flI x) (flI y) h
  unfold Instr.mapUpdate
  simp only [Sem.run_bind, run_underlying hmt, Result.andThen_ok, getObj, Sem.run, hm.1, hc, hf]
  cases hcf : cfind x y l 0 with
  | none =>
    simp [setObj, Sem.run, hm.1, World.putObj, cclock, hcf, cput_miss hcf, CE.e]
  | some p =>
    obtain ⟨c, h1, h2, h3, h4⟩ := cput_hit (v := v) (clock := clock) hcf
    have hk : ((((l.map CE.e).toArray[p.1]?).map (·.key)).getD (.complex .f64 (flI x) (flI y))) = .complex .f64 (flI x) (flI y) := by
      simp [h1, CE.e, h2, h3]
    have hs : Instr.sameBits 10000 (.complex .f64 (flI x) (flI y)) (.complex .f64 (flI x) (flI y)) = true := by simp [Instr.sameBits]
    have hst : (Instr.keyThatStays (.complex .f64 (flI x) (flI y)) (.complex .f64 (flI x) (flI y))).run P w = .ok (.complex .f64 (flI x) (flI y)) w := by
      simp [Instr.keyThatStays, hs]
    simp only [Option.map_some, Sem.run_bind, hk, hst, Result.andThen_ok]
    rw [modify_e l p.1 c x y v h1 h2 h3]
    simp [setObj, Sem.run, hm.1, World.putObj, cclock, hcf, h4]

theorem erase_map {α β : Type} (f : α → β) (l : List α) (i : Nat) : (l.map f).eraseIdx i = (l.eraseIdx i).map f := by
  induction l generalizing i with
  | nil => simp
  | cons a l ih => cases i <;> simp [ih]

theorem run_delete_c {P : Program} {w : World} {r clock : Nat} {l : List CE} (hm : MapIs w r l clock) (mt t e kt ty : TypeId) (x y : Int) (hmt : P.underlying mt = some (.map t e)) (h : P.underlying t = some (.complex .f64)) (hx : 0 ≤ x ∧ x ≤ 9) (hy : 0 ≤ y ∧ y ≤ 9) :
    (Builtin.delete_ #[mt, kt] ty #[.map (some r), .complex .f64 (flI x) (flI y)]).run P w = .ok (.tuple #[]) (World.putObj w r (.map ((cdel x y l).map CE.e).toArray clock)) := by
  have hf := run_find w t x y h hx hy l hm.2
  have hc := fun b => run_checkKey_c (P := P) w b 9999 t (flI x) (flI y) h
  unfold Builtin.delete_
  simp only [List.getElem?_toArray, List.getElem?_cons_zero, List.getElem?_cons_succ, Sem.run_bind, run_underlying hmt, Result.andThen_ok, getObj, Sem.run, hm.1, hc, hf]
  cases hcf : cfind x y l 0 with
  | none => simp [setObj, Sem.run, hm.1, World.putObj, cdel_miss hcf]
  | some p =>
    obtain ⟨h1, h2⟩ := cdel_hit hcf
    have : (l.map CE.e).toArray.eraseIdxIfInBounds p.1 = ((cdel x y l).map CE.e).toArray := by
      rw [h2]
      simp [Array.eraseIdxIfInBounds, h1]
      exact erase_map CE.e l p.1
    simp [setObj, Sem.run, hm.1, World.putObj, this]

end Go.Proofs.YtlafddeoheambaaDoor

/-
  Maps by spots at an operation of the walk: a look-up, a store, a delete; what a map holds then.
-/
namespace Go.Proofs.YtlafddeoheambaaDoor
open Go.RowKit

/-- Only the block r has turned. -/
structure Put (r : Nat) (w w' : World) : Prop where
  os : w'.os = w.os
  tape : w'.tape = w.tape
  output : w'.output = w.output
  size : w'.heap.size = w.heap.size
  block : ∀ k, k ≠ r → w'.heap[k]? = w.heap[k]?
theorem putObj_put (w : World) (r : Nat) (o : Obj) : Put r w (World.putObj w r o) := by
  refine ⟨rfl, rfl, rfl, by simp [World.putObj], fun k hk => ?_⟩
  simp [World.putObj, Ne.symm hk]
theorem putObj_at (w : World) (r : Nat) (o o' : Obj) (h : w.heap[r]? = some o') : (World.putObj w r o).heap[r]? = some o := by
  obtain ⟨hr, _⟩ := Array.getElem?_eq_some_iff.1 h
  simp [World.putObj, hr]
theorem Put.kept {r : Nat} {F : List Nat} {w w1 w2 : World} (h : Kept F w w1) (hp : Put r w1 w2) (hr : r ∈ F ∨ w.heap.size ≤ r) : Kept F w w2 := by
  refine ⟨hp.os.trans h.os, hp.tape.trans h.tape, hp.output.trans h.output, by rw [hp.size]; exact h.size, fun k hk hn => ?_⟩
  rw [hp.block k ?_, h.block k hk hn]
  rintro rfl
  rcases hr with hr | hr
  · exact hn hr
  · omega

/-- What a map holds at a spot. -/
def look (x y : Int) : List CE → Option Int
  | [] => none
  | c :: r => if x = c.x ∧ y = c.y then some c.v else look x y r
theorem cfind_look (x y : Int) (l : List CE) (i : Nat) : (cfind x y l i).map (·.2) = look x y l := by
  induction l generalizing i with
  | nil => rfl
  | cons c l ih => simp only [cfind, look]; split <;> simp [ih]
theorem cfind_some (x y : Int) (l : List CE) (i : Nat) : (cfind x y l i).isSome = (look x y l).isSome := by rw [← cfind_look x y l i]; simp
theorem look_put (x y v : Int) (clock : Nat) (l : List CE) (x' y' : Int) : look x' y' (cput x y v clock l) = if x' = x ∧ y' = y then some v else look x' y' l := by
  induction l with
  | nil => simp [cput, look]
  | cons c l ih =>
    simp only [cput]
    by_cases h : x = c.x ∧ y = c.y
    · rw [if_pos h]
      simp only [look, h.1, h.2]
      split <;> rfl
    · rw [if_neg h]
      simp only [look, ih]
      by_cases h' : x' = c.x ∧ y' = c.y
      · have : ¬ (x' = x ∧ y' = y) := fun e => h ⟨e.1 ▸ h'.1, e.2 ▸ h'.2⟩
        simp [h']
        intro e1 e2
        exact absurd ⟨e1.symm, e2.symm⟩ h
      · simp [h']
/-- No two entries at one spot. -/
def keysD (l : List CE) : Prop := l.Pairwise (fun a b => ¬ (a.x = b.x ∧ a.y = b.y))
theorem look_none_iff (x y : Int) (l : List CE) : look x y l = none ↔ ∀ c ∈ l, ¬ (x = c.x ∧ y = c.y) := by
  induction l with
  | nil => simp [look]
  | cons c l ih =>
    simp only [look]
    split
    · rename_i h; simp [h]
    · rename_i h; simp only [ih, List.mem_cons, forall_eq_or_imp]; exact ⟨fun k => ⟨h, k⟩, fun k => k.2⟩
theorem look_del (x y : Int) (l : List CE) (hd : keysD l) (x' y' : Int) : look x' y' (cdel x y l) = if x' = x ∧ y' = y then none else look x' y' l := by
  induction l with
  | nil => simp [cdel, look]
  | cons c l ih =>
    have h1 := List.pairwise_cons.1 hd
    simp only [cdel]
    by_cases h : x = c.x ∧ y = c.y
    · rw [if_pos h]
      by_cases h' : x' = x ∧ y' = y
      · rw [if_pos h']
        refine (look_none_iff _ _ _).2 (fun d hd' e => ?_)
        exact h1.1 d hd' ⟨by omega, by omega⟩
      · rw [if_neg h']
        have : ¬ (x' = c.x ∧ y' = c.y) := fun e => h' ⟨by omega, by omega⟩
        simp [look, this]
    · rw [if_neg h]
      simp only [look, ih h1.2]
      by_cases h' : x' = c.x ∧ y' = c.y
      · have : ¬ (x' = x ∧ y' = y) := fun e => h ⟨by omega, by omega⟩
        simp [h']
        intro e1 e2
        exact absurd ⟨e1.symm, e2.symm⟩ h
      · simp [h']
theorem cput_mem {x y v : Int} {clock : Nat} {l : List CE} {c : CE} (h : c ∈ cput x y v clock l) : (c.x = x ∧ c.y = y) ∨ c ∈ l := by
  induction l with
  | nil => simp [cput] at h; subst h; exact .inl ⟨rfl, rfl⟩
  | cons d l ih =>
    simp only [cput] at h
    split at h
    · rename_i e
      rcases List.mem_cons.1 h with rfl | h
      · exact .inl ⟨e.1.symm, e.2.symm⟩
      · exact .inr (by simp [h])
    · rcases List.mem_cons.1 h with rfl | h
      · exact .inr (by simp)
      · rcases ih h with h | h
        · exact .inl h
        · exact .inr (by simp [h])
theorem cdel_mem {x y : Int} {l : List CE} {c : CE} (h : c ∈ cdel x y l) : c ∈ l := by
  induction l with
  | nil => simp [cdel] at h
  | cons d l ih =>
    simp only [cdel] at h
    split at h
    · simp [h]
    · rcases List.mem_cons.1 h with rfl | h
      · simp
      · simp [ih h]
theorem keysD_put {x y v : Int} {clock : Nat} {l : List CE} (h : keysD l) : keysD (cput x y v clock l) := by
  induction l with
  | nil => simp [cput, keysD]
  | cons d l ih =>
    have h1 := List.pairwise_cons.1 h
    simp only [cput]
    split
    · exact List.pairwise_cons.2 ⟨h1.1, h1.2⟩
    · rename_i e
      refine List.pairwise_cons.2 ⟨fun c hc k => ?_, ih h1.2⟩
      rcases cput_mem hc with h | h
      · exact e ⟨by omega, by omega⟩
      · exact h1.1 c h k
theorem keysD_del {x y : Int} {l : List CE} (h : keysD l) : keysD (cdel x y l) := by
  induction l with
  | nil => simp [cdel, keysD]
  | cons d l ih =>
    have h1 := List.pairwise_cons.1 h
    simp only [cdel]
    split
    · exact h1.2
    · exact List.pairwise_cons.2 ⟨fun c hc k => h1.1 c (cdel_mem hc) k, ih h1.2⟩

/-- A map by spots, no two entries at one. -/
structure MapD (w : World) (r : Nat) (l : List CE) (clock : Nat) : Prop where
  is : MapIs w r l clock
  keys : keysD l
theorem MapD.same {w w' : World} {r : Nat} {l : List CE} {clock : Nat} (h : MapD w r l clock) (e : w'.heap[r]? = w.heap[r]?) : MapD w' r l clock := ⟨⟨by rw [e]; exact h.is.1, h.is.2⟩, h.keys⟩
theorem MapD.put {w : World} {r : Nat} {l : List CE} {clock : Nat} (h : MapD w r l clock) (x y v : Int) (hx : 0 ≤ x ∧ x ≤ 9) (hy : 0 ≤ y ∧ y ≤ 9) :
    MapD (World.putObj w r (.map ((cput x y v clock l).map CE.e).toArray (cclock x y l clock))) r (cput x y v clock l) (cclock x y l clock) := by
  refine ⟨⟨putObj_at _ _ _ _ h.is.1, fun c hc => ?_⟩, keysD_put h.keys⟩
  rcases cput_mem hc with e | e
  · exact ⟨by omega, by omega⟩
  · exact h.is.2 c e
theorem MapD.del {w : World} {r : Nat} {l : List CE} {clock : Nat} (h : MapD w r l clock) (x y : Int) :
    MapD (World.putObj w r (.map ((cdel x y l).map CE.e).toArray clock)) r (cdel x y l) clock :=
  ⟨⟨putObj_at _ _ _ _ h.is.1, fun c hc => h.is.2 c (cdel_mem hc)⟩, keysD_del h.keys⟩

section
variable {P : Program} (w : World) {ops : Array Oper} {rest : List Oper} {o : Oper} {a : Act} {Q : Exit → Act → World → Prop}

/-- A look-up in a map by spots. -/
theorem wpList_lookup_c (hg : o.guard = none) (m x : Operand) (t : TypeId) (hop : o.op = Op.lookup t m x false)
    (k e : TypeId) (ht : P.underlying t = some (.map k e)) (hk : P.underlying k = some (.complex .f64)) (hz : (P.info? e).bind (·.zero) = some (.int .i64 0)) (r clock : Nat) (l : List CE)
    (hm : a.eval m = .map (some r)) (hown : MapD w r l clock) (cx cy : Int) (hx : a.eval x = .complex .f64 (flI cx) (flI cy)) (h1 : 0 ≤ cx ∧ cx ≤ 9) (h2 : 0 ≤ cy ∧ cy ≤ 9)
    (hK : wpList P ops Q rest (a.put o.dst (.int .i64 ((look cx cy l).getD 0))) w) :
    wpList P ops Q (o :: rest) a w := by
  refine wpList_plain hg fun K' hK' => ?_
  have hrun := run_lookup_c hown.is t k e false cx cy ht hk hz h1 h2
  rw [cfind_look] at hrun
  unfold Oper.wp
  simp [execOp, hop, hm, hx, hrun, Result.andThen]
  exact hK' _ _ hK
/-- The same, with ok. -/
theorem wpList_lookup_ok_c (hg : o.guard = none) (m x : Operand) (t : TypeId) (hop : o.op = Op.lookup t m x true)
    (k e : TypeId) (ht : P.underlying t = some (.map k e)) (hk : P.underlying k = some (.complex .f64)) (hz : (P.info? e).bind (·.zero) = some (.int .i64 0)) (r clock : Nat) (l : List CE)
    (hm : a.eval m = .map (some r)) (hown : MapD w r l clock) (cx cy : Int) (hx : a.eval x = .complex .f64 (flI cx) (flI cy)) (h1 : 0 ≤ cx ∧ cx ≤ 9) (h2 : 0 ≤ cy ∧ cy ≤ 9)
    (hK : wpList P ops Q rest (a.put o.dst (.tuple #[.int .i64 ((look cx cy l).getD 0), .bool (look cx cy l).isSome])) w) :
    wpList P ops Q (o :: rest) a w := by
  refine wpList_plain hg fun K' hK' => ?_
  have hrun := run_lookup_c hown.is t k e true cx cy ht hk hz h1 h2
  rw [cfind_look, cfind_some] at hrun
  unfold Oper.wp
  simp [execOp, hop, hm, hx, hrun, Result.andThen]
  exact hK' _ _ hK
/-- A store. -/
theorem wpList_update_c (hg : o.guard = none) (m x v : Operand) (t : TypeId) (hop : o.op = Op.mapUpdate t m x v)
    (k e : TypeId) (ht : P.underlying t = some (.map k e)) (hk : P.underlying k = some (.complex .f64)) (r clock : Nat) (l : List CE)
    (hm : a.eval m = .map (some r)) (hown : MapD w r l clock) (cx cy n : Int) (hx : a.eval x = .complex .f64 (flI cx) (flI cy)) (hv : a.eval v = .int .i64 n) (h1 : 0 ≤ cx ∧ cx ≤ 9) (h2 : 0 ≤ cy ∧ cy ≤ 9)
    (hK : ∀ w', MapD w' r (cput cx cy n clock l) (cclock cx cy l clock) → Put r w w' → wpList P ops Q rest (a.put o.dst undef) w') :
    wpList P ops Q (o :: rest) a w := by
  refine wpList_plain hg fun K' hK' => ?_
  have hrun := run_update_c hown.is t k e cx cy n ht hk h1 h2
  unfold Oper.wp
  simp [execOp, hop, hm, hx, hv, hrun, Result.andThen]
  exact hK' _ _ (hK _ (hown.put cx cy n h1 h2) (putObj_put _ _ _))
/-- A delete. -/
theorem wpList_delete_c (hg : o.guard = none) (m x : Operand) (t k : TypeId) (hop : o.op = Op.call { callee := Callee.builtin Builtin.delete, args := #[m, x], argTypes := #[t, k] })
    (e : TypeId) (ht : P.underlying t = some (.map k e)) (hk : P.underlying k = some (.complex .f64)) (r clock : Nat) (l : List CE)
    (hm : a.eval m = .map (some r)) (hown : MapD w r l clock) (cx cy : Int) (hx : a.eval x = .complex .f64 (flI cx) (flI cy)) (h1 : 0 ≤ cx ∧ cx ≤ 9) (h2 : 0 ≤ cy ∧ cy ≤ 9)
    (hK : ∀ w', MapD w' r (cdel cx cy l) clock → Put r w w' → wpList P ops Q rest (a.put o.dst (.tuple #[])) w') :
    wpList P ops Q (o :: rest) a w := by
  refine wpList_plain hg fun K' hK' => ?_
  have hrun := run_delete_c hown.is t k e k o.type cx cy ht hk h1 h2
  unfold Oper.wp
  simp [execOp, hop, resolve, invoke, builtin, hm, hx, hrun, Result.andThen]
  exact hK' _ _ (hK _ (hown.del cx cy) (putObj_put _ _ _))
end
end Go.Proofs.YtlafddeoheambaaDoor

/-
  What holds of the document's world's numbers holds still behind what a unit does.
-/
namespace Go.Proofs.YtlafddeoheambaaDoor
open Go.RowKit

structure UnOK (w h : Int) (u : SUnit) : Prop where
  x : 0 ≤ u.x ∧ u.x < w
  y : 0 ≤ u.y ∧ u.y < h
  head : 0 ≤ u.head ∧ u.head ≤ 3
  cargo : 0 ≤ u.cargo ∧ u.cargo ≤ 9
structure PlOK (w h M : Int) (p : SPlayer) : Prop where
  un : 1 ≤ p.units.length ∧ p.units.length ≤ 5
  each : ∀ u ∈ p.units, UnOK w h u
  mo : 0 ≤ p.money ∧ p.money ≤ M
  bi : (∀ b ∈ p.bids, 0 ≤ b.n ∧ b.n ≤ 100000) ∧ p.bids.length ≤ 1000
structure WFS (s : SWorld) (M : Int) : Prop where
  pl : 2 ≤ s.players.length ∧ s.players.length ≤ 4
  wd : 3 ≤ s.width ∧ s.width ≤ 10
  ht : 3 ≤ s.height ∧ s.height ≤ 10
  orn : s.ore.length ≤ 6
  ora : ∀ x ∈ s.ore, 0 ≤ x.amount ∧ x.amount ≤ 99
  each : ∀ p ∈ s.players, PlOK s.width s.height M p

theorem WF.of {Y : YW} {M : Int} (h : WFS Y.S M) : WF Y M := by
  have e : ∀ p ∈ Y.pls, PlOK Y.width Y.height M p.1 := fun p hp => h.each p.1 (List.mem_map_of_mem hp)
  exact ⟨by simpa [YW.S] using h.pl, fun p hp => (e p hp).un, h.wd, h.ht, h.orn, h.ora, fun p hp u hu => ⟨((e p hp).each u hu).x.1, ((e p hp).each u hu).x.2, ((e p hp).each u hu).y.1, ((e p hp).each u hu).y.2⟩,
    fun p hp u hu => ((e p hp).each u hu).head, fun p hp u hu => ((e p hp).each u hu).cargo, fun p hp => (e p hp).mo, fun p hp => (e p hp).bi⟩
theorem PlOK.mono {w h M M' : Int} {p : SPlayer} (k : PlOK w h M p) (hM : M ≤ M') : PlOK w h M' p := ⟨k.un, k.each, ⟨k.mo.1, by have := k.mo.2; omega⟩, k.bi⟩
theorem WFS.mono {s : SWorld} {M M' : Int} (h : WFS s M) (hM : M ≤ M') : WFS s M' := ⟨h.pl, h.wd, h.ht, h.orn, h.ora, fun p hp => (h.each p hp).mono hM⟩
theorem WFS.setPl {s : SWorld} {M : Int} (h : WFS s M) (n : Nat) {p : SPlayer} (hp : PlOK s.width s.height M p) : WFS (s.setPl n p) M := by
  refine ⟨by simpa [SWorld.setPl] using h.pl, h.wd, h.ht, h.orn, h.ora, fun q hq => ?_⟩
  rcases List.mem_or_eq_of_mem_set hq with h1 | h1
  · exact h.each q h1
  · rw [h1]; exact hp
theorem PlOK.setU {w h M : Int} {p : SPlayer} (k : PlOK w h M p) (i : Nat) {u : SUnit} (hu : UnOK w h u) : PlOK w h M { p with units := p.units.set i u } := by
  refine ⟨by simpa using k.un, fun v hv => ?_, k.mo, k.bi⟩
  rcases List.mem_or_eq_of_mem_set hv with h1 | h1
  · exact k.each v h1
  · rw [h1]; exact hu
theorem free_in {s : SWorld} {x y : Int} (h : freeS s x y = true) : (0 ≤ x ∧ x < s.width) ∧ (0 ≤ y ∧ y < s.height) := by
  simp [freeS, inB] at h
  omega
theorem digL_ok {l : List SSpot} {x y : Int} (h : ∀ s ∈ l, 0 ≤ s.amount ∧ s.amount ≤ 99) : ∀ s ∈ digL x y l, 0 ≤ s.amount ∧ s.amount ≤ 99 := by
  induction l with
  | nil => intro s hs; simp [digL] at hs
  | cons a l ih =>
    intro s hs
    simp only [digL] at hs
    split at hs
    · rename_i hh
      simp [hitB] at hh
      have ha := h a (by simp)
      rcases List.mem_cons.1 hs with rfl | hs
      · simp only; omega
      · exact h s (by simp [hs])
    · rcases List.mem_cons.1 hs with rfl | hs
      · exact h s (by simp)
      · exact ih (fun t ht => h t (by simp [ht])) s hs
theorem digL_length {l : List SSpot} {x y : Int} : (digL x y l).length = l.length := by
  induction l with
  | nil => rfl
  | cons a l ih => simp only [digL]; split <;> simp [ih]

theorem WFS.act {s : SWorld} {M : Int} (h : WFS s M) (n k : Nat) {p : SPlayer} {u : SUnit} (hp : PlOK s.width s.height M p) (hu : UnOK s.width s.height u) (what arg : ByteArray) : WFS (actS s n k p u what arg) (M + 90) := by
  have hb : WFS s (M + 90) := h.mono (by omega)
  have hp' : PlOK s.width s.height (M + 90) p := hp.mono (by omega)
  have hh := hu.head
  unfold actS
  simp only
  split
  · split
    · rename_i hf
      have := free_in hf
      exact hb.setPl n (hp'.setU k ⟨this.1, this.2, hu.head, hu.cargo⟩)
    · exact hb
  split
  · exact hb.setPl n (hp'.setU k ⟨hu.x, hu.y, ⟨by simp only; omega, by simp only; omega⟩, hu.cargo⟩)
  split
  · exact hb.setPl n (hp'.setU k ⟨hu.x, hu.y, ⟨by simp only; omega, by simp only; omega⟩, hu.cargo⟩)
  split
  · exact hb.setPl n (hp'.setU k ⟨hu.x, hu.y, ⟨by simp only; omega, by simp only; omega⟩, hu.cargo⟩)
  split
  · split
    · split
      · rename_i hc _
        have w1 := hb.setPl n (hp'.setU k (u := { u with cargo := u.cargo + 1 }) ⟨hu.x, hu.y, hu.head, ⟨by have := hu.cargo; simp only; omega, by simp only; omega⟩⟩)
        exact ⟨w1.pl, w1.wd, w1.ht, by simp only [digL_length]; exact h.orn, digL_ok h.ora, w1.each⟩
      · exact hb
    · exact hb
  split
  · have := hp.mo
    have hc := hu.cargo
    have q := hp'.setU k (u := { u with cargo := 0 }) ⟨hu.x, hu.y, hu.head, ⟨by simp, by simp⟩⟩
    exact hb.setPl n ⟨q.un, q.each, ⟨by simp only; omega, by simp only; omega⟩, q.bi⟩
  split
  · split
    · exact hb.setPl n (hp'.setU k ⟨hu.x, hu.y, hu.head, hu.cargo⟩)
    · exact hb
  split
  · split
    · rename_i hc
      obtain ⟨_, h2, h3, h4⟩ := hc
      have hf := free_in h4
      have hs := stakedI_bd p.bids emptyB hp.bi.1
      have hm := hp.mo
      refine hb.setPl n ⟨by simp; omega, fun v hv => ?_, ⟨by simp only; omega, by simp only; omega⟩, hp.bi⟩
      rcases List.mem_append.1 hv with h5 | h5
      · exact hp.each v h5
      · simp at h5
        rw [h5]
        exact ⟨hf.1, hf.2, hu.head, ⟨by simp, by simp⟩⟩
    · exact hb
  · exact hb

theorem WFS.does {s : SWorld} {M : Int} (h : WFS s M) (n k : Nat) : WFS (doesS s n k) (M + 90) := by
  unfold doesS
  split
  · exact h.mono (by omega)
  · rename_i p hp
    split
    · exact h.mono (by omega)
    · rename_i u hu
      have hpm : p ∈ s.players := List.mem_of_getElem? hp
      have hum : u ∈ p.units := List.mem_of_getElem? hu
      have pk := h.each p hpm
      have uk := pk.each u hum
      have u0 : UnOK s.width s.height { u with what := emptyB, arg := emptyB } := ⟨uk.x, uk.y, uk.head, uk.cargo⟩
      exact (h.setPl n (pk.setU k u0)).act n k (pk.setU k u0) u0 _ _

end Go.Proofs.YtlafddeoheambaaDoor

/-
  Lots, said plainly: the order of names, the open lots in that order, a player's bids. No walk in sight.
-/
namespace Go.Proofs.YtlafddeoheambaaDoor
open Go.RowKit

theorem bl_irrefl : ∀ a : List UInt8, Op.bytesLess a a = false
  | [] => rfl
  | x :: a => by simp [Op.bytesLess, bl_irrefl a, UInt8.lt_irrefl]
theorem bl_cons (x y : UInt8) (a b : List UInt8) : Op.bytesLess (x :: a) (y :: b) = (decide (x < y) || (x == y && Op.bytesLess a b)) := rfl
theorem bl_trans : ∀ a b c : List UInt8, Op.bytesLess a b = true → Op.bytesLess b c = true → Op.bytesLess a c = true
  | _, _, [], _, h => by cases h' : (‹List UInt8› : List UInt8) <;> simp_all [Op.bytesLess]
  | [], [], _ :: _, h, _ => by simp [Op.bytesLess] at h
  | [], _ :: _, _ :: _, _, _ => rfl
  | _ :: _, [], _ :: _, h, _ => by simp [Op.bytesLess] at h
  | x :: a, y :: b, z :: c, h, h' => by
    simp only [bl_cons, Bool.or_eq_true, decide_eq_true_eq, Bool.and_eq_true, beq_iff_eq] at h h' ⊢
    rcases h with h | ⟨rfl, h⟩
    · rcases h' with h' | ⟨rfl, h'⟩
      · exact .inl (UInt8.lt_trans h h')
      · exact .inl h
    · rcases h' with h' | ⟨rfl, h'⟩
      · exact .inl h'
      · exact .inr ⟨rfl, bl_trans a b c h h'⟩
theorem bl_tri : ∀ a b : List UInt8, Op.bytesLess a b = false → Op.bytesLess b a = false → a = b
  | [], [], _, _ => rfl
  | [], _ :: _, h, _ => by simp [Op.bytesLess] at h
  | _ :: _, [], _, h => by simp [Op.bytesLess] at h
  | x :: a, y :: b, h, h' => by
    simp only [bl_cons, Bool.or_eq_false_iff, decide_eq_false_iff_not, Bool.and_eq_false_iff] at h h'
    have e : x = y := UInt8.le_antisymm (UInt8.not_lt.1 h'.1) (UInt8.not_lt.1 h.1)
    subst e
    simp only [beq_self_eq_true, Bool.true_eq_false, false_or] at h h'
    rw [bl_tri a b h.2 h'.2]
theorem bl_asymm (a b : List UInt8) (h : Op.bytesLess a b = true) : Op.bytesLess b a = false := by
  cases h' : Op.bytesLess b a
  · rfl
  · have := bl_trans a b a h h'
    rw [bl_irrefl] at this
    cases this
/-- What strings.Compare answers. -/
theorem cmp_bl : ∀ a b : List UInt8, Lib.compareBytes a b = if Op.bytesLess a b then -1 else if a = b then 0 else 1
  | [], [] => rfl
  | [], _ :: _ => rfl
  | _ :: _, [] => by simp [Lib.compareBytes, Op.bytesLess]
  | x :: a, y :: b => by
    simp only [Lib.compareBytes, bl_cons, cmp_bl a b]
    by_cases h : x < y
    · simp [h]
    · by_cases h' : y < x
      · have : x ≠ y := fun e => by subst e; exact UInt8.lt_irrefl x h'
        simp [h, h', this]
      · have e : x = y := UInt8.le_antisymm (UInt8.not_lt.1 h') (UInt8.not_lt.1 h)
        subst e
        simp [h]

def ltB (a b : ByteArray) : Bool := Op.bytesLess a.toList b.toList
theorem toList_inj {a b : ByteArray} (h : a.toList = b.toList) : a = b := by
  have : eqS a b = true := by simp [eqS, h]
  exact eqS_iff.1 this
theorem ltB_irrefl (a : ByteArray) : ltB a a = false := bl_irrefl _
theorem ltB_trans {a b c : ByteArray} (h : ltB a b = true) (h' : ltB b c = true) : ltB a c = true := bl_trans _ _ _ h h'
theorem ltB_asymm {a b : ByteArray} (h : ltB a b = true) : ltB b a = false := bl_asymm _ _ h
theorem ltB_tri {a b : ByteArray} (h : ltB a b = false) (h' : ltB b a = false) : a = b := toList_inj (bl_tri _ _ h h')
theorem ltB_ne {a b : ByteArray} (h : ltB a b = true) : a ≠ b := fun e => by subst e; rw [ltB_irrefl] at h; cases h
theorem ltB_gt {a b : ByteArray} (h : a ≠ b) (h' : ltB a b = false) : ltB b a = true := by
  cases h2 : ltB b a
  · exact absurd (ltB_tri h' h2) h
  · rfl

/-- A lot put where its name belongs. -/
def insL (l : SLot) : List SLot → List SLot
  | [] => [l]
  | a :: r => if ltB a.name l.name then a :: insL l r else l :: a :: r
/-- The lots in the order of their names. -/
def sortL (ls : List SLot) : List SLot := ls.foldl (fun s l => insL l s) []
theorem sortL_snoc (ls : List SLot) (l : SLot) : sortL (ls ++ [l]) = insL l (sortL ls) := by simp [sortL]
theorem insL_mem (l a : SLot) (s : List SLot) : a ∈ insL l s ↔ a = l ∨ a ∈ s := by
  induction s with
  | nil => simp [insL]
  | cons b s ih =>
    simp only [insL]
    split
    · simp only [List.mem_cons, ih]
      constructor <;> (rintro (h | h | h) <;> simp [h])
    · simp
theorem insL_length (l : SLot) (s : List SLot) : (insL l s).length = s.length + 1 := by
  induction s with
  | nil => rfl
  | cons b s ih =>
    simp only [insL]
    split <;> simp [ih]
/-- Strictly in order. -/
def Asc (s : List SLot) : Prop := s.Pairwise (fun a b => ltB a.name b.name = true)
theorem insL_asc {l : SLot} {s : List SLot} (h : Asc s) (hn : ∀ a ∈ s, a.name ≠ l.name) : Asc (insL l s) := by
  induction s with
  | nil => simp [insL, Asc]
  | cons b s ih =>
    have h' := List.pairwise_cons.1 h
    simp only [insL]
    split
    · rename_i hb
      refine List.pairwise_cons.2 ⟨fun a ha => ?_, ih h'.2 (fun a ha => hn a (by simp [ha]))⟩
      rcases (insL_mem l a s).1 ha with rfl | ha
      · exact hb
      · exact h'.1 a ha
    · rename_i hb
      have hl : ltB l.name b.name = true := ltB_gt (hn b (by simp)) (by simpa using hb)
      refine List.pairwise_cons.2 ⟨fun a ha => ?_, h⟩
      rcases List.mem_cons.1 ha with rfl | ha
      · exact hl
      · exact ltB_trans hl (h'.1 a ha)
def Apart (ls : List SLot) : Prop := ls.Pairwise (fun a b => a.name ≠ b.name)
theorem apart_snoc {ls : List SLot} {l : SLot} (h : Apart ls) (hn : ∀ a ∈ ls, a.name ≠ l.name) : Apart (ls ++ [l]) := by
  refine List.pairwise_append.2 ⟨h, by simp, fun a ha b hb => ?_⟩
  simp at hb
  subst hb
  exact hn a ha
theorem sortL_ind {P : List SLot → Prop} (h0 : P []) (h1 : ∀ ls l, P ls → P (ls ++ [l])) (ls : List SLot) : P ls := by
  have : ∀ n, ∀ ls : List SLot, ls.length = n → P ls := by
    intro n
    induction n with
    | zero => intro ls h; rw [List.eq_nil_of_length_eq_zero h]; exact h0
    | succ n ih =>
      intro ls h
      have hne : ls ≠ [] := fun e => by subst e; simp at h
      rw [← List.dropLast_concat_getLast hne]
      exact h1 _ _ (ih _ (by simp [h]))
  exact this _ ls rfl
theorem sortL_mem (ls : List SLot) (a : SLot) : a ∈ sortL ls ↔ a ∈ ls := by
  refine sortL_ind (P := fun ls => a ∈ sortL ls ↔ a ∈ ls) (by simp [sortL]) (fun ls l ih => ?_) ls
  rw [sortL_snoc, insL_mem, ih]
  simp only [List.mem_append, List.mem_singleton]
  exact Or.comm
theorem sortL_length (ls : List SLot) : (sortL ls).length = ls.length := by
  refine sortL_ind (P := fun ls => (sortL ls).length = ls.length) rfl (fun ls l ih => ?_) ls
  rw [sortL_snoc, insL_length, ih]
  simp
theorem apart_init {ls : List SLot} {l : SLot} (h : Apart (ls ++ [l])) : Apart ls ∧ ∀ a ∈ ls, a.name ≠ l.name := by
  have := List.pairwise_append.1 h
  exact ⟨this.1, fun a ha => this.2.2 a ha l (by simp)⟩
theorem sortL_asc {ls : List SLot} (h : Apart ls) : Asc (sortL ls) := by
  refine sortL_ind (P := fun ls => Apart ls → Asc (sortL ls)) (fun _ => by simp [sortL, Asc]) (fun ls l ih h => ?_) ls h
  rw [sortL_snoc]
  have := apart_init h
  exact insL_asc (ih this.1) (fun a ha => this.2 a ((sortL_mem ls a).1 ha))
theorem insL_below {l : SLot} : ∀ {s : List SLot}, (∀ a ∈ s, ltB a.name l.name = false) → insL l s = l :: s
  | [], _ => rfl
  | b :: s, h => by simp [insL, h b (by simp)]
theorem insL_filter {p : SLot → Bool} {l : SLot} {s : List SLot} (h : Asc s) (hn : ∀ a ∈ s, a.name ≠ l.name) : (insL l s).filter p = if p l then insL l (s.filter p) else s.filter p := by
  induction s with
  | nil => cases hp : p l <;> simp [insL, hp]
  | cons b s ih =>
    have h' := List.pairwise_cons.1 h
    have ih := ih h'.2 (fun a ha => hn a (by simp [ha]))
    simp only [insL]
    split
    · rename_i hb
      cases hp : p b
      · simp only [List.filter_cons, hp, Bool.false_eq_true, if_false, ih]
      · simp only [List.filter_cons, hp, if_true, ih]
        cases p l <;> simp [insL, hb]
    · rename_i hb
      have hl : ltB l.name b.name = true := ltB_gt (hn b (by simp)) (by simpa using hb)
      have hs : insL l ((b :: s).filter p) = l :: (b :: s).filter p := insL_below (fun a ha => by
        have ha' := (List.mem_filter.1 ha).1
        rcases List.mem_cons.1 ha' with rfl | ha'
        · simpa using hb
        · exact ltB_asymm (ltB_trans hl (h'.1 a ha')))
      rw [hs]
      cases hp : p l <;> simp [hp]
theorem sortL_filter {p : SLot → Bool} {ls : List SLot} (h : Apart ls) : sortL (ls.filter p) = (sortL ls).filter p := by
  refine sortL_ind (P := fun ls => Apart ls → sortL (ls.filter p) = (sortL ls).filter p) (fun _ => rfl) (fun ls l ih h => ?_) ls h
  have ha := apart_init h
  rw [sortL_snoc, insL_filter (sortL_asc ha.1) (fun a hm => ha.2 a ((sortL_mem ls a).1 hm)), ← ih ha.1, List.filter_append]
  cases hp : p l
  · simp [hp]
  · simp only [List.filter_cons, hp, if_true, List.filter_nil]
    exact sortL_snoc _ _
/-- How many lots have a name below this one. -/
def placeL (s : List SLot) (nm : ByteArray) : Nat := (s.takeWhile (fun a => ltB a.name nm)).length
theorem insL_place (l : SLot) (s : List SLot) : insL l s = s.take (placeL s l.name) ++ l :: s.drop (placeL s l.name) := by
  induction s with
  | nil => rfl
  | cons b s ih =>
    simp only [insL, placeL, List.takeWhile_cons]
    cases hb : ltB b.name l.name
    · simp
    · simp only [if_true, List.length_cons, List.take_succ_cons, List.drop_succ_cons, List.cons_append]
      rw [ih]
      rfl

/-- A player's bid for a lot set; 0: none. -/
def setB (bs : List SBid) (lot : ByteArray) (n : Int) : List SBid := bs.filter (fun b => !eqS b.lot lot) ++ (if 0 < n then [⟨lot, n⟩] else [])
theorem bidI_append (a b : List SBid) (lot : ByteArray) (h : ∀ x ∈ a, x.lot ≠ lot) : bidI (a ++ b) lot = bidI b lot := by
  induction a with
  | nil => rfl
  | cons x a ih =>
    have hx : eqS x.lot lot = false := by
      cases e : eqS x.lot lot
      · rfl
      · exact absurd (eqS_iff.1 e) (h x (by simp))
    simp only [List.cons_append, bidI, hx, Bool.false_eq_true, if_false]
    exact ih (fun y hy => h y (by simp [hy]))
theorem bidI_set_same (bs : List SBid) (lot : ByteArray) (n : Int) (hn : 0 ≤ n) : bidI (setB bs lot n) lot = n := by
  unfold setB
  rw [bidI_append _ _ _ (fun x hx => by
    have := (List.mem_filter.1 hx).2
    intro e
    rw [eqS_iff.2 e] at this
    simp at this)]
  split
  · have : eqS lot lot = true := eqS_iff.2 rfl
    simp [bidI, this]
  · simp only [bidI]; omega
theorem bidI_set_other (bs : List SBid) {lot nm : ByteArray} (n : Int) (h : nm ≠ lot) : bidI (setB bs lot n) nm = bidI bs nm := by
  have key : ∀ tail : List SBid, bidI tail nm = 0 → bidI (bs.filter (fun b => !eqS b.lot lot) ++ tail) nm = bidI bs nm := by
    intro tail ht
    induction bs with
    | nil => simpa [bidI] using ht
    | cons x bs ih =>
      cases e : eqS x.lot lot
      · simp only [List.filter_cons, e, Bool.not_false, if_true, List.cons_append, bidI, ih]
      · have e' : eqS x.lot nm = false := by
          cases e2 : eqS x.lot nm
          · rfl
          · exact absurd ((eqS_iff.1 e2).symm.trans (eqS_iff.1 e)) h
        simp only [List.filter_cons, e, Bool.not_true, Bool.false_eq_true, if_false, bidI, e', ih]
  unfold setB
  refine key _ ?_
  split
  · have : eqS lot nm = false := by
      cases e2 : eqS lot nm
      · rfl
      · exact absurd (eqS_iff.1 e2).symm h
    simp [bidI, this]
  · rfl

/-- A player's bids, each for another of these lots. -/
structure BidsOK (names : List ByteArray) (bs : List SBid) : Prop where
  mem : ∀ b ∈ bs, b.lot ∈ names
  dist : bs.Pairwise (fun a b => a.lot ≠ b.lot)
  pos : ∀ b ∈ bs, 0 < b.n ∧ b.n ≤ 100000
theorem BidsOK.nil (names : List ByteArray) : BidsOK names [] := ⟨by simp, by simp, by simp⟩
theorem bidI_none {bs : List SBid} {nm : ByteArray} (h : ∀ b ∈ bs, b.lot ≠ nm) : bidI bs nm = 0 := by
  have := bidI_append bs [] nm h
  simpa [bidI] using this
theorem BidsOK.set {names : List ByteArray} {bs : List SBid} (h : BidsOK names bs) {lot : ByteArray} {n : Int} (hl : lot ∈ names) (hn : n ≤ 100000) : BidsOK names (setB bs lot n) := by
  have hf : ∀ b ∈ bs.filter (fun b => !eqS b.lot lot), b ∈ bs ∧ b.lot ≠ lot := fun b hb => by
    have := List.mem_filter.1 hb
    exact ⟨this.1, fun e => by have h2 := this.2; rw [eqS_iff.2 e] at h2; simp at h2⟩
  have ht : ∀ b ∈ (if 0 < n then [(⟨lot, n⟩ : SBid)] else []), b.lot = lot ∧ 0 < b.n ∧ b.n ≤ 100000 := fun b hb => by
    split at hb
    · simp at hb; subst hb; exact ⟨rfl, by assumption, hn⟩
    · simp at hb
  refine ⟨fun b hb => ?_, ?_, fun b hb => ?_⟩
  · rcases List.mem_append.1 hb with hb | hb
    · exact h.mem b (hf b hb).1
    · rw [(ht b hb).1]; exact hl
  · refine List.pairwise_append.2 ⟨h.dist.filter _, ?_, fun a ha b hb => ?_⟩
    · split <;> simp
    · rw [(ht b hb).1]; exact (hf a ha).2
  · rcases List.mem_append.1 hb with hb | hb
    · exact h.pos b (hf b hb).1
    · exact (ht b hb).2
theorem setB_zero (bs : List SBid) (lot : ByteArray) : setB bs lot 0 = bs.filter (fun b => !eqS b.lot lot) := by simp [setB]
theorem BidsOK.drop {names : List ByteArray} {bs : List SBid} (h : BidsOK names bs) (lot : ByteArray) : BidsOK (names.filter (fun x => !eqS x lot)) (setB bs lot 0) := by
  rw [setB_zero]
  refine ⟨fun b hb => ?_, h.dist.filter _, fun b hb => h.pos b (List.mem_filter.1 hb).1⟩
  have := List.mem_filter.1 hb
  exact List.mem_filter.2 ⟨h.mem b this.1, this.2⟩
theorem BidsOK.mono {names names' : List ByteArray} {bs : List SBid} (h : BidsOK names bs) (hs : ∀ x ∈ names, x ∈ names') : BidsOK names' bs := ⟨fun b hb => hs _ (h.mem b hb), h.dist, h.pos⟩
/-- All bids together are the bids for all lots. -/
theorem sum_one (names : List ByteArray) (hd : names.Nodup) (x : ByteArray) (hx : x ∈ names) (c : Int) (f : ByteArray → Int) (hf : f x = 0) :
    (names.map (fun nm => if eqS x nm then c else f nm)).sum = c + (names.map f).sum := by
  induction names with
  | nil => simp at hx
  | cons a r ih =>
    have hd' := List.nodup_cons.1 hd
    simp only [List.map_cons, List.sum_cons]
    by_cases e : x = a
    · subst e
      have e1 : eqS x x = true := eqS_iff.2 rfl
      have : r.map (fun nm => if eqS x nm then c else f nm) = r.map f := List.map_congr_left (fun nm hm => by
        have : eqS x nm = false := by
          cases e2 : eqS x nm
          · rfl
          · exact absurd (eqS_iff.1 e2 ▸ hm) hd'.1
        simp [this])
      rw [this, e1, hf]
      simp
    · have e1 : eqS x a = false := by
        cases e2 : eqS x a
        · rfl
        · exact absurd (eqS_iff.1 e2) e
      have hx' : x ∈ r := by simpa [e] using hx
      rw [e1, ih hd'.2 hx']
      simp only [Bool.false_eq_true, if_false]
      omega
theorem sum_bids {names : List ByteArray} (hd : names.Nodup) (he : emptyB ∉ names) {bs : List SBid} (h : BidsOK names bs) : (names.map (bidI bs)).sum = stakedI bs emptyB := by
  induction bs with
  | nil =>
    have : names.map (bidI []) = names.map (fun _ => 0) := rfl
    rw [this]
    clear this h hd he
    induction names with
    | nil => rfl
    | cons a r ih => simpa [stakedI] using ih
  | cons b r ih =>
    have hd' := List.pairwise_cons.1 h.dist
    have h0 : bidI r b.lot = 0 := bidI_none (fun x hx e => hd'.1 x hx e.symm)
    have hb := h.mem b (by simp)
    have e1 : eqS b.lot emptyB = false := by
      cases e2 : eqS b.lot emptyB
      · rfl
      · exact absurd (eqS_iff.1 e2 ▸ hb) he
    have := sum_one names hd b.lot hb b.n (bidI r) h0
    simp only [stakedI, e1, Bool.false_eq_true, if_false]
    rw [← ih ⟨fun x hx => h.mem x (by simp [hx]), hd'.2, fun x hx => h.pos x (by simp [hx])⟩, ← this]
    rfl
theorem staked_but {names : List ByteArray} (he : emptyB ∉ names) {bs : List SBid} (h : BidsOK names bs) (lot : ByteArray) : stakedI bs lot = stakedI bs emptyB - bidI bs lot := by
  induction bs with
  | nil => rfl
  | cons b r ih =>
    have hd' := List.pairwise_cons.1 h.dist
    have hb := h.mem b (by simp)
    have e1 : eqS b.lot emptyB = false := by
      cases e2 : eqS b.lot emptyB
      · rfl
      · exact absurd (eqS_iff.1 e2 ▸ hb) he
    have ih := ih ⟨fun x hx => h.mem x (by simp [hx]), hd'.2, fun x hx => h.pos x (by simp [hx])⟩
    simp only [stakedI, bidI, e1, Bool.false_eq_true, if_false, ih]
    cases e : eqS b.lot lot
    · simp only [Bool.false_eq_true, if_false]; omega
    · have h0 : bidI r lot = 0 := bidI_none (fun x hx e' => hd'.1 x hx ((eqS_iff.1 e).trans e'.symm))
      simp only [if_true, h0]; omega
theorem staked_nonneg {names : List ByteArray} {bs : List SBid} (h : BidsOK names bs) (lot : ByteArray) : 0 ≤ stakedI bs lot := by
  induction bs with
  | nil => exact Int.le_refl 0
  | cons b r ih =>
    have hd' := List.pairwise_cons.1 h.dist
    have hp := h.pos b (by simp)
    have ih := ih ⟨fun x hx => h.mem x (by simp [hx]), hd'.2, fun x hx => h.pos x (by simp [hx])⟩
    simp only [stakedI]
    split <;> omega
end Go.Proofs.YtlafddeoheambaaDoor

/-
  How lots close, said plainly: who wins, and for how much; what is told of it; what a Tick's end comes to.
-/
namespace Go.Proofs.YtlafddeoheambaaDoor
open Go.RowKit

/-- Of the first k bids that count, but for one player's, whose is the highest, and what it is; -1, 0: there is none. -/
def highTo (bid : Nat → Int) (least but : Int) : Nat → Int × Int
  | 0 => (-1, 0)
  | k + 1 => if (k : Int) ≠ but ∧ 0 < bid k ∧ least ≤ bid k ∧ (highTo bid least but k).2 < bid k then (k, bid k) else highTo bid least but k
def winI (bid : Nat → Int) (least : Int) (n : Nat) : Int := (highTo bid least (-1) n).1
def paysI (bid : Nat → Int) (least : Int) (n : Nat) : Int :=
  if 0 ≤ winI bid least n ∧ 0 ≤ (highTo bid least (winI bid least n) n).1 then (highTo bid least (winI bid least n) n).2 else least

theorem highTo_congr {bid bid' : Nat → Int} {least but : Int} {n : Nat} (h : ∀ k, k < n → bid k = bid' k) : highTo bid least but n = highTo bid' least but n := by
  induction n with
  | zero => rfl
  | succ n ih =>
    simp only [highTo]
    rw [ih (fun k hk => h k (by omega)), h n (by omega)]
theorem highTo_more {bid : Nat → Int} {least but : Int} {n m : Nat} (hnm : n ≤ m) (h : ∀ k, n ≤ k → k < m → bid k = 0) : highTo bid least but m = highTo bid least but n := by
  induction m with
  | zero => rw [show n = 0 by omega]
  | succ m ih =>
    by_cases e : n = m + 1
    · rw [e]
    · rw [← ih (by omega) (fun k h1 h2 => h k h1 (by omega))]
      simp only [highTo]
      rw [if_neg]
      rintro ⟨_, h2, _⟩
      rw [h m (by omega) (by omega)] at h2
      omega
theorem highTo_form (bid : Nat → Int) (least but : Int) (n : Nat) : (highTo bid least but n = (-1, 0)) ∨ ∃ k, k < n ∧ highTo bid least but n = ((k : Int), bid k) ∧ 0 < bid k ∧ least ≤ bid k ∧ (k : Int) ≠ but := by
  induction n with
  | zero => exact .inl rfl
  | succ n ih =>
    simp only [highTo]
    split
    · rename_i h
      exact .inr ⟨n, by omega, rfl, h.2.1, h.2.2.1, h.1⟩
    · rcases ih with h | ⟨k, h1, h2⟩
      · exact .inl h
      · exact .inr ⟨k, by omega, h2⟩
theorem highTo_max {bid : Nat → Int} {least but : Int} {n : Nat} {k : Nat} (hk : k < n) (h : (k : Int) ≠ but) (h0 : 0 < bid k) (hl : least ≤ bid k) : bid k ≤ (highTo bid least but n).2 := by
  induction n with
  | zero => omega
  | succ n ih =>
    simp only [highTo]
    split
    · rename_i hc
      by_cases e : k = n
      · subst e; exact Int.le_refl _
      · have := ih (by omega); simp only; omega
    · rename_i hc
      by_cases e : k = n
      · subst e
        have hc' : ¬ (highTo bid least but k).2 < bid k := fun h' => hc ⟨h, h0, hl, h'⟩
        omega
      · exact ih (by omega)
theorem highTo_nonneg (bid : Nat → Int) (least but : Int) (n : Nat) : 0 ≤ (highTo bid least but n).2 := by
  rcases highTo_form bid least but n with h | ⟨k, _, h, h0, _⟩
  · rw [h]; exact Int.le_refl _
  · rw [h]; simp only; omega
theorem winI_form (bid : Nat → Int) (least : Int) (n : Nat) : winI bid least n = -1 ∨ ∃ k, k < n ∧ winI bid least n = k ∧ 0 < bid k ∧ least ≤ bid k := by
  unfold winI
  rcases highTo_form bid least (-1) n with h | ⟨k, h1, h, h0, h2, _⟩
  · exact .inl (by rw [h])
  · exact .inr ⟨k, h1, by rw [h], h0, h2⟩
/-- The winner pays no more than its bid, and no less than the least. -/
theorem pays_le {bid : Nat → Int} {least : Int} {n k : Nat} (h : winI bid least n = k) : least ≤ paysI bid least n ∧ paysI bid least n ≤ bid k := by
  have hb : k < n ∧ bid k = (highTo bid least (-1) n).2 ∧ least ≤ bid k := by
    unfold winI at h
    rcases highTo_form bid least (-1) n with h' | ⟨j, h1, h', h0, h2, _⟩
    · rw [h'] at h; simp at h
    · rw [h'] at h ⊢
      have : j = k := by simp at h; omega
      subst this
      exact ⟨h1, rfl, h2⟩
  unfold paysI
  rw [h]
  split
  · rename_i hc
    rcases highTo_form bid least (k : Int) n with h' | ⟨j, h1, h', h0, h2, h3⟩
    · rw [h'] at hc; simp at hc
    · rw [h']
      refine ⟨h2, ?_⟩
      rw [hb.2.1]
      exact highTo_max h1 (by omega) h0 h2
  · exact ⟨Int.le_refl _, hb.2.2⟩

/-- What the program reckons in one pass: the winner, the price, the highest bid. -/
def closeTo (bid : Nat → Int) (least : Int) : Nat → Int × Int × Int
  | 0 => (-1, 0, 0)
  | k + 1 =>
    let r := closeTo bid least k
    if bid k = 0 ∨ bid k < least then r
    else if r.1 = -1 then (k, least, bid k)
    else if r.2.2 < bid k then (k, r.2.2, bid k)
    else if r.2.1 < bid k then (r.1, bid k, r.2.2)
    else r
/-- One pass finds the winner, and what the winner pays. -/
theorem close_high {bid : Nat → Int} {least : Int} (hb : ∀ k, 0 ≤ bid k) (n : Nat) :
    (closeTo bid least n).1 = winI bid least n ∧ (closeTo bid least n).2.2 = (highTo bid least (-1) n).2 ∧ (0 ≤ winI bid least n → (closeTo bid least n).2.1 = paysI bid least n) ∧ (winI bid least n < 0 → (closeTo bid least n).2.1 = 0) := by
  induction n with
  | zero => exact ⟨rfl, rfl, fun h => by simp [winI, highTo] at h, fun _ => rfl⟩
  | succ n ih =>
    obtain ⟨i1, i2, i3, i4⟩ := ih
    have hn1 : ((n : Int) ≠ -1) := by omega
    have nn := highTo_nonneg bid least (-1) n
    have b0 := hb n
    simp only [closeTo]
    by_cases hc : bid n = 0 ∨ bid n < least
    · rw [if_pos hc]
      have e : ∀ but, highTo bid least but (n + 1) = highTo bid least but n := fun but => by
        simp only [highTo]
        rw [if_neg]
        rintro ⟨_, h1, h2, _⟩
        omega
      unfold paysI winI at *
      simp only [e]
      exact ⟨i1, i2, i3, i4⟩
    · rw [if_neg hc]
      have hbn : 0 < bid n ∧ least ≤ bid n := by omega
      by_cases hw : (closeTo bid least n).1 = -1
      · rw [if_pos hw]
        have h1 : highTo bid least (-1) n = (-1, 0) := by
          rcases highTo_form bid least (-1) n with h | ⟨k, _, h, _⟩
          · exact h
          · rw [i1] at hw; unfold winI at hw; rw [h] at hw; simp at hw
        have e1 : highTo bid least (-1) (n + 1) = ((n : Int), bid n) := by
          simp only [highTo]
          rw [if_pos ⟨hn1, hbn.1, hbn.2, by rw [h1]; exact hbn.1⟩]
        have e2 : highTo bid least (n : Int) (n + 1) = (-1, 0) := by
          have h2 : ∀ m, m ≤ n → highTo bid least (n : Int) m = (-1, 0) := by
            intro m hm
            rcases highTo_form bid least (n : Int) m with h | ⟨k, hk, h, h0, hl, _⟩
            · exact h
            · have := highTo_max (but := -1) (n := n) (k := k) (by omega) (by omega) h0 hl
              rw [h1] at this
              simp at this
              omega
          simp only [highTo]
          rw [if_neg (fun h => h.1 rfl), h2 n (Nat.le_refl _)]
        have ew : winI bid least (n + 1) = n := by unfold winI; rw [e1]
        refine ⟨by rw [ew], by rw [e1], fun _ => ?_, fun h => by rw [ew] at h; omega⟩
        unfold paysI
        rw [ew, e2]
        simp
      · rw [if_neg hw]
        obtain ⟨j, hj, ej, hj0, hjl⟩ : ∃ j, j < n ∧ highTo bid least (-1) n = ((j : Int), bid j) ∧ 0 < bid j ∧ least ≤ bid j := by
          rcases highTo_form bid least (-1) n with h | ⟨k, h1, h, h0, h2, _⟩
          · exact absurd (by rw [i1]; unfold winI; rw [h]) hw
          · exact ⟨k, h1, h, h0, h2⟩
        have ewn : winI bid least n = j := by unfold winI; rw [ej]
        have i3' := i3 (by rw [ewn]; omega)
        have i2' : (closeTo bid least n).2.2 = bid j := by rw [i2, ej]
        rw [i2', i1, i3', ewn]
        by_cases hh : bid j < bid n
        · rw [if_pos hh]
          have e1 : highTo bid least (-1) (n + 1) = ((n : Int), bid n) := by
            simp only [highTo]
            rw [if_pos ⟨hn1, hbn.1, hbn.2, by rw [ej]; exact hh⟩]
          have ew : winI bid least (n + 1) = n := by unfold winI; rw [e1]
          have e2 : highTo bid least (n : Int) (n + 1) = ((j : Int), bid j) := by
            have h2 : ∀ m, m ≤ n → highTo bid least (n : Int) m = highTo bid least (-1) m := by
              intro m hm
              induction m with
              | zero => rfl
              | succ m ihm =>
                simp only [highTo]
                rw [ihm (by omega)]
                have a1 : (m : Int) ≠ (n : Int) := by omega
                have a2 : (m : Int) ≠ -1 := by omega
                simp [a1, a2]
            simp only [highTo]
            rw [if_neg (fun h => h.1 rfl), h2 n (Nat.le_refl _), ej]
          refine ⟨by rw [ew], by rw [e1], fun _ => ?_, fun h => by rw [ew] at h; omega⟩
          unfold paysI
          rw [ew, e2]
          simp
        · rw [if_neg hh]
          have e1 : highTo bid least (-1) (n + 1) = ((j : Int), bid j) := by
            simp only [highTo]
            rw [if_neg (by rw [ej]; simp only; omega), ej]
          have ew : winI bid least (n + 1) = j := by unfold winI; rw [e1]
          have hjn : (n : Int) ≠ (j : Int) := by omega
          have e2 : highTo bid least (j : Int) (n + 1) = if (highTo bid least (j : Int) n).2 < bid n then ((n : Int), bid n) else highTo bid least (j : Int) n := by
            simp only [highTo]
            by_cases h' : (highTo bid least (j : Int) n).2 < bid n
            · rw [if_pos h', if_pos ⟨hjn, hbn.1, hbn.2, h'⟩]
            · rw [if_neg h', if_neg (fun h => h' h.2.2.2)]
          have pn : paysI bid least n = if 0 ≤ (highTo bid least (j : Int) n).1 then (highTo bid least (j : Int) n).2 else least := by
            unfold paysI
            rw [ewn]
            by_cases h' : 0 ≤ (highTo bid least (j : Int) n).1
            · rw [if_pos h', if_pos ⟨by omega, h'⟩]
            · rw [if_neg h', if_neg (fun h => h' h.2)]
          have pn1 : paysI bid least (n + 1) = if 0 ≤ (highTo bid least (j : Int) (n + 1)).1 then (highTo bid least (j : Int) (n + 1)).2 else least := by
            unfold paysI
            rw [ew]
            by_cases h' : 0 ≤ (highTo bid least (j : Int) (n + 1)).1
            · rw [if_pos h', if_pos ⟨by omega, h'⟩]
            · rw [if_neg h', if_neg (fun h => h' h.2)]
          rw [ew, pn1, e2, pn, e1]
          rcases highTo_form bid least (j : Int) n with h | ⟨k, hk, h, h0, hl, _⟩
          · rw [h]
            simp only [if_pos hbn.1]
            have : ¬ ((0 : Int) ≤ -1) := by omega
            simp only [this, if_false]
            by_cases h' : least < bid n
            · rw [if_pos h']
              exact ⟨rfl, rfl, fun _ => by simp, fun h => by omega⟩
            · rw [if_neg h']
              have : bid n = least := by omega
              refine ⟨i1.trans ewn, i2', fun _ => ?_, fun h => by omega⟩
              rw [i3', pn, h]
              simp only [this]
              simp
          · rw [h]
            have hk0 : (0 : Int) ≤ (k : Int) := by omega
            simp only [hk0, if_true]
            by_cases h' : bid k < bid n
            · rw [if_pos h', if_pos h']
              exact ⟨rfl, rfl, fun _ => by simp, fun h => by omega⟩
            · rw [if_neg h', if_neg h']
              refine ⟨i1.trans ewn, i2', fun _ => ?_, fun h => by omega⟩
              rw [i3', pn, h]

def itoaB (n : Int) : ByteArray := ⟨(Lib.itoa n).toArray⟩
def wonW : ByteArray := ⟨#[119, 111, 110, 32]⟩
def forW : ByteArray := ⟨#[32, 102, 111, 114, 32]⟩
def soldW : ByteArray := ⟨#[115, 111, 108, 100, 32]⟩
def passW : ByteArray := ⟨#[112, 97, 115, 115, 101, 100, 32]⟩
/-- What the i-th player is told of a lot that closed. -/
def newsB (nm : ByteArray) (who pays : Int) (i : Nat) : ByteArray :=
  if (i : Int) = who then wonW ++ nm ++ forW ++ itoaB pays else if who < 0 then passW ++ nm else soldW ++ nm
/-- The players' bids for a lot. -/
def bidsOf (ps : List SPlayer) (nm : ByteArray) (k : Nat) : Int := match ps[k]? with
  | none => 0
  | some p => bidI p.bids nm
def soldP (l : SLot) (who pays : Int) (i : Nat) (p : SPlayer) : SPlayer :=
  { p with money := if (i : Int) = who then p.money - pays else p.money, news := p.news ++ [newsB l.name who pays i], bids := setB p.bids l.name 0 }
/-- A lot is sold. -/
def sellS (s : SWorld) (l : SLot) : SWorld :=
  { s with players := s.players.mapIdx (soldP l (winI (bidsOf s.players l.name) l.least s.players.length) (paysI (bidsOf s.players l.name) l.least s.players.length)) }
def dueL (ls : List SLot) (now : Int) : List SLot := (sortL ls).filter (fun l => decide (l.ends = now))
/-- Lots close whose time has come. -/
def closeS (s : SWorld) : SWorld := { (dueL s.lots s.now).foldl sellS s with lots := s.lots.filter (fun l => !decide (l.ends = s.now)) }
theorem closeS_nil {s : SWorld} (h : s.lots = []) : closeS s = { s with lots := [] } := by
  simp [closeS, dueL, h, sortL]
end Go.Proofs.YtlafddeoheambaaDoor
