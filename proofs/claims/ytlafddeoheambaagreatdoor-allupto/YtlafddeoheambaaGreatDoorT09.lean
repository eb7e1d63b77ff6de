/-
  Maps by spots: a look-up and a store as equations; a delete as one step of a region that draws its order.
-/
import Derived.Test.YtlafddeoheambaaGreatDoorT08
import Derived.Deep.AppendLies
import Derived.Laws.CopyRow
import Derived.Laws.CopyOwn
import Derived.WalkKit
import Derived.Test.YtlafddeoheambaaGreatDoorProg
import Derived.Test.YtlafddeoheambaaGreatDoorT01
import Derived.WalkSpells
import Derived.WalkLawsBesides
import Derived.Lib.SliceRun
import Derived.Test.YtlafddeoheambaaGreatDoorT07
import Derived.Test.YtlafddeoheambaaGreatDoorT03
import Derived.Deep.QuietTactic
import Derived.BigQuiet
import Derived.Test.YtlafddeoheambaaGreatDoorT05
set_option linter.unusedVariables false
namespace Go.Proofs.YtlafddeoheambaaGreatDoor
open Go.RowKit

theorem step_delete_c {P : Program} {w : World} {ops : Array Oper} {o : Oper} {a : Act} {K : Act → World → Prop} {Q : Exit → Act → World → Prop} {E : Prop} (hg : o.guard = none) (m x : Operand) (t k : TypeId) (hop : o.op = Op.call { callee := Callee.builtin Builtin.delete, args := #[m, x], argTypes := #[t, k] })
    (e : TypeId) (ht : P.underlying t = some (.map k e)) (hk : P.underlying k = some (.complex .f64)) (r clock : Nat) (l : List CE)
    (hm : a.eval m = .map (some r)) (hown : MapD w r l clock) (cx cy : Int) (hx : a.eval x = .complex .f64 (flI cx) (flI cy)) (h1 : 0 ≤ cx ∧ cx ≤ 9) (h2 : 0 ≤ cy ∧ cy ≤ 9)
    (hK : ∀ w', MapD w' r (cdel cx cy l) clock → Put r w w' → K (a.put o.dst (.tuple #[])) w') :
    if Region.wanted o (yielded ops a.tmps) = true then Oper.wp P o a w K Q else E := by
  have hw : Region.wanted o (yielded ops a.tmps) = true := by simp [Region.wanted, hg]
  rw [if_pos hw]
  have hrun := run_delete_c hown.is t k e k o.type cx cy ht hk h1 h2
  unfold Oper.wp
  simp [execOp, hop, resolve, invoke, builtin, hm, hx, hrun, Result.andThen]
  exact hK _ (hown.del cx cy) (putObj_put _ _ _)

theorem MapD.lookup {w : World} {r clock : Nat} {l : List CE} (h : MapD w r l clock) (x y : Int) (hx : 0 ≤ x ∧ x ≤ 9) (hy : 0 ≤ y ∧ y ≤ 9) :
    (Instr.lookup 79 (.map (some r)) (.complex .f64 (flI x) (flI y)) false).run Tryz.prog w = .ok (.int .i64 ((look x y l).getD 0)) w := by
  have := run_lookup_c h.is 79 88 3 false x y Tryz.underlying79 Tryz.underlying88 Tryz.zeroInt hx hy
  rw [cfind_look] at this
  exact this
theorem MapD.update {w : World} {r clock : Nat} {l : List CE} (h : MapD w r l clock) (x y v : Int) (hx : 0 ≤ x ∧ x ≤ 9) (hy : 0 ≤ y ∧ y ≤ 9) :
    ∃ w', (Instr.mapUpdate 79 (.map (some r)) (.complex .f64 (flI x) (flI y)) (.int .i64 v)).run Tryz.prog w = .ok () w' ∧ MapD w' r (cput x y v clock l) (cclock x y l clock) ∧ Put r w w' :=
  ⟨_, run_update_c h.is 79 88 3 x y v Tryz.underlying79 Tryz.underlying88 hx hy, h.put x y v hx hy, putObj_put _ _ _⟩
theorem MapD.drew {w : World} {r clock : Nat} {l : List CE} (h : MapD w r l clock) : MapD w.drew r l clock := h.same rfl
theorem Put.cell {r : Nat} {w w' : World} (h : Put r w w') {g j : Nat} (hn : g ≠ r) : w'.cell? ⟨g, j, none⟩ = w.cell? ⟨g, j, none⟩ := World.cell?_of_block (h.block g hn)
theorem Put.frozen {r : Nat} {w w' : World} (h : Put r w w') {g j : Nat} (hn : g ≠ r) : w'.frozen? ⟨g, j, none⟩ = w.frozen? ⟨g, j, none⟩ := World.frozen?_of_block (h.block g hn)

theorem run_store_c (w : World) (a : Addr) (x y : Nat) : (store a (.complex .f64 x y)).run Tryz.prog w = stored Tryz.prog w a (.complex .f64 x y) .plain := run_store Tryz.prog w a _ .plain rfl
/-- What holds of the places of a unit of the program's world. -/
structure AtX (w : World) (X : XW) (n k : Nat) (p : SPlayer) (v : XV) (u : SUnit) (x : XU) : Prop where
  q : X.pls[n]? = some (p, v)
  u : p.units[k]? = some u
  x : v.us[k]? = some x
  rep : RepX w X
theorem AtX.unit {w : World} {X : XW} {n k : Nat} {p : SPlayer} {v : XV} {u : SUnit} {x : XU} (h : AtX w X n k p v u x) : RepU w u x := (h.rep.each n _ h.q).unit k u x h.u h.x
theorem AtX.ne_b {w : World} {X : XW} {n k : Nat} {p : SPlayer} {v : XV} {u : SUnit} {x : XU} (h : AtX w X n k p v u x) : x.g ≠ X.b := fun e => by
  have := h.rep.roles.unit n _ k x h.q h.x
  rw [e, h.rep.roles.b] at this
  cases this
theorem AtX.ne_ms {w : World} {X : XW} {n k : Nat} {p : SPlayer} {v : XV} {u : SUnit} {x : XU} (h : AtX w X n k p v u x) : x.g ≠ X.ms := fun e => by
  have := h.rep.roles.unit n _ k x h.q h.x
  rw [e, h.rep.roles.ms] at this
  cases this
theorem AtX.ne_mo {w : World} {X : XW} {n k : Nat} {p : SPlayer} {v : XV} {u : SUnit} {x : XU} (h : AtX w X n k p v u x) : x.g ≠ X.mo := fun e => by
  have := h.rep.roles.unit n _ k x h.q h.x
  rw [e, h.rep.roles.mo] at this
  cases this
theorem RepX.b_ms {w : World} {X : XW} (h : RepX w X) : X.b ≠ X.ms := fun e => by
  have := h.roles.b
  rw [e, h.roles.ms] at this
  cases this
theorem RepX.b_mo {w : World} {X : XW} (h : RepX w X) : X.b ≠ X.mo := fun e => by
  have := h.roles.b
  rw [e, h.roles.mo] at this
  cases this
theorem RepX.mo_ms {w : World} {X : XW} (h : RepX w X) : X.mo ≠ X.ms := fun e => by
  have := h.roles.mo
  rw [e, h.roles.ms] at this
  cases this
/-- The bounds that a walk wants. -/
structure BdX (X : XW) (u : SUnit) : Prop where
  w : 3 ≤ X.width ∧ X.width ≤ 10
  h : 3 ≤ X.height ∧ X.height ≤ 10
  x : 0 ≤ u.x ∧ u.x ≤ 9
  y : 0 ≤ u.y ∧ u.y ≤ 9
theorem freeV_S {X : XW} (h : OkX X) (x y : Int) : freeV X.width X.height x y X.ls = freeS X.S x y := by
  unfold freeV freeS
  have := h.st.free x y
  rw [← this]
  rfl
end Go.Proofs.YtlafddeoheambaaGreatDoor

/-
  Two laws of our own: the built-in copy at elements of several cells, into a row that is known whole.
-/
namespace Go.Proofs.YtlafddeoheambaaGreatDoor
open Go.RowKit

theorem run_copy_wide {P : Program} (w : World) (dT sT ty elem : TypeId) (size g dLen dCap : Nat) (ao : Option Addr) (sLen sCap : Nat) (cur : Array Value) (t : TypeId) (cs : List Value)
    (hu : P.underlying dT = some (.slice elem)) (hs : (P.info? elem).map (·.size) = some size)
    (hg : w.heap[g]? = some (.cells cur t (0, 0))) (hle : sLen ≤ dLen) (hn : cs.length = sLen * size)
    (hsrc : 0 < sLen → ∃ a, ao = some a ∧ ∀ j v, cs[j]? = some v → w.cell? (a.add j) = some v) (hfit : cs.length ≤ cur.size) (h1 : ∀ v ∈ cs, v.oneCell' = true) :
    (Builtin.copy_ #[dT, sT] ty #[.slice (some ⟨g, 0, none⟩) dLen dCap, .slice ao sLen sCap]).run P w =
      .ok (goInt sLen) (w.setRow g (cs ++ cur.toList.drop cs.length).toArray) := by
  have hmin : Nat.min sLen dLen = sLen := Nat.min_eq_left hle
  have hst := run_storeCells_at P g 0 t cs 0 cur w hg (by simpa using hfit) h1
  simp only [Nat.add_zero, Nat.zero_add, List.take_zero, List.nil_append] at hst
  cases hq : P.info? elem with
  | none => simp [hq] at hs
  | some i =>
    have hi : i.size = size := by simpa [hq] using hs
    by_cases h0 : 0 < sLen
    · obtain ⟨a, rfl, hsrc2⟩ := hsrc h0
      have hl := run_loadCells_list (P := P) w a cs hsrc2
      rw [hn] at hl
      simp [Builtin.copy_, run_underlying hu, Builtin.lenOf, Builtin.firstCells, sizeOf, typeInfo, hq, hi, hmin, hl, hst]
    · have hz : sLen = 0 := by omega
      subst hz
      have hc : cs = [] := List.eq_nil_of_length_eq_zero (by simpa using hn)
      subst hc
      have hl : ∀ (x : Addr), (loadCells x 0).run P w = .ok #[] w := fun x => by simpa using run_loadCells_list (P := P) w x [] (by simp)
      cases ao <;> simp [Builtin.copy_, run_underlying hu, Builtin.lenOf, Builtin.firstCells, sizeOf, typeInfo, hq, hmin, hl, storeCells, setRow_self w g cur t (0, 0) hg]

theorem wpList_copy_wide {P : Program} {w : World} {ops : Array Oper} {rest : List Oper} {o : Oper} {a : Act} {Q : Exit → Act → World → Prop} (hgd : o.guard = none) (d s : Operand) (dT sT : TypeId)
    (ho : o.op = .call { callee := .builtin .copy, args := #[d, s], argTypes := #[dT, sT] }) (elem : TypeId) (size : Nat) (hu : P.underlying dT = some (.slice elem)) (hsz : (P.info? elem).map (·.size) = some size)
    (g dLen dCap : Nat) (ao : Option Addr) (sLen sCap : Nat) (hd : a.eval d = .slice (some ⟨g, 0, none⟩) dLen dCap) (hs : a.eval s = .slice ao sLen sCap)
    (cur : Array Value) (t : TypeId) (hg : w.heap[g]? = some (.cells cur t (0, 0))) (cs : List Value) (hle : sLen ≤ dLen) (hn : cs.length = sLen * size)
    (hsrc : 0 < sLen → ∃ a, ao = some a ∧ ∀ j v, cs[j]? = some v → w.cell? (a.add j) = some v) (hfit : cs.length ≤ cur.size) (h1 : ∀ v ∈ cs, v.oneCell' = true)
    (h : wpList P ops Q rest (a.put o.dst (goInt sLen)) (w.setRow g (cs ++ cur.toList.drop cs.length).toArray)) : wpList P ops Q (o :: rest) a w := by
  refine wpList_plain hgd fun K hK => ?_
  have hrun := run_copy_wide (P := P) w dT sT o.type elem size g dLen dCap ao sLen sCap cur t cs hu hsz hg hle hn hsrc hfit h1
  unfold Oper.wp
  simp [execOp, ho, resolve, invoke, builtin, hd, hs, hrun, Result.andThen]
  exact hK _ _ h

theorem wpList_copy_letter {P : Program} {w : World} {ops : Array Oper} {rest : List Oper} {o : Oper} {a : Act} {Q : Exit → Act → World → Prop} (hgd : o.guard = none) (d s : Operand) (dT sT : TypeId)
    (ho : o.op = .call { callee := .builtin .copy, args := #[d, s], argTypes := #[dT, sT] }) (elem : TypeId) (size : Nat) (hu : P.underlying dT = some (.slice elem)) (hsz : (P.info? elem).map (·.size) = some size)
    (g dLen dCap : Nat) (ao : Option Addr) (sLen sCap : Nat) (hd : a.eval d = .slice (some ⟨g, 0, none⟩) dLen dCap) (hs : a.eval s = .slice ao sLen sCap)
    (cur : Array Value) (t : TypeId) (hg : w.heap[g]? = some (.cells cur t (0, 0))) (cs : List Value) (hle : sLen ≤ dLen) (hn : cs.length = sLen * size)
    (hsrc : 0 < sLen → ∃ a, ao = some a ∧ ∀ j v, cs[j]? = some v → w.cell? (a.add j) = some v) (hfit : cs.length ≤ cur.size) (h1 : ∀ v ∈ cs, v.oneCell' = true)
    (h : ∀ w1, w1.heap[g]? = some (.cells (cs ++ cur.toList.drop cs.length).toArray t (0, 0)) → Below g w w1 → w1.heap.size = w.heap.size → wpList P ops Q rest (a.put o.dst (goInt sLen)) w1) : wpList P ops Q (o :: rest) a w :=
  wpList_copy_wide hgd d s dT sT ho elem size hu hsz g dLen dCap ao sLen sCap hd hs cur t hg cs hle hn hsrc hfit h1
    (h _ (setRow_heap w g _ _ t _ hg) (below_setRow (Below.refl _ _) (Nat.le_refl _) _) (by simp [World.setRow]))

/-- A guard for an arm of the walk: it fits at a copy alone. -/
def AtCopy (p : Prop) : Prop := p
theorem copy_guard {P : Program} {ops : Array Oper} {rest : List Oper} {dst : Option Tmp} {d s : Operand} {dT sT ty : TypeId} {pos : String} {af : Array Edge} {a : Act} {w : World} {Q : Exit → Act → World → Prop}
    (h : AtCopy (wpList P ops Q ({ dst := dst, op := .call { callee := .builtin .copy, args := #[d, s], argTypes := #[dT, sT] }, type := ty, pos := pos, after := af, guard := none } :: rest) a w)) :
    wpList P ops Q ({ dst := dst, op := .call { callee := .builtin .copy, args := #[d, s], argTypes := #[dT, sT] }, type := ty, pos := pos, after := af, guard := none } :: rest) a w := h

end Go.Proofs.YtlafddeoheambaaGreatDoor

/-
  The functions lent, part and still of package hazelaw: spots are lent with two others behind them, and looked at behind the call.
-/
namespace Go.Proofs.YtlafddeoheambaaGreatDoor
open Go.RowKit

/-- Spots that came in: what their cells hold. -/
def SpIn (w : World) (v : Value) (l : List SSpot) : Prop :=
  ∃ ao cap, v = .slice ao l.length cap ∧ (0 < l.length → ∃ b off, ao = some ⟨b, off, none⟩ ∧ b < w.heap.size ∧ ∀ j u, (l.flatMap spotCells)[j]? = some u → w.cell? ⟨b, off + j, none⟩ = some u)
theorem SpIn.below {w w' : World} {v : Value} {l : List SSpot} (h : SpIn w v l) (hb : Below w.heap.size w w') : SpIn w' v l := by
  obtain ⟨ao, cap, e, h⟩ := h
  refine ⟨ao, cap, e, fun hl => ?_⟩
  obtain ⟨b, off, h1, h2, h3⟩ := h hl
  exact ⟨b, off, h1, Nat.lt_of_lt_of_le h2 hb.size, fun j u hu => by rw [hb.cell h2]; exact h3 j u hu⟩
theorem addr_add (b off j : Nat) : (⟨b, off, none⟩ : Addr).add j = ⟨b, off + j, none⟩ := by unfold Addr.add; split <;> simp_all

theorem hidB {p : Prop} (h : p) : Hid p := h
def lentL (l : List SSpot) : List SSpot := l ++ [⟨77, 0, 0⟩, ⟨78, 0, 0⟩]
theorem Tryz.infoSpot : (Tryz.prog.info? 63).map (fun i => (i.zero, i.size, i.bytes)) = some (some (.agg #[.int .i64 0, .int .i64 0, .int .i64 0]), 3, 24) := by kernel_rfl
theorem Tryz.sizeSpot : (Tryz.prog.info? 63).map (·.size) = some 3 := by kernel_rfl

theorem made_six (n : Nat) (xs : List Value) (hx : xs.length = n * 3) : (xs ++ (madeCells #[.int .i64 0, .int .i64 0, .int .i64 0] ((n + 2) * 3)).toList.drop xs.length) = xs ++ [.int .i64 0, .int .i64 0, .int .i64 0, .int .i64 0, .int .i64 0, .int .i64 0] := by
  congr 1
  apply List.ext_getElem?
  intro j
  rw [List.getElem?_drop, hx]
  have hs := size_madeCells #[.int .i64 0, .int .i64 0, .int .i64 0] ((n + 2) * 3)
  by_cases hj : j < 6
  · have h1 : n * 3 + j < (n + 2) * 3 := by omega
    have e : (madeCells #[.int .i64 0, .int .i64 0, .int .i64 0] ((n + 2) * 3)).toList[n * 3 + j]? = some (.int .i64 0) := by
      rw [Array.getElem?_toList]
      simp [madeCells, h1]
      have : j % 3 = 0 ∨ j % 3 = 1 ∨ j % 3 = 2 := by omega
      rcases this with h | h | h <;> simp [h]
    rw [e]
    match j, hj with
    | 0, _ => rfl
    | 1, _ => rfl
    | 2, _ => rfl
    | 3, _ => rfl
    | 4, _ => rfl
    | 5, _ => rfl
  · rw [List.getElem?_eq_none (by simp [hs]; omega), List.getElem?_eq_none (by simp; omega)]

theorem spot_one (l : List SSpot) : ∀ v ∈ l.flatMap spotCells, v.oneCell' = true := by
  intro v hv
  obtain ⟨s, _, hs⟩ := List.mem_flatMap.1 hv
  simp [spotCells] at hs
  rcases hs with rfl | rfl | rfl <;> rfl
theorem spots_len (l : List SSpot) : (l.flatMap spotCells).length = l.length * 3 := flat_length spotCells 3 (fun _ => rfl) l
theorem SpIn.src {w w' : World} {ao : Option Addr} {cap : Nat} {l : List SSpot} (h : SpIn w (.slice ao l.length cap) l) (hb : Below w.heap.size w w') : 0 < l.length → ∃ a, ao = some a ∧ ∀ j v, (l.flatMap spotCells)[j]? = some v → w'.cell? (a.add j) = some v := by
  intro hl
  obtain ⟨ao', cap', e, h⟩ := h.below hb
  injection e with e1 e2 e3
  subst e1
  obtain ⟨b, off, h1, h2, h3⟩ := h hl
  exact ⟨⟨b, off, none⟩, h1, fun j v hv => by rw [addr_add]; exact h3 j v hv⟩
def zSpot : SSpot := ⟨0, 0, 0⟩
/-- Behind the copy: the spots, and two noughts. -/
theorem lent_row {w : World} {g n : Nat} {l : List SSpot} (hn : l.length = n) (h : w.heap[g]? = some (.cells (l.flatMap spotCells ++ (madeCells #[.int .i64 0, .int .i64 0, .int .i64 0] ((n + 2) * 3)).toList.drop (l.flatMap spotCells).length).toArray 63 (0, 0))) (hm : n + 2 ≤ maxLen) :
    w.ownsRow 0 63 3 (.slice (some ⟨g, 0, none⟩) (n + 2) (n + 2)) (n + 2) ((l ++ [zSpot, zSpot]).flatMap spotCells) := by
  subst hn
  rw [made_six l.length _ (spots_len l)] at h
  have e := spots_len l
  have e2 : (l ++ [zSpot, zSpot]).flatMap spotCells = l.flatMap spotCells ++ [.int .i64 0, .int .i64 0, .int .i64 0, .int .i64 0, .int .i64 0, .int .i64 0] := by
    rw [List.flatMap_append]; rfl
  rw [e2]
  generalize l.flatMap spotCells = xs at *
  refine ⟨by rw [List.length_append, e]; simp; omega, .inr ⟨g, _, _, rfl, Nat.zero_le _, h, Nat.le_refl _, hm, by rw [List.size_toArray, List.length_append, e]; simp; omega, ?_⟩⟩
  exact List.take_of_length_le (by rw [List.length_append, e]; simp; omega)
theorem lent_cells {w : World} {g c : Nat} {l : List SSpot} (h : w.ownsRow 0 63 3 (.slice (some ⟨g, 0, none⟩) (l.length + 2) c) (l.length + 2) ((l ++ [zSpot, zSpot]).flatMap spotCells)) :
    w.cell? ⟨g, l.length * 3, none⟩ = some (.int .i64 0) ∧ w.cell? ⟨g, l.length * 3 + 1, none⟩ = some (.int .i64 0) ∧ w.cell? ⟨g, l.length * 3 + 2, none⟩ = some (.int .i64 0) ∧
    w.cell? ⟨g, (l.length + 1) * 3, none⟩ = some (.int .i64 0) ∧ w.cell? ⟨g, (l.length + 1) * 3 + 1, none⟩ = some (.int .i64 0) ∧ w.cell? ⟨g, (l.length + 1) * 3 + 2, none⟩ = some (.int .i64 0) := by
  have a0 : l.length < (l ++ [zSpot, zSpot]).length := by simp
  have a1 : l.length + 1 < (l ++ [zSpot, zSpot]).length := by simp
  have f := fun i (hi : i < 3) => flat_at spotCells 3 (fun _ => rfl) (l ++ [zSpot, zSpot]) l.length i a0 hi
  have f' := fun i (hi : i < 3) => flat_at spotCells 3 (fun _ => rfl) (l ++ [zSpot, zSpot]) (l.length + 1) i a1 hi
  have g0 : (l ++ [zSpot, zSpot])[l.length] = zSpot := by simp
  have g1 : (l ++ [zSpot, zSpot])[l.length + 1] = zSpot := by simp
  rw [g0] at f
  rw [g1] at f'
  exact ⟨own_cell h (f 0 (by omega)), own_cell h (f 1 (by omega)), own_cell h (f 2 (by omega)), own_cell h (f' 0 (by omega)), own_cell h (f' 1 (by omega)), own_cell h (f' 2 (by omega))⟩
theorem set_six (xs : List Value) (n : Nat) (h : xs.length = n * 3) (a b z : Value) : ((((((xs ++ [z, z, z, z, z, z]).set (n * 3) a).set (n * 3 + 1) z).set (n * 3 + 2) z).set ((n + 1) * 3) b).set ((n + 1) * 3 + 1) z).set ((n + 1) * 3 + 2) z = xs ++ [a, z, z, b, z, z] := by
  have e1 : (n + 1) * 3 = xs.length + 3 := by omega
  rw [e1, ← h]
  have f : ∀ (ys : List Value) (j : Nat) (u : Value), (xs ++ ys).set (xs.length + j) u = xs ++ ys.set j u := fun ys j u => by
    rw [List.set_append_right _ _ (by omega)]; congr 2; omega
  have f0 : ∀ (ys : List Value) (u : Value), (xs ++ ys).set xs.length u = xs ++ ys.set 0 u := fun ys u => f ys 0 u
  rw [f0, f, f, f, Nat.add_assoc xs.length 3 1, f, Nat.add_assoc xs.length 3 2, f]
  rfl
theorem lent_set (l : List SSpot) : (((((((l ++ [zSpot, zSpot]).flatMap spotCells).set (l.length * 3) (.int .i64 77)).set (l.length * 3 + 1) (.int .i64 0)).set (l.length * 3 + 2) (.int .i64 0)).set ((l.length + 1) * 3) (.int .i64 78)).set ((l.length + 1) * 3 + 1) (.int .i64 0)).set ((l.length + 1) * 3 + 2) (.int .i64 0) = (lentL l).flatMap spotCells := by
  have e2 : (l ++ [zSpot, zSpot]).flatMap spotCells = l.flatMap spotCells ++ [.int .i64 0, .int .i64 0, .int .i64 0, .int .i64 0, .int .i64 0, .int .i64 0] := by
    rw [List.flatMap_append]; rfl
  have e3 : (lentL l).flatMap spotCells = l.flatMap spotCells ++ [.int .i64 77, .int .i64 0, .int .i64 0, .int .i64 78, .int .i64 0, .int .i64 0] := by
    unfold lentL; rw [List.flatMap_append]; rfl
  rw [e2, e3]
  exact set_six _ _ (spots_len l) _ _ _

theorem lent_end {w w1 : World} {l : List SSpot} (hb : Below w.heap.size w w1) (ho : w1.ownsRow 0 63 3 (.slice (some ⟨w.heap.size, 0, none⟩) (l.length + 2) (l.length + 2)) (l.length + 2) ((l ++ [zSpot, zSpot]).flatMap spotCells)) :
    Below w.heap.size w ((((((w1.setCell ⟨w.heap.size, l.length * 3, none⟩ (.int .i64 77)).setCell ⟨w.heap.size, l.length * 3 + 1, none⟩ (.int .i64 0)).setCell ⟨w.heap.size, l.length * 3 + 2, none⟩ (.int .i64 0)).setCell ⟨w.heap.size, (l.length + 1) * 3, none⟩ (.int .i64 78)).setCell ⟨w.heap.size, (l.length + 1) * 3 + 1, none⟩ (.int .i64 0)).setCell ⟨w.heap.size, (l.length + 1) * 3 + 2, none⟩ (.int .i64 0)) ∧
    ((((((w1.setCell ⟨w.heap.size, l.length * 3, none⟩ (.int .i64 77)).setCell ⟨w.heap.size, l.length * 3 + 1, none⟩ (.int .i64 0)).setCell ⟨w.heap.size, l.length * 3 + 2, none⟩ (.int .i64 0)).setCell ⟨w.heap.size, (l.length + 1) * 3, none⟩ (.int .i64 78)).setCell ⟨w.heap.size, (l.length + 1) * 3 + 1, none⟩ (.int .i64 0)).setCell ⟨w.heap.size, (l.length + 1) * 3 + 2, none⟩ (.int .i64 0)).ownsRow 0 63 3 (.slice (some ⟨w.heap.size, 0, none⟩) (l.length + 2) (l.length + 2)) (l.length + 2) ((lentL l).flatMap spotCells) := by
  refine ⟨(((((hb.setCell (Nat.le_refl _) _).setCell (Nat.le_refl _) _).setCell (Nat.le_refl _) _).setCell (Nat.le_refl _) _).setCell (Nat.le_refl _) _).setCell (Nat.le_refl _) _, ?_⟩
  rw [← lent_set l]
  exact own_set (own_set (own_set (own_set (own_set (own_set ho _ _ (by omega)) _ _ (by omega)) _ _ (by omega)) _ _ (by omega)) _ _ (by omega)) _ _ (by omega)
/-- What is known behind the copy. -/
structure LentOut (w w1 : World) (l : List SSpot) : Prop where
  below : Hid (Below w.heap.size w w1)
  own : Hid (w1.ownsRow 0 63 3 (.slice (some ⟨w.heap.size, 0, none⟩) (l.length + 2) (l.length + 2)) (l.length + 2) ((l ++ [zSpot, zSpot]).flatMap spotCells))
theorem lent_copy {w : World} {ops : Array Oper} {rest : List Oper} {o : Oper} {a : Act} {Q : Exit → Act → World → Prop} {ao : Option Addr} {cap : Nat} {l : List SSpot} (hv : SpIn w (.slice ao l.length cap) l) (hl : l.length ≤ 2000000) (hgd : o.guard = none)
    (ho : o.op = .call { callee := .builtin .copy, args := #[.tmp 8, .tmp 9], argTypes := #[55, 55] }) (hd : a.eval (.tmp 8) = .slice (some ⟨w.heap.size, 0, none⟩) (l.length + 2) (l.length + 2)) (hs : a.eval (.tmp 9) = .slice ao l.length cap)
    (h : ∀ w1, LentOut w w1 l → wpList Tryz.prog ops Q rest (a.put o.dst (goInt l.length)) w1) : wpList Tryz.prog ops Q (o :: rest) a (w.alloc (.cells (madeCells #[.int .i64 0, .int .i64 0, .int .i64 0] ((l.length + 2) * 3)) 63)) := by
  refine wpList_copy_letter hgd (.tmp 8) (.tmp 9) 55 55 ho 63 3 Tryz.underlying55 Tryz.sizeSpot w.heap.size (l.length + 2) (l.length + 2) ao l.length cap hd hs (madeCells #[.int .i64 0, .int .i64 0, .int .i64 0] ((l.length + 2) * 3)) 63 (Go.heap_alloc_new w _) (l.flatMap spotCells) (by omega) (spots_len l) (hv.src ((Below.refl _ _).alloc (Nat.le_refl _) _)) (by rw [spots_len, size_madeCells]; omega) (spot_one l) ?_
  intro w1 hg1 hb1 _
  exact h w1 ⟨((Below.refl _ w).alloc (Nat.le_refl _) _).trans hb1, lent_row rfl hg1 (by unfold maxLen; omega)⟩

set_option maxRecDepth 100000 in
set_option maxHeartbeats 400000 in
theorem lent_any (w : World) (v : Value) (l : List SSpot) (hv : SpIn w v l) (hl : l.length ≤ 2000000) :
    Calls Tryz.prog 45 #[v] w fun e w' => e = .returned (.slice (some ⟨w.heap.size, 0, none⟩) (l.length + 2) (l.length + 2)) ∧ Below w.heap.size w w' ∧
      w'.ownsRow 0 63 3 (.slice (some ⟨w.heap.size, 0, none⟩) (l.length + 2) (l.length + 2)) (l.length + 2) ((lentL l).flatMap spotCells) := by
  obtain ⟨ao, cap, rfl, hsrc⟩ := hv
  obtain ⟨i0, hi, hz0, hz1, hz2⟩ := info_parts Tryz.infoSpot
  have hmk : ∀ w : World, (Instr.makeSlice 55 (.int .i64 ((l.length : Int) + 2)) (.int .i64 ((l.length : Int) + 2))).run Tryz.prog w = .ok (.slice (some ⟨w.heap.size, 0, none⟩) (l.length + 2) (l.length + 2)) (w.alloc (.cells (madeCells #[.int .i64 0, .int .i64 0, .int .i64 0] ((l.length + 2) * 3)) 63)) := by
    intro w
    have := run_make (P := Tryz.prog) w 55 63 i0 _ Tryz.underlying55 hi hz0 .i64 .i64 ((l.length : Int) + 2) ((l.length : Int) + 2) (by omega) (Int.le_refl _) (by rw [hz2]; omega) (by omega)
    rw [hz1] at this
    have e : ((l.length : Int) + 2).toNat = l.length + 2 := by omega
    rw [e] at this
    exact this
  have hv2 : SpIn w (.slice ao l.length cap) l := ⟨ao, cap, rfl, hsrc⟩
  clear hsrc
  go_enter Tryz.func45, Tryz.ntmps45
  go_wp2_with (refine copy_guard ?_; unfold AtCopy; refine lent_copy hv2 hl rfl rfl rfl rfl ?_; rintro w1 ⟨HB, HO⟩; obtain ⟨p0, p1, p2, p3, p4, p5⟩ := lent_cells HO.out; have fz := fun j => own_frozen HO.out j)
  go_ret
  exact ⟨rfl, lent_end HB.out HO.out⟩

set_option maxRecDepth 100000 in
set_option maxHeartbeats 400000 in
theorem part_nil (w : World) (v : Value) : Calls Tryz.prog 46 #[v, .slice none 0 0] w fun e w' => e = .returned (.slice none 0 0) ∧ w' = w := by
  have hnil : ∀ (w : World) (a : Option Addr) (n c : Nat), (binOp .eql 55 (.slice a n c) (.slice none 0 0)).run Tryz.prog w = .ok (.bool a.isNone) w := fun w a n c => Lib.run_eql_slice_nil w 55 63 a n c 0 0 Tryz.underlying55
  go_enter Tryz.func46, Tryz.ntmps46
  go_wp2
  go_ret
  exact ⟨rfl, rfl⟩
set_option maxRecDepth 100000 in
set_option maxHeartbeats 400000 in
theorem part_some (w : World) (g n c : Nat) (ad : Addr) (hn : n ≤ 2000000) : Calls Tryz.prog 46 #[.slice (some ⟨g, 0, none⟩) (n + 2) (n + 2), .slice (some ad) n c] w fun e w' => e = .returned (.slice (some ⟨g, 0, none⟩) n (n + 2)) ∧ w' = w := by
  have hnil : ∀ (w : World) (a : Option Addr) (n c : Nat), (binOp .eql 55 (.slice a n c) (.slice none 0 0)).run Tryz.prog w = .ok (.bool a.isNone) w := fun w a n c => Lib.run_eql_slice_nil w 55 63 a n c 0 0 Tryz.underlying55
  go_enter Tryz.func46, Tryz.ntmps46
  go_wp2
  go_ret
  exact ⟨rfl, rfl⟩
end Go.Proofs.YtlafddeoheambaaGreatDoor

/-
  Spots that lie in the world, no two at one place, said plainly.
-/
namespace Go.Proofs.YtlafddeoheambaaGreatDoor
open Go.RowKit

def okSpot (W H : Int) (s : SSpot) : Bool := inB s.x 0 (W - 1) && inB s.y 0 (H - 1)
def sameXY (a b : SSpot) : Bool := decide (a.x = b.x) && decide (a.y = b.y)
def apartGo (W H : Int) : List SSpot → List SSpot → Bool
  | _, [] => true
  | pre, s :: r => okSpot W H s && !(pre.any (fun a => sameXY a s)) && apartGo W H (pre ++ [s]) r
def apartB (l : List SSpot) (W H : Int) : Bool := apartGo W H [] l

theorem apart_step (W H : Int) (l : List SSpot) (k : Nat) (hk : k < l.length) :
    apartGo W H (l.take k) (l.drop k) = (okSpot W H l[k] && !((l.take k).any (fun a => sameXY a l[k])) && apartGo W H (l.take (k + 1)) (l.drop (k + 1))) := by
  rw [List.drop_eq_getElem_cons hk, List.take_succ_eq_append_getElem hk]
  rfl

end Go.Proofs.YtlafddeoheambaaGreatDoor

/-
  The function apart of package hazeref: do spots lie in the world, no two at one place?
-/
namespace Go.Proofs.YtlafddeoheambaaGreatDoor
open Go.RowKit

set_option maxRecDepth 100000 in
set_option maxHeartbeats 2000000 in
theorem rapart_any (w : World) (v : Value) (l : List SSpot) (W H : Int) (hv : SpIn w v l) (hl : l.length ≤ 2000000) (hW : 0 ≤ W ∧ W ≤ 100) (hH : 0 ≤ H ∧ H ≤ 100) :
    Calls Tryz.prog 89 #[v, .int .i64 W, .int .i64 H] w fun e w' => e = .returned (.bool (apartB l W H)) ∧ ∃ n, w' = w.drewN n := by
  obtain ⟨ao, cap, rfl, hsrc⟩ := hv
  obtain ⟨hW0, hW1⟩ := hW
  obtain ⟨hH0, hH1⟩ := hH
  go_enter Tryz.func89, Tryz.ntmps89
  go_wp2
  go_loopw [7] (fun i w' => ∃ k n : Nat, k ≤ l.length ∧ i = .int .i64 k ∧ w' = w.drewN n ∧ Hid (apartB l W H = apartGo W H (l.take k) (l.drop k))) (fun i _ => l.length + 1 - (intOf i).toNat)
  case atStart => exact ⟨0, 0, Nat.zero_le _, rfl, rfl, by unfold Hid; simp [apartB]⟩
  case round =>
    obtain ⟨k, n, hk, rfl, rfl, ha⟩ := hrel
    by_cases hlt : k < l.length
    · obtain ⟨b, off, rfl, hb, hc⟩ := hsrc (by omega)
      have f := fun j (hj : j < 3) => flat_at spotCells 3 (fun _ => rfl) l k j hlt hj
      have d0 : w.cell? ⟨b, off + k * 3, none⟩ = some (.int .i64 l[k].x) := hc (k * 3 + 0) _ (f 0 (by omega))
      have d1 : w.cell? ⟨b, off + k * 3 + 1, none⟩ = some (.int .i64 l[k].y) := hc (k * 3 + 1) _ (f 1 (by omega))
      have st := apart_step W H l k hlt
      cases hx : inB l[k].x 0 (W - 1)
      · have G : Hid (apartB l W H = false) := by unfold Hid; rw [ha.out, st]; simp [okSpot, hx]
        go_wp2_with (go_at_call 88; refine (within_any _ _ _ _).mono ?_; rintro e w' ⟨rfl, rfl⟩)
        go_ret
        exact ⟨ret_bool G.out.symm, _, rfl⟩
      · cases hy : inB l[k].y 0 (H - 1)
        · have G : Hid (apartB l W H = false) := by unfold Hid; rw [ha.out, st]; simp [okSpot, hy]
          go_wp2_with (go_at_call 88; refine (within_any _ _ _ _).mono ?_; rintro e w' ⟨rfl, rfl⟩)
          go_ret
          exact ⟨ret_bool G.out.symm, _, rfl⟩
        · go_wp2_with (go_at_call 88; refine (within_any _ _ _ _).mono ?_; rintro e w' ⟨rfl, rfl⟩)
          go_loopw [8] (fun i w' => ∃ j m : Nat, j ≤ k ∧ i = .int .i64 j ∧ w' = w.drewN m ∧ Hid (noneTo (fun a => sameXY a l[k]) l j)) (fun i _ => k + 1 - (intOf i).toNat)
          case atStart => exact ⟨0, n, Nat.zero_le _, rfl, rfl, noneTo_zero _ _⟩
          case round =>
            obtain ⟨j, m, hj, rfl, rfl, hn⟩ := hrel
            by_cases hlt1 : j < k
            · have f' := fun i (hi : i < 3) => flat_at spotCells 3 (fun _ => rfl) l j i (by omega) hi
              have g0 : w.cell? ⟨b, off + j * 3, none⟩ = some (.int .i64 l[j].x) := hc (j * 3 + 0) _ (f' 0 (by omega))
              have g1 : w.cell? ⟨b, off + j * 3 + 1, none⟩ = some (.int .i64 l[j].y) := hc (j * 3 + 1) _ (f' 1 (by omega))
              have i0 : (0 : Int) ≤ (k : Int) := by omega
              have i1 : (k : Int) < (l.length : Int) := by omega
              have i2 : (0 : Int) ≤ (j : Int) := by omega
              have i3 : (j : Int) < (l.length : Int) := by omega
              by_cases ex : l[j].x = l[k].x
              · have ex' : (l[j].x == l[k].x) = true := by simpa using ex
                by_cases ey : l[j].y = l[k].y
                · have ey' : (l[j].y == l[k].y) = true := by simpa using ey
                  have G : Hid (apartB l W H = false) := by
                    unfold Hid
                    rw [ha.out, st]
                    have : (l.take k).any (fun a => sameXY a l[k]) = true := List.any_eq_true.2 ⟨l[j], List.mem_take_iff_getElem.2 ⟨j, by omega, rfl⟩, by simp [sameXY, ex, ey]⟩
                    simp [this]
                  clear ex ey f f' st hc
                  go_wp2
                  go_quiet (fail)
                  go_wp2
                  go_ret
                  exact ⟨ret_bool G.out.symm, m + nq, by simp [World.drewN, Nat.add_assoc]⟩
                · have ey' : (l[j].y == l[k].y) = false := by simpa using ey
                  have hn' : Hid _ := noneTo_succ hn.out (by omega) (by simp [sameXY, ey])
                  clear ex ey f f' st hc
                  go_wp2
                  go_quiet (fail)
                  go_wp2
                  exact ⟨⟨j + 1, m + nq, by omega, by go_num, rfl, hn'⟩, by simp [intOf]; omega⟩
              · have ex' : (l[j].x == l[k].x) = false := by simpa using ex
                have hn' : Hid _ := noneTo_succ hn.out (by omega) (by simp [sameXY, ex])
                clear ex f f' st hc
                go_wp2
                go_quiet (fail)
                go_wp2
                exact ⟨⟨j + 1, m + nq, by omega, by go_num, rfl, hn'⟩, by simp [intOf]; omega⟩
            · have G : Hid (apartB l W H = apartGo W H (l.take (k + 1)) (l.drop (k + 1))) := by
                unfold Hid
                rw [ha.out, st]
                have : (l.take k).any (fun a => sameXY a l[k]) = false := by
                  refine any_miss _ _ (fun i hi => ?_)
                  have hi' : i < k := by simp at hi; omega
                  simpa using hn.out i (by omega) (by omega)
                simp [this, okSpot, hx, hy]
              go_wp2
              exact ⟨⟨k + 1, m, by omega, by go_num, rfl, G⟩, by simp [intOf]; omega⟩
    · have G : Hid (apartB l W H = true) := by unfold Hid; rw [ha.out, List.drop_of_length_le (by omega)]; rfl
      go_wp2
      go_ret
      exact ⟨ret_bool G.out.symm, _, rfl⟩
end Go.Proofs.YtlafddeoheambaaGreatDoor

/-
  What becomes of the document's world in memory where it gets a spot of ore more, or a player more; what New makes, said plainly.
-/
namespace Go.Proofs.YtlafddeoheambaaGreatDoor
open Go.RowKit

def YW.addOre (y : YW) (s : SSpot) (v : Value) : YW := { y with ore := y.ore ++ [s], vOre := v }
def YW.addPl (y : YW) (q : SPlayer × PV) (v : Value) : YW := { y with pls := y.pls ++ [q], vPl := v }

theorem fresh_cons {b g H : Nat} {a rest : List Nat} (h : (b :: (a ++ rest)).Nodup) (lt : ∀ r ∈ b :: (a ++ rest), r < H) (hg : H ≤ g) : (b :: ([g] ++ rest)).Nodup := by
  have l1 : b < H := lt b (by simp)
  have l2 : ∀ r ∈ rest, r < H := fun r hr => lt r (by simp [hr])
  simp only [List.nodup_cons, List.nodup_append, List.mem_append, not_or, List.singleton_append, List.mem_cons] at h ⊢
  refine ⟨⟨by omega, h.1.2⟩, ⟨fun hr => by have := l2 g hr; omega, h.2.2.1⟩⟩

/-- A spot of ore more. -/
theorem RepY.addOre {w5 w5' w6 : World} {Y : YW} (hr : RepY w5 Y) (hb5 : Below w5.heap.size w5 w5') (hg : w5'.grownBy w6 Y.vOre.ownBlock) (s : SSpot) (g cap n : Nat) (hn : n = Y.ore.length + 1)
    (ho : w6.ownsRow 0 63 3 (.slice (some ⟨g, 0, none⟩) n cap) n (Y.ore.flatMap spotCells ++ spotCells s)) (hat : Y.vOre.ownBlock = some g ∨ w5.heap.size ≤ g) :
    RepY (w6.setCell ⟨Y.b, 4, none⟩ (.slice (some ⟨g, 0, none⟩) n cap)) (Y.addOre s (.slice (some ⟨g, 0, none⟩) n cap)) := by
  have sp := sep_of hr.sep
  have lt := hr.lt
  have hgb : g ≠ Y.b := by
    rcases hat with h | h
    · intro e; subst e; exact sp.bo (by simp [blk, h])
    · have := lt Y.b foot_b; omega
  have far : ∀ r, r < w5.heap.size → r ∉ blk Y.vOre → r ≠ Y.b → (w6.setCell ⟨Y.b, 4, none⟩ (.slice (some ⟨g, 0, none⟩) n cap)).heap[r]? = w5.heap[r]? := by
    intro r h1 h2 h3
    rw [setCell_far w6 Y.b _ _ r h3, hg.block r (Nat.lt_of_lt_of_le h1 hb5.size) (fun e => h2 (by simp [blk, ← e])), hb5.block r h1]
  refine ⟨?_, ?_, ?_, ?_, ?_, ?_⟩
  · have e : w6.heap[Y.b]? = some (.cells Y.cells 156 (0, 0)) := by
      rw [hg.block Y.b (Nat.lt_of_lt_of_le (lt _ foot_b) hb5.size) (fun e => sp.bo (by simp [blk, ← e])), hb5.block Y.b (lt _ foot_b), hr.top]
    show (w6.setCell _ _).heap[Y.b]? = _
    simp only [World.setCell, Array.getElem?_modify, e]
    simp [YW.cells, YW.addOre]
  · show (w6.setCell _ _).ownsRow 0 _ 3 _ (Y.ore ++ [s]).length ((Y.ore ++ [s]).flatMap spotCells)
    have e1 : (Y.ore ++ [s]).length = n := by simp [hn]
    have e2 : (Y.ore ++ [s]).flatMap spotCells = Y.ore.flatMap spotCells ++ spotCells s := by simp
    rw [e1, e2]
    refine own_same ho (fun r hr' => setCell_far w6 Y.b _ _ r ?_)
    have h' : r ∈ blk (.slice (some ⟨g, 0, none⟩) n cap) := hr'
    have : r = g := by simpa [blk_slice] using h'
    rw [this]; exact hgb
  · exact own_same hr.pl (fun r hr' => far r (lt _ (foot_p hr')) (fun h => sp.op r h hr') (fun h => sp.bp (h ▸ hr')))
  · exact own_same hr.lots (fun r hr' => far r (lt _ (foot_l hr')) (fun h => sp.ol r h hr') (fun h => sp.bl (h ▸ hr')))
  · intro p hp
    exact (hr.each p hp).same (fun r hr' => far r (lt _ (foot_e hp hr')) (fun h => sp.oe r h p hp hr') (fun h => sp.be p hp (h ▸ hr')))
  · rcases hat with h | h
    · have e : (Y.addOre s (.slice (some ⟨g, 0, none⟩) n cap)).foot = Y.foot := by
        simp only [YW.foot, YW.addOre, blk_slice]
        have : blk Y.vOre = [g] := by simp [blk, h]
        rw [this]
      rw [e]; exact hr.sep
    · exact fresh_cons hr.sep lt h

theorem nodup_addPl {b g gu H : Nat} {o P l E : List Nat} (h : (b :: (o ++ (P ++ (l ++ E)))).Nodup) (lt : ∀ r ∈ b :: (o ++ (P ++ (l ++ E))), r < H) (hg : P = [g] ∨ H ≤ g) (hu : H ≤ gu) (hne : gu ≠ g) : (b :: (o ++ ([g] ++ (l ++ (E ++ [gu]))))).Nodup := by
  have lb : b < H := lt b (by simp)
  have lo : ∀ r ∈ o, r < H := fun r hr => lt r (by simp [hr])
  have ll : ∀ r ∈ l, r < H := fun r hr => lt r (by simp [hr])
  have lE : ∀ r ∈ E, r < H := fun r hr => lt r (by simp [hr])
  have key : (b :: (o ++ ([g] ++ (l ++ E)))).Nodup := by
    rcases hg with rfl | hg
    · exact h
    · simp only [List.nodup_cons, List.nodup_append, List.mem_append, not_or, List.singleton_append, List.mem_cons] at h ⊢
      obtain ⟨⟨n1, n2, n3, n4⟩, n5, ⟨n6, ⟨n7, n8, n9⟩, n10⟩, n11⟩ := h
      refine ⟨⟨n1, by omega, n3, n4⟩, n5, ⟨⟨fun hr => by have := ll g hr; omega, fun hr => by have := lE g hr; omega⟩, n7, n8, n9⟩, ?_⟩
      intro a ha c hc
      rcases hc with rfl | hc
      · have := lo a ha; omega
      · exact n11 a ha c (.inr hc)
  have e : b :: (o ++ ([g] ++ (l ++ (E ++ [gu])))) = (b :: (o ++ ([g] ++ (l ++ E)))) ++ [gu] := by simp
  rw [e, List.nodup_append]
  refine ⟨key, by simp, fun a ha c hc => ?_⟩
  have hc' : c = gu := by simpa using hc
  subst hc'
  simp only [List.mem_cons, List.mem_append, List.not_mem_nil, or_false] at ha
  rcases ha with rfl | ha | rfl | ha | ha
  · omega
  · have := lo a ha; omega
  · exact Ne.symm hne
  · have := ll a ha; omega
  · have := lE a ha; omega

/-- A player more. -/
theorem RepY.addPl {w5 w5' w6 : World} {Y : YW} (hr : RepY w5 Y) (hb5 : Below w5.heap.size w5 w5') (hg : w5'.grownBy w6 Y.vPl.ownBlock) (p : SPlayer) (gu c g cap n : Nat) (hn : n = Y.pls.length + 1)
    (hp : RepP w6 (p, ⟨.slice (some ⟨gu, 0, none⟩) p.units.length c, .slice none 0 0, .slice none 0 0⟩)) (hgu : w5.heap.size ≤ gu) (hne : gu ≠ g)
    (ho : w6.ownsRow 0 162 4 (.slice (some ⟨g, 0, none⟩) n cap) n (Y.pls.flatMap plCells ++ plCells (p, ⟨.slice (some ⟨gu, 0, none⟩) p.units.length c, .slice none 0 0, .slice none 0 0⟩))) (hat : Y.vPl.ownBlock = some g ∨ w5.heap.size ≤ g) :
    RepY (w6.setCell ⟨Y.b, 5, none⟩ (.slice (some ⟨g, 0, none⟩) n cap)) (Y.addPl (p, ⟨.slice (some ⟨gu, 0, none⟩) p.units.length c, .slice none 0 0, .slice none 0 0⟩) (.slice (some ⟨g, 0, none⟩) n cap)) := by
  have sp := sep_of hr.sep
  have lt := hr.lt
  have lb := lt Y.b foot_b
  have hgb : g ≠ Y.b := by
    rcases hat with h | h
    · intro e; subst e; exact sp.bp (by simp [blk, h])
    · omega
  have far : ∀ r, r < w5.heap.size → r ∉ blk Y.vPl → r ≠ Y.b → (w6.setCell ⟨Y.b, 5, none⟩ (.slice (some ⟨g, 0, none⟩) n cap)).heap[r]? = w5.heap[r]? := by
    intro r h1 h2 h3
    rw [setCell_far w6 Y.b _ _ r h3, hg.block r (Nat.lt_of_lt_of_le h1 hb5.size) (fun e => h2 (by simp [blk, ← e])), hb5.block r h1]
  refine ⟨?_, ?_, ?_, ?_, ?_, ?_⟩
  · have e : w6.heap[Y.b]? = some (.cells Y.cells 156 (0, 0)) := by
      rw [hg.block Y.b (Nat.lt_of_lt_of_le lb hb5.size) (fun e => sp.bp (by simp [blk, ← e])), hb5.block Y.b lb, hr.top]
    show (w6.setCell _ _).heap[Y.b]? = _
    simp only [World.setCell, Array.getElem?_modify, e]
    simp [YW.cells, YW.addPl]
  · exact own_same hr.ore (fun r hr' => far r (lt _ (foot_o hr')) (fun h => sp.op r hr' h) (fun h => sp.bo (h ▸ hr')))
  · show (w6.setCell _ _).ownsRow 0 _ 4 (.slice (some ⟨g, 0, none⟩) n cap) (Y.pls ++ [_]).length ((Y.pls ++ [_]).flatMap plCells)
    rw [List.length_append, List.flatMap_append]
    have e1 : Y.pls.length + [(p, (⟨.slice (some ⟨gu, 0, none⟩) p.units.length c, .slice none 0 0, .slice none 0 0⟩ : PV))].length = n := by simp [hn]
    rw [e1]
    refine own_same (by simpa using ho) (fun r hr' => setCell_far w6 Y.b _ _ r ?_)
    have h' : r ∈ blk (.slice (some ⟨g, 0, none⟩) n cap) := hr'
    have : r = g := by simpa [blk_slice] using h'
    rw [this]; exact hgb
  · exact own_same hr.lots (fun r hr' => far r (lt _ (foot_l hr')) (fun h => sp.pl r h hr') (fun h => sp.bl (h ▸ hr')))
  · intro q hq
    rcases List.mem_append.1 hq with h | h
    · exact (hr.each q h).same (fun r hr' => far r (lt _ (foot_e h hr')) (fun h2 => sp.pe r h2 q h hr') (fun h2 => sp.be q h (h2 ▸ hr')))
    · have h' : q = (p, ⟨.slice (some ⟨gu, 0, none⟩) p.units.length c, .slice none 0 0, .slice none 0 0⟩) := by simpa using h
      rw [h']
      refine hp.same (fun r hr' => setCell_far w6 Y.b _ _ r ?_)
      have : r = gu := by
        have h2 : r ∈ [gu] := hr'
        simpa using h2
      omega
  · have e : (Y.addPl (p, ⟨.slice (some ⟨gu, 0, none⟩) p.units.length c, .slice none 0 0, .slice none 0 0⟩) (.slice (some ⟨g, 0, none⟩) n cap)).foot = Y.b :: (blk Y.vOre ++ ([g] ++ (blk Y.vLots ++ (Y.pls.flatMap pvFoot ++ [gu])))) := by
      simp only [YW.foot, YW.addPl, blk_slice, List.flatMap_append]
      rfl
    rw [e]
    refine nodup_addPl hr.sep lt ?_ hgu hne
    rcases hat with h | h
    · exact .inl (by simp [blk, h])
    · exact .inr h

def firstU.bytesA : ByteArray := ⟨#[97]⟩
def firstU (s : SSpot) : SUnit := { name := firstU.bytesA, x := s.x, y := s.y, head := 0, cargo := 0, what := emptyB, arg := emptyB }
def firstP (s : SSpot) : SPlayer := { money := 100, units := [firstU s], bids := [], news := [] }
/-- The world that New makes. -/
def newS (W H S : Int) (ore starts : List SSpot) : SWorld := { width := W, height := H, sight := S, now := 0, ore := ore, players := starts.map firstP, lots := [] }
/-- May New make a world? -/
def newB (W H S : Int) (ore starts : List SSpot) : Bool :=
  inB W 3 10 && inB H 3 10 && inB S 1 4 && inB starts.length 2 4 && decide (ore.length ≤ 6) && apartB ore W H && apartB starts W H && ore.all (fun s => inB s.amount 1 99)

end Go.Proofs.YtlafddeoheambaaGreatDoor
