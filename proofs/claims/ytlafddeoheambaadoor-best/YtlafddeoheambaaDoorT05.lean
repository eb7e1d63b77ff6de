/-
  Maps by spots: a look-up and a store as equations; a delete as one step of a region that draws its order.
-/
import Derived.Test.YtlafddeoheambaaDoorT04
import Derived.Deep.AppendLies
import Derived.Laws.CopyRow
import Derived.Laws.CopyOwn
import Derived.WalkKit
import Derived.Test.YtlafddeoheambaaDoorProg
import Derived.Test.YtlafddeoheambaaDoorT01
import Derived.WalkSpells
import Derived.WalkLawsBesides
import Derived.Lib.SliceRun
import Derived.Test.YtlafddeoheambaaDoorT03
import Derived.Test.YtlafddeoheambaaDoorT02
import Derived.Deep.QuietTactic
import Derived.BigQuiet
import Derived.Deep.RegionLaw
set_option linter.unusedVariables false
namespace Go.Proofs.YtlafddeoheambaaDoor
open Go.RowKit

theorem step_delete_c {P : Program} {w : World} {ops : Array Oper} {o : Oper} {a : Act} {K : Act → World → Prop} {Q : Exit → Act → World → Prop} {E : Prop} (hg : o.guard = none) (m x : Operand) (t k : TypeId) (hop : o.op = Op.call { callee := Callee.builtin Builtin.delete, args := #[m, x], argTypes := #[t, k] })
    (e : TypeId) (ht : P.underlying t = some (.map k e)) (hk : P.underlying k = some (.complex .f64)) (r clock : Nat) (l : List CE)
    (hm : a.eval m = .map (some r)) (hown : MapD w r l clock) (cx cy : Int) (hx : a.eval x = .complex .f64 (flI cx) (flI cy)) (h1 : 0 ≤ cx ∧ cx ≤ 9) (h2 : 0 ≤ cy ∧ cy ≤ 9)
    (hK : ∀ w', MapD w' r (cdel cx cy l) clock → Put r w w' → K (a.put o.dst (.tuple #[])) w') :
    if Region.wanted o (yielded ops a.tmps) = true then Oper.wp P o a w K Q else E := by
  have hw : Region.wanted o (yielded ops a.tmps) = true := by simp [Region.wanted, hg]
  rw [if_pos hw]
  have hrun := run_delete_c hown.is t k e k o.type cx cy ht hk h1 h2
  unfold Oper.wp
  simp [execOp, hop, resolve, invoke, builtin, hm, hx, hrun, Result.andThen]
  exact hK _ (hown.del cx cy) (putObj_put _ _ _)

theorem MapD.lookup {w : World} {r clock : Nat} {l : List CE} (h : MapD w r l clock) (x y : Int) (hx : 0 ≤ x ∧ x ≤ 9) (hy : 0 ≤ y ∧ y ≤ 9) :
    (Instr.lookup 68 (.map (some r)) (.complex .f64 (flI x) (flI y)) false).run Tryd.prog w = .ok (.int .i64 ((look x y l).getD 0)) w := by
  have := run_lookup_c h.is 68 77 3 false x y Tryd.underlying68 Tryd.underlying77 Tryd.zeroInt hx hy
  rw [cfind_look] at this
  exact this
theorem MapD.update {w : World} {r clock : Nat} {l : List CE} (h : MapD w r l clock) (x y v : Int) (hx : 0 ≤ x ∧ x ≤ 9) (hy : 0 ≤ y ∧ y ≤ 9) :
    ∃ w', (Instr.mapUpdate 68 (.map (some r)) (.complex .f64 (flI x) (flI y)) (.int .i64 v)).run Tryd.prog w = .ok () w' ∧ MapD w' r (cput x y v clock l) (cclock x y l clock) ∧ Put r w w' :=
  ⟨_, run_update_c h.is 68 77 3 x y v Tryd.underlying68 Tryd.underlying77 hx hy, h.put x y v hx hy, putObj_put _ _ _⟩
theorem MapD.drew {w : World} {r clock : Nat} {l : List CE} (h : MapD w r l clock) : MapD w.drew r l clock := h.same rfl
theorem Put.cell {r : Nat} {w w' : World} (h : Put r w w') {g j : Nat} (hn : g ≠ r) : w'.cell? ⟨g, j, none⟩ = w.cell? ⟨g, j, none⟩ := World.cell?_of_block (h.block g hn)
theorem Put.frozen {r : Nat} {w w' : World} (h : Put r w w') {g j : Nat} (hn : g ≠ r) : w'.frozen? ⟨g, j, none⟩ = w.frozen? ⟨g, j, none⟩ := World.frozen?_of_block (h.block g hn)

theorem run_store_c (w : World) (a : Addr) (x y : Nat) : (store a (.complex .f64 x y)).run Tryd.prog w = stored Tryd.prog w a (.complex .f64 x y) .plain := run_store Tryd.prog w a _ .plain rfl
/-- What holds of the places of a unit of the program's world. -/
structure AtX (w : World) (X : XW) (n k : Nat) (p : SPlayer) (v : XV) (u : SUnit) (x : XU) : Prop where
  q : X.pls[n]? = some (p, v)
  u : p.units[k]? = some u
  x : v.us[k]? = some x
  rep : RepX w X
theorem AtX.unit {w : World} {X : XW} {n k : Nat} {p : SPlayer} {v : XV} {u : SUnit} {x : XU} (h : AtX w X n k p v u x) : RepU w u x := (h.rep.each n _ h.q).unit k u x h.u h.x
theorem AtX.ne_b {w : World} {X : XW} {n k : Nat} {p : SPlayer} {v : XV} {u : SUnit} {x : XU} (h : AtX w X n k p v u x) : x.g ≠ X.b := fun e => by
  have := h.rep.roles.unit n _ k x h.q h.x
  rw [e, h.rep.roles.b] at this
  cases this
theorem AtX.ne_ms {w : World} {X : XW} {n k : Nat} {p : SPlayer} {v : XV} {u : SUnit} {x : XU} (h : AtX w X n k p v u x) : x.g ≠ X.ms := fun e => by
  have := h.rep.roles.unit n _ k x h.q h.x
  rw [e, h.rep.roles.ms] at this
  cases this
theorem AtX.ne_mo {w : World} {X : XW} {n k : Nat} {p : SPlayer} {v : XV} {u : SUnit} {x : XU} (h : AtX w X n k p v u x) : x.g ≠ X.mo := fun e => by
  have := h.rep.roles.unit n _ k x h.q h.x
  rw [e, h.rep.roles.mo] at this
  cases this
theorem RepX.b_ms {w : World} {X : XW} (h : RepX w X) : X.b ≠ X.ms := fun e => by
  have := h.roles.b
  rw [e, h.roles.ms] at this
  cases this
theorem RepX.b_mo {w : World} {X : XW} (h : RepX w X) : X.b ≠ X.mo := fun e => by
  have := h.roles.b
  rw [e, h.roles.mo] at this
  cases this
theorem RepX.mo_ms {w : World} {X : XW} (h : RepX w X) : X.mo ≠ X.ms := fun e => by
  have := h.roles.mo
  rw [e, h.roles.ms] at this
  cases this
/-- The bounds that a walk wants. -/
structure BdX (X : XW) (u : SUnit) : Prop where
  w : 3 ≤ X.width ∧ X.width ≤ 10
  h : 3 ≤ X.height ∧ X.height ≤ 10
  x : 0 ≤ u.x ∧ u.x ≤ 9
  y : 0 ≤ u.y ∧ u.y ≤ 9
theorem freeV_S {X : XW} (h : OkX X) (x y : Int) : freeV X.width X.height x y X.ls = freeS X.S x y := by
  unfold freeV freeS
  have := h.st.free x y
  rw [← this]
  rfl
end Go.Proofs.YtlafddeoheambaaDoor

/-
  Two laws of our own: the built-in copy at elements of several cells, into a row that is known whole.
-/
namespace Go.Proofs.YtlafddeoheambaaDoor
open Go.RowKit

theorem run_copy_wide {P : Program} (w : World) (dT sT ty elem : TypeId) (size g dLen dCap : Nat) (ao : Option Addr) (sLen sCap : Nat) (cur : Array Value) (t : TypeId) (cs : List Value)
    (hu : P.underlying dT = some (.slice elem)) (hs : (P.info? elem).map (·.size) = some size)
    (hg : w.heap[g]? = some (.cells cur t (0, 0))) (hle : sLen ≤ dLen) (hn : cs.length = sLen * size)
    (hsrc : 0 < sLen → ∃ a, ao = some a ∧ ∀ j v, cs[j]? = some v → w.cell? (a.add j) = some v) (hfit : cs.length ≤ cur.size) (h1 : ∀ v ∈ cs, v.oneCell' = true) :
    (Builtin.copy_ #[dT, sT] ty #[.slice (some ⟨g, 0, none⟩) dLen dCap, .slice ao sLen sCap]).run P w =
      .ok (goInt sLen) (w.setRow g (cs ++ cur.toList.drop cs.length).toArray) := by
  have hmin : Nat.min sLen dLen = sLen := Nat.min_eq_left hle
  have hst := run_storeCells_at P g 0 t cs 0 cur w hg (by simpa using hfit) h1
  simp only [Nat.add_zero, Nat.zero_add, List.take_zero, List.nil_append] at hst
  cases hq : P.info? elem with
  | none => simp [hq] at hs
  | some i =>
    have hi : i.size = size := by simpa [hq] using hs
    by_cases h0 : 0 < sLen
    · obtain ⟨a, rfl, hsrc2⟩ := hsrc h0
      have hl := run_loadCells_list (P := P) w a cs hsrc2
      rw [hn] at hl
      simp [Builtin.copy_, run_underlying hu, Builtin.lenOf, Builtin.firstCells, sizeOf, typeInfo, hq, hi, hmin, hl, hst]
    · have hz : sLen = 0 := by omega
      subst hz
      have hc : cs = [] := List.eq_nil_of_length_eq_zero (by simpa using hn)
      subst hc
      have hl : ∀ (x : Addr), (loadCells x 0).run P w = .ok #[] w := fun x => by simpa using run_loadCells_list (P := P) w x [] (by simp)
      cases ao <;> simp [Builtin.copy_, run_underlying hu, Builtin.lenOf, Builtin.firstCells, sizeOf, typeInfo, hq, hmin, hl, storeCells, setRow_self w g cur t (0, 0) hg]

theorem wpList_copy_wide {P : Program} {w : World} {ops : Array Oper} {rest : List Oper} {o : Oper} {a : Act} {Q : Exit → Act → World → Prop} (hgd : o.guard = none) (d s : Operand) (dT sT : TypeId)
    (ho : o.op = .call { callee := .builtin .copy, args := #[d, s], argTypes := #[dT, sT] }) (elem : TypeId) (size : Nat) (hu : P.underlying dT = some (.slice elem)) (hsz : (P.info? elem).map (·.size) = some size)
    (g dLen dCap : Nat) (ao : Option Addr) (sLen sCap : Nat) (hd : a.eval d = .slice (some ⟨g, 0, none⟩) dLen dCap) (hs : a.eval s = .slice ao sLen sCap)
    (cur : Array Value) (t : TypeId) (hg : w.heap[g]? = some (.cells cur t (0, 0))) (cs : List Value) (hle : sLen ≤ dLen) (hn : cs.length = sLen * size)
    (hsrc : 0 < sLen → ∃ a, ao = some a ∧ ∀ j v, cs[j]? = some v → w.cell? (a.add j) = some v) (hfit : cs.length ≤ cur.size) (h1 : ∀ v ∈ cs, v.oneCell' = true)
    (h : wpList P ops Q rest (a.put o.dst (goInt sLen)) (w.setRow g (cs ++ cur.toList.drop cs.length).toArray)) : wpList P ops Q (o :: rest) a w := by
  refine wpList_plain hgd fun K hK => ?_
  have hrun := run_copy_wide (P := P) w dT sT o.type elem size g dLen dCap ao sLen sCap cur t cs hu hsz hg hle hn hsrc hfit h1
  unfold Oper.wp
  simp [execOp, ho, resolve, invoke, builtin, hd, hs, hrun, Result.andThen]
  exact hK _ _ h

theorem wpList_copy_letter {P : Program} {w : World} {ops : Array Oper} {rest : List Oper} {o : Oper} {a : Act} {Q : Exit → Act → World → Prop} (hgd : o.guard = none) (d s : Operand) (dT sT : TypeId)
    (ho : o.op = .call { callee := .builtin .copy, args := #[d, s], argTypes := #[dT, sT] }) (elem : TypeId) (size : Nat) (hu : P.underlying dT = some (.slice elem)) (hsz : (P.info? elem).map (·.size) = some size)
    (g dLen dCap : Nat) (ao : Option Addr) (sLen sCap : Nat) (hd : a.eval d = .slice (some ⟨g, 0, none⟩) dLen dCap) (hs : a.eval s = .slice ao sLen sCap)
    (cur : Array Value) (t : TypeId) (hg : w.heap[g]? = some (.cells cur t (0, 0))) (cs : List Value) (hle : sLen ≤ dLen) (hn : cs.length = sLen * size)
    (hsrc : 0 < sLen → ∃ a, ao = some a ∧ ∀ j v, cs[j]? = some v → w.cell? (a.add j) = some v) (hfit : cs.length ≤ cur.size) (h1 : ∀ v ∈ cs, v.oneCell' = true)
    (h : ∀ w1, w1.heap[g]? = some (.cells (cs ++ cur.toList.drop cs.length).toArray t (0, 0)) → Below g w w1 → w1.heap.size = w.heap.size → wpList P ops Q rest (a.put o.dst (goInt sLen)) w1) : wpList P ops Q (o :: rest) a w :=
  wpList_copy_wide hgd d s dT sT ho elem size hu hsz g dLen dCap ao sLen sCap hd hs cur t hg cs hle hn hsrc hfit h1
    (h _ (setRow_heap w g _ _ t _ hg) (below_setRow (Below.refl _ _) (Nat.le_refl _) _) (by simp [World.setRow]))

/-- A guard for an arm of the walk: it fits at a copy alone. -/
def AtCopy (p : Prop) : Prop := p
theorem copy_guard {P : Program} {ops : Array Oper} {rest : List Oper} {dst : Option Tmp} {d s : Operand} {dT sT ty : TypeId} {pos : String} {af : Array Edge} {a : Act} {w : World} {Q : Exit → Act → World → Prop}
    (h : AtCopy (wpList P ops Q ({ dst := dst, op := .call { callee := .builtin .copy, args := #[d, s], argTypes := #[dT, sT] }, type := ty, pos := pos, after := af, guard := none } :: rest) a w)) :
    wpList P ops Q ({ dst := dst, op := .call { callee := .builtin .copy, args := #[d, s], argTypes := #[dT, sT] }, type := ty, pos := pos, after := af, guard := none } :: rest) a w := h

end Go.Proofs.YtlafddeoheambaaDoor

/-
  The functions lent, part and still of package hazelaw: spots are lent with two others behind them, and looked at behind the call.
-/
namespace Go.Proofs.YtlafddeoheambaaDoor
open Go.RowKit

/-- Spots that came in: what their cells hold. -/
def SpIn (w : World) (v : Value) (l : List SSpot) : Prop :=
  ∃ ao cap, v = .slice ao l.length cap ∧ (0 < l.length → ∃ b off, ao = some ⟨b, off, none⟩ ∧ b < w.heap.size ∧ ∀ j u, (l.flatMap spotCells)[j]? = some u → w.cell? ⟨b, off + j, none⟩ = some u)
theorem SpIn.below {w w' : World} {v : Value} {l : List SSpot} (h : SpIn w v l) (hb : Below w.heap.size w w') : SpIn w' v l := by
  obtain ⟨ao, cap, e, h⟩ := h
  refine ⟨ao, cap, e, fun hl => ?_⟩
  obtain ⟨b, off, h1, h2, h3⟩ := h hl
  exact ⟨b, off, h1, Nat.lt_of_lt_of_le h2 hb.size, fun j u hu => by rw [hb.cell h2]; exact h3 j u hu⟩
theorem addr_add (b off j : Nat) : (⟨b, off, none⟩ : Addr).add j = ⟨b, off + j, none⟩ := by unfold Addr.add; split <;> simp_all

theorem hidB {p : Prop} (h : p) : Hid p := h
def lentL (l : List SSpot) : List SSpot := l ++ [⟨77, 0, 0⟩, ⟨78, 0, 0⟩]
theorem Tryd.infoSpot : (Tryd.prog.info? 49).map (fun i => (i.zero, i.size, i.bytes)) = some (some (.agg #[.int .i64 0, .int .i64 0, .int .i64 0]), 3, 24) := by kernel_rfl
theorem Tryd.sizeSpot : (Tryd.prog.info? 49).map (·.size) = some 3 := by kernel_rfl

theorem made_six (n : Nat) (xs : List Value) (hx : xs.length = n * 3) : (xs ++ (madeCells #[.int .i64 0, .int .i64 0, .int .i64 0] ((n + 2) * 3)).toList.drop xs.length) = xs ++ [.int .i64 0, .int .i64 0, .int .i64 0, .int .i64 0, .int .i64 0, .int .i64 0] := by
  congr 1
  apply List.ext_getElem?
  intro j
  rw [List.getElem?_drop, hx]
  have hs := size_madeCells #[.int .i64 0, .int .i64 0, .int .i64 0] ((n + 2) * 3)
  by_cases hj : j < 6
  · have h1 : n * 3 + j < (n + 2) * 3 := by omega
    have e : (madeCells #[.int .i64 0, .int .i64 0, .int .i64 0] ((n + 2) * 3)).toList[n * 3 + j]? = some (.int .i64 0) := by
      rw [Array.getElem?_toList]
      simp [madeCells, h1]
      have : j % 3 = 0 ∨ j % 3 = 1 ∨ j % 3 = 2 := by omega
      rcases this with h | h | h <;> simp [h]
    rw [e]
    match j, hj with
    | 0, _ => rfl
    | 1, _ => rfl
    | 2, _ => rfl
    | 3, _ => rfl
    | 4, _ => rfl
    | 5, _ => rfl
  · rw [List.getElem?_eq_none (by simp [hs]; omega), List.getElem?_eq_none (by simp; omega)]

theorem spot_one (l : List SSpot) : ∀ v ∈ l.flatMap spotCells, v.oneCell' = true := by
  intro v hv
  obtain ⟨s, _, hs⟩ := List.mem_flatMap.1 hv
  simp [spotCells] at hs
  rcases hs with rfl | rfl | rfl <;> rfl
theorem spots_len (l : List SSpot) : (l.flatMap spotCells).length = l.length * 3 := flat_length spotCells 3 (fun _ => rfl) l
theorem SpIn.src {w w' : World} {ao : Option Addr} {cap : Nat} {l : List SSpot} (h : SpIn w (.slice ao l.length cap) l) (hb : Below w.heap.size w w') : 0 < l.length → ∃ a, ao = some a ∧ ∀ j v, (l.flatMap spotCells)[j]? = some v → w'.cell? (a.add j) = some v := by
  intro hl
  obtain ⟨ao', cap', e, h⟩ := h.below hb
  injection e with e1 e2 e3
  subst e1
  obtain ⟨b, off, h1, h2, h3⟩ := h hl
  exact ⟨⟨b, off, none⟩, h1, fun j v hv => by rw [addr_add]; exact h3 j v hv⟩
def zSpot : SSpot := ⟨0, 0, 0⟩
/-- Behind the copy: the spots, and two noughts. -/
theorem lent_row {w : World} {g n : Nat} {l : List SSpot} (hn : l.length = n) (h : w.heap[g]? = some (.cells (l.flatMap spotCells ++ (madeCells #[.int .i64 0, .int .i64 0, .int .i64 0] ((n + 2) * 3)).toList.drop (l.flatMap spotCells).length).toArray 49 (0, 0))) (hm : n + 2 ≤ maxLen) :
    w.ownsRow 0 49 3 (.slice (some ⟨g, 0, none⟩) (n + 2) (n + 2)) (n + 2) ((l ++ [zSpot, zSpot]).flatMap spotCells) := by
  subst hn
  rw [made_six l.length _ (spots_len l)] at h
  have e := spots_len l
  have e2 : (l ++ [zSpot, zSpot]).flatMap spotCells = l.flatMap spotCells ++ [.int .i64 0, .int .i64 0, .int .i64 0, .int .i64 0, .int .i64 0, .int .i64 0] := by
    rw [List.flatMap_append]; rfl
  rw [e2]
  generalize l.flatMap spotCells = xs at *
  refine ⟨by rw [List.length_append, e]; simp; omega, .inr ⟨g, _, _, rfl, Nat.zero_le _, h, Nat.le_refl _, hm, by rw [List.size_toArray, List.length_append, e]; simp; omega, ?_⟩⟩
  exact List.take_of_length_le (by rw [List.length_append, e]; simp; omega)
theorem lent_cells {w : World} {g c : Nat} {l : List SSpot} (h : w.ownsRow 0 49 3 (.slice (some ⟨g, 0, none⟩) (l.length + 2) c) (l.length + 2) ((l ++ [zSpot, zSpot]).flatMap spotCells)) :
    w.cell? ⟨g, l.length * 3, none⟩ = some (.int .i64 0) ∧ w.cell? ⟨g, l.length * 3 + 1, none⟩ = some (.int .i64 0) ∧ w.cell? ⟨g, l.length * 3 + 2, none⟩ = some (.int .i64 0) ∧
    w.cell? ⟨g, (l.length + 1) * 3, none⟩ = some (.int .i64 0) ∧ w.cell? ⟨g, (l.length + 1) * 3 + 1, none⟩ = some (.int .i64 0) ∧ w.cell? ⟨g, (l.length + 1) * 3 + 2, none⟩ = some (.int .i64 0) := by
  have a0 : l.length < (l ++ [zSpot, zSpot]).length := by simp
  have a1 : l.length + 1 < (l ++ [zSpot, zSpot]).length := by simp
  have f := fun i (hi : i < 3) => flat_at spotCells 3 (fun _ => rfl) (l ++ [zSpot, zSpot]) l.length i a0 hi
  have f' := fun i (hi : i < 3) => flat_at spotCells 3 (fun _ => rfl) (l ++ [zSpot, zSpot]) (l.length + 1) i a1 hi
  have g0 : (l ++ [zSpot, zSpot])[l.length] = zSpot := by simp
  have g1 : (l ++ [zSpot, zSpot])[l.length + 1] = zSpot := by simp
  rw [g0] at f
  rw [g1] at f'
  exact ⟨own_cell h (f 0 (by omega)), own_cell h (f 1 (by omega)), own_cell h (f 2 (by omega)), own_cell h (f' 0 (by omega)), own_cell h (f' 1 (by omega)), own_cell h (f' 2 (by omega))⟩
theorem set_six (xs : List Value) (n : Nat) (h : xs.length = n * 3) (a b z : Value) : ((((((xs ++ [z, z, z, z, z, z]).set (n * 3) a).set (n * 3 + 1) z).set (n * 3 + 2) z).set ((n + 1) * 3) b).set ((n + 1) * 3 + 1) z).set ((n + 1) * 3 + 2) z = xs ++ [a, z, z, b, z, z] := by
  have e1 : (n + 1) * 3 = xs.length + 3 := by omega
  rw [e1, ← h]
  have f : ∀ (ys : List Value) (j : Nat) (u : Value), (xs ++ ys).set (xs.length + j) u = xs ++ ys.set j u := fun ys j u => by
    rw [List.set_append_right _ _ (by omega)]; congr 2; omega
  have f0 : ∀ (ys : List Value) (u : Value), (xs ++ ys).set xs.length u = xs ++ ys.set 0 u := fun ys u => f ys 0 u
  rw [f0, f, f, f, Nat.add_assoc xs.length 3 1, f, Nat.add_assoc xs.length 3 2, f]
  rfl
theorem lent_set (l : List SSpot) : (((((((l ++ [zSpot, zSpot]).flatMap spotCells).set (l.length * 3) (.int .i64 77)).set (l.length * 3 + 1) (.int .i64 0)).set (l.length * 3 + 2) (.int .i64 0)).set ((l.length + 1) * 3) (.int .i64 78)).set ((l.length + 1) * 3 + 1) (.int .i64 0)).set ((l.length + 1) * 3 + 2) (.int .i64 0) = (lentL l).flatMap spotCells := by
  have e2 : (l ++ [zSpot, zSpot]).flatMap spotCells = l.flatMap spotCells ++ [.int .i64 0, .int .i64 0, .int .i64 0, .int .i64 0, .int .i64 0, .int .i64 0] := by
    rw [List.flatMap_append]; rfl
  have e3 : (lentL l).flatMap spotCells = l.flatMap spotCells ++ [.int .i64 77, .int .i64 0, .int .i64 0, .int .i64 78, .int .i64 0, .int .i64 0] := by
    unfold lentL; rw [List.flatMap_append]; rfl
  rw [e2, e3]
  exact set_six _ _ (spots_len l) _ _ _

theorem lent_end {w w1 : World} {l : List SSpot} (hb : Below w.heap.size w w1) (ho : w1.ownsRow 0 49 3 (.slice (some ⟨w.heap.size, 0, none⟩) (l.length + 2) (l.length + 2)) (l.length + 2) ((l ++ [zSpot, zSpot]).flatMap spotCells)) :
    Below w.heap.size w ((((((w1.setCell ⟨w.heap.size, l.length * 3, none⟩ (.int .i64 77)).setCell ⟨w.heap.size, l.length * 3 + 1, none⟩ (.int .i64 0)).setCell ⟨w.heap.size, l.length * 3 + 2, none⟩ (.int .i64 0)).setCell ⟨w.heap.size, (l.length + 1) * 3, none⟩ (.int .i64 78)).setCell ⟨w.heap.size, (l.length + 1) * 3 + 1, none⟩ (.int .i64 0)).setCell ⟨w.heap.size, (l.length + 1) * 3 + 2, none⟩ (.int .i64 0)) ∧
    ((((((w1.setCell ⟨w.heap.size, l.length * 3, none⟩ (.int .i64 77)).setCell ⟨w.heap.size, l.length * 3 + 1, none⟩ (.int .i64 0)).setCell ⟨w.heap.size, l.length * 3 + 2, none⟩ (.int .i64 0)).setCell ⟨w.heap.size, (l.length + 1) * 3, none⟩ (.int .i64 78)).setCell ⟨w.heap.size, (l.length + 1) * 3 + 1, none⟩ (.int .i64 0)).setCell ⟨w.heap.size, (l.length + 1) * 3 + 2, none⟩ (.int .i64 0)).ownsRow 0 49 3 (.slice (some ⟨w.heap.size, 0, none⟩) (l.length + 2) (l.length + 2)) (l.length + 2) ((lentL l).flatMap spotCells) := by
  refine ⟨(((((hb.setCell (Nat.le_refl _) _).setCell (Nat.le_refl _) _).setCell (Nat.le_refl _) _).setCell (Nat.le_refl _) _).setCell (Nat.le_refl _) _).setCell (Nat.le_refl _) _, ?_⟩
  rw [← lent_set l]
  exact own_set (own_set (own_set (own_set (own_set (own_set ho _ _ (by omega)) _ _ (by omega)) _ _ (by omega)) _ _ (by omega)) _ _ (by omega)) _ _ (by omega)
/-- What is known behind the copy. -/
structure LentOut (w w1 : World) (l : List SSpot) : Prop where
  below : Hid (Below w.heap.size w w1)
  own : Hid (w1.ownsRow 0 49 3 (.slice (some ⟨w.heap.size, 0, none⟩) (l.length + 2) (l.length + 2)) (l.length + 2) ((l ++ [zSpot, zSpot]).flatMap spotCells))
theorem lent_copy {w : World} {ops : Array Oper} {rest : List Oper} {o : Oper} {a : Act} {Q : Exit → Act → World → Prop} {ao : Option Addr} {cap : Nat} {l : List SSpot} (hv : SpIn w (.slice ao l.length cap) l) (hl : l.length ≤ 2000000) (hgd : o.guard = none)
    (ho : o.op = .call { callee := .builtin .copy, args := #[.tmp 8, .tmp 9], argTypes := #[50, 50] }) (hd : a.eval (.tmp 8) = .slice (some ⟨w.heap.size, 0, none⟩) (l.length + 2) (l.length + 2)) (hs : a.eval (.tmp 9) = .slice ao l.length cap)
    (h : ∀ w1, LentOut w w1 l → wpList Tryd.prog ops Q rest (a.put o.dst (goInt l.length)) w1) : wpList Tryd.prog ops Q (o :: rest) a (w.alloc (.cells (madeCells #[.int .i64 0, .int .i64 0, .int .i64 0] ((l.length + 2) * 3)) 49)) := by
  refine wpList_copy_letter hgd (.tmp 8) (.tmp 9) 50 50 ho 49 3 Tryd.underlying50 Tryd.sizeSpot w.heap.size (l.length + 2) (l.length + 2) ao l.length cap hd hs (madeCells #[.int .i64 0, .int .i64 0, .int .i64 0] ((l.length + 2) * 3)) 49 (Go.heap_alloc_new w _) (l.flatMap spotCells) (by omega) (spots_len l) (hv.src ((Below.refl _ _).alloc (Nat.le_refl _) _)) (by rw [spots_len, size_madeCells]; omega) (spot_one l) ?_
  intro w1 hg1 hb1 _
  exact h w1 ⟨((Below.refl _ w).alloc (Nat.le_refl _) _).trans hb1, lent_row rfl hg1 (by unfold maxLen; omega)⟩

end Go.Proofs.YtlafddeoheambaaDoor

/-
  Spots that lie in the world, no two at one place, said plainly.
-/
namespace Go.Proofs.YtlafddeoheambaaDoor
open Go.RowKit

def okSpot (W H : Int) (s : SSpot) : Bool := inB s.x 0 (W - 1) && inB s.y 0 (H - 1)
def sameXY (a b : SSpot) : Bool := decide (a.x = b.x) && decide (a.y = b.y)
def apartGo (W H : Int) : List SSpot → List SSpot → Bool
  | _, [] => true
  | pre, s :: r => okSpot W H s && !(pre.any (fun a => sameXY a s)) && apartGo W H (pre ++ [s]) r
def apartB (l : List SSpot) (W H : Int) : Bool := apartGo W H [] l

theorem apart_step (W H : Int) (l : List SSpot) (k : Nat) (hk : k < l.length) :
    apartGo W H (l.take k) (l.drop k) = (okSpot W H l[k] && !((l.take k).any (fun a => sameXY a l[k])) && apartGo W H (l.take (k + 1)) (l.drop (k + 1))) := by
  rw [List.drop_eq_getElem_cons hk, List.take_succ_eq_append_getElem hk]
  rfl

end Go.Proofs.YtlafddeoheambaaDoor

/-
  The function apart of package hazeref: do spots lie in the world, no two at one place?
-/
namespace Go.Proofs.YtlafddeoheambaaDoor
open Go.RowKit

end Go.Proofs.YtlafddeoheambaaDoor

/-
  What becomes of the document's world in memory where it gets a spot of ore more, or a player more; what New makes, said plainly.
-/
namespace Go.Proofs.YtlafddeoheambaaDoor
open Go.RowKit

def YW.addOre (y : YW) (s : SSpot) (v : Value) : YW := { y with ore := y.ore ++ [s], vOre := v }
def YW.addPl (y : YW) (q : SPlayer × PV) (v : Value) : YW := { y with pls := y.pls ++ [q], vPl := v }

theorem fresh_cons {b g H : Nat} {a rest : List Nat} (h : (b :: (a ++ rest)).Nodup) (lt : ∀ r ∈ b :: (a ++ rest), r < H) (hg : H ≤ g) : (b :: ([g] ++ rest)).Nodup := by
  have l1 : b < H := lt b (by simp)
  have l2 : ∀ r ∈ rest, r < H := fun r hr => lt r (by simp [hr])
  simp only [List.nodup_cons, List.nodup_append, List.mem_append, not_or, List.singleton_append, List.mem_cons] at h ⊢
  refine ⟨⟨by omega, h.1.2⟩, ⟨fun hr => by have := l2 g hr; omega, h.2.2.1⟩⟩

theorem nodup_addPl {b g gu H : Nat} {o P l E : List Nat} (h : (b :: (o ++ (P ++ (l ++ E)))).Nodup) (lt : ∀ r ∈ b :: (o ++ (P ++ (l ++ E))), r < H) (hg : P = [g] ∨ H ≤ g) (hu : H ≤ gu) (hne : gu ≠ g) : (b :: (o ++ ([g] ++ (l ++ (E ++ [gu]))))).Nodup := by
  have lb : b < H := lt b (by simp)
  have lo : ∀ r ∈ o, r < H := fun r hr => lt r (by simp [hr])
  have ll : ∀ r ∈ l, r < H := fun r hr => lt r (by simp [hr])
  have lE : ∀ r ∈ E, r < H := fun r hr => lt r (by simp [hr])
  have key : (b :: (o ++ ([g] ++ (l ++ E)))).Nodup := by
    rcases hg with rfl | hg
    · exact h
    · simp only [List.nodup_cons, List.nodup_append, List.mem_append, not_or, List.singleton_append, List.mem_cons] at h ⊢
      obtain ⟨⟨n1, n2, n3, n4⟩, n5, ⟨n6, ⟨n7, n8, n9⟩, n10⟩, n11⟩ := h
      refine ⟨⟨n1, by omega, n3, n4⟩, n5, ⟨⟨fun hr => by have := ll g hr; omega, fun hr => by have := lE g hr; omega⟩, n7, n8, n9⟩, ?_⟩
      intro a ha c hc
      rcases hc with rfl | hc
      · have := lo a ha; omega
      · exact n11 a ha c (.inr hc)
  have e : b :: (o ++ ([g] ++ (l ++ (E ++ [gu])))) = (b :: (o ++ ([g] ++ (l ++ E)))) ++ [gu] := by simp
  rw [e, List.nodup_append]
  refine ⟨key, by simp, fun a ha c hc => ?_⟩
  have hc' : c = gu := by simpa using hc
  subst hc'
  simp only [List.mem_cons, List.mem_append, List.not_mem_nil, or_false] at ha
  rcases ha with rfl | ha | rfl | ha | ha
  · omega
  · have := lo a ha; omega
  · exact Ne.symm hne
  · have := ll a ha; omega
  · have := lE a ha; omega

def firstU.bytesA : ByteArray := ⟨#[97]⟩
def firstU (s : SSpot) : SUnit := { name := firstU.bytesA, x := s.x, y := s.y, head := 0, cargo := 0, what := emptyB, arg := emptyB }
def firstP (s : SSpot) : SPlayer := { money := 100, units := [firstU s], bids := [], news := [] }
/-- The world that New makes. -/
def newS (W H S : Int) (ore starts : List SSpot) : SWorld := { width := W, height := H, sight := S, now := 0, ore := ore, players := starts.map firstP, lots := [] }
/-- May New make a world? -/
def newB (W H S : Int) (ore starts : List SSpot) : Bool :=
  inB W 3 10 && inB H 3 10 && inB S 1 4 && inB starts.length 2 4 && decide (ore.length ≤ 6) && apartB ore W H && apartB starts W H && ore.all (fun s => inB s.amount 1 99)

end Go.Proofs.YtlafddeoheambaaDoor

/-
  The function New of package hazeref: the world that it makes.
-/
namespace Go.Proofs.YtlafddeoheambaaDoor
open Go.RowKit
attribute [local go_sem] Go.wp_at_zero Go.wp_at_succ

theorem bdrewN {B : Nat} {a w : World} (h : Below B a w) (n : Nat) : Below B a (w.drewN n) := ⟨h.os, h.tape, h.output, h.size, h.block⟩
theorem ret_n2 {a a' : Option Addr} {b b' : Int} (h1 : a = a') (h2 : b = b') : Ending.returned (.tuple #[.pointer a, .int .i64 b]) = .returned (.tuple #[.pointer a', .int .i64 b']) := by rw [h1, h2]

end Go.Proofs.YtlafddeoheambaaDoor

/-
  The function New of package hazeref: the loops that lay ore and players.
-/
namespace Go.Proofs.YtlafddeoheambaaDoor
open Go.RowKit
attribute [local go_sem] Go.wp_at_zero Go.wp_at_succ

end Go.Proofs.YtlafddeoheambaaDoor

/-
  The function New of package hazeref, where numbers and spots are right.
-/
namespace Go.Proofs.YtlafddeoheambaaDoor
open Go.RowKit
attribute [local go_sem] Go.wp_at_zero Go.wp_at_succ

theorem amounts_bad {W H S : Int} {ore starts : List SSpot} {k : Nat} (hk : k < ore.length) (h : inB ore[k].amount 1 99 = false) : newB W H S ore starts = false := by
  unfold newB
  have : ore.all (fun s => inB s.amount 1 99) = false := by
    rw [List.all_eq_false]
    exact ⟨ore[k], List.getElem_mem hk, by simp [h]⟩
  rw [this]
  simp

theorem keepOther {w5 wx w6 : World} {pb : Nat} {row : Option Nat} (hb : Below w5.heap.size w5 wx) (hg : wx.grownBy w6 row) (hp : pb < w5.heap.size) (hne : some pb ≠ row) (j : Nat) : w6.cell? ⟨pb, j, none⟩ = w5.cell? ⟨pb, j, none⟩ ∧ w6.frozen? ⟨pb, j, none⟩ = w5.frozen? ⟨pb, j, none⟩ := by
  have e : w6.heap[pb]? = w5.heap[pb]? := by rw [hg.block pb (Nat.lt_of_lt_of_le hp hb.size) hne, hb.block pb hp]
  exact ⟨World.cell?_of_block (w := w5) (a := ⟨pb, j, none⟩) e, World.frozen?_of_block (w := w5) (a := ⟨pb, j, none⟩) e⟩
theorem SpIn.cells {w : World} {ao : Option Addr} {c : Nat} {l : List SSpot} (h : SpIn w (.slice ao l.length c) l) {k : Nat} (hk : k < l.length) : ∃ b off, ao = some ⟨b, off, none⟩ ∧ b < w.heap.size ∧
    w.cell? ⟨b, off + k * 3, none⟩ = some (.int .i64 l[k].x) ∧ w.cell? ⟨b, off + k * 3 + 1, none⟩ = some (.int .i64 l[k].y) ∧ w.cell? ⟨b, off + k * 3 + 2, none⟩ = some (.int .i64 l[k].amount) := by
  obtain ⟨ao', c', e, h⟩ := h
  injection e with e1 e2 e3
  subst e1
  obtain ⟨b, off, h1, h2, hc⟩ := h (by omega)
  have f := fun j (hj : j < 3) => flat_at spotCells 3 (fun _ => rfl) l k j hk hj
  exact ⟨b, off, h1, h2, hc (k * 3 + 0) _ (f 0 (by omega)), hc (k * 3 + 1) _ (f 1 (by omega)), hc (k * 3 + 2) _ (f 2 (by omega))⟩

/-- The cells of a first unit. -/
def firstC (s : SSpot) : Array Value := #[.string ⟨#[97]⟩, .int .i64 s.x, .int .i64 s.y, .int .i64 0, .int .i64 0, .string ⟨#[]⟩, .string ⟨#[]⟩]
end Go.Proofs.YtlafddeoheambaaDoor

/-
  The functions amountsFit and apart of package haze.
-/
namespace Go.Proofs.YtlafddeoheambaaDoor
open Go.RowKit

/-- The first k amounts fit. -/
def fitTo (l : List SSpot) (k : Nat) : Prop := ∀ j (hj : j < l.length), j < k → inB l[j].amount 1 99 = true
theorem fitTo_all {l : List SSpot} {k : Nat} (h : fitTo l k) (hk : ¬ k < l.length) : l.all (fun s => inB s.amount 1 99) = true := by
  rw [List.all_eq_true]
  intro s hs
  obtain ⟨j, hj, rfl⟩ := List.mem_iff_getElem.1 hs
  exact h j hj (by omega)
theorem fitTo_no {l : List SSpot} {k : Nat} (hk : k < l.length) (h : inB l[k].amount 1 99 = false) : l.all (fun s => inB s.amount 1 99) = false := by
  rw [List.all_eq_false]
  exact ⟨l[k], List.getElem_mem hk, by simp [h]⟩

set_option maxRecDepth 100000 in
set_option maxHeartbeats 2000000 in
theorem amounts_any (w : World) (v : Value) (l : List SSpot) (hv : SpIn w v l) (hl : l.length ≤ 2000000) :
    Calls Tryd.prog 65 #[v] w fun e w' => e = .returned (.bool (l.all (fun s => inB s.amount 1 99))) ∧ Below w.heap.size w w' := by
  obtain ⟨ao, cap, rfl, hsrc⟩ := hv
  go_enter Tryd.func65, Tryd.ntmps65
  go_wp2
  go_loopw [4, 7] (fun _ i w' => ∃ k : Nat, k ≤ l.length ∧ i = .int .i64 k ∧ Below w.heap.size w w' ∧ Hid (fitTo l k)) (fun _ i _ => l.length + 1 - (intOf i).toNat)
  case atStart => exact ⟨0, Nat.zero_le _, rfl, Below.refl _ _, fun j hj h => absurd h (by omega)⟩
  case round =>
    obtain ⟨k, hk, rfl, hb, hf⟩ := hrel
    have HB := hidOf hb
    by_cases hlt : k < l.length
    · obtain ⟨b, off, rfl, hbl, hc⟩ := hsrc (by omega)
      have f := fun j (hj : j < 3) => flat_at spotCells 3 (fun _ => rfl) l k j hlt hj
      have d0 : wr.cell? ⟨b, off + k * 3, none⟩ = some (.int .i64 l[k].x) := (hb.cell hbl).trans (hc (k * 3 + 0) _ (f 0 (by omega)))
      have d1 : wr.cell? ⟨b, off + k * 3 + 1, none⟩ = some (.int .i64 l[k].y) := (hb.cell hbl).trans (hc (k * 3 + 1) _ (f 1 (by omega)))
      have d2 : wr.cell? ⟨b, off + k * 3 + 2, none⟩ = some (.int .i64 l[k].amount) := (hb.cell hbl).trans (hc (k * 3 + 2) _ (f 2 (by omega)))
      have HB2 := hidOf (fun o => hb.alloc hb.size o)
      clear hb hc f
      cases hx : inB l[k].amount 1 99
      · have G := hidOf (fitTo_no hlt hx)
        go_wp2_with (go_at_call 33; refine (between_any _ _ _ _).mono ?_; rintro e w' ⟨rfl, h⟩; rw [h, hx]; clear h w')
        go_ret
        exact ⟨ret_bool G.out.symm, HB2.out _⟩
      · have G : Hid (fitTo l (k + 1)) := fun j hj hjk => by
          by_cases e : j = k
          · subst e; exact hx
          · exact hf.out j hj (by omega)
        go_wp2_with (go_at_call 33; refine (between_any _ _ _ _).mono ?_; rintro e w' ⟨rfl, h⟩; rw [h, hx]; clear h w')
        exact ⟨⟨k + 1, by omega, by go_num, HB2.out _, G⟩, by simp [intOf]; omega⟩
    · have G := hidOf (fitTo_all hf.out hlt)
      go_wp2
      go_ret
      exact ⟨ret_bool G.out.symm, HB.out⟩
/-- What the map of the spots seen so far holds. -/
def seenB (pre : List SSpot) (x y : Int) : Bool := pre.any (fun a => decide (a.x = x) && decide (a.y = y))
def SeenOK (pre : List SSpot) (l : List CE) : Prop := ∀ x y, look x y l = if seenB pre x y then some 1 else none
theorem SeenOK.add {pre : List SSpot} {l : List CE} (h : SeenOK pre l) (s : SSpot) (c : Nat) : SeenOK (pre ++ [s]) (cput s.x s.y 1 c l) := by
  intro x y
  rw [look_put]
  by_cases e : x = s.x ∧ y = s.y
  · simp [seenB, e]
  · rw [if_neg e, h x y]
    have : seenB (pre ++ [s]) x y = seenB pre x y := by
      simp only [seenB, List.any_append, List.any_cons, List.any_nil, Bool.or_false]
      have : (decide (s.x = x) && decide (s.y = y)) = false := by
        simp only [Bool.and_eq_false_iff, decide_eq_false_iff_not]
        omega
      rw [this]
      simp
    rw [this]
theorem seen_same (pre : List SSpot) (s : SSpot) : pre.any (fun a => sameXY a s) = seenB pre s.x s.y := rfl

set_option maxRecDepth 100000 in
set_option maxHeartbeats 4000000 in
theorem xapart_any (w : World) (v : Value) (l : List SSpot) (W H : Int) (hv : SpIn w v l) (hl : l.length ≤ 2000000) (hW : 3 ≤ W ∧ W ≤ 10) (hH : 3 ≤ H ∧ H ≤ 10) (hin : ∀ s ∈ l, (-9223372036854775808 ≤ s.x ∧ s.x ≤ 9223372036854775807) ∧ (-9223372036854775808 ≤ s.y ∧ s.y ≤ 9223372036854775807)) :
    Calls Tryd.prog 64 #[.agg #[.int .i64 W, .int .i64 H], v] w fun e w' => e = .returned (.bool (apartB l W H)) ∧ Below w.heap.size w w' := by
  obtain ⟨ao, cap, rfl, hsrc⟩ := hv
  have hmm : ∀ wx : World, (Instr.makeMap 68 none).run Tryd.prog wx = .ok (.map (some wx.heap.size)) (wx.alloc (.map #[] 0)) := fun wx => rfl
  go_enter Tryd.func64, Tryd.ntmps64
  go_wp2
  clear hmm
  go_loopw [7, 8, 12] (fun _ _ i w' => ∃ (k : Nat) (ls : List CE) (c : Nat), k ≤ l.length ∧ i = .int .i64 k ∧ Below w.heap.size w w' ∧ w'.heap[w.heap.size]? = some (.cells #[.int .i64 W, .int .i64 H] 67 (0, 0)) ∧ MapD w' (w.heap.size + 1) ls c ∧ Hid (SeenOK (l.take k) ls) ∧ Hid (apartB l W H = apartGo W H (l.take k) (l.drop k))) (fun _ _ i _ => l.length + 1 - (intOf i).toNat)
  case atStart =>
    refine ⟨0, [], 0, Nat.zero_le _, rfl, ?_, ?_, ⟨⟨?_, by simp⟩, by simp [keysD]⟩, ?_, by unfold Hid; simp [apartB]⟩
    · exact (((Below.refl _ w).alloc (Nat.le_refl _) _)).alloc (by simp) _
    · rw [Below.heap_alloc _ _ _ (by simp)]
      exact Go.heap_alloc_new w _
    · have e : (w.alloc (.cells #[.int .i64 W, .int .i64 H] 67)).heap.size = w.heap.size + 1 := by simp
      rw [← e]
      exact Go.heap_alloc_new _ _
    · intro x y
      simp [look, seenB]
  case round =>
    obtain ⟨k, ls, c, hk, rfl, hb, hsd, hm, hso, ha⟩ := hrel
    have HB := hidOf hb
    by_cases hlt : k < l.length
    · obtain ⟨b, off, rfl, hbl, hc⟩ := hsrc (by omega)
      have f := fun j (hj : j < 3) => flat_at spotCells 3 (fun _ => rfl) l k j hlt hj
      have d0 : wr.cell? ⟨b, off + k * 3, none⟩ = some (.int .i64 l[k].x) := (hb.cell hbl).trans (hc (k * 3 + 0) _ (f 0 (by omega)))
      have d1 : wr.cell? ⟨b, off + k * 3 + 1, none⟩ = some (.int .i64 l[k].y) := (hb.cell hbl).trans (hc (k * 3 + 1) _ (f 1 (by omega)))
      have d2 : wr.cell? ⟨b, off + k * 3 + 2, none⟩ = some (.int .i64 l[k].amount) := (hb.cell hbl).trans (hc (k * 3 + 2) _ (f 2 (by omega)))
      have st := apart_step W H l k hlt
      have hi := hin l[k] (List.getElem_mem hlt)
      have HHo := hidOf (fun wx => hold_any W H l[k].x l[k].y wx hi.1 hi.2 hW hH)
      obtain ⟨o, ho⟩ : ∃ o : Obj, o = .cells #[.int .i64 l[k].x, .int .i64 l[k].y, .int .i64 l[k].amount] 49 := ⟨_, rfl⟩
      have ha1 := hb.alloc hb.size o
      have hsz : w.heap.size + 1 < wr.heap.size := lt_of_some hm.is.1
      have s0 : ∀ o, (wr.alloc o).cell? ⟨w.heap.size, 0, none⟩ = some (.int .i64 W) := fun o => by
        rw [World.cell?_alloc_past _ _ _ (by show w.heap.size < _; omega), cell_of_row _ _ _ _ _ _ hsd]; rfl
      have s1 : ∀ o, (wr.alloc o).cell? ⟨w.heap.size, 1, none⟩ = some (.int .i64 H) := fun o => by
        rw [World.cell?_alloc_past _ _ _ (by show w.heap.size < _; omega), cell_of_row _ _ _ _ _ _ hsd]; rfl
      have HSd := hidOf hsd
      have HM := hidOf hm
      have HZ := hidOf hsz
      cases hho : (inB l[k].x 0 (W - 1) && inB l[k].y 0 (H - 1))
      · have G : Hid (apartB l W H = false) := by unfold Hid; rw [ha.out, st]; simp [okSpot, hho]
        rw [hho] at HHo
        clear hb hc f hsd hm ha1 ho hsz
        go_wp2_with (first | (go_at_call 36; refine (at_any _ _ _).mono ?_; rintro e w' ⟨rfl, h⟩; rw [h]; clear h w') | (go_at_call 78; refine (HHo.out _).mono ?_; rintro e w2 ⟨rfl, hb2⟩))
        go_ret
        exact ⟨ret_bool G.out.symm, (HB.out.alloc HB.out.size _).trans (hb2.mono (Nat.le_trans HB.out.size (by simp)))⟩
      · rw [hho] at HHo
        have bx : 0 ≤ l[k].x ∧ l[k].x ≤ 9 := by simp [inB] at hho; omega
        have bY : 0 ≤ l[k].y ∧ l[k].y ≤ 9 := by simp [inB] at hho; omega
        have hlook := hso.out l[k].x l[k].y
        have HH2 : Hid (∀ o, Calls Tryd.prog 78 #[.agg #[.int .i64 W, .int .i64 H], .complex .f64 (flI l[k].x) (flI l[k].y)] (wr.alloc o) fun e w2 => e = .returned (.bool true) ∧ Hid (Below w.heap.size w w2) ∧ Hid (w2.heap[w.heap.size]? = some (.cells #[.int .i64 W, .int .i64 H] 67 (0, 0))) ∧ Hid (MapD w2 (w.heap.size + 1) ls c) ∧
            (Instr.lookup 68 (.map (some (w.heap.size + 1))) (.complex .f64 (flI l[k].x) (flI l[k].y)) false).run Tryd.prog w2 = .ok (.int .i64 ((look l[k].x l[k].y ls).getD 0)) w2) := by
          intro o
          refine (HHo.out (wr.alloc o)).mono ?_
          rintro e w2 ⟨rfl, hb2⟩
          have sz : (wr.alloc o).heap.size = wr.heap.size + 1 := by simp
          have hm2 : MapD w2 (w.heap.size + 1) ls c := HM.out.same ((hb2.block _ (by rw [sz]; omega)).trans (Below.heap_alloc _ _ _ HZ.out))
          refine ⟨rfl, (hb.alloc hb.size _).trans (hb2.mono (by rw [sz]; have := hb.size; omega)), ?_, hm2, hm2.lookup l[k].x l[k].y bx bY⟩
          unfold Hid
          rw [hb2.block _ (by rw [sz]; omega), Below.heap_alloc _ _ _ (by omega)]
          exact HSd.out
        cases hsn : seenB (l.take k) l[k].x l[k].y
        · rw [hsn] at hlook
          have hlk : look l[k].x l[k].y ls = none := hlook
          simp only [hlk, Option.getD_none] at HH2
          have G : Hid (apartB l W H = apartGo W H (l.take (k + 1)) (l.drop (k + 1))) := by unfold Hid; rw [ha.out, st, seen_same, hsn]; simp [okSpot, hho]
          clear hb hc f hsd hm ha1 ho hsz hlook hlk
          go_wp2_with (first | (go_at_call 36; refine (at_any _ _ _).mono ?_; rintro e w' ⟨rfl, h⟩; rw [h]; clear h w') | (go_at_call 78; refine (HH2.out _).mono ?_; rintro e w2 ⟨rfl, hb2, hs2, hm2, hlk⟩; obtain ⟨w3, hup, hm3, hp3⟩ := hm2.out.update l[k].x l[k].y 1 bx bY; have HM3 := hidOf hm3; have HP3 := hidOf hp3; clear hm3 hp3))
          refine ⟨⟨k + 1, _, _, by omega, by go_num, ?_, ?_, HM3.out, ?_, G⟩, by simp [intOf]; omega⟩
          · have b2 := hb2.out
            exact ⟨HP3.out.os.trans b2.os, HP3.out.tape.trans b2.tape, HP3.out.output.trans b2.output, by rw [HP3.out.size]; exact b2.size, fun j hj => by rw [HP3.out.block j (by omega), b2.block j hj]⟩
          · rw [HP3.out.block _ (by omega)]
            exact hs2.out
          · unfold Hid
            rw [List.take_succ_eq_append_getElem hlt]
            exact hso.out.add l[k] c
        · rw [hsn] at hlook
          have hlk : look l[k].x l[k].y ls = some 1 := hlook
          simp only [hlk, Option.getD_some] at HH2
          have G : Hid (apartB l W H = false) := by unfold Hid; rw [ha.out, st, seen_same, hsn]; simp
          clear hb hc f hsd hm ha1 ho hsz hlook hlk
          go_wp2_with (first | (go_at_call 36; refine (at_any _ _ _).mono ?_; rintro e w' ⟨rfl, h⟩; rw [h]; clear h w') | (go_at_call 78; refine (HH2.out _).mono ?_; rintro e w2 ⟨rfl, hb2, hs2, hm2, hlk⟩))
          go_ret
          exact ⟨ret_bool G.out.symm, hb2.out⟩
    · have G : Hid (apartB l W H = true) := by
        unfold Hid
        rw [ha.out, List.drop_of_length_le (by omega)]
        rfl
      go_wp2
      go_ret
      exact ⟨ret_bool G.out.symm, HB.out⟩
end Go.Proofs.YtlafddeoheambaaDoor

/-
  The function fits of package haze.
-/
namespace Go.Proofs.YtlafddeoheambaaDoor
open Go.RowKit

/-- The two blocks that fits lays, and that all that was there stays. -/
structure FB (w : World) (W H S : Int) (vo vs : Value) (wx : World) : Prop where
  b : Below w.heap.size w wx
  c : wx.heap[w.heap.size]? = some (.cells #[.int .i64 W, .int .i64 H, .int .i64 S, vo, vs] 54 (0, 0))
  s : wx.heap[w.heap.size + 1]? = some (.cells #[.int .i64 W, .int .i64 H] 67 (0, 0))
theorem FB.first (w : World) (W H S : Int) (vo vs : Value) : FB w W H S vo vs ((w.alloc (.cells #[.int .i64 W, .int .i64 H, .int .i64 S, vo, vs] 54)).alloc (.cells #[.int .i64 W, .int .i64 H] 67)) := by
  refine ⟨(((Below.refl _ w).alloc (Nat.le_refl _) _)).alloc (by simp) _, ?_, ?_⟩
  · rw [Below.heap_alloc _ _ _ (by simp)]
    exact Go.heap_alloc_new w _
  · have e : (w.alloc (.cells #[.int .i64 W, .int .i64 H, .int .i64 S, vo, vs] 54)).heap.size = w.heap.size + 1 := by simp
    rw [← e]
    exact Go.heap_alloc_new _ _
theorem FB.below {w wx w' : World} {W H S : Int} {vo vs : Value} (h : FB w W H S vo vs wx) (hb : Below wx.heap.size wx w') : FB w W H S vo vs w' :=
  ⟨h.b.trans (hb.mono h.b.size), by rw [hb.block _ (lt_of_some h.c)]; exact h.c, by rw [hb.block _ (lt_of_some h.s)]; exact h.s⟩
theorem FB.cells {w wx : World} {W H S : Int} {vo vs : Value} (h : FB w W H S vo vs wx) : wx.cell? ⟨w.heap.size, 0, none⟩ = some (.int .i64 W) ∧ wx.cell? ⟨w.heap.size, 1, none⟩ = some (.int .i64 H) ∧ wx.cell? ⟨w.heap.size, 2, none⟩ = some (.int .i64 S) ∧ wx.cell? ⟨w.heap.size, 3, none⟩ = some vo ∧ wx.cell? ⟨w.heap.size, 4, none⟩ = some vs ∧ wx.cell? ⟨w.heap.size + 1, 0, none⟩ = some (.int .i64 W) ∧ wx.cell? ⟨w.heap.size + 1, 1, none⟩ = some (.int .i64 H) := by
  refine ⟨?_, ?_, ?_, ?_, ?_, ?_, ?_⟩
  all_goals first
    | (rw [cell_of_row _ _ _ _ _ _ h.c]; rfl)
    | (rw [cell_of_row _ _ _ _ _ _ h.s]; rfl)

def I64s (l : List SSpot) : Prop := ∀ s ∈ l, (-9223372036854775808 ≤ s.x ∧ s.x ≤ 9223372036854775807) ∧ (-9223372036854775808 ≤ s.y ∧ s.y ≤ 9223372036854775807)

set_option maxRecDepth 100000 in
set_option maxHeartbeats 4000000 in
theorem fits_any (w : World) (W H S : Int) (vo vs : Value) (ore starts : List SSpot) (ho : SpIn w vo ore) (hs : SpIn w vs starts) (hl : starts.length ≤ 2000000) (hlo : ore.length ≤ 2000000) (io : I64s ore) (is : I64s starts) :
    Calls Tryd.prog 35 #[.agg #[.int .i64 W, .int .i64 H, .int .i64 S, vo, vs]] w fun e w' => e = .returned (.bool (newB W H S ore starts)) ∧ Below w.heap.size w w' := by
  have HF0 := hidOf (FB.first w W H S vo vs)
  obtain ⟨ao, co, evo, hso⟩ := ho
  obtain ⟨aS, cS, evs, hss⟩ := hs
  have HIo : Hid (∀ wx, FB w W H S vo vs wx → SpIn wx vo ore) := fun wx h => SpIn.below (w := w) ⟨ao, co, evo, hso⟩ h.b
  have HIs : Hid (∀ wx, FB w W H S vo vs wx → SpIn wx vs starts) := fun wx h => SpIn.below (w := w) ⟨aS, cS, evs, hss⟩ h.b
  clear hso hss
  cases h1 : inB W 3 10
  · have G : Hid (newB W H S ore starts = false) := by unfold Hid newB; rw [h1]; simp
    subst evo evs
    go_enter Tryd.func35, Tryd.ntmps35
    go_wp2_with (first | (go_at_call 33; refine (between_any _ _ _ _).mono ?_; rintro e w' ⟨rfl, h⟩; rw [h]; clear h w'))
    go_ret
    exact ⟨ret_bool G.out.symm, HF0.out.b⟩
  cases h2 : inB H 3 10
  · have G : Hid (newB W H S ore starts = false) := by unfold Hid newB; rw [h1, h2]; simp
    subst evo evs
    go_enter Tryd.func35, Tryd.ntmps35
    go_wp2_with (first | (go_at_call 33; refine (between_any _ _ _ _).mono ?_; rintro e w' ⟨rfl, h⟩; rw [h]; clear h w'))
    go_ret
    exact ⟨ret_bool G.out.symm, HF0.out.b⟩
  cases h3 : inB S 1 4
  · have G : Hid (newB W H S ore starts = false) := by unfold Hid newB; rw [h1, h2, h3]; simp
    subst evo evs
    go_enter Tryd.func35, Tryd.ntmps35
    go_wp2_with (first | (go_at_call 33; refine (between_any _ _ _ _).mono ?_; rintro e w' ⟨rfl, h⟩; rw [h]; clear h w'))
    go_ret
    exact ⟨ret_bool G.out.symm, HF0.out.b⟩
  cases h4 : inB (starts.length : Int) 2 4
  · have G : Hid (newB W H S ore starts = false) := by unfold Hid newB; rw [h1, h2, h3, h4]; simp
    subst evo evs
    go_enter Tryd.func35, Tryd.ntmps35
    go_wp2_with (first | (go_at_call 33; refine (between_any _ _ _ _).mono ?_; rintro e w' ⟨rfl, h⟩; rw [h]; clear h w'))
    go_ret
    exact ⟨ret_bool G.out.symm, HF0.out.b⟩
  by_cases h5 : (ore.length : Int) ≤ 6
  rotate_left
  · have h5' : ¬ (ore.length ≤ 6) := by omega
    have G : Hid (newB W H S ore starts = false) := by unfold Hid newB; simp [h5']
    subst evo evs
    go_enter Tryd.func35, Tryd.ntmps35
    go_wp2_with (first | (go_at_call 33; refine (between_any _ _ _ _).mono ?_; rintro e w' ⟨rfl, h⟩; rw [h]; clear h w'))
    go_ret
    exact ⟨ret_bool G.out.symm, HF0.out.b⟩
  have h5' : ore.length ≤ 6 := by omega
  have hWH : (3 ≤ W ∧ W ≤ 10) ∧ (3 ≤ H ∧ H ≤ 10) := by simp [inB] at h1 h2; exact ⟨h1, h2⟩
  have HA1 : Hid (∀ wx, FB w W H S vo vs wx → Calls Tryd.prog 64 #[.agg #[.int .i64 W, .int .i64 H], vs] wx fun e w' => e = .returned (.bool (apartB starts W H)) ∧ Hid (FB w W H S vo vs w')) := fun wx hx =>
    (xapart_any wx vs starts W H (HIs.out wx hx) hl hWH.1 hWH.2 is).mono (fun e w' ⟨h1, h2⟩ => ⟨h1, hx.below h2⟩)
  have HA2 : Hid (∀ wx, FB w W H S vo vs wx → Calls Tryd.prog 64 #[.agg #[.int .i64 W, .int .i64 H], vo] wx fun e w' => e = .returned (.bool (apartB ore W H)) ∧ Hid (FB w W H S vo vs w')) := fun wx hx =>
    (xapart_any wx vo ore W H (HIo.out wx hx) hlo hWH.1 hWH.2 io).mono (fun e w' ⟨h1, h2⟩ => ⟨h1, hx.below h2⟩)
  have HA3 : Hid (∀ wx, FB w W H S vo vs wx → Calls Tryd.prog 65 #[vo] wx fun e w' => e = .returned (.bool (ore.all (fun s => inB s.amount 1 99))) ∧ Hid (FB w W H S vo vs w')) := fun wx hx =>
    (amounts_any wx vo ore (HIo.out wx hx) hlo).mono (fun e w' ⟨h1, h2⟩ => ⟨h1, hx.below h2⟩)
  clear hWH
  subst evo evs
  cases h6 : apartB starts W H
  · have G : Hid (newB W H S ore starts = false) := by unfold Hid newB; rw [h6]; simp
    go_enter Tryd.func35, Tryd.ntmps35
    go_wp2_with (first | (go_at_call 33; refine (between_any _ _ _ _).mono ?_; rintro e w' ⟨rfl, h⟩; rw [h]; clear h w') | (go_at_call 64; refine (HA1.out _ HF0.out).mono ?_; rintro e w1 ⟨rfl, hb1⟩; obtain ⟨f0, f1, f2, f3, f4, g0, g1⟩ := hb1.out.cells))
    go_ret
    exact ⟨ret_bool G.out.symm, hb1.out.b⟩
  cases h7 : apartB ore W H
  · have G : Hid (newB W H S ore starts = false) := by unfold Hid newB; rw [h7]; simp
    go_enter Tryd.func35, Tryd.ntmps35
    go_wp2_with (first | (go_at_call 33; refine (between_any _ _ _ _).mono ?_; rintro e w' ⟨rfl, h⟩; rw [h]; clear h w') | (go_at_call 64; refine (HA2.out _ hb1.out).mono ?_; rintro e w2 ⟨rfl, hb2⟩; obtain ⟨p0, p1, p2, p3, p4, q0, q1⟩ := hb2.out.cells) | (go_at_call 64; refine (HA1.out _ HF0.out).mono ?_; rintro e w1 ⟨rfl, hb1⟩; obtain ⟨f0, f1, f2, f3, f4, g0, g1⟩ := hb1.out.cells))
    go_ret
    exact ⟨ret_bool G.out.symm, hb2.out.b⟩
  have G : Hid (newB W H S ore starts = ore.all (fun s => inB s.amount 1 99)) := by unfold Hid newB; rw [h1, h2, h3, h4, h6, h7]; simp [h5']
  go_enter Tryd.func35, Tryd.ntmps35
  go_wp2_with (first | (go_at_call 33; refine (between_any _ _ _ _).mono ?_; rintro e w' ⟨rfl, h⟩; rw [h]; clear h w') | (go_at_call 65; refine (HA3.out _ hb2.out).mono ?_; rintro e w3 ⟨rfl, hb3⟩) | (go_at_call 64; refine (HA2.out _ hb1.out).mono ?_; rintro e w2 ⟨rfl, hb2⟩; obtain ⟨p0, p1, p2, p3, p4, q0, q1⟩ := hb2.out.cells) | (go_at_call 64; refine (HA1.out _ HF0.out).mono ?_; rintro e w1 ⟨rfl, hb1⟩; obtain ⟨f0, f1, f2, f3, f4, g0, g1⟩ := hb1.out.cells))
  go_ret
  exact ⟨ret_bool G.out.symm, hb3.out.b⟩
end Go.Proofs.YtlafddeoheambaaDoor

/-
  The function move of package haze.
-/
namespace Go.Proofs.YtlafddeoheambaaDoor
open Go.RowKit

def moveS (s : SWorld) (n k : Nat) (p : SPlayer) (u : SUnit) : SWorld :=
  if freeS s (u.x + dxI u.head) (u.y + dyI u.head) then s.setPl n { p with units := p.units.set k { u with x := u.x + dxI u.head, y := u.y + dyI u.head } } else s

set_option maxRecDepth 100000 in
set_option maxHeartbeats 2000000 in
theorem move_any (w : World) (X : XW) (n k : Nat) (p : SPlayer) (v : XV) (u : SUnit) (x : XU) (ha : AtX w X n k p v u x) (ho : OkX X) (hb : BdX X u) :
    Calls Tryd.prog 45 #[.pointer (some ⟨X.b, 0, none⟩), .int .i64 n, .pointer (some ⟨x.g, 0, none⟩)] w fun e w' => e = .returned (.tuple #[]) ∧ ∃ X', TurnX w X w' X' ∧ OkX X' ∧ X'.S = moveS X.S n k p u := by
  have HA := hidOf (freeAhead_any w X ha.rep hb.w hb.h u x ha.unit hb.x hb.y)
  have HX := hidOf ha
  have bx := hb.x
  have bY := hb.y
  have HO := hidOf ho
  cases hF : freeV X.width X.height (u.x + dxI u.head) (u.y + dyI u.head) X.ls
  · rw [hF] at HA
    have HS : Hid (moveS X.S n k p u = X.S) := by unfold Hid moveS; rw [← freeV_S HO.out, hF]; rfl
    clear ha ho hF
    go_enter Tryd.func45, Tryd.ntmps45
    go_wp2_with (go_at_call 66; refine HA.out.mono ?_; rintro e w1 ⟨rfl, hb1⟩)
    refine bodyPost_ret (results_none rfl _ _ _) rfl ?_
    exact ⟨rfl, X, (TurnX.refl HX.out.rep).below hb1, HO.out, HS.out.symm⟩
  · rw [hF] at HA
    have HS : Hid (moveS X.S n k p u = X.S.setPl n { p with units := p.units.set k { u with x := u.x + dxI u.head, y := u.y + dyI u.head } }) := by unfold Hid moveS; rw [← freeV_S HO.out, hF]; rfl
    have hF' : freeV X.width X.height (u.x + dxI u.head) (u.y + dyI u.head) X.ls = true := hF
    unfold freeV at hF'
    simp only [Bool.and_eq_true] at hF'
    have HL : Hid (look (u.x + dxI u.head) (u.y + dyI u.head) X.ls = none) := by
      have := hF'.2
      unfold Hid
      cases hl : look (u.x + dxI u.head) (u.y + dyI u.head) X.ls with
      | none => rfl
      | some m => rw [hl] at this; cases this
    have hw := hb.w
    have hh := hb.h
    have nx : 0 ≤ u.x + dxI u.head ∧ u.x + dxI u.head ≤ 9 := by have := hF'.1.1; simp [inB] at this; omega
    have ny : 0 ≤ u.y + dyI u.head ∧ u.y + dyI u.head ≤ 9 := by have := hF'.1.2; simp [inB] at this; omega
    clear ha ho hF hF' hw hh
    go_enter Tryd.func45, Tryd.ntmps45
    go_wp2_with (go_at_call 66; refine HA.out.mono ?_; rintro e w1 ⟨rfl, hb1⟩)
    have T1 := hidOf ((TurnX.refl HX.out.rep).below hb1)
    have A1 : Hid (AtX w1 X n k p v u x) := ⟨HX.out.q, HX.out.u, HX.out.x, T1.out.rep⟩
    clear hb1
    have c4 : w1.cell? ⟨X.b, 5, none⟩ = some (.map (some X.ms)) := T1.out.rep.cellTop rfl
    have d1 : w1.cell? ⟨x.g, 1, none⟩ = some (.complex .f64 (flI u.x) (flI u.y)) := A1.out.unit.cell rfl
    have HM := hidOf T1.out.rep.st.drew
    have hst := run_store_c
    go_region_law (refine step_delete_c rfl _ _ 68 77 rfl 3 Tryd.underlying68 Tryd.underlying77 X.ms X.cs X.ls rfl HM.out u.x u.y rfl bx bY ?_; intro w2 hm2 hp2)
    all_goals
      have T2 := hidOf (T1.out.drew.st1 hp2 hm2)
      have A2 : Hid (AtX w2 (X.withLs (cdel u.x u.y X.ls) X.cs) n k p v u x) := ⟨HX.out.q, HX.out.u, HX.out.x, T2.out.rep⟩
      have e4 : w2.cell? ⟨X.b, 5, none⟩ = some (.map (some X.ms)) := T2.out.rep.cellTop rfl
      have HM2 := hidOf hm2
      clear c4 d1 HM hm2 hp2
      go_wp2_with (at_mapUpdate; refine wpList_update_c _ rfl _ _ _ 68 rfl 77 3 Tryd.underlying68 Tryd.underlying77 X.ms X.cs (cdel u.x u.y X.ls) rfl HM2.out (u.x + dxI u.head) (u.y + dyI u.head) n rfl rfl nx ny ?_; intro w3 hm3 hp3; have T3 := hidOf (T2.out.st1 hp3 hm3); have A3 := hidOf (AtX.mk (w := w3) (X := (X.withLs (cdel u.x u.y X.ls) X.cs).withLs (cput (u.x + dxI u.head) (u.y + dyI u.head) n X.cs (cdel u.x u.y X.ls)) (cclock (u.x + dxI u.head) (u.y + dyI u.head) (cdel u.x u.y X.ls) X.cs)) HX.out.q HX.out.u HX.out.x T3.out.rep); have g1 : w3.cell? ⟨x.g, 1, none⟩ = some (.complex .f64 (flI u.x) (flI u.y)) := A3.out.unit.cell rfl; have fz : w3.frozen? ⟨x.g, 1, none⟩ = false := A3.out.unit.frozen 1; clear hm3 hp3)
      go_end0
      refine ⟨rfl, _, T3.out.unit1 A3.out.q A3.out.u A3.out.x 1 { u with x := u.x + dxI u.head, y := u.y + dyI u.head } x _ rfl rfl A3.out.unit.head A3.out.unit.what, ⟨?_, HO.out.ore, HO.out.dist, lotQ HO.out.lot HX.out.q rfl⟩, ?_⟩
      · have hst := HO.out.st.go HX.out.rep.st.keys (posL_at (XS_at HX.out.q)) (posP_at HX.out.u) HL.out X.cs
        simp only [XW.setQ, XW.withLs, List.map_set]
        rw [posL_set]
        have e : posP { p with units := p.units.set k { u with x := u.x + dxI u.head, y := u.y + dyI u.head } } = (posP p).set k (u.x + dxI u.head, u.y + dyI u.head) := by simp [posP, List.map_set]
        rw [e]
        exact hst
      · rw [HS.out, XS_setQ]
        rfl
end Go.Proofs.YtlafddeoheambaaDoor
