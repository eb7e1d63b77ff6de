/-
  Maps by spots (complex keys): what looking up, storing and deleting come to.
-/
import Derived.Test.YtlafddeoheambaaGreatDoorT01
import Derived.Maps.OwnSet
import Derived.Lib.Bytealg
import Derived.Lib.ItoaNum
set_option linter.unusedVariables false
namespace Go.Proofs.YtlafddeoheambaaGreatDoor
open Go.RowKit

/-- An entry: a spot, a number, when it was laid. -/
structure CE where
  x : Int
  y : Int
  v : Int
  born : Nat
def CE.e (c : CE) : MapEntry := { key := .complex .f64 (flI c.x) (flI c.y), val := .int .i64 c.v, born := c.born }
def CE.ok (c : CE) : Prop := (0 ≤ c.x ∧ c.x ≤ 9) ∧ (0 ≤ c.y ∧ c.y ≤ 9)
/-- Where the entry of a spot stands, and what it holds. -/
def cfind (x y : Int) : List CE → Nat → Option (Nat × Int)
  | [], _ => none
  | c :: r, i => if x = c.x ∧ y = c.y then some (i, c.v) else cfind x y r (i + 1)

theorem fl_same : ∀ x : Fin 10, ∀ y : Fin 10, Op.floatEq .f64 (flI (x.val : Int)) (flI (y.val : Int)) = decide (x.val = y.val) := by decide +kernel
theorem fl_eq (x y : Int) (hx : 0 ≤ x ∧ x ≤ 9) (hy : 0 ≤ y ∧ y ≤ 9) : Op.floatEq .f64 (flI x) (flI y) = decide (x = y) := by
  obtain ⟨i, rfl⟩ := Int.eq_ofNat_of_zero_le hx.1
  obtain ⟨j, rfl⟩ := Int.eq_ofNat_of_zero_le hy.1
  have := fl_same ⟨i, by omega⟩ ⟨j, by omega⟩
  simp only at this
  rw [this]
  exact decide_eq_decide.2 (by omega)

theorem run_equalIn_c {P : Program} (w : World) (n : Nat) (t : TypeId) (a b c d : Nat) (h : P.underlying t = some (.complex .f64)) : (Op.equalIn (n + 1) t (.complex .f64 a b) (.complex .f64 c d)).run P w = .ok (Op.floatEq .f64 a c && Op.floatEq .f64 b d) w := by
  simp [Op.equalIn, run_underlying h]
theorem run_equal_c {P : Program} (w : World) (t : TypeId) (a b c d : Nat) (h : P.underlying t = some (.complex .f64)) : (Op.equal t (.complex .f64 a b) (.complex .f64 c d)).run P w = .ok (Op.floatEq .f64 a c && Op.floatEq .f64 b d) w := run_equalIn_c w 9999 t a b c d h

theorem run_asking {P : Program} (w : World) (t : TypeId) (x y : Int) (h : P.underlying t = some (.complex .f64)) (hx : 0 ≤ x ∧ x ≤ 9) (hy : 0 ≤ y ∧ y ≤ 9) : ∀ (l : List CE) (i : Nat), (∀ c ∈ l, c.ok) →
    (Instr.findAsking t (.complex .f64 (flI x) (flI y)) (l.map CE.e) i).run P w = .ok ((cfind x y l i).map (fun p => (p.1, .int .i64 p.2))) w := by
  intro l
  induction l with
  | nil => intro i _; simp [Instr.findAsking, cfind]
  | cons c l ih =>
    intro i hok
    have hc := hok c (by simp)
    simp only [List.map_cons, Instr.findAsking, cfind]
    rw [Sem.run_bind]
    show (Result.andThen ((Op.equal t (.complex .f64 (flI x) (flI y)) (.complex .f64 (flI c.x) (flI c.y))).run P w) _) = _
    rw [run_equal_c w t _ _ _ _ h, fl_eq x c.x hx hc.1, fl_eq y c.y hy hc.2, Result.andThen_ok]
    by_cases e : x = c.x ∧ y = c.y
    · rw [if_pos e]
      simp [e.1, e.2, CE.e]
    · rw [if_neg e]
      have : (decide (x = c.x) && decide (y = c.y)) = false := by simpa using e
      rw [this]
      simp only [Bool.false_eq_true, if_false]
      exact ih (i + 1) (fun d hd => hok d (by simp [hd]))

theorem run_find {P : Program} (w : World) (t : TypeId) (x y : Int) (h : P.underlying t = some (.complex .f64)) (hx : 0 ≤ x ∧ x ≤ 9) (hy : 0 ≤ y ∧ y ≤ 9) (l : List CE) (hok : ∀ c ∈ l, c.ok) :
    (Instr.findKey t (.complex .f64 (flI x) (flI y)) (l.map CE.e)).run P w = .ok ((cfind x y l 0).map (fun p => (p.1, .int .i64 p.2))) w := by
  have ha := run_asking w t x y h hx hy l 0 hok
  unfold Instr.findKey
  rw [Sem.run_bind, run_underlying h]
  simp only [Result.andThen_ok]
  cases l with
  | nil => simp [Instr.findNow, cfind]
  | cons c l =>
    have : Instr.findNow (.complex .f64) (.complex .f64 (flI x) (flI y)) ((c :: l).map CE.e) 0 = none := by simp [Instr.findNow, Instr.sameNow, CE.e]
    rw [this]
    exact ha

theorem run_checkKey_c {P : Program} (w : World) (b : Bool) (n : Nat) (t : TypeId) (a c : Nat) (h : P.underlying t = some (.complex .f64)) : (Instr.checkKey b (n + 1) t (.complex .f64 a c)).run P w = .ok () w := by
  simp [Instr.checkKey, run_underlying h]

/-- The map that lies in block r. -/
def MapIs (w : World) (r : Nat) (l : List CE) (clock : Nat) : Prop := w.heap[r]? = some (.map (l.map CE.e).toArray clock) ∧ ∀ c ∈ l, c.ok

theorem run_lookup_c {P : Program} {w : World} {r clock : Nat} {l : List CE} (hm : MapIs w r l clock) (mt t e : TypeId) (ok : Bool) (x y : Int) (hmt : P.underlying mt = some (.map t e)) (h : P.underlying t = some (.complex .f64)) (hz : (P.info? e).bind (·.zero) = some (.int .i64 0)) (hx : 0 ≤ x ∧ x ≤ 9) (hy : 0 ≤ y ∧ y ≤ 9) :
    (Instr.lookup mt (.map (some r)) (.complex .f64 (flI x) (flI y)) ok).run P w = .ok (if ok then .tuple #[.int .i64 (((cfind x y l 0).map (·.2)).getD 0), .bool (cfind x y l 0).isSome] else .int .i64 (((cfind x y l 0).map (·.2)).getD 0)) w := by
  have hf := run_find w t x y h hx hy l hm.2
  have hc := fun b => run_checkKey_c (P := P) w b 9999 t (flI x) (flI y) h
  cases hi : P.info? e with
  | none => rw [hi] at hz; cases hz
  | some i =>
    rw [hi] at hz
    simp only [Option.bind_some] at hz
    unfold Instr.lookup
    simp only [Sem.run_bind, run_underlying hmt, Result.andThen_ok, getObj, Sem.run, hm.1, hc, hf, Sem.run_pure]
    cases hcf : cfind x y l 0 with
    | none => simp [zeroValue, typeInfo, hi, hz]
    | some p => simp

/-- A block put in the place of another. -/
def World.putObj (w : World) (r : Nat) (o : Obj) : World := { w with heap := w.heap.setIfInBounds r o }
/-- What a map holds behind a store, behind a delete. -/
def cput (x y v : Int) (clock : Nat) : List CE → List CE
  | [] => [⟨x, y, v, clock⟩]
  | c :: r => if x = c.x ∧ y = c.y then { c with v := v } :: r else c :: cput x y v clock r
def cdel (x y : Int) : List CE → List CE
  | [] => []
  | c :: r => if x = c.x ∧ y = c.y then r else c :: cdel x y r
theorem cfind_up (x y : Int) (l : List CE) (i : Nat) : cfind x y l i = (cfind x y l 0).map (fun p => (p.1 + i, p.2)) := by
  induction l generalizing i with
  | nil => rfl
  | cons c l ih =>
    simp only [cfind]
    split
    · simp
    · rw [ih (i + 1), ih 1]
      cases cfind x y l 0 <;> simp; omega
theorem cput_hit {x y v : Int} {clock : Nat} {l : List CE} {i : Nat} {u : Int} (h : cfind x y l 0 = some (i, u)) : ∃ c, l[i]? = some c ∧ c.x = x ∧ c.y = y ∧ cput x y v clock l = l.set i { c with v := v } := by
  induction l generalizing i with
  | nil => simp [cfind] at h
  | cons c l ih =>
    simp only [cfind] at h
    split at h
    · rename_i e
      simp at h
      obtain ⟨rfl, rfl⟩ := h
      exact ⟨c, rfl, e.1.symm, e.2.symm, by simp [cput, e]⟩
    · rename_i e
      rw [cfind_up] at h
      cases hf : cfind x y l 0 with
      | none => rw [hf] at h; simp at h
      | some p =>
        rw [hf] at h
        simp at h
        obtain ⟨rfl, rfl⟩ := h
        obtain ⟨d, h1, h2, h3, h4⟩ := ih (i := p.1) (by rw [hf])
        exact ⟨d, by simpa using h1, h2, h3, by simp [cput, e, h4]⟩
theorem cput_miss {x y v : Int} {clock : Nat} {l : List CE} (h : cfind x y l 0 = none) : cput x y v clock l = l ++ [⟨x, y, v, clock⟩] := by
  induction l with
  | nil => rfl
  | cons c l ih =>
    simp only [cfind] at h
    split at h
    · cases h
    · rename_i e
      rw [cfind_up] at h
      have := ih (by cases hf : cfind x y l 0 with | none => rfl | some p => rw [hf] at h; simp at h)
      simp [cput, e, this]
theorem cdel_hit {x y : Int} {l : List CE} {i : Nat} {u : Int} (h : cfind x y l 0 = some (i, u)) : i < l.length ∧ cdel x y l = l.eraseIdx i := by
  induction l generalizing i with
  | nil => simp [cfind] at h
  | cons c l ih =>
    simp only [cfind] at h
    split at h
    · rename_i e
      simp at h
      obtain ⟨rfl, rfl⟩ := h
      simp [cdel, e]
    · rename_i e
      rw [cfind_up] at h
      cases hf : cfind x y l 0 with
      | none => rw [hf] at h; simp at h
      | some p =>
        rw [hf] at h
        simp at h
        obtain ⟨rfl, rfl⟩ := h
        obtain ⟨h1, h2⟩ := ih (i := p.1) (by rw [hf])
        exact ⟨by simpa using h1, by simp [cdel, e, h2]⟩
theorem cdel_miss {x y : Int} {l : List CE} (h : cfind x y l 0 = none) : cdel x y l = l := by
  induction l with
  | nil => rfl
  | cons c l ih =>
    simp only [cfind] at h
    split at h
    · cases h
    · rename_i e
      rw [cfind_up] at h
      have := ih (by cases hf : cfind x y l 0 with | none => rfl | some p => rw [hf] at h; simp at h)
      simp [cdel, e, this]

end Go.Proofs.YtlafddeoheambaaGreatDoor

/-
  The document's world, one thing of it turned, said by what stands at a place.
-/
namespace Go.Proofs.YtlafddeoheambaaGreatDoor
open Go.RowKit

theorem at_some {α : Type} {l : List α} {i : Nat} {a : α} (h : l[i]? = some a) : ∃ hi : i < l.length, l[i] = a := List.getElem?_eq_some_iff.1 h
theorem setQ_at {Y : YW} {i : Nat} {q q' : SPlayer × PV} (h : Y.pls[i]? = some q) : (Y.setQ i q').pls[i]? = some q' := by
  obtain ⟨hi, _⟩ := at_some h
  simp [YW.setQ, hi]
theorem set_at {α : Type} {l : List α} {i : Nat} {a b : α} (h : l[i]? = some a) : (l.set i b)[i]? = some b := by
  obtain ⟨hi, _⟩ := at_some h
  simp [hi]
theorem setQ_setQ (Y : YW) (i : Nat) (q q' : SPlayer × PV) : (Y.setQ i q).setQ i q' = Y.setQ i q' := by simp [YW.setQ]

/-- The player's own cells. -/
theorem RepY.plCell {w : World} {Y : YW} (h : RepY w Y) {i : Nat} {p : SPlayer} {v : PV} (hq : Y.pls[i]? = some (p, v)) {pb cap : Nat} (hv : Y.vPl = .slice (some ⟨pb, 0, none⟩) Y.pls.length cap) :
    w.cell? ⟨pb, i * 4, none⟩ = some (.int .i64 p.money) ∧ w.cell? ⟨pb, i * 4 + 1, none⟩ = some v.u ∧ w.cell? ⟨pb, i * 4 + 2, none⟩ = some v.b ∧ w.cell? ⟨pb, i * 4 + 3, none⟩ = some v.n := by
  obtain ⟨hi, e⟩ := at_some hq
  have f := fun j (hj : j < 4) => flat_at plCells 4 (fun _ => rfl) Y.pls i j hi hj
  rw [e] at f
  have o := h.pl
  rw [hv] at o
  exact ⟨own_cell o (f 0 (by omega)), own_cell o (f 1 (by omega)), own_cell o (f 2 (by omega)), own_cell o (f 3 (by omega))⟩
theorem RepY.plFrozen {w : World} {Y : YW} (h : RepY w Y) {pb cap : Nat} (hv : Y.vPl = .slice (some ⟨pb, 0, none⟩) Y.pls.length cap) (j : Nat) : w.frozen? ⟨pb, j, none⟩ = false := by
  have o := h.pl
  rw [hv] at o
  exact own_frozen o j
theorem RepY.eachAt {w : World} {Y : YW} (h : RepY w Y) {i : Nat} {q : SPlayer × PV} (hq : Y.pls[i]? = some q) : RepP w q := by
  obtain ⟨hi, rfl⟩ := at_some hq
  exact h.each _ (List.getElem_mem hi)
theorem RepP.uCell {w : World} {p : SPlayer} {v : PV} (h : RepP w (p, v)) {k : Nat} {u : SUnit} (hu : p.units[k]? = some u) {ub cap : Nat} (hv : v.u = .slice (some ⟨ub, 0, none⟩) p.units.length cap) :
    w.cell? ⟨ub, k * 7, none⟩ = some (.string u.name) ∧ w.cell? ⟨ub, k * 7 + 1, none⟩ = some (.int .i64 u.x) ∧ w.cell? ⟨ub, k * 7 + 2, none⟩ = some (.int .i64 u.y) ∧ w.cell? ⟨ub, k * 7 + 3, none⟩ = some (.int .i64 u.head) ∧
    w.cell? ⟨ub, k * 7 + 4, none⟩ = some (.int .i64 u.cargo) ∧ w.cell? ⟨ub, k * 7 + 5, none⟩ = some (.string u.what) ∧ w.cell? ⟨ub, k * 7 + 6, none⟩ = some (.string u.arg) := by
  obtain ⟨hk, rfl⟩ := at_some hu
  have o := h.units
  simp only [hv] at o
  exact unit_cells o hk
theorem RepP.uFrozen {w : World} {p : SPlayer} {v : PV} (h : RepP w (p, v)) {ub cap : Nat} (hv : v.u = .slice (some ⟨ub, 0, none⟩) p.units.length cap) (j : Nat) : w.frozen? ⟨ub, j, none⟩ = false := by
  have o := h.units
  simp only [hv] at o
  exact own_frozen o j

/-- One cell of one unit written. -/
theorem Turn.unit1 {w w1 : World} {Y Y1 : YW} (h : Turn w Y w1 Y1) {i k : Nat} {p : SPlayer} {v : PV} {u : SUnit} (hq : Y1.pls[i]? = some (p, v)) (hu : p.units[k]? = some u) {ub cap : Nat} (hv : v.u = .slice (some ⟨ub, 0, none⟩) p.units.length cap)
    (j : Nat) (u' : SUnit) (val : Value) (hj : j < 7) (hc : unitCells u' = (unitCells u).set j val) :
    Turn w Y (w1.setCell ⟨ub, k * 7 + j, none⟩ val) (Y1.setQ i ({ p with units := p.units.set k u' }, v)) := by
  obtain ⟨hi, e⟩ := at_some hq
  obtain ⟨hk, rfl⟩ := at_some hu
  have h1 : p = Y1.pls[i].1 := by rw [e]
  have h2 : v = Y1.pls[i].2 := by rw [e]
  subst h1 h2
  have hr := h.rep.setUnit i k j hi hk hj ub cap hv u' val hc
  have hub : ub ∈ Y1.foot := foot_e (List.getElem_mem hi) (by simp [pvFoot, hv, blk_slice])
  have hf := foot_setQ Y1 i ({ Y1.pls[i].1 with units := Y1.pls[i].1.units.set k u' }, Y1.pls[i].2) hi rfl
  exact ⟨hr, h.kept.setCell _ _ _ (h.ext ub hub), fun r hr => h.ext r (by rw [hf] at hr; exact hr), h.b⟩
/-- The player's money written. -/
theorem Turn.money1 {w w1 : World} {Y Y1 : YW} (h : Turn w Y w1 Y1) {i : Nat} {p : SPlayer} {v : PV} (hq : Y1.pls[i]? = some (p, v)) {pb cap : Nat} (hv : Y1.vPl = .slice (some ⟨pb, 0, none⟩) Y1.pls.length cap) (m : Int) :
    Turn w Y (w1.setCell ⟨pb, i * 4, none⟩ (.int .i64 m)) (Y1.setQ i ({ p with money := m }, v)) := by
  obtain ⟨hi, e⟩ := at_some hq
  have h1 : p = Y1.pls[i].1 := by rw [e]
  have h2 : v = Y1.pls[i].2 := by rw [e]
  subst h1 h2
  have hr := h.rep.setMoney i hi pb cap hv m
  have hpb : pb ∈ Y1.foot := foot_p (by simp [hv, blk_slice])
  have hf := foot_setQ Y1 i ({ Y1.pls[i].1 with money := m }, Y1.pls[i].2) hi rfl
  exact ⟨hr, h.kept.setCell _ _ _ (h.ext pb hpb), fun r hr => h.ext r (by rw [hf] at hr; exact hr), h.b⟩

theorem Turn.unit2 {w w1 : World} {Y Y1 : YW} (h : Turn w Y w1 Y1) {i k : Nat} {p : SPlayer} {v : PV} {u : SUnit} (hq : Y1.pls[i]? = some (p, v)) (hu : p.units[k]? = some u) {ub cap : Nat} (hv : v.u = .slice (some ⟨ub, 0, none⟩) p.units.length cap)
    (j j' : Nat) (u' u'' : SUnit) (val val' : Value) (hj : j < 7) (hj' : j' < 7) (hc : unitCells u' = (unitCells u).set j val) (hc' : unitCells u'' = (unitCells u').set j' val') :
    Turn w Y ((w1.setCell ⟨ub, k * 7 + j, none⟩ val).setCell ⟨ub, k * 7 + j', none⟩ val') (Y1.setQ i ({ p with units := p.units.set k u'' }, v)) := by
  have t1 := h.unit1 hq hu hv j u' val hj hc
  have t2 := t1.unit1 (setQ_at hq) (set_at hu) (by simpa using hv) j' u'' val' hj' hc'
  rw [setQ_setQ] at t2
  simpa using t2
theorem Turn.drew {w w1 : World} {Y Y1 : YW} (h : Turn w Y w1 Y1) : Turn w Y w1.drew Y1 := ⟨h.rep.drew, h.kept.drew, h.ext, h.b⟩
/-- The lists of players and of a player's units lie apart. -/
theorem RepY.apart {w : World} {Y : YW} (h : RepY w Y) {i : Nat} {p : SPlayer} {v : PV} (hq : Y.pls[i]? = some (p, v)) {pb cap : Nat} (hv : Y.vPl = .slice (some ⟨pb, 0, none⟩) Y.pls.length cap) {ub n c : Nat} (hu : v.u = .slice (some ⟨ub, 0, none⟩) n c) : ub ≠ pb := by
  obtain ⟨hi, e⟩ := at_some hq
  have hm : (p, v) ∈ Y.pls := by rw [← e]; exact List.getElem_mem hi
  intro e
  subst e
  exact (sep_of h.sep).pe ub (by simp [hv, blk_slice]) _ hm (by simp [pvFoot, hu, blk_slice])
theorem RepY.apartB {w : World} {Y : YW} (h : RepY w Y) {i : Nat} {p : SPlayer} {v : PV} (hq : Y.pls[i]? = some (p, v)) {ub n c : Nat} (hu : v.u = .slice (some ⟨ub, 0, none⟩) n c) : ub ≠ Y.b := by
  obtain ⟨hi, e⟩ := at_some hq
  have hm : (p, v) ∈ Y.pls := by rw [← e]; exact List.getElem_mem hi
  intro e
  subst e
  exact (sep_of h.sep).be _ hm (by simp [pvFoot, hu, blk_slice])

theorem S_at {Y : YW} {i : Nat} {p : SPlayer} {v : PV} (hq : Y.pls[i]? = some (p, v)) : Y.S.players[i]? = some p := by simp [YW.S, hq]
theorem doesS_at {Y : YW} {n k : Nat} {p : SPlayer} {v : PV} {u : SUnit} (hq : Y.pls[n]? = some (p, v)) (hu : p.units[k]? = some u) :
    doesS Y.S n k = actS (Y.S.setPl n { p with units := p.units.set k { u with what := emptyB, arg := emptyB } }) n k { p with units := p.units.set k { u with what := emptyB, arg := emptyB } } { u with what := emptyB, arg := emptyB } u.what u.arg := by
  unfold doesS
  rw [S_at hq]
  simp only [hu]

theorem actS_go (s : SWorld) (n k : Nat) (p : SPlayer) (u : SUnit) (what arg : ByteArray)  (h0 : (what.toList == [103, 111]) = true) (hx : freeS s (u.x + dxI u.head) (u.y + dyI u.head) = true) : actS s n k p u what arg = s.setPl n { p with units := p.units.set k { u with x := u.x + dxI u.head, y := u.y + dyI u.head } } := by simp [actS, h0, hx]
theorem actS_go_no (s : SWorld) (n k : Nat) (p : SPlayer) (u : SUnit) (what arg : ByteArray)  (h0 : (what.toList == [103, 111]) = true) (hx : freeS s (u.x + dxI u.head) (u.y + dyI u.head) = false) : actS s n k p u what arg = s := by simp [actS, h0, hx]
theorem actS_left (s : SWorld) (n k : Nat) (p : SPlayer) (u : SUnit) (what arg : ByteArray) (h0 : (what.toList == [103, 111]) = false) (h1 : (what.toList == [108, 101, 102, 116]) = true)  : actS s n k p u what arg = s.setPl n { p with units := p.units.set k { u with head := (u.head + 1) % 4 } } := by simp [actS, h0, h1]
theorem actS_back (s : SWorld) (n k : Nat) (p : SPlayer) (u : SUnit) (what arg : ByteArray) (h0 : (what.toList == [103, 111]) = false) (h1 : (what.toList == [108, 101, 102, 116]) = false) (h2 : (what.toList == [98, 97, 99, 107]) = true)  : actS s n k p u what arg = s.setPl n { p with units := p.units.set k { u with head := (u.head + 2) % 4 } } := by simp [actS, h0, h1, h2]
theorem actS_right (s : SWorld) (n k : Nat) (p : SPlayer) (u : SUnit) (what arg : ByteArray) (h0 : (what.toList == [103, 111]) = false) (h1 : (what.toList == [108, 101, 102, 116]) = false) (h2 : (what.toList == [98, 97, 99, 107]) = false) (h3 : (what.toList == [114, 105, 103, 104, 116]) = true)  : actS s n k p u what arg = s.setPl n { p with units := p.units.set k { u with head := (u.head + 3) % 4 } } := by simp [actS, h0, h1, h2, h3]
theorem actS_dig (s : SWorld) (n k : Nat) (p : SPlayer) (u : SUnit) (what arg : ByteArray) (h0 : (what.toList == [103, 111]) = false) (h1 : (what.toList == [108, 101, 102, 116]) = false) (h2 : (what.toList == [98, 97, 99, 107]) = false) (h3 : (what.toList == [114, 105, 103, 104, 116]) = false) (h4 : (what.toList == [100, 105, 103]) = true) (hx : u.cargo < 9) (hy : digB s.ore u.x u.y = true) : actS s n k p u what arg = { s.setPl n { p with units := p.units.set k { u with cargo := u.cargo + 1 } } with ore := digL u.x u.y s.ore } := by simp [actS, h0, h1, h2, h3, h4, hx, hy]
theorem actS_dig_full (s : SWorld) (n k : Nat) (p : SPlayer) (u : SUnit) (what arg : ByteArray) (h0 : (what.toList == [103, 111]) = false) (h1 : (what.toList == [108, 101, 102, 116]) = false) (h2 : (what.toList == [98, 97, 99, 107]) = false) (h3 : (what.toList == [114, 105, 103, 104, 116]) = false) (h4 : (what.toList == [100, 105, 103]) = true) (hx : ¬ u.cargo < 9) : actS s n k p u what arg = s := by simp [actS, h0, h1, h2, h3, h4, hx]
theorem actS_dig_none (s : SWorld) (n k : Nat) (p : SPlayer) (u : SUnit) (what arg : ByteArray) (h0 : (what.toList == [103, 111]) = false) (h1 : (what.toList == [108, 101, 102, 116]) = false) (h2 : (what.toList == [98, 97, 99, 107]) = false) (h3 : (what.toList == [114, 105, 103, 104, 116]) = false) (h4 : (what.toList == [100, 105, 103]) = true) (hx : u.cargo < 9) (hy : digB s.ore u.x u.y = false) : actS s n k p u what arg = s := by simp [actS, h0, h1, h2, h3, h4, hx, hy]
theorem actS_sell (s : SWorld) (n k : Nat) (p : SPlayer) (u : SUnit) (what arg : ByteArray) (h0 : (what.toList == [103, 111]) = false) (h1 : (what.toList == [108, 101, 102, 116]) = false) (h2 : (what.toList == [98, 97, 99, 107]) = false) (h3 : (what.toList == [114, 105, 103, 104, 116]) = false) (h4 : (what.toList == [100, 105, 103]) = false) (h5 : (what.toList == [115, 101, 108, 108]) = true)  : actS s n k p u what arg = s.setPl n { p with money := p.money + 10 * u.cargo, units := p.units.set k { u with cargo := 0 } } := by simp [actS, h0, h1, h2, h3, h4, h5]
theorem actS_call (s : SWorld) (n k : Nat) (p : SPlayer) (u : SUnit) (what arg : ByteArray) (h0 : (what.toList == [103, 111]) = false) (h1 : (what.toList == [108, 101, 102, 116]) = false) (h2 : (what.toList == [98, 97, 99, 107]) = false) (h3 : (what.toList == [114, 105, 103, 104, 116]) = false) (h4 : (what.toList == [100, 105, 103]) = false) (h5 : (what.toList == [115, 101, 108, 108]) = false) (h6 : (what.toList == [99, 97, 108, 108]) = true) (hx : unitIx p.units arg < 0) : actS s n k p u what arg = s.setPl n { p with units := p.units.set k { u with name := arg } } := by simp [actS, h0, h1, h2, h3, h4, h5, h6, hx]
theorem actS_call_no (s : SWorld) (n k : Nat) (p : SPlayer) (u : SUnit) (what arg : ByteArray) (h0 : (what.toList == [103, 111]) = false) (h1 : (what.toList == [108, 101, 102, 116]) = false) (h2 : (what.toList == [98, 97, 99, 107]) = false) (h3 : (what.toList == [114, 105, 103, 104, 116]) = false) (h4 : (what.toList == [100, 105, 103]) = false) (h5 : (what.toList == [115, 101, 108, 108]) = false) (h6 : (what.toList == [99, 97, 108, 108]) = true) (hx : ¬ unitIx p.units arg < 0) : actS s n k p u what arg = s := by simp [actS, h0, h1, h2, h3, h4, h5, h6, hx]
theorem actS_build (s : SWorld) (n k : Nat) (p : SPlayer) (u : SUnit) (what arg : ByteArray) (h0 : (what.toList == [103, 111]) = false) (h1 : (what.toList == [108, 101, 102, 116]) = false) (h2 : (what.toList == [98, 97, 99, 107]) = false) (h3 : (what.toList == [114, 105, 103, 104, 116]) = false) (h4 : (what.toList == [100, 105, 103]) = false) (h5 : (what.toList == [115, 101, 108, 108]) = false) (h6 : (what.toList == [99, 97, 108, 108]) = false) (h7 : (what.toList == [98, 117, 105, 108, 100]) = true) (hx : unitIx p.units arg < 0) (hl : p.units.length < 5) (hm : 50 ≤ p.money - stakedI p.bids emptyB) (hg : freeS s (u.x + dxI u.head) (u.y + dyI u.head) = true) : actS s n k p u what arg = s.setPl n { p with money := p.money - 50, units := p.units ++ [{ name := arg, x := u.x + dxI u.head, y := u.y + dyI u.head, head := u.head, cargo := 0, what := emptyB, arg := emptyB }] } := by simp [actS, h0, h1, h2, h3, h4, h5, h6, h7, hx, hl, hm, hg]
theorem actS_build_no (s : SWorld) (n k : Nat) (p : SPlayer) (u : SUnit) (what arg : ByteArray) (h0 : (what.toList == [103, 111]) = false) (h1 : (what.toList == [108, 101, 102, 116]) = false) (h2 : (what.toList == [98, 97, 99, 107]) = false) (h3 : (what.toList == [114, 105, 103, 104, 116]) = false) (h4 : (what.toList == [100, 105, 103]) = false) (h5 : (what.toList == [115, 101, 108, 108]) = false) (h6 : (what.toList == [99, 97, 108, 108]) = false) (h7 : (what.toList == [98, 117, 105, 108, 100]) = true) (hx : ¬ (unitIx p.units arg < 0 ∧ p.units.length < 5 ∧ 50 ≤ p.money - stakedI p.bids emptyB ∧ freeS s (u.x + dxI u.head) (u.y + dyI u.head) = true)) : actS s n k p u what arg = s := by simp only [actS, h0, h1, h2, h3, h4, h5, h6, h7, if_neg hx]; rfl
theorem actS_none (s : SWorld) (n k : Nat) (p : SPlayer) (u : SUnit) (what arg : ByteArray) (h0 : (what.toList == [103, 111]) = false) (h1 : (what.toList == [108, 101, 102, 116]) = false) (h2 : (what.toList == [98, 97, 99, 107]) = false) (h3 : (what.toList == [114, 105, 103, 104, 116]) = false) (h4 : (what.toList == [100, 105, 103]) = false) (h5 : (what.toList == [115, 101, 108, 108]) = false) (h6 : (what.toList == [99, 97, 108, 108]) = false) (h7 : (what.toList == [98, 117, 105, 108, 100]) = false) : actS s n k p u what arg = s := by simp [actS, h0, h1, h2, h3, h4, h5, h6, h7]

end Go.Proofs.YtlafddeoheambaaGreatDoor

/-
  Maps by spots: a store and a delete, as the model runs them.
-/
namespace Go.Proofs.YtlafddeoheambaaGreatDoor
open Go.RowKit

def cclock (x y : Int) (l : List CE) (clock : Nat) : Nat := if (cfind x y l 0).isSome then clock else clock + 1

theorem modify_e (l : List CE) (i : Nat) (c : CE) (x y v : Int) (hc : l[i]? = some c) (hx : c.x = x) (hy : c.y = y) :
    ((l.map CE.e).toArray.modify i fun e => { e with key := .complex .f64 (flI x) (flI y), val := .int .i64 v }) = ((l.set i { c with v := v }).map CE.e).toArray := by
  obtain ⟨hi, he⟩ := at_some hc
  apply Array.ext
  · simp
  · intro j h1 h2
    simp only [Array.getElem_modify, List.getElem_toArray, List.getElem_map, List.getElem_set]
    split
    · rename_i hij
      subst hij
      rw [he]
      simp [CE.e, hx, hy]
    · rfl

theorem run_update_c {P : Program} {w : World} {r clock : Nat} {l : List CE} (hm : MapIs w r l clock) (mt t e : TypeId) (x y v : Int) (hmt : P.underlying mt = some (.map t e)) (h : P.underlying t = some (.complex .f64)) (hx : 0 ≤ x ∧ x ≤ 9) (hy : 0 ≤ y ∧ y ≤ 9) :
    (Instr.mapUpdate mt (.map (some r)) (.complex .f64 (flI x) (flI y)) (.int .i64 v)).run P w = .ok () (World.putObj w r (.map ((cput x y v clock l).map CE.e).toArray (cclock x y l clock))) := by
  have hf := run_find w t x y h hx hy l hm.2
  have hc := fun b => run_checkKey_c (P := P) w b 9999 t (flI x) (flI y) h
  unfold Instr.mapUpdate
  simp only [Sem.run_bind, run_underlying hmt, Result.andThen_ok, getObj, Sem.run, hm.1, hc, hf]
  cases hcf : cfind x y l 0 with
  | none =>
    simp [setObj, Sem.run, hm.1, World.putObj, cclock, hcf, cput_miss hcf, CE.e]
  | some p =>
    obtain ⟨c, h1, h2, h3, h4⟩ := cput_hit (v := v) (clock := clock) hcf
    have hk : ((((l.map CE.e).toArray[p.1]?).map (·.key)).getD (.complex .f64 (flI x) (flI y))) = .complex .f64 (flI x) (flI y) := by
      simp [h1, CE.e, h2, h3]
    have hs : Instr.sameBits 10000 (.complex .f64 (flI x) (flI y)) (.complex .f64 (flI x) (flI y)) = true := by simp [Instr.sameBits]
    have hst : (Instr.keyThatStays (.complex .f64 (flI x) (flI y)) (.complex .f64 (flI x) (flI y))).run P w = .ok (.complex .f64 (flI x) (flI y)) w := by
      simp [Instr.keyThatStays, hs]
    simp only [Option.map_some, Sem.run_bind, hk, hst, Result.andThen_ok]
    rw [modify_e l p.1 c x y v h1 h2 h3]
    simp [setObj, Sem.run, hm.1, World.putObj, cclock, hcf, h4]

theorem erase_map {α β : Type} (f : α → β) (l : List α) (i : Nat) : (l.map f).eraseIdx i = (l.eraseIdx i).map f := by
  induction l generalizing i with
  | nil => simp
  | cons a l ih => cases i <;> simp [ih]

theorem run_delete_c {P : Program} {w : World} {r clock : Nat} {l : List CE} (hm : MapIs w r l clock) (mt t e kt ty : TypeId) (x y : Int) (hmt : P.underlying mt = some (.map t e)) (h : P.underlying t = some (.complex .f64)) (hx : 0 ≤ x ∧ x ≤ 9) (hy : 0 ≤ y ∧ y ≤ 9) :
    (Builtin.delete_ #[mt, kt] ty #[.map (some r), .complex .f64 (flI x) (flI y)]).run P w = .ok (.tuple #[]) (World.putObj w r (.map ((cdel x y l).map CE.e).toArray clock)) := by
  have hf := run_find w t x y h hx hy l hm.2
  have hc := fun b => run_checkKey_c (P := P) w b 9999 t (flI x) (flI y) h
  unfold Builtin.delete_
  simp only [List.getElem?_toArray, List.getElem?_cons_zero, List.getElem?_cons_succ, Sem.run_bind, run_underlying hmt, Result.andThen_ok, getObj, Sem.run, hm.1, hc, hf]
  cases hcf : cfind x y l 0 with
  | none => simp [setObj, Sem.run, hm.1, World.putObj, cdel_miss hcf]
  | some p =>
    obtain ⟨h1, h2⟩ := cdel_hit hcf
    have : (l.map CE.e).toArray.eraseIdxIfInBounds p.1 = ((cdel x y l).map CE.e).toArray := by
      rw [h2]
      simp [Array.eraseIdxIfInBounds, h1]
      exact erase_map CE.e l p.1
    simp [setObj, Sem.run, hm.1, World.putObj, this]

end Go.Proofs.YtlafddeoheambaaGreatDoor

/-
  Maps by spots at an operation of the walk: a look-up, a store, a delete; what a map holds then.
-/
namespace Go.Proofs.YtlafddeoheambaaGreatDoor
open Go.RowKit

/-- Only the block r has turned. -/
structure Put (r : Nat) (w w' : World) : Prop where
  os : w'.os = w.os
  tape : w'.tape = w.tape
  output : w'.output = w.output
  size : w'.heap.size = w.heap.size
  block : ∀ k, k ≠ r → w'.heap[k]? = w.heap[k]?
theorem putObj_put (w : World) (r : Nat) (o : Obj) : Put r w (World.putObj w r o) := by
  refine ⟨rfl, rfl, rfl, by simp [World.putObj], fun k hk => ?_⟩
  simp [World.putObj, Ne.symm hk]
theorem putObj_at (w : World) (r : Nat) (o o' : Obj) (h : w.heap[r]? = some o') : (World.putObj w r o).heap[r]? = some o := by
  obtain ⟨hr, _⟩ := Array.getElem?_eq_some_iff.1 h
  simp [World.putObj, hr]
theorem Put.kept {r : Nat} {F : List Nat} {w w1 w2 : World} (h : Kept F w w1) (hp : Put r w1 w2) (hr : r ∈ F ∨ w.heap.size ≤ r) : Kept F w w2 := by
  refine ⟨hp.os.trans h.os, hp.tape.trans h.tape, hp.output.trans h.output, by rw [hp.size]; exact h.size, fun k hk hn => ?_⟩
  rw [hp.block k ?_, h.block k hk hn]
  rintro rfl
  rcases hr with hr | hr
  · exact hn hr
  · omega

/-- What a map holds at a spot. -/
def look (x y : Int) : List CE → Option Int
  | [] => none
  | c :: r => if x = c.x ∧ y = c.y then some c.v else look x y r
theorem cfind_look (x y : Int) (l : List CE) (i : Nat) : (cfind x y l i).map (·.2) = look x y l := by
  induction l generalizing i with
  | nil => rfl
  | cons c l ih => simp only [cfind, look]; split <;> simp [ih]
theorem cfind_some (x y : Int) (l : List CE) (i : Nat) : (cfind x y l i).isSome = (look x y l).isSome := by rw [← cfind_look x y l i]; simp
theorem look_put (x y v : Int) (clock : Nat) (l : List CE) (x' y' : Int) : look x' y' (cput x y v clock l) = if x' = x ∧ y' = y then some v else look x' y' l := by
  induction l with
  | nil => simp [cput, look]
  | cons c l ih =>
    simp only [cput]
    by_cases h : x = c.x ∧ y = c.y
    · rw [if_pos h]
      simp only [look, h.1, h.2]
      split <;> rfl
    · rw [if_neg h]
      simp only [look, ih]
      by_cases h' : x' = c.x ∧ y' = c.y
      · have : ¬ (x' = x ∧ y' = y) := fun e => h ⟨e.1 ▸ h'.1, e.2 ▸ h'.2⟩
        simp [h']
        intro e1 e2
        exact absurd ⟨e1.symm, e2.symm⟩ h
      · simp [h']
/-- No two entries at one spot. -/
def keysD (l : List CE) : Prop := l.Pairwise (fun a b => ¬ (a.x = b.x ∧ a.y = b.y))
theorem look_none_iff (x y : Int) (l : List CE) : look x y l = none ↔ ∀ c ∈ l, ¬ (x = c.x ∧ y = c.y) := by
  induction l with
  | nil => simp [look]
  | cons c l ih =>
    simp only [look]
    split
    · rename_i h; simp [h]
    · rename_i h; simp only [ih, List.mem_cons, forall_eq_or_imp]; exact ⟨fun k => ⟨h, k⟩, fun k => k.2⟩
theorem look_del (x y : Int) (l : List CE) (hd : keysD l) (x' y' : Int) : look x' y' (cdel x y l) = if x' = x ∧ y' = y then none else look x' y' l := by
  induction l with
  | nil => simp [cdel, look]
  | cons c l ih =>
    have h1 := List.pairwise_cons.1 hd
    simp only [cdel]
    by_cases h : x = c.x ∧ y = c.y
    · rw [if_pos h]
      by_cases h' : x' = x ∧ y' = y
      · rw [if_pos h']
        refine (look_none_iff _ _ _).2 (fun d hd' e => ?_)
        exact h1.1 d hd' ⟨by omega, by omega⟩
      · rw [if_neg h']
        have : ¬ (x' = c.x ∧ y' = c.y) := fun e => h' ⟨by omega, by omega⟩
        simp [look, this]
    · rw [if_neg h]
      simp only [look, ih h1.2]
      by_cases h' : x' = c.x ∧ y' = c.y
      · have : ¬ (x' = x ∧ y' = y) := fun e => h ⟨by omega, by omega⟩
        simp [h']
        intro e1 e2
        exact absurd ⟨e1.symm, e2.symm⟩ h
      · simp [h']
theorem cput_mem {x y v : Int} {clock : Nat} {l : List CE} {c : CE} (h : c ∈ cput x y v clock l) : (c.x = x ∧ c.y = y) ∨ c ∈ l := by
  induction l with
  | nil => simp [cput] at h; subst h; exact .inl ⟨rfl, rfl⟩
  | cons d l ih =>
    simp only [cput] at h
    split at h
    · rename_i e
      rcases List.mem_cons.1 h with rfl | h
      · exact .inl ⟨e.1.symm, e.2.symm⟩
      · exact .inr (by simp [h])
    · rcases List.mem_cons.1 h with rfl | h
      · exact .inr (by simp)
      · rcases ih h with h | h
        · exact .inl h
        · exact .inr (by simp [h])
theorem cdel_mem {x y : Int} {l : List CE} {c : CE} (h : c ∈ cdel x y l) : c ∈ l := by
  induction l with
  | nil => simp [cdel] at h
  | cons d l ih =>
    simp only [cdel] at h
    split at h
    · simp [h]
    · rcases List.mem_cons.1 h with rfl | h
      · simp
      · simp [ih h]
theorem keysD_put {x y v : Int} {clock : Nat} {l : List CE} (h : keysD l) : keysD (cput x y v clock l) := by
  induction l with
  | nil => simp [cput, keysD]
  | cons d l ih =>
    have h1 := List.pairwise_cons.1 h
    simp only [cput]
    split
    · exact List.pairwise_cons.2 ⟨h1.1, h1.2⟩
    · rename_i e
      refine List.pairwise_cons.2 ⟨fun c hc k => ?_, ih h1.2⟩
      rcases cput_mem hc with h | h
      · exact e ⟨by omega, by omega⟩
      · exact h1.1 c h k
theorem keysD_del {x y : Int} {l : List CE} (h : keysD l) : keysD (cdel x y l) := by
  induction l with
  | nil => simp [cdel, keysD]
  | cons d l ih =>
    have h1 := List.pairwise_cons.1 h
    simp only [cdel]
    split
    · exact h1.2
    · exact List.pairwise_cons.2 ⟨fun c hc k => h1.1 c (cdel_mem hc) k, ih h1.2⟩

/-- A map by spots, no two entries at one. -/
structure MapD (w : World) (r : Nat) (l : List CE) (clock : Nat) : Prop where
  is : MapIs w r l clock
  keys : keysD l
theorem MapD.same {w w' : World} {r : Nat} {l : List CE} {clock : Nat} (h : MapD w r l clock) (e : w'.heap[r]? = w.heap[r]?) : MapD w' r l clock := ⟨⟨by rw [e]; exact h.is.1, h.is.2⟩, h.keys⟩
theorem MapD.put {w : World} {r : Nat} {l : List CE} {clock : Nat} (h : MapD w r l clock) (x y v : Int) (hx : 0 ≤ x ∧ x ≤ 9) (hy : 0 ≤ y ∧ y ≤ 9) :
    MapD (World.putObj w r (.map ((cput x y v clock l).map CE.e).toArray (cclock x y l clock))) r (cput x y v clock l) (cclock x y l clock) := by
  refine ⟨⟨putObj_at _ _ _ _ h.is.1, fun c hc => ?_⟩, keysD_put h.keys⟩
  rcases cput_mem hc with e | e
  · exact ⟨by omega, by omega⟩
  · exact h.is.2 c e
theorem MapD.del {w : World} {r : Nat} {l : List CE} {clock : Nat} (h : MapD w r l clock) (x y : Int) :
    MapD (World.putObj w r (.map ((cdel x y l).map CE.e).toArray clock)) r (cdel x y l) clock :=
  ⟨⟨putObj_at _ _ _ _ h.is.1, fun c hc => h.is.2 c (cdel_mem hc)⟩, keysD_del h.keys⟩

section
variable {P : Program} (w : World) {ops : Array Oper} {rest : List Oper} {o : Oper} {a : Act} {Q : Exit → Act → World → Prop}

/-- A look-up in a map by spots. -/
theorem wpList_lookup_c (hg : o.guard = none) (m x : Operand) (t : TypeId) (hop : o.op = Op.lookup t m x false)
    (k e : TypeId) (ht : P.underlying t = some (.map k e)) (hk : P.underlying k = some (.complex .f64)) (hz : (P.info? e).bind (·.zero) = some (.int .i64 0)) (r clock : Nat) (l : List CE)
    (hm : a.eval m = .map (some r)) (hown : MapD w r l clock) (cx cy : Int) (hx : a.eval x = .complex .f64 (flI cx) (flI cy)) (h1 : 0 ≤ cx ∧ cx ≤ 9) (h2 : 0 ≤ cy ∧ cy ≤ 9)
    (hK : wpList P ops Q rest (a.put o.dst (.int .i64 ((look cx cy l).getD 0))) w) :
    wpList P ops Q (o :: rest) a w := by
  refine wpList_plain hg fun K' hK' => ?_
  have hrun := run_lookup_c hown.is t k e false cx cy ht hk hz h1 h2
  rw [cfind_look] at hrun
  unfold Oper.wp
  simp [execOp, hop, hm, hx, hrun, Result.andThen]
  exact hK' _ _ hK
/-- The same, with ok. -/
theorem wpList_lookup_ok_c (hg : o.guard = none) (m x : Operand) (t : TypeId) (hop : o.op = Op.lookup t m x true)
    (k e : TypeId) (ht : P.underlying t = some (.map k e)) (hk : P.underlying k = some (.complex .f64)) (hz : (P.info? e).bind (·.zero) = some (.int .i64 0)) (r clock : Nat) (l : List CE)
    (hm : a.eval m = .map (some r)) (hown : MapD w r l clock) (cx cy : Int) (hx : a.eval x = .complex .f64 (flI cx) (flI cy)) (h1 : 0 ≤ cx ∧ cx ≤ 9) (h2 : 0 ≤ cy ∧ cy ≤ 9)
    (hK : wpList P ops Q rest (a.put o.dst (.tuple #[.int .i64 ((look cx cy l).getD 0), .bool (look cx cy l).isSome])) w) :
    wpList P ops Q (o :: rest) a w := by
  refine wpList_plain hg fun K' hK' => ?_
  have hrun := run_lookup_c hown.is t k e true cx cy ht hk hz h1 h2
  rw [cfind_look, cfind_some] at hrun
  unfold Oper.wp
  simp [execOp, hop, hm, hx, hrun, Result.andThen]
  exact hK' _ _ hK
/-- A store. -/
theorem wpList_update_c (hg : o.guard = none) (m x v : Operand) (t : TypeId) (hop : o.op = Op.mapUpdate t m x v)
    (k e : TypeId) (ht : P.underlying t = some (.map k e)) (hk : P.underlying k = some (.complex .f64)) (r clock : Nat) (l : List CE)
    (hm : a.eval m = .map (some r)) (hown : MapD w r l clock) (cx cy n : Int) (hx : a.eval x = .complex .f64 (flI cx) (flI cy)) (hv : a.eval v = .int .i64 n) (h1 : 0 ≤ cx ∧ cx ≤ 9) (h2 : 0 ≤ cy ∧ cy ≤ 9)
    (hK : ∀ w', MapD w' r (cput cx cy n clock l) (cclock cx cy l clock) → Put r w w' → wpList P ops Q rest (a.put o.dst undef) w') :
    wpList P ops Q (o :: rest) a w := by
  refine wpList_plain hg fun K' hK' => ?_
  have hrun := run_update_c hown.is t k e cx cy n ht hk h1 h2
  unfold Oper.wp
  simp [execOp, hop, hm, hx, hv, hrun, Result.andThen]
  exact hK' _ _ (hK _ (hown.put cx cy n h1 h2) (putObj_put _ _ _))
/-- A delete. -/
theorem wpList_delete_c (hg : o.guard = none) (m x : Operand) (t k : TypeId) (hop : o.op = Op.call { callee := Callee.builtin Builtin.delete, args := #[m, x], argTypes := #[t, k] })
    (e : TypeId) (ht : P.underlying t = some (.map k e)) (hk : P.underlying k = some (.complex .f64)) (r clock : Nat) (l : List CE)
    (hm : a.eval m = .map (some r)) (hown : MapD w r l clock) (cx cy : Int) (hx : a.eval x = .complex .f64 (flI cx) (flI cy)) (h1 : 0 ≤ cx ∧ cx ≤ 9) (h2 : 0 ≤ cy ∧ cy ≤ 9)
    (hK : ∀ w', MapD w' r (cdel cx cy l) clock → Put r w w' → wpList P ops Q rest (a.put o.dst (.tuple #[])) w') :
    wpList P ops Q (o :: rest) a w := by
  refine wpList_plain hg fun K' hK' => ?_
  have hrun := run_delete_c hown.is t k e k o.type cx cy ht hk h1 h2
  unfold Oper.wp
  simp [execOp, hop, resolve, invoke, builtin, hm, hx, hrun, Result.andThen]
  exact hK' _ _ (hK _ (hown.del cx cy) (putObj_put _ _ _))
end
end Go.Proofs.YtlafddeoheambaaGreatDoor

/-
  What holds of the document's world's numbers holds still behind what a unit does.
-/
namespace Go.Proofs.YtlafddeoheambaaGreatDoor
open Go.RowKit

structure UnOK (w h : Int) (u : SUnit) : Prop where
  x : 0 ≤ u.x ∧ u.x < w
  y : 0 ≤ u.y ∧ u.y < h
  head : 0 ≤ u.head ∧ u.head ≤ 3
  cargo : 0 ≤ u.cargo ∧ u.cargo ≤ 9
structure PlOK (w h M : Int) (p : SPlayer) : Prop where
  un : 1 ≤ p.units.length ∧ p.units.length ≤ 5
  each : ∀ u ∈ p.units, UnOK w h u
  mo : 0 ≤ p.money ∧ p.money ≤ M
  bi : (∀ b ∈ p.bids, 0 ≤ b.n ∧ b.n ≤ 100000) ∧ p.bids.length ≤ 1000
structure WFS (s : SWorld) (M : Int) : Prop where
  pl : 2 ≤ s.players.length ∧ s.players.length ≤ 4
  wd : 3 ≤ s.width ∧ s.width ≤ 10
  ht : 3 ≤ s.height ∧ s.height ≤ 10
  orn : s.ore.length ≤ 6
  ora : ∀ x ∈ s.ore, 0 ≤ x.amount ∧ x.amount ≤ 99
  each : ∀ p ∈ s.players, PlOK s.width s.height M p

theorem WF.of {Y : YW} {M : Int} (h : WFS Y.S M) : WF Y M := by
  have e : ∀ p ∈ Y.pls, PlOK Y.width Y.height M p.1 := fun p hp => h.each p.1 (List.mem_map_of_mem hp)
  exact ⟨by simpa [YW.S] using h.pl, fun p hp => (e p hp).un, h.wd, h.ht, h.orn, h.ora, fun p hp u hu => ⟨((e p hp).each u hu).x.1, ((e p hp).each u hu).x.2, ((e p hp).each u hu).y.1, ((e p hp).each u hu).y.2⟩,
    fun p hp u hu => ((e p hp).each u hu).head, fun p hp u hu => ((e p hp).each u hu).cargo, fun p hp => (e p hp).mo, fun p hp => (e p hp).bi⟩
theorem PlOK.mono {w h M M' : Int} {p : SPlayer} (k : PlOK w h M p) (hM : M ≤ M') : PlOK w h M' p := ⟨k.un, k.each, ⟨k.mo.1, by have := k.mo.2; omega⟩, k.bi⟩
theorem WFS.mono {s : SWorld} {M M' : Int} (h : WFS s M) (hM : M ≤ M') : WFS s M' := ⟨h.pl, h.wd, h.ht, h.orn, h.ora, fun p hp => (h.each p hp).mono hM⟩
theorem WFS.setPl {s : SWorld} {M : Int} (h : WFS s M) (n : Nat) {p : SPlayer} (hp : PlOK s.width s.height M p) : WFS (s.setPl n p) M := by
  refine ⟨by simpa [SWorld.setPl] using h.pl, h.wd, h.ht, h.orn, h.ora, fun q hq => ?_⟩
  rcases List.mem_or_eq_of_mem_set hq with h1 | h1
  · exact h.each q h1
  · rw [h1]; exact hp
theorem PlOK.setU {w h M : Int} {p : SPlayer} (k : PlOK w h M p) (i : Nat) {u : SUnit} (hu : UnOK w h u) : PlOK w h M { p with units := p.units.set i u } := by
  refine ⟨by simpa using k.un, fun v hv => ?_, k.mo, k.bi⟩
  rcases List.mem_or_eq_of_mem_set hv with h1 | h1
  · exact k.each v h1
  · rw [h1]; exact hu
theorem free_in {s : SWorld} {x y : Int} (h : freeS s x y = true) : (0 ≤ x ∧ x < s.width) ∧ (0 ≤ y ∧ y < s.height) := by
  simp [freeS, inB] at h
  omega
theorem digL_ok {l : List SSpot} {x y : Int} (h : ∀ s ∈ l, 0 ≤ s.amount ∧ s.amount ≤ 99) : ∀ s ∈ digL x y l, 0 ≤ s.amount ∧ s.amount ≤ 99 := by
  induction l with
  | nil => intro s hs; simp [digL] at hs
  | cons a l ih =>
    intro s hs
    simp only [digL] at hs
    split at hs
    · rename_i hh
      simp [hitB] at hh
      have ha := h a (by simp)
      rcases List.mem_cons.1 hs with rfl | hs
      · simp only; omega
      · exact h s (by simp [hs])
    · rcases List.mem_cons.1 hs with rfl | hs
      · exact h s (by simp)
      · exact ih (fun t ht => h t (by simp [ht])) s hs
theorem digL_length {l : List SSpot} {x y : Int} : (digL x y l).length = l.length := by
  induction l with
  | nil => rfl
  | cons a l ih => simp only [digL]; split <;> simp [ih]

theorem WFS.act {s : SWorld} {M : Int} (h : WFS s M) (n k : Nat) {p : SPlayer} {u : SUnit} (hp : PlOK s.width s.height M p) (hu : UnOK s.width s.height u) (what arg : ByteArray) : WFS (actS s n k p u what arg) (M + 90) := by
  have hb : WFS s (M + 90) := h.mono (by omega)
  have hp' : PlOK s.width s.height (M + 90) p := hp.mono (by omega)
  have hh := hu.head
  unfold actS
  simp only
  split
  · split
    · rename_i hf
      have := free_in hf
      exact hb.setPl n (hp'.setU k ⟨this.1, this.2, hu.head, hu.cargo⟩)
    · exact hb
  split
  · exact hb.setPl n (hp'.setU k ⟨hu.x, hu.y, ⟨by simp only; omega, by simp only; omega⟩, hu.cargo⟩)
  split
  · exact hb.setPl n (hp'.setU k ⟨hu.x, hu.y, ⟨by simp only; omega, by simp only; omega⟩, hu.cargo⟩)
  split
  · exact hb.setPl n (hp'.setU k ⟨hu.x, hu.y, ⟨by simp only; omega, by simp only; omega⟩, hu.cargo⟩)
  split
  · split
    · split
      · rename_i hc _
        have w1 := hb.setPl n (hp'.setU k (u := { u with cargo := u.cargo + 1 }) ⟨hu.x, hu.y, hu.head, ⟨by have := hu.cargo; simp only; omega, by simp only; omega⟩⟩)
        exact ⟨w1.pl, w1.wd, w1.ht, by simp only [digL_length]; exact h.orn, digL_ok h.ora, w1.each⟩
      · exact hb
    · exact hb
  split
  · have := hp.mo
    have hc := hu.cargo
    have q := hp'.setU k (u := { u with cargo := 0 }) ⟨hu.x, hu.y, hu.head, ⟨by simp, by simp⟩⟩
    exact hb.setPl n ⟨q.un, q.each, ⟨by simp only; omega, by simp only; omega⟩, q.bi⟩
  split
  · split
    · exact hb.setPl n (hp'.setU k ⟨hu.x, hu.y, hu.head, hu.cargo⟩)
    · exact hb
  split
  · split
    · rename_i hc
      obtain ⟨_, h2, h3, h4⟩ := hc
      have hf := free_in h4
      have hs := stakedI_bd p.bids emptyB hp.bi.1
      have hm := hp.mo
      refine hb.setPl n ⟨by simp; omega, fun v hv => ?_, ⟨by simp only; omega, by simp only; omega⟩, hp.bi⟩
      rcases List.mem_append.1 hv with h5 | h5
      · exact hp.each v h5
      · simp at h5
        rw [h5]
        exact ⟨hf.1, hf.2, hu.head, ⟨by simp, by simp⟩⟩
    · exact hb
  · exact hb

theorem WFS.does {s : SWorld} {M : Int} (h : WFS s M) (n k : Nat) : WFS (doesS s n k) (M + 90) := by
  unfold doesS
  split
  · exact h.mono (by omega)
  · rename_i p hp
    split
    · exact h.mono (by omega)
    · rename_i u hu
      have hpm : p ∈ s.players := List.mem_of_getElem? hp
      have hum : u ∈ p.units := List.mem_of_getElem? hu
      have pk := h.each p hpm
      have uk := pk.each u hum
      have u0 : UnOK s.width s.height { u with what := emptyB, arg := emptyB } := ⟨uk.x, uk.y, uk.head, uk.cargo⟩
      exact (h.setPl n (pk.setU k u0)).act n k (pk.setU k u0) u0 _ _

end Go.Proofs.YtlafddeoheambaaGreatDoor

/-
  Lots, said plainly: the order of names, the open lots in that order, a player's bids. No walk in sight.
-/
namespace Go.Proofs.YtlafddeoheambaaGreatDoor
open Go.RowKit

theorem bl_irrefl : ∀ a : List UInt8, Op.bytesLess a a = false
  | [] => rfl
  | x :: a => by simp [Op.bytesLess, bl_irrefl a, UInt8.lt_irrefl]
theorem bl_cons (x y : UInt8) (a b : List UInt8) : Op.bytesLess (x :: a) (y :: b) = (decide (x < y) || (x == y && Op.bytesLess a b)) := rfl
theorem bl_trans : ∀ a b c : List UInt8, Op.bytesLess a b = true → Op.bytesLess b c = true → Op.bytesLess a c = true
  | _, _, [], _, h => by cases h' : (‹List UInt8› : List UInt8) <;> simp_all [Op.bytesLess]
  | [], [], _ :: _, h, _ => by simp [Op.bytesLess] at h
  | [], _ :: _, _ :: _, _, _ => rfl
  | _ :: _, [], _ :: _, h, _ => by simp [Op.bytesLess] at h
  | x :: a, y :: b, z :: c, h, h' => by
    simp only [bl_cons, Bool.or_eq_true, decide_eq_true_eq, Bool.and_eq_true, beq_iff_eq] at h h' ⊢
    rcases h with h | ⟨rfl, h⟩
    · rcases h' with h' | ⟨rfl, h'⟩
      · exact .inl (UInt8.lt_trans h h')
      · exact .inl h
    · rcases h' with h' | ⟨rfl, h'⟩
      · exact .inl h'
      · exact .inr ⟨rfl, bl_trans a b c h h'⟩
theorem bl_tri : ∀ a b : List UInt8, Op.bytesLess a b = false → Op.bytesLess b a = false → a = b
  | [], [], _, _ => rfl
  | [], _ :: _, h, _ => by simp [Op.bytesLess] at h
  | _ :: _, [], _, h => by simp [Op.bytesLess] at h
  | x :: a, y :: b, h, h' => by
    simp only [bl_cons, Bool.or_eq_false_iff, decide_eq_false_iff_not, Bool.and_eq_false_iff] at h h'
    have e : x = y := UInt8.le_antisymm (UInt8.not_lt.1 h'.1) (UInt8.not_lt.1 h.1)
    subst e
    simp only [beq_self_eq_true, Bool.true_eq_false, false_or] at h h'
    rw [bl_tri a b h.2 h'.2]
theorem bl_asymm (a b : List UInt8) (h : Op.bytesLess a b = true) : Op.bytesLess b a = false := by
  cases h' : Op.bytesLess b a
  · rfl
  · have := bl_trans a b a h h'
    rw [bl_irrefl] at this
    cases this
/-- What strings.Compare answers. -/
theorem cmp_bl : ∀ a b : List UInt8, Lib.compareBytes a b = if Op.bytesLess a b then -1 else if a = b then 0 else 1
  | [], [] => rfl
  | [], _ :: _ => rfl
  | _ :: _, [] => by simp [Lib.compareBytes, Op.bytesLess]
  | x :: a, y :: b => by
    simp only [Lib.compareBytes, bl_cons, cmp_bl a b]
    by_cases h : x < y
    · simp [h]
    · by_cases h' : y < x
      · have : x ≠ y := fun e => by subst e; exact UInt8.lt_irrefl x h'
        simp [h, h', this]
      · have e : x = y := UInt8.le_antisymm (UInt8.not_lt.1 h') (UInt8.not_lt.1 h)
        subst e
        simp [h]

def ltB (a b : ByteArray) : Bool := Op.bytesLess a.toList b.toList
theorem toList_inj {a b : ByteArray} (h : a.toList = b.toList) : a = b := by
  have : eqS a b = true := by simp [eqS, h]
  exact eqS_iff.1 this
theorem ltB_irrefl (a : ByteArray) : ltB a a = false := bl_irrefl _
theorem ltB_trans {a b c : ByteArray} (h : ltB a b = true) (h' : ltB b c = true) : ltB a c = true := bl_trans _ _ _ h h'
theorem ltB_asymm {a b : ByteArray} (h : ltB a b = true) : ltB b a = false := bl_asymm _ _ h
theorem ltB_tri {a b : ByteArray} (h : ltB a b = false) (h' : ltB b a = false) : a = b := toList_inj (bl_tri _ _ h h')
theorem ltB_ne {a b : ByteArray} (h : ltB a b = true) : a ≠ b := fun e => by subst e; rw [ltB_irrefl] at h; cases h
theorem ltB_gt {a b : ByteArray} (h : a ≠ b) (h' : ltB a b = false) : ltB b a = true := by
  cases h2 : ltB b a
  · exact absurd (ltB_tri h' h2) h
  · rfl

/-- A lot put where its name belongs. -/
def insL (l : SLot) : List SLot → List SLot
  | [] => [l]
  | a :: r => if ltB a.name l.name then a :: insL l r else l :: a :: r
/-- The lots in the order of their names. -/
def sortL (ls : List SLot) : List SLot := ls.foldl (fun s l => insL l s) []
theorem sortL_snoc (ls : List SLot) (l : SLot) : sortL (ls ++ [l]) = insL l (sortL ls) := by simp [sortL]
theorem insL_mem (l a : SLot) (s : List SLot) : a ∈ insL l s ↔ a = l ∨ a ∈ s := by
  induction s with
  | nil => simp [insL]
  | cons b s ih =>
    simp only [insL]
    split
    · simp only [List.mem_cons, ih]
      constructor <;> (rintro (h | h | h) <;> simp [h])
    · simp
theorem insL_length (l : SLot) (s : List SLot) : (insL l s).length = s.length + 1 := by
  induction s with
  | nil => rfl
  | cons b s ih =>
    simp only [insL]
    split <;> simp [ih]
/-- Strictly in order. -/
def Asc (s : List SLot) : Prop := s.Pairwise (fun a b => ltB a.name b.name = true)
theorem insL_asc {l : SLot} {s : List SLot} (h : Asc s) (hn : ∀ a ∈ s, a.name ≠ l.name) : Asc (insL l s) := by
  induction s with
  | nil => simp [insL, Asc]
  | cons b s ih =>
    have h' := List.pairwise_cons.1 h
    simp only [insL]
    split
    · rename_i hb
      refine List.pairwise_cons.2 ⟨fun a ha => ?_, ih h'.2 (fun a ha => hn a (by simp [ha]))⟩
      rcases (insL_mem l a s).1 ha with rfl | ha
      · exact hb
      · exact h'.1 a ha
    · rename_i hb
      have hl : ltB l.name b.name = true := ltB_gt (hn b (by simp)) (by simpa using hb)
      refine List.pairwise_cons.2 ⟨fun a ha => ?_, h⟩
      rcases List.mem_cons.1 ha with rfl | ha
      · exact hl
      · exact ltB_trans hl (h'.1 a ha)
def Apart (ls : List SLot) : Prop := ls.Pairwise (fun a b => a.name ≠ b.name)
theorem apart_snoc {ls : List SLot} {l : SLot} (h : Apart ls) (hn : ∀ a ∈ ls, a.name ≠ l.name) : Apart (ls ++ [l]) := by
  refine List.pairwise_append.2 ⟨h, by simp, fun a ha b hb => ?_⟩
  simp at hb
  subst hb
  exact hn a ha
theorem sortL_ind {P : List SLot → Prop} (h0 : P []) (h1 : ∀ ls l, P ls → P (ls ++ [l])) (ls : List SLot) : P ls := by
  have : ∀ n, ∀ ls : List SLot, ls.length = n → P ls := by
    intro n
    induction n with
    | zero => intro ls h; rw [List.eq_nil_of_length_eq_zero h]; exact h0
    | succ n ih =>
      intro ls h
      have hne : ls ≠ [] := fun e => by subst e; simp at h
      rw [← List.dropLast_concat_getLast hne]
      exact h1 _ _ (ih _ (by simp [h]))
  exact this _ ls rfl
theorem sortL_mem (ls : List SLot) (a : SLot) : a ∈ sortL ls ↔ a ∈ ls := by
  refine sortL_ind (P := fun ls => a ∈ sortL ls ↔ a ∈ ls) (by simp [sortL]) (fun ls l ih => ?_) ls
  rw [sortL_snoc, insL_mem, ih]
  simp only [List.mem_append, List.mem_singleton]
  exact Or.comm
theorem sortL_length (ls : List SLot) : (sortL ls).length = ls.length := by
  refine sortL_ind (P := fun ls => (sortL ls).length = ls.length) rfl (fun ls l ih => ?_) ls
  rw [sortL_snoc, insL_length, ih]
  simp
theorem apart_init {ls : List SLot} {l : SLot} (h : Apart (ls ++ [l])) : Apart ls ∧ ∀ a ∈ ls, a.name ≠ l.name := by
  have := List.pairwise_append.1 h
  exact ⟨this.1, fun a ha => this.2.2 a ha l (by simp)⟩
theorem sortL_asc {ls : List SLot} (h : Apart ls) : Asc (sortL ls) := by
  refine sortL_ind (P := fun ls => Apart ls → Asc (sortL ls)) (fun _ => by simp [sortL, Asc]) (fun ls l ih h => ?_) ls h
  rw [sortL_snoc]
  have := apart_init h
  exact insL_asc (ih this.1) (fun a ha => this.2 a ((sortL_mem ls a).1 ha))
theorem insL_below {l : SLot} : ∀ {s : List SLot}, (∀ a ∈ s, ltB a.name l.name = false) → insL l s = l :: s
  | [], _ => rfl
  | b :: s, h => by simp [insL, h b (by simp)]
theorem insL_filter {p : SLot → Bool} {l : SLot} {s : List SLot} (h : Asc s) (hn : ∀ a ∈ s, a.name ≠ l.name) : (insL l s).filter p = if p l then insL l (s.filter p) else s.filter p := by
  induction s with
  | nil => cases hp : p l <;> simp [insL, hp]
  | cons b s ih =>
    have h' := List.pairwise_cons.1 h
    have ih := ih h'.2 (fun a ha => hn a (by simp [ha]))
    simp only [insL]
    split
    · rename_i hb
      cases hp : p b
      · simp only [List.filter_cons, hp, Bool.false_eq_true, if_false, ih]
      · simp only [List.filter_cons, hp, if_true, ih]
        cases p l <;> simp [insL, hb]
    · rename_i hb
      have hl : ltB l.name b.name = true := ltB_gt (hn b (by simp)) (by simpa using hb)
      have hs : insL l ((b :: s).filter p) = l :: (b :: s).filter p := insL_below (fun a ha => by
        have ha' := (List.mem_filter.1 ha).1
        rcases List.mem_cons.1 ha' with rfl | ha'
        · simpa using hb
        · exact ltB_asymm (ltB_trans hl (h'.1 a ha')))
      rw [hs]
      cases hp : p l <;> simp [hp]
theorem sortL_filter {p : SLot → Bool} {ls : List SLot} (h : Apart ls) : sortL (ls.filter p) = (sortL ls).filter p := by
  refine sortL_ind (P := fun ls => Apart ls → sortL (ls.filter p) = (sortL ls).filter p) (fun _ => rfl) (fun ls l ih h => ?_) ls h
  have ha := apart_init h
  rw [sortL_snoc, insL_filter (sortL_asc ha.1) (fun a hm => ha.2 a ((sortL_mem ls a).1 hm)), ← ih ha.1, List.filter_append]
  cases hp : p l
  · simp [hp]
  · simp only [List.filter_cons, hp, if_true, List.filter_nil]
    exact sortL_snoc _ _
/-- How many lots have a name below this one. -/
def placeL (s : List SLot) (nm : ByteArray) : Nat := (s.takeWhile (fun a => ltB a.name nm)).length
theorem insL_place (l : SLot) (s : List SLot) : insL l s = s.take (placeL s l.name) ++ l :: s.drop (placeL s l.name) := by
  induction s with
  | nil => rfl
  | cons b s ih =>
    simp only [insL, placeL, List.takeWhile_cons]
    cases hb : ltB b.name l.name
    · simp
    · simp only [if_true, List.length_cons, List.take_succ_cons, List.drop_succ_cons, List.cons_append]
      rw [ih]
      rfl

/-- A player's bid for a lot set; 0: none. -/
def setB (bs : List SBid) (lot : ByteArray) (n : Int) : List SBid := bs.filter (fun b => !eqS b.lot lot) ++ (if 0 < n then [⟨lot, n⟩] else [])
theorem bidI_append (a b : List SBid) (lot : ByteArray) (h : ∀ x ∈ a, x.lot ≠ lot) : bidI (a ++ b) lot = bidI b lot := by
  induction a with
  | nil => rfl
  | cons x a ih =>
    have hx : eqS x.lot lot = false := by
      cases e : eqS x.lot lot
      · rfl
      · exact absurd (eqS_iff.1 e) (h x (by simp))
    simp only [List.cons_append, bidI, hx, Bool.false_eq_true, if_false]
    exact ih (fun y hy => h y (by simp [hy]))
theorem bidI_set_same (bs : List SBid) (lot : ByteArray) (n : Int) (hn : 0 ≤ n) : bidI (setB bs lot n) lot = n := by
  unfold setB
  rw [bidI_append _ _ _ (fun x hx => by
    have := (List.mem_filter.1 hx).2
    intro e
    rw [eqS_iff.2 e] at this
    simp at this)]
  split
  · have : eqS lot lot = true := eqS_iff.2 rfl
    simp [bidI, this]
  · simp only [bidI]; omega
theorem bidI_set_other (bs : List SBid) {lot nm : ByteArray} (n : Int) (h : nm ≠ lot) : bidI (setB bs lot n) nm = bidI bs nm := by
  have key : ∀ tail : List SBid, bidI tail nm = 0 → bidI (bs.filter (fun b => !eqS b.lot lot) ++ tail) nm = bidI bs nm := by
    intro tail ht
    induction bs with
    | nil => simpa [bidI] using ht
    | cons x bs ih =>
      cases e : eqS x.lot lot
      · simp only [List.filter_cons, e, Bool.not_false, if_true, List.cons_append, bidI, ih]
      · have e' : eqS x.lot nm = false := by
          cases e2 : eqS x.lot nm
          · rfl
          · exact absurd ((eqS_iff.1 e2).symm.trans (eqS_iff.1 e)) h
        simp only [List.filter_cons, e, Bool.not_true, Bool.false_eq_true, if_false, bidI, e', ih]
  unfold setB
  refine key _ ?_
  split
  · have : eqS lot nm = false := by
      cases e2 : eqS lot nm
      · rfl
      · exact absurd (eqS_iff.1 e2).symm h
    simp [bidI, this]
  · rfl

/-- A player's bids, each for another of these lots. -/
structure BidsOK (names : List ByteArray) (bs : List SBid) : Prop where
  mem : ∀ b ∈ bs, b.lot ∈ names
  dist : bs.Pairwise (fun a b => a.lot ≠ b.lot)
  pos : ∀ b ∈ bs, 0 < b.n ∧ b.n ≤ 100000
theorem BidsOK.nil (names : List ByteArray) : BidsOK names [] := ⟨by simp, by simp, by simp⟩
theorem bidI_none {bs : List SBid} {nm : ByteArray} (h : ∀ b ∈ bs, b.lot ≠ nm) : bidI bs nm = 0 := by
  have := bidI_append bs [] nm h
  simpa [bidI] using this
theorem BidsOK.set {names : List ByteArray} {bs : List SBid} (h : BidsOK names bs) {lot : ByteArray} {n : Int} (hl : lot ∈ names) (hn : n ≤ 100000) : BidsOK names (setB bs lot n) := by
  have hf : ∀ b ∈ bs.filter (fun b => !eqS b.lot lot), b ∈ bs ∧ b.lot ≠ lot := fun b hb => by
    have := List.mem_filter.1 hb
    exact ⟨this.1, fun e => by have h2 := this.2; rw [eqS_iff.2 e] at h2; simp at h2⟩
  have ht : ∀ b ∈ (if 0 < n then [(⟨lot, n⟩ : SBid)] else []), b.lot = lot ∧ 0 < b.n ∧ b.n ≤ 100000 := fun b hb => by
    split at hb
    · simp at hb; subst hb; exact ⟨rfl, by assumption, hn⟩
    · simp at hb
  refine ⟨fun b hb => ?_, ?_, fun b hb => ?_⟩
  · rcases List.mem_append.1 hb with hb | hb
    · exact h.mem b (hf b hb).1
    · rw [(ht b hb).1]; exact hl
  · refine List.pairwise_append.2 ⟨h.dist.filter _, ?_, fun a ha b hb => ?_⟩
    · split <;> simp
    · rw [(ht b hb).1]; exact (hf a ha).2
  · rcases List.mem_append.1 hb with hb | hb
    · exact h.pos b (hf b hb).1
    · exact (ht b hb).2
theorem setB_zero (bs : List SBid) (lot : ByteArray) : setB bs lot 0 = bs.filter (fun b => !eqS b.lot lot) := by simp [setB]
theorem BidsOK.drop {names : List ByteArray} {bs : List SBid} (h : BidsOK names bs) (lot : ByteArray) : BidsOK (names.filter (fun x => !eqS x lot)) (setB bs lot 0) := by
  rw [setB_zero]
  refine ⟨fun b hb => ?_, h.dist.filter _, fun b hb => h.pos b (List.mem_filter.1 hb).1⟩
  have := List.mem_filter.1 hb
  exact List.mem_filter.2 ⟨h.mem b this.1, this.2⟩
theorem BidsOK.mono {names names' : List ByteArray} {bs : List SBid} (h : BidsOK names bs) (hs : ∀ x ∈ names, x ∈ names') : BidsOK names' bs := ⟨fun b hb => hs _ (h.mem b hb), h.dist, h.pos⟩
/-- All bids together are the bids for all lots. -/
theorem sum_one (names : List ByteArray) (hd : names.Nodup) (x : ByteArray) (hx : x ∈ names) (c : Int) (f : ByteArray → Int) (hf : f x = 0) :
    (names.map (fun nm => if eqS x nm then c else f nm)).sum = c + (names.map f).sum := by
  induction names with
  | nil => simp at hx
  | cons a r ih =>
    have hd' := List.nodup_cons.1 hd
    simp only [List.map_cons, List.sum_cons]
    by_cases e : x = a
    · subst e
      have e1 : eqS x x = true := eqS_iff.2 rfl
      have : r.map (fun nm => if eqS x nm then c else f nm) = r.map f := List.map_congr_left (fun nm hm => by
        have : eqS x nm = false := by
          cases e2 : eqS x nm
          · rfl
          · exact absurd (eqS_iff.1 e2 ▸ hm) hd'.1
        simp [this])
      rw [this, e1, hf]
      simp
    · have e1 : eqS x a = false := by
        cases e2 : eqS x a
        · rfl
        · exact absurd (eqS_iff.1 e2) e
      have hx' : x ∈ r := by simpa [e] using hx
      rw [e1, ih hd'.2 hx']
      simp only [Bool.false_eq_true, if_false]
      omega
theorem sum_bids {names : List ByteArray} (hd : names.Nodup) (he : emptyB ∉ names) {bs : List SBid} (h : BidsOK names bs) : (names.map (bidI bs)).sum = stakedI bs emptyB := by
  induction bs with
  | nil =>
    have : names.map (bidI []) = names.map (fun _ => 0) := rfl
    rw [this]
    clear this h hd he
    induction names with
    | nil => rfl
    | cons a r ih => simpa [stakedI] using ih
  | cons b r ih =>
    have hd' := List.pairwise_cons.1 h.dist
    have h0 : bidI r b.lot = 0 := bidI_none (fun x hx e => hd'.1 x hx e.symm)
    have hb := h.mem b (by simp)
    have e1 : eqS b.lot emptyB = false := by
      cases e2 : eqS b.lot emptyB
      · rfl
      · exact absurd (eqS_iff.1 e2 ▸ hb) he
    have := sum_one names hd b.lot hb b.n (bidI r) h0
    simp only [stakedI, e1, Bool.false_eq_true, if_false]
    rw [← ih ⟨fun x hx => h.mem x (by simp [hx]), hd'.2, fun x hx => h.pos x (by simp [hx])⟩, ← this]
    rfl
theorem staked_but {names : List ByteArray} (he : emptyB ∉ names) {bs : List SBid} (h : BidsOK names bs) (lot : ByteArray) : stakedI bs lot = stakedI bs emptyB - bidI bs lot := by
  induction bs with
  | nil => rfl
  | cons b r ih =>
    have hd' := List.pairwise_cons.1 h.dist
    have hb := h.mem b (by simp)
    have e1 : eqS b.lot emptyB = false := by
      cases e2 : eqS b.lot emptyB
      · rfl
      · exact absurd (eqS_iff.1 e2 ▸ hb) he
    have ih := ih ⟨fun x hx => h.mem x (by simp [hx]), hd'.2, fun x hx => h.pos x (by simp [hx])⟩
    simp only [stakedI, bidI, e1, Bool.false_eq_true, if_false, ih]
    cases e : eqS b.lot lot
    · simp only [Bool.false_eq_true, if_false]; omega
    · have h0 : bidI r lot = 0 := bidI_none (fun x hx e' => hd'.1 x hx ((eqS_iff.1 e).trans e'.symm))
      simp only [if_true, h0]; omega
theorem staked_nonneg {names : List ByteArray} {bs : List SBid} (h : BidsOK names bs) (lot : ByteArray) : 0 ≤ stakedI bs lot := by
  induction bs with
  | nil => exact Int.le_refl 0
  | cons b r ih =>
    have hd' := List.pairwise_cons.1 h.dist
    have hp := h.pos b (by simp)
    have ih := ih ⟨fun x hx => h.mem x (by simp [hx]), hd'.2, fun x hx => h.pos x (by simp [hx])⟩
    simp only [stakedI]
    split <;> omega
end Go.Proofs.YtlafddeoheambaaGreatDoor

/-
  How lots close, said plainly: who wins, and for how much; what is told of it; what a Tick's end comes to.
-/
namespace Go.Proofs.YtlafddeoheambaaGreatDoor
open Go.RowKit

/-- Of the first k bids that count, but for one player's, whose is the highest, and what it is; -1, 0: there is none. -/
def highTo (bid : Nat → Int) (least but : Int) : Nat → Int × Int
  | 0 => (-1, 0)
  | k + 1 => if (k : Int) ≠ but ∧ 0 < bid k ∧ least ≤ bid k ∧ (highTo bid least but k).2 < bid k then (k, bid k) else highTo bid least but k
def winI (bid : Nat → Int) (least : Int) (n : Nat) : Int := (highTo bid least (-1) n).1
def paysI (bid : Nat → Int) (least : Int) (n : Nat) : Int :=
  if 0 ≤ winI bid least n ∧ 0 ≤ (highTo bid least (winI bid least n) n).1 then (highTo bid least (winI bid least n) n).2 else least

theorem highTo_congr {bid bid' : Nat → Int} {least but : Int} {n : Nat} (h : ∀ k, k < n → bid k = bid' k) : highTo bid least but n = highTo bid' least but n := by
  induction n with
  | zero => rfl
  | succ n ih =>
    simp only [highTo]
    rw [ih (fun k hk => h k (by omega)), h n (by omega)]
theorem highTo_more {bid : Nat → Int} {least but : Int} {n m : Nat} (hnm : n ≤ m) (h : ∀ k, n ≤ k → k < m → bid k = 0) : highTo bid least but m = highTo bid least but n := by
  induction m with
  | zero => rw [show n = 0 by omega]
  | succ m ih =>
    by_cases e : n = m + 1
    · rw [e]
    · rw [← ih (by omega) (fun k h1 h2 => h k h1 (by omega))]
      simp only [highTo]
      rw [if_neg]
      rintro ⟨_, h2, _⟩
      rw [h m (by omega) (by omega)] at h2
      omega
theorem highTo_form (bid : Nat → Int) (least but : Int) (n : Nat) : (highTo bid least but n = (-1, 0)) ∨ ∃ k, k < n ∧ highTo bid least but n = ((k : Int), bid k) ∧ 0 < bid k ∧ least ≤ bid k ∧ (k : Int) ≠ but := by
  induction n with
  | zero => exact .inl rfl
  | succ n ih =>
    simp only [highTo]
    split
    · rename_i h
      exact .inr ⟨n, by omega, rfl, h.2.1, h.2.2.1, h.1⟩
    · rcases ih with h | ⟨k, h1, h2⟩
      · exact .inl h
      · exact .inr ⟨k, by omega, h2⟩
theorem highTo_max {bid : Nat → Int} {least but : Int} {n : Nat} {k : Nat} (hk : k < n) (h : (k : Int) ≠ but) (h0 : 0 < bid k) (hl : least ≤ bid k) : bid k ≤ (highTo bid least but n).2 := by
  induction n with
  | zero => omega
  | succ n ih =>
    simp only [highTo]
    split
    · rename_i hc
      by_cases e : k = n
      · subst e; exact Int.le_refl _
      · have := ih (by omega); simp only; omega
    · rename_i hc
      by_cases e : k = n
      · subst e
        have hc' : ¬ (highTo bid least but k).2 < bid k := fun h' => hc ⟨h, h0, hl, h'⟩
        omega
      · exact ih (by omega)
theorem highTo_nonneg (bid : Nat → Int) (least but : Int) (n : Nat) : 0 ≤ (highTo bid least but n).2 := by
  rcases highTo_form bid least but n with h | ⟨k, _, h, h0, _⟩
  · rw [h]; exact Int.le_refl _
  · rw [h]; simp only; omega
theorem winI_form (bid : Nat → Int) (least : Int) (n : Nat) : winI bid least n = -1 ∨ ∃ k, k < n ∧ winI bid least n = k ∧ 0 < bid k ∧ least ≤ bid k := by
  unfold winI
  rcases highTo_form bid least (-1) n with h | ⟨k, h1, h, h0, h2, _⟩
  · exact .inl (by rw [h])
  · exact .inr ⟨k, h1, by rw [h], h0, h2⟩
/-- The winner pays no more than its bid, and no less than the least. -/
theorem pays_le {bid : Nat → Int} {least : Int} {n k : Nat} (h : winI bid least n = k) : least ≤ paysI bid least n ∧ paysI bid least n ≤ bid k := by
  have hb : k < n ∧ bid k = (highTo bid least (-1) n).2 ∧ least ≤ bid k := by
    unfold winI at h
    rcases highTo_form bid least (-1) n with h' | ⟨j, h1, h', h0, h2, _⟩
    · rw [h'] at h; simp at h
    · rw [h'] at h ⊢
      have : j = k := by simp at h; omega
      subst this
      exact ⟨h1, rfl, h2⟩
  unfold paysI
  rw [h]
  split
  · rename_i hc
    rcases highTo_form bid least (k : Int) n with h' | ⟨j, h1, h', h0, h2, h3⟩
    · rw [h'] at hc; simp at hc
    · rw [h']
      refine ⟨h2, ?_⟩
      rw [hb.2.1]
      exact highTo_max h1 (by omega) h0 h2
  · exact ⟨Int.le_refl _, hb.2.2⟩

/-- What the program reckons in one pass: the winner, the price, the highest bid. -/
def closeTo (bid : Nat → Int) (least : Int) : Nat → Int × Int × Int
  | 0 => (-1, 0, 0)
  | k + 1 =>
    let r := closeTo bid least k
    if bid k = 0 ∨ bid k < least then r
    else if r.1 = -1 then (k, least, bid k)
    else if r.2.2 < bid k then (k, r.2.2, bid k)
    else if r.2.1 < bid k then (r.1, bid k, r.2.2)
    else r
/-- One pass finds the winner, and what the winner pays. -/
theorem close_high {bid : Nat → Int} {least : Int} (hb : ∀ k, 0 ≤ bid k) (n : Nat) :
    (closeTo bid least n).1 = winI bid least n ∧ (closeTo bid least n).2.2 = (highTo bid least (-1) n).2 ∧ (0 ≤ winI bid least n → (closeTo bid least n).2.1 = paysI bid least n) ∧ (winI bid least n < 0 → (closeTo bid least n).2.1 = 0) := by
  induction n with
  | zero => exact ⟨rfl, rfl, fun h => by simp [winI, highTo] at h, fun _ => rfl⟩
  | succ n ih =>
    obtain ⟨i1, i2, i3, i4⟩ := ih
    have hn1 : ((n : Int) ≠ -1) := by omega
    have nn := highTo_nonneg bid least (-1) n
    have b0 := hb n
    simp only [closeTo]
    by_cases hc : bid n = 0 ∨ bid n < least
    · rw [if_pos hc]
      have e : ∀ but, highTo bid least but (n + 1) = highTo bid least but n := fun but => by
        simp only [highTo]
        rw [if_neg]
        rintro ⟨_, h1, h2, _⟩
        omega
      unfold paysI winI at *
      simp only [e]
      exact ⟨i1, i2, i3, i4⟩
    · rw [if_neg hc]
      have hbn : 0 < bid n ∧ least ≤ bid n := by omega
      by_cases hw : (closeTo bid least n).1 = -1
      · rw [if_pos hw]
        have h1 : highTo bid least (-1) n = (-1, 0) := by
          rcases highTo_form bid least (-1) n with h | ⟨k, _, h, _⟩
          · exact h
          · rw [i1] at hw; unfold winI at hw; rw [h] at hw; simp at hw
        have e1 : highTo bid least (-1) (n + 1) = ((n : Int), bid n) := by
          simp only [highTo]
          rw [if_pos ⟨hn1, hbn.1, hbn.2, by rw [h1]; exact hbn.1⟩]
        have e2 : highTo bid least (n : Int) (n + 1) = (-1, 0) := by
          have h2 : ∀ m, m ≤ n → highTo bid least (n : Int) m = (-1, 0) := by
            intro m hm
            rcases highTo_form bid least (n : Int) m with h | ⟨k, hk, h, h0, hl, _⟩
            · exact h
            · have := highTo_max (but := -1) (n := n) (k := k) (by omega) (by omega) h0 hl
              rw [h1] at this
              simp at this
              omega
          simp only [highTo]
          rw [if_neg (fun h => h.1 rfl), h2 n (Nat.le_refl _)]
        have ew : winI bid least (n + 1) = n := by unfold winI; rw [e1]
        refine ⟨by rw [ew], by rw [e1], fun _ => ?_, fun h => by rw [ew] at h; omega⟩
        unfold paysI
        rw [ew, e2]
        simp
      · rw [if_neg hw]
        obtain ⟨j, hj, ej, hj0, hjl⟩ : ∃ j, j < n ∧ highTo bid least (-1) n = ((j : Int), bid j) ∧ 0 < bid j ∧ least ≤ bid j := by
          rcases highTo_form bid least (-1) n with h | ⟨k, h1, h, h0, h2, _⟩
          · exact absurd (by rw [i1]; unfold winI; rw [h]) hw
          · exact ⟨k, h1, h, h0, h2⟩
        have ewn : winI bid least n = j := by unfold winI; rw [ej]
        have i3' := i3 (by rw [ewn]; omega)
        have i2' : (closeTo bid least n).2.2 = bid j := by rw [i2, ej]
        rw [i2', i1, i3', ewn]
        by_cases hh : bid j < bid n
        · rw [if_pos hh]
          have e1 : highTo bid least (-1) (n + 1) = ((n : Int), bid n) := by
            simp only [highTo]
            rw [if_pos ⟨hn1, hbn.1, hbn.2, by rw [ej]; exact hh⟩]
          have ew : winI bid least (n + 1) = n := by unfold winI; rw [e1]
          have e2 : highTo bid least (n : Int) (n + 1) = ((j : Int), bid j) := by
            have h2 : ∀ m, m ≤ n → highTo bid least (n : Int) m = highTo bid least (-1) m := by
              intro m hm
              induction m with
              | zero => rfl
              | succ m ihm =>
                simp only [highTo]
                rw [ihm (by omega)]
                have a1 : (m : Int) ≠ (n : Int) := by omega
                have a2 : (m : Int) ≠ -1 := by omega
                simp [a1, a2]
            simp only [highTo]
            rw [if_neg (fun h => h.1 rfl), h2 n (Nat.le_refl _), ej]
          refine ⟨by rw [ew], by rw [e1], fun _ => ?_, fun h => by rw [ew] at h; omega⟩
          unfold paysI
          rw [ew, e2]
          simp
        · rw [if_neg hh]
          have e1 : highTo bid least (-1) (n + 1) = ((j : Int), bid j) := by
            simp only [highTo]
            rw [if_neg (by rw [ej]; simp only; omega), ej]
          have ew : winI bid least (n + 1) = j := by unfold winI; rw [e1]
          have hjn : (n : Int) ≠ (j : Int) := by omega
          have e2 : highTo bid least (j : Int) (n + 1) = if (highTo bid least (j : Int) n).2 < bid n then ((n : Int), bid n) else highTo bid least (j : Int) n := by
            simp only [highTo]
            by_cases h' : (highTo bid least (j : Int) n).2 < bid n
            · rw [if_pos h', if_pos ⟨hjn, hbn.1, hbn.2, h'⟩]
            · rw [if_neg h', if_neg (fun h => h' h.2.2.2)]
          have pn : paysI bid least n = if 0 ≤ (highTo bid least (j : Int) n).1 then (highTo bid least (j : Int) n).2 else least := by
            unfold paysI
            rw [ewn]
            by_cases h' : 0 ≤ (highTo bid least (j : Int) n).1
            · rw [if_pos h', if_pos ⟨by omega, h'⟩]
            · rw [if_neg h', if_neg (fun h => h' h.2)]
          have pn1 : paysI bid least (n + 1) = if 0 ≤ (highTo bid least (j : Int) (n + 1)).1 then (highTo bid least (j : Int) (n + 1)).2 else least := by
            unfold paysI
            rw [ew]
            by_cases h' : 0 ≤ (highTo bid least (j : Int) (n + 1)).1
            · rw [if_pos h', if_pos ⟨by omega, h'⟩]
            · rw [if_neg h', if_neg (fun h => h' h.2)]
          rw [ew, pn1, e2, pn, e1]
          rcases highTo_form bid least (j : Int) n with h | ⟨k, hk, h, h0, hl, _⟩
          · rw [h]
            simp only [if_pos hbn.1]
            have : ¬ ((0 : Int) ≤ -1) := by omega
            simp only [this, if_false]
            by_cases h' : least < bid n
            · rw [if_pos h']
              exact ⟨rfl, rfl, fun _ => by simp, fun h => by omega⟩
            · rw [if_neg h']
              have : bid n = least := by omega
              refine ⟨i1.trans ewn, i2', fun _ => ?_, fun h => by omega⟩
              rw [i3', pn, h]
              simp only [this]
              simp
          · rw [h]
            have hk0 : (0 : Int) ≤ (k : Int) := by omega
            simp only [hk0, if_true]
            by_cases h' : bid k < bid n
            · rw [if_pos h', if_pos h']
              exact ⟨rfl, rfl, fun _ => by simp, fun h => by omega⟩
            · rw [if_neg h', if_neg h']
              refine ⟨i1.trans ewn, i2', fun _ => ?_, fun h => by omega⟩
              rw [i3', pn, h]

def itoaB (n : Int) : ByteArray := ⟨(Lib.itoa n).toArray⟩
def wonW : ByteArray := ⟨#[119, 111, 110, 32]⟩
def forW : ByteArray := ⟨#[32, 102, 111, 114, 32]⟩
def soldW : ByteArray := ⟨#[115, 111, 108, 100, 32]⟩
def passW : ByteArray := ⟨#[112, 97, 115, 115, 101, 100, 32]⟩
/-- What the i-th player is told of a lot that closed. -/
def newsB (nm : ByteArray) (who pays : Int) (i : Nat) : ByteArray :=
  if (i : Int) = who then wonW ++ nm ++ forW ++ itoaB pays else if who < 0 then passW ++ nm else soldW ++ nm
/-- The players' bids for a lot. -/
def bidsOf (ps : List SPlayer) (nm : ByteArray) (k : Nat) : Int := match ps[k]? with
  | none => 0
  | some p => bidI p.bids nm
def soldP (l : SLot) (who pays : Int) (i : Nat) (p : SPlayer) : SPlayer :=
  { p with money := if (i : Int) = who then p.money - pays else p.money, news := p.news ++ [newsB l.name who pays i], bids := setB p.bids l.name 0 }
/-- A lot is sold. -/
def sellS (s : SWorld) (l : SLot) : SWorld :=
  { s with players := s.players.mapIdx (soldP l (winI (bidsOf s.players l.name) l.least s.players.length) (paysI (bidsOf s.players l.name) l.least s.players.length)) }
def dueL (ls : List SLot) (now : Int) : List SLot := (sortL ls).filter (fun l => decide (l.ends = now))
/-- Lots close whose time has come. -/
def closeS (s : SWorld) : SWorld := { (dueL s.lots s.now).foldl sellS s with lots := s.lots.filter (fun l => !decide (l.ends = s.now)) }
theorem closeS_nil {s : SWorld} (h : s.lots = []) : closeS s = { s with lots := [] } := by
  simp [closeS, dueL, h, sortL]
end Go.Proofs.YtlafddeoheambaaGreatDoor

/-
  The open lots as the program keeps them (in the order of their names, the bids by the players' numbers), and as the document says them: that the one says what the other does, behind each thing that becomes of them. No walk in sight.
-/
namespace Go.Proofs.YtlafddeoheambaaGreatDoor
open Go.RowKit

/-- An open lot, as the program keeps it: the bids by the players' numbers. -/
structure XLot where
  name : ByteArray
  ends : Int
  least : Int
  bid : Nat → Int
/-- How a lot closed. -/
structure XSale where
  name : ByteArray
  who : Int
  price : Int
def lotOf (l : XLot) : SLot := ⟨l.name, l.least, l.ends⟩
def xlotCells (l : XLot) : List Value := [.string l.name, .int .i64 l.ends, .int .i64 l.least, .int .i64 (l.bid 0), .int .i64 (l.bid 1), .int .i64 (l.bid 2), .int .i64 (l.bid 3)]
def xsaleCells (l : XSale) : List Value := [.string l.name, .int .i64 l.who, .int .i64 l.price]

/-- What holds of the lots and the bids between two calls. -/
structure LotWF (lots : List SLot) (bss : List (List SBid)) (now : Int) : Prop where
  apart : Apart lots
  nm : ∀ l ∈ lots, l.name ≠ emptyB
  lst : ∀ l ∈ lots, 0 ≤ l.least ∧ l.least ≤ 100000
  ends : ∀ l ∈ lots, now < l.ends ∧ l.ends ≤ now + 1000
  len : lots.length ≤ 4
  bids : ∀ b ∈ bss, BidsOK (lots.map (·.name)) b
def bidAt (bss : List (List SBid)) (nm : ByteArray) (i : Nat) : Int := bidI ((bss[i]?).getD []) nm
/-- The program's list says what the document's lists say. -/
structure LotRel (opens : List XLot) (lots : List SLot) (bss : List (List SBid)) : Prop where
  eq : opens.map lotOf = sortL lots
  bid : ∀ l ∈ opens, ∀ i, l.bid i = bidAt bss l.name i
theorem bidsOf_at (ps : List SPlayer) (nm : ByteArray) (k : Nat) : bidsOf ps nm k = bidAt (ps.map (·.bids)) nm k := by
  unfold bidsOf bidAt
  rw [List.getElem?_map]
  cases ps[k]? <;> rfl
theorem LotRel.nil (bss : List (List SBid)) : LotRel [] [] bss := ⟨rfl, by simp⟩
theorem LotWF.nil {bss : List (List SBid)} (now : Int) (h : ∀ b ∈ bss, b = []) : LotWF [] bss now := ⟨by simp [Apart], by simp, by simp, by simp, by simp, fun b hb => by rw [h b hb]; exact BidsOK.nil _⟩

theorem LotRel.len {opens : List XLot} {lots : List SLot} {bss : List (List SBid)} (h : LotRel opens lots bss) : opens.length = lots.length := by
  have := congrArg List.length h.eq
  rw [sortL_length] at this
  simpa using this
theorem LotRel.mem {opens : List XLot} {lots : List SLot} {bss : List (List SBid)} (h : LotRel opens lots bss) {l : XLot} (hl : l ∈ opens) : lotOf l ∈ lots := by
  rw [← sortL_mem, ← h.eq]
  exact List.mem_map_of_mem hl
theorem LotRel.has {opens : List XLot} {lots : List SLot} {bss : List (List SBid)} (h : LotRel opens lots bss) {l : SLot} (hl : l ∈ lots) : ∃ x ∈ opens, lotOf x = l := by
  rw [← sortL_mem, ← h.eq] at hl
  simpa using hl
/-- The names in order. -/
def AscX (s : List XLot) : Prop := s.Pairwise (fun a b => ltB a.name b.name = true)
theorem LotRel.asc {opens : List XLot} {lots : List SLot} {bss : List (List SBid)} (h : LotRel opens lots bss) (hw : Apart lots) : AscX opens := by
  have := sortL_asc hw
  rw [← h.eq] at this
  exact List.pairwise_map.1 this
theorem apart_names {lots : List SLot} (h : Apart lots) : (lots.map (·.name)).Nodup := by
  unfold List.Nodup
  exact List.pairwise_map.2 h
theorem asc_names {s : List XLot} (h : AscX s) : (s.map (·.name)).Nodup := by
  unfold List.Nodup
  refine List.pairwise_map.2 (h.imp (fun h => ltB_ne h))
theorem LotRel.names {opens : List XLot} {lots : List SLot} {bss : List (List SBid)} (h : LotRel opens lots bss) (x : ByteArray) : x ∈ opens.map (·.name) ↔ x ∈ lots.map (·.name) := by
  constructor
  · intro hx
    obtain ⟨l, hl, rfl⟩ := List.mem_map.1 hx
    exact List.mem_map.2 ⟨lotOf l, h.mem hl, rfl⟩
  · intro hx
    obtain ⟨l, hl, rfl⟩ := List.mem_map.1 hx
    obtain ⟨y, hy, rfl⟩ := h.has hl
    exact List.mem_map.2 ⟨y, hy, rfl⟩
/-- All that a player has bid. -/
theorem LotRel.staked {opens : List XLot} {lots : List SLot} {bss : List (List SBid)} {now : Int} (h : LotRel opens lots bss) (hw : LotWF lots bss now) (i : Nat) :
    (opens.map (fun l => l.bid i)).sum = stakedI ((bss[i]?).getD []) emptyB := by
  have e : opens.map (fun l => l.bid i) = (opens.map (·.name)).map (bidI ((bss[i]?).getD [])) := by
    rw [List.map_map]
    exact List.map_congr_left (fun l hl => h.bid l hl i)
  rw [e]
  refine sum_bids (asc_names (h.asc hw.apart)) (fun hm => ?_) ?_
  · obtain ⟨l, hl, he⟩ := List.mem_map.1 ((h.names _).1 hm)
    exact hw.nm l hl he
  · cases hb : bss[i]? with
    | none => exact BidsOK.nil _
    | some b => exact (hw.bids b (List.mem_of_getElem? hb)).mono (fun x hx => (h.names x).2 hx)
/-- A lot more. -/
theorem lotOf_take (s : List XLot) (k : Nat) : (s.take k).map lotOf = (s.map lotOf).take k := by simp [List.map_take]
def placeX (s : List XLot) (nm : ByteArray) : Nat := (s.takeWhile (fun a => ltB a.name nm)).length
theorem placeX_eq (s : List XLot) (nm : ByteArray) : placeX s nm = placeL (s.map lotOf) nm := by
  unfold placeX placeL
  induction s with
  | nil => rfl
  | cons a s ih =>
    simp only [List.map_cons, List.takeWhile_cons]
    cases h : ltB a.name nm
    · have : ltB (lotOf a).name nm = false := h
      simp [this]
    · have : ltB (lotOf a).name nm = true := h
      simp only [this, if_true, List.length_cons, ih]
theorem LotRel.offer {opens : List XLot} {lots : List SLot} {bss : List (List SBid)} {now : Int} (h : LotRel opens lots bss) (hw : LotWF lots bss now) (nm : ByteArray) (least ends : Int) (hn : ∀ l ∈ lots, l.name ≠ nm) :
    LotRel (opens.take (placeX opens nm) ++ ⟨nm, ends, least, fun _ => 0⟩ :: opens.drop (placeX opens nm)) (lots ++ [⟨nm, least, ends⟩]) bss := by
  refine ⟨?_, fun l hl i => ?_⟩
  · rw [sortL_snoc, insL_place, ← h.eq, placeX_eq]
    simp [List.map_take, List.map_drop, lotOf]
  · rcases List.mem_append.1 hl with hl | hl
    · exact h.bid l (List.mem_of_mem_take hl) i
    · rcases List.mem_cons.1 hl with rfl | hl
      · simp only [bidAt]
        rw [bidI_none]
        intro b hb e
        cases hbs : bss[i]? with
        | none => rw [hbs] at hb; simp at hb
        | some bs =>
          rw [hbs] at hb
          have := (hw.bids bs (List.mem_of_getElem? hbs)).mem b hb
          obtain ⟨l, hl, he⟩ := List.mem_map.1 this
          exact hn l hl (he.trans e)
      · exact h.bid l (List.mem_of_mem_drop hl) i
theorem LotWF.offer {lots : List SLot} {bss : List (List SBid)} {now : Int} (hw : LotWF lots bss now) {nm : ByteArray} {least ticks : Int} (hn : ∀ l ∈ lots, l.name ≠ nm) (h0 : nm ≠ emptyB) (h1 : 0 ≤ least ∧ least ≤ 100000) (h2 : 1 ≤ ticks ∧ ticks ≤ 1000) (h4 : lots.length < 4) :
    LotWF (lots ++ [⟨nm, least, now + ticks⟩]) bss now := by
  have key : ∀ {P : SLot → Prop}, (∀ l ∈ lots, P l) → P ⟨nm, least, now + ticks⟩ → ∀ l ∈ lots ++ [⟨nm, least, now + ticks⟩], P l := fun ha hb l hl => by
    rcases List.mem_append.1 hl with hl | hl
    · exact ha l hl
    · simp at hl; subst hl; exact hb
  refine ⟨apart_snoc hw.apart hn, key hw.nm h0, key hw.lst h1, key hw.ends ⟨by simp only; omega, by simp only; omega⟩, by simp; omega, fun b hb => (hw.bids b hb).mono (fun x hx => by simp [List.map_append]; exact .inl (by simpa using hx))⟩
/-- A bid set. -/
def XLot.setBid (l : XLot) (n : Nat) (k : Int) : XLot := { l with bid := fun j => if j = n then k else l.bid j }
theorem LotRel.setBid {opens : List XLot} {lots : List SLot} {bss : List (List SBid)} (h : LotRel opens lots bss) (hw : Apart lots) {p n : Nat} {l : XLot} (hl : opens[p]? = some l) {bs : List SBid} (hb : bss[n]? = some bs) {k : Int} (hk : 0 ≤ k) :
    LotRel (opens.set p (l.setBid n k)) lots (bss.set n (setB bs l.name k)) := by
  have hasc := h.asc hw
  obtain ⟨hp, ep⟩ := at_some hl
  obtain ⟨hn, en⟩ := at_some hb
  refine ⟨?_, fun x hx i => ?_⟩
  · rw [← h.eq, List.map_set]
    apply List.ext_getElem
    · simp
    · intro j h1 h2
      simp only [List.getElem_set, List.getElem_map]
      split
      · rename_i e; subst e; rw [ep]; rfl
      · rfl
  · obtain ⟨j, hj⟩ := List.getElem?_of_mem hx
    simp only [bidAt]
    by_cases ej : p = j
    · subst ej
      have ex : x = l.setBid n k := by
        rw [List.getElem?_set_self hp] at hj
        injection hj with hj
        exact hj.symm
      subst ex
      show (if i = n then k else l.bid i) = _
      by_cases ei : i = n
      · subst ei
        rw [if_pos rfl, List.getElem?_set_self hn]
        exact (bidI_set_same bs l.name k hk).symm
      · rw [if_neg ei, List.getElem?_set_ne (Ne.symm ei)]
        exact h.bid l (List.mem_of_getElem? hl) i
    · rw [List.getElem?_set_ne ej] at hj
      have hne : x.name ≠ l.name := by
        obtain ⟨hjl, ejx⟩ := at_some hj
        have := List.pairwise_iff_getElem.1 hasc
        rcases Nat.lt_or_gt_of_ne ej with hlt | hgt
        · have := this p j hp hjl hlt
          rw [ep, ejx] at this
          exact (ltB_ne this).symm
        · have := this j p hjl hp hgt
          rw [ep, ejx] at this
          exact ltB_ne this
      by_cases ei : i = n
      · subst ei
        rw [List.getElem?_set_self hn]
        show _ = bidI (setB bs l.name k) x.name
        rw [bidI_set_other bs k hne, h.bid x (List.mem_of_getElem? hj) i]
        simp [bidAt, hb]
      · rw [List.getElem?_set_ne (Ne.symm ei)]
        exact h.bid x (List.mem_of_getElem? hj) i
theorem LotWF.setBid {lots : List SLot} {bss : List (List SBid)} {now : Int} (hw : LotWF lots bss now) {n : Nat} {bs : List SBid} (hb : bss[n]? = some bs) {nm : ByteArray} {k : Int} (hm : nm ∈ lots.map (·.name)) (hk : k ≤ 100000) :
    LotWF lots (bss.set n (setB bs nm k)) now := by
  refine ⟨hw.apart, hw.nm, hw.lst, hw.ends, hw.len, fun b hb' => ?_⟩
  rcases List.mem_or_eq_of_mem_set hb' with h | rfl
  · exact hw.bids b h
  · exact (hw.bids bs (List.mem_of_getElem? hb)).set hm hk

/-- Where the binary search ends: the lots below the name stand in front. -/
theorem asc_below {s : List XLot} (h : AscX s) (nm : ByteArray) {j : Nat} {l : XLot} (hj : s[j]? = some l) : ltB l.name nm = true ↔ j < placeX s nm := by
  unfold placeX
  induction s generalizing j with
  | nil => simp at hj
  | cons a s ih =>
    have h' := List.pairwise_cons.1 h
    simp only [List.takeWhile_cons]
    cases ha : ltB a.name nm
    · simp only [Bool.false_eq_true, if_false, List.length_nil, Nat.not_lt_zero, iff_false]
      cases j with
      | zero => simp at hj; subst hj; simp [ha]
      | succ j =>
        simp at hj
        intro hl
        have := ltB_trans (h'.1 l (List.mem_of_getElem? hj)) hl
        rw [ha] at this
        cases this
    · simp only [if_true, List.length_cons]
      cases j with
      | zero => simp at hj; subst hj; simp [ha]
      | succ j =>
        simp at hj
        rw [ih h'.2 hj]
        omega
theorem placeX_le (s : List XLot) (nm : ByteArray) : placeX s nm ≤ s.length := by
  unfold placeX
  induction s with
  | nil => simp
  | cons a s ih =>
    simp only [List.takeWhile_cons]
    split
    · simp only [List.length_cons]; omega
    · simp
/-- Is it there? -/
theorem openB_place {opens : List XLot} {lots : List SLot} {bss : List (List SBid)} (h : LotRel opens lots bss) (hw : Apart lots) (nm : ByteArray) :
    openB lots nm = true ↔ ∃ l, opens[placeX opens nm]? = some l ∧ l.name = nm := by
  have hasc := h.asc hw
  unfold openB
  rw [List.any_eq_true]
  constructor
  · rintro ⟨l, hl, e⟩
    have e := eqS_iff.1 e
    obtain ⟨x, hx, rfl⟩ := h.has hl
    have e : x.name = nm := e
    obtain ⟨j, hj⟩ := List.getElem?_of_mem hx
    obtain ⟨hjl, _⟩ := at_some hj
    have h1 : ¬ j < placeX opens nm := fun hlt => by
      have := (asc_below hasc nm hj).2 hlt
      rw [e, ltB_irrefl] at this
      cases this
    have h2 : ¬ placeX opens nm < j := fun hlt => by
      have hpl : placeX opens nm < opens.length := by omega
      have hp : opens[placeX opens nm]? = some opens[placeX opens nm] := by simp [hpl]
      have h3 := List.pairwise_iff_getElem.1 hasc _ j hpl hjl hlt
      have h4 : opens[j] = x := (at_some hj).2
      rw [h4, e] at h3
      exact absurd ((asc_below hasc nm hp).1 h3) (Nat.lt_irrefl _)
    have : placeX opens nm = j := by omega
    rw [this]
    exact ⟨x, hj, e⟩
  · rintro ⟨l, hl, e⟩
    exact ⟨lotOf l, h.mem (List.mem_of_getElem? hl), eqS_iff.2 e⟩
end Go.Proofs.YtlafddeoheambaaGreatDoor

/-
  Small functions of the program's package orders: isSmallLetter, plainKind, namingKind, between.
-/
namespace Go.Proofs.YtlafddeoheambaaGreatDoor
open Go.RowKit

/-- A rune that is a small letter. -/
def letterR (r : Int) : Bool := (decide (97 ≤ r) && decide (r ≤ 122)) || (decide (945 ≤ r) && decide (r ≤ 969))

set_option maxHeartbeats 400000 in
theorem letter_any (r : Int) (w : World) :
    Calls Tryz.prog 81 #[.int .i32 r] w fun e w' => e = .returned (.bool (letterR r)) ∧ w' = w := by
  unfold letterR
  by_cases h1 : 97 ≤ r
  · by_cases h2 : r ≤ 122
    · go_enter Tryz.func81, Tryz.ntmps81
      go_wp2
      go_ret
      exact ⟨ret_bool (by simp [h1, h2]), rfl⟩
    · by_cases h3 : 945 ≤ r
      all_goals
        go_enter Tryz.func81, Tryz.ntmps81
        go_wp2
        go_ret
        exact ⟨ret_bool (by simp; omega), rfl⟩
  · go_enter Tryz.func81, Tryz.ntmps81
    go_wp2
    go_ret
    exact ⟨ret_bool (by simp; omega), rfl⟩

/-- The kind of an order of two words. -/
def kindP (b : List UInt8) : Int :=
  if b == [103, 111] then 1 else if b == [108, 101, 102, 116] then 2 else if b == [114, 105, 103, 104, 116] then 3 else if b == [98, 97, 99, 107] then 4 else if b == [100, 105, 103] then 5 else if b == [115, 101, 108, 108] then 6 else 0
def kindN (b : List UInt8) : Int := if b == [98, 117, 105, 108, 100] then 7 else if b == [99, 97, 108, 108] then 8 else 0

set_option maxHeartbeats 1000000 in
theorem plain_any (s : ByteArray) (w : World) :
    Calls Tryz.prog 62 #[.string s] w fun e w' => e = .returned (.int .i64 (kindP s.toList)) ∧ w' = w := by
  unfold kindP
  cases h1 : (s.toList == [103, 111])
  · cases h2 : (s.toList == [108, 101, 102, 116])
    · cases h3 : (s.toList == [114, 105, 103, 104, 116])
      · cases h4 : (s.toList == [98, 97, 99, 107])
        · cases h5 : (s.toList == [100, 105, 103])
          · cases h6 : (s.toList == [115, 101, 108, 108])
            all_goals
              go_enter Tryz.func62, Tryz.ntmps62
              go_wp2
              go_ret
              exact ⟨rfl, rfl⟩
          · go_enter Tryz.func62, Tryz.ntmps62
            go_wp2
            go_ret
            exact ⟨rfl, rfl⟩
        · go_enter Tryz.func62, Tryz.ntmps62
          go_wp2
          go_ret
          exact ⟨rfl, rfl⟩
      · go_enter Tryz.func62, Tryz.ntmps62
        go_wp2
        go_ret
        exact ⟨rfl, rfl⟩
    · go_enter Tryz.func62, Tryz.ntmps62
      go_wp2
      go_ret
      exact ⟨rfl, rfl⟩
  · go_enter Tryz.func62, Tryz.ntmps62
    go_wp2
    go_ret
    exact ⟨rfl, rfl⟩
set_option maxHeartbeats 1000000 in
theorem naming_any (s : ByteArray) (w : World) :
    Calls Tryz.prog 64 #[.string s] w fun e w' => e = .returned (.int .i64 (kindN s.toList)) ∧ w' = w := by
  unfold kindN
  cases h1 : (s.toList == [98, 117, 105, 108, 100])
  · cases h2 : (s.toList == [99, 97, 108, 108])
    all_goals
      go_enter Tryz.func64, Tryz.ntmps64
      go_wp2
      go_ret
      exact ⟨rfl, rfl⟩
  · go_enter Tryz.func64, Tryz.ntmps64
    go_wp2
    go_ret
    exact ⟨rfl, rfl⟩
end Go.Proofs.YtlafddeoheambaaGreatDoor

/-
  How the program's world (package haze) lies in memory: what its blocks hold, which blocks it owns, and what becomes of it where one of them turns.
-/
namespace Go.Proofs.YtlafddeoheambaaGreatDoor
open Go.RowKit

/-- What a block is there for. -/
structure Role where
  t : Nat
  i : Nat
  k : Nat
abbrev Role.top : Role := ⟨0, 0, 0⟩
abbrev Role.ore : Role := ⟨1, 0, 0⟩
abbrev Role.st : Role := ⟨2, 0, 0⟩
abbrev Role.pls : Role := ⟨3, 0, 0⟩
abbrev Role.row (i : Nat) : Role := ⟨4, i, 0⟩
abbrev Role.unit (i k : Nat) : Role := ⟨5, i, k⟩
abbrev Role.opn : Role := ⟨6, 0, 0⟩
abbrev Role.cls : Role := ⟨7, 0, 0⟩

/-- A unit's block, and the bits of its heading. -/
structure XU where
  g : Nat
  a : Nat
  b : Nat
/-- Where a player's units lie. -/
structure XV where
  v : Value
  us : List XU
/-- The program's world. -/
structure XW where
  b : Nat
  width : Int
  height : Int
  sight : Int
  now : Int
  ore : List SSpot
  lots : List SLot
  mo : Nat
  lo : List CE
  co : Nat
  ms : Nat
  ls : List CE
  cs : Nat
  pls : List (SPlayer × XV)
  vPl : Value
  opens : List XLot
  vOp : Value
  sales : List XSale
  vCl : Value
  R : Nat → Role

def XW.S (X : XW) : SWorld := { width := X.width, height := X.height, sight := X.sight, now := X.now, ore := X.ore, players := X.pls.map (·.1), lots := X.lots }

/-- The kind of what a unit was told. -/
def kindW (b : List UInt8) : Int := if kindP b = 0 then kindN b else kindP b
def whatW : List (List UInt8) := [[], [103, 111], [108, 101, 102, 116], [114, 105, 103, 104, 116], [98, 97, 99, 107], [100, 105, 103], [115, 101, 108, 108], [98, 117, 105, 108, 100], [99, 97, 108, 108]]

def xuCells (u : SUnit) (x : XU) : Array Value := #[.string u.name, .complex .f64 (flI u.x) (flI u.y), .complex .f64 x.a x.b, .int .i64 u.cargo, .int .i64 (kindW u.what.toList), .string ⟨#[]⟩, .string u.arg, .int .i64 0]
def xplCells (q : SPlayer × XV) : List Value := [.int .i64 q.1.money, q.2.v]
def XW.cells (X : XW) : Array Value := #[.int .i64 X.now, .int .i64 X.width, .int .i64 X.height, .int .i64 X.sight, .map (some X.mo), .map (some X.ms), X.vPl, X.vOp, X.vCl]
def xvFoot (q : SPlayer × XV) : List Nat := blk q.2.v ++ q.2.us.map (·.g)
def XW.foot (X : XW) : List Nat := X.b :: X.mo :: X.ms :: (blk X.vPl ++ (X.pls.flatMap xvFoot ++ (blk X.vOp ++ blk X.vCl)))
def ptrV (x : XU) : Value := .pointer (some ⟨x.g, 0, none⟩)

structure RepU (w : World) (u : SUnit) (x : XU) : Prop where
  is : w.heap[x.g]? = some (.cells (xuCells u x) 91 (0, 0))
  head : HeadC u.head x.a x.b
  what : u.what.toList ∈ whatW
structure RepQ (w : World) (q : SPlayer × XV) : Prop where
  row : w.ownsRow 0 73 1 q.2.v q.2.us.length (q.2.us.map ptrV)
  len : q.2.us.length = q.1.units.length
  unit : ∀ (k : Nat) u x, q.1.units[k]? = some u → q.2.us[k]? = some x → RepU w u x
/-- The rows of lots. -/
def RepL (w : World) (v : Value) (l : List XLot) (v' : Value) (l' : List XSale) : Prop := w.ownsRow 0 108 7 v l.length (l.flatMap xlotCells) ∧ w.ownsRow 0 137 3 v' l'.length (l'.flatMap xsaleCells)
def RolesL (R : Nat → Role) (v v' : Value) : Prop := (∀ r ∈ blk v, R r = .opn) ∧ (∀ r ∈ blk v', R r = .cls)
structure Roles (X : XW) : Prop where
  b : X.R X.b = .top
  mo : X.R X.mo = .ore
  ms : X.R X.ms = .st
  pl : ∀ r ∈ blk X.vPl, X.R r = .pls
  lot : RolesL X.R X.vOp X.vCl
  row : ∀ (i : Nat) q, X.pls[i]? = some q → ∀ r ∈ blk q.2.v, X.R r = .row i
  unit : ∀ (i : Nat) q (k : Nat) x, X.pls[i]? = some q → q.2.us[k]? = some x → X.R x.g = .unit i k
structure RepX (w : World) (X : XW) : Prop where
  top : w.heap[X.b]? = some (.cells X.cells 84 (0, 0))
  ore : MapD w X.mo X.lo X.co
  st : MapD w X.ms X.ls X.cs
  pl : w.ownsRow 0 76 2 X.vPl X.pls.length (X.pls.flatMap xplCells)
  lot : RepL w X.vOp X.opens X.vCl X.sales
  each : ∀ (i : Nat) q, X.pls[i]? = some q → RepQ w q
  roles : Roles X

theorem xfoot_b {X : XW} : X.b ∈ X.foot := by simp [XW.foot]
theorem xfoot_mo {X : XW} : X.mo ∈ X.foot := by simp [XW.foot]
theorem xfoot_ms {X : XW} : X.ms ∈ X.foot := by simp [XW.foot]
theorem xfoot_pl {X : XW} {r : Nat} (h : r ∈ blk X.vPl) : r ∈ X.foot := by simp [XW.foot, h]
theorem xfoot_q {X : XW} {i : Nat} {q : SPlayer × XV} (hq : X.pls[i]? = some q) {r : Nat} (h : r ∈ xvFoot q) : r ∈ X.foot := by
  have : q ∈ X.pls := List.mem_of_getElem? hq
  simp only [XW.foot, List.mem_cons, List.mem_append, List.mem_flatMap]
  exact .inr (.inr (.inr (.inr (.inl ⟨q, this, h⟩))))
theorem xfoot_row {X : XW} {i : Nat} {q : SPlayer × XV} (hq : X.pls[i]? = some q) {r : Nat} (h : r ∈ blk q.2.v) : r ∈ X.foot := xfoot_q hq (by simp [xvFoot, h])
theorem xfoot_u {X : XW} {i : Nat} {q : SPlayer × XV} (hq : X.pls[i]? = some q) {k : Nat} {x : XU} (h : q.2.us[k]? = some x) : x.g ∈ X.foot := by
  refine xfoot_q hq ?_
  have := List.mem_of_getElem? h
  simp only [xvFoot, List.mem_append, List.mem_map]
  exact .inr ⟨x, this, rfl⟩

theorem xfoot_op {X : XW} {r : Nat} (h : r ∈ blk X.vOp) : r ∈ X.foot := by simp [XW.foot, h]
theorem xfoot_cl {X : XW} {r : Nat} (h : r ∈ blk X.vCl) : r ∈ X.foot := by simp [XW.foot, h]
theorem RepL.same {w w' : World} {v v' : Value} {l : List XLot} {l' : List XSale} (h : RepL w v l v' l') (h1 : ∀ r ∈ blk v, w'.heap[r]? = w.heap[r]?) (h2 : ∀ r ∈ blk v', w'.heap[r]? = w.heap[r]?) : RepL w' v l v' l' := ⟨own_same h.1 h1, own_same h.2 h2⟩

theorem RepU.same {w w' : World} {u : SUnit} {x : XU} (h : RepU w u x) (e : w'.heap[x.g]? = w.heap[x.g]?) : RepU w' u x := ⟨by rw [e]; exact h.is, h.head, h.what⟩
theorem RepQ.unitAt {w : World} {q : SPlayer × XV} (h : RepQ w q) {k : Nat} {u : SUnit} (hu : q.1.units[k]? = some u) : ∃ x, q.2.us[k]? = some x ∧ RepU w u x := by
  obtain ⟨hk, _⟩ := at_some hu
  have hk' : k < q.2.us.length := by rw [h.len]; exact hk
  exact ⟨q.2.us[k], by simp [hk'], h.unit k u _ hu (by simp [hk'])⟩
theorem RepQ.same {w w' : World} {q : SPlayer × XV} (h : RepQ w q) (hs : ∀ r ∈ xvFoot q, w'.heap[r]? = w.heap[r]?) : RepQ w' q := by
  refine ⟨own_same h.row (fun r hr => hs r (by simp [xvFoot, hr])), h.len, fun k u x hu hx => (h.unit k u x hu hx).same (hs _ ?_)⟩
  have := List.mem_of_getElem? hx
  simp only [xvFoot, List.mem_append, List.mem_map]
  exact .inr ⟨x, this, rfl⟩
theorem RepX.same {w w' : World} {X : XW} (h : RepX w X) (hs : ∀ r ∈ X.foot, w'.heap[r]? = w.heap[r]?) : RepX w' X :=
  ⟨by rw [hs _ xfoot_b]; exact h.top, h.ore.same (hs _ xfoot_mo), h.st.same (hs _ xfoot_ms), own_same h.pl (fun r hr => hs r (xfoot_pl hr)), h.lot.same (fun r hr => hs r (xfoot_op hr)) (fun r hr => hs r (xfoot_cl hr)), fun i q hq => (h.each i q hq).same (fun r hr => hs r (xfoot_q hq hr)), h.roles⟩
theorem lt_of_some {w : World} {r : Nat} {o : Obj} (h : w.heap[r]? = some o) : r < w.heap.size := (Array.getElem?_eq_some_iff.1 h).1
theorem RepX.lt {w : World} {X : XW} (h : RepX w X) : ∀ r ∈ X.foot, r < w.heap.size := by
  intro r hr
  simp only [XW.foot, List.mem_cons, List.mem_append, List.mem_flatMap] at hr
  rcases hr with rfl | rfl | rfl | hr | ⟨q, hq, hr⟩ | hr | hr
  · exact lt_of_some h.top
  · exact lt_of_some h.ore.is.1
  · exact lt_of_some h.st.is.1
  · exact own_lt h.pl r hr
  · obtain ⟨i, hi⟩ := List.getElem?_of_mem hq
    have hq' := h.each i q hi
    simp only [xvFoot, List.mem_append, List.mem_map] at hr
    rcases hr with hr | ⟨x, hx, rfl⟩
    · exact own_lt hq'.row r hr
    · obtain ⟨k, hk⟩ := List.getElem?_of_mem hx
      obtain ⟨hk', _⟩ := at_some hk
      have hu : q.1.units[k]? = some (q.1.units[k]'(by rw [← hq'.len]; exact hk')) := by simp [← hq'.len, hk']
      exact lt_of_some (hq'.unit k _ x hu hk).is
  · exact own_lt h.lot.1 r hr
  · exact own_lt h.lot.2 r hr
theorem RepX.below {w w' : World} {X : XW} (h : RepX w X) (hb : Below w.heap.size w w') : RepX w' X := h.same (fun r hr => hb.block r (h.lt r hr))
theorem RepX.heapEq {w w' : World} {X : XW} (h : RepX w X) (e : w'.heap = w.heap) : RepX w' X := h.same (fun r _ => by rw [e])

/-- Each player's list of units as it was in X can still be read in w', and is still the player's own, or nobody's; the units in front are those that were there. -/
def RowsX (B : Nat) (X : XW) (w' : World) (X' : XW) : Prop := ∀ (i : Nat) q, X.pls[i]? = some q → ∃ q', X'.pls[i]? = some q' ∧ (∀ (j : Nat) x, q.2.us[j]? = some x → ∃ x', q'.2.us[j]? = some x' ∧ x'.g = x.g) ∧
  ∀ g, q.2.v.ownBlock = some g → (∀ (j : Nat) x, q.2.us[j]? = some x → w'.cell? ⟨g, j, none⟩ = some (ptrV x)) ∧ g < B ∧ (q'.2.v.ownBlock = some g ∨ g ∉ X'.foot)
theorem RepX.rows_lt {w : World} {X : XW} (h : RepX w X) (i : Nat) (q : SPlayer × XV) (g : Nat) (hq : X.pls[i]? = some q) (hg : q.2.v.ownBlock = some g) : g < w.heap.size := h.lt g (xfoot_row hq (by simp [blk, hg]))
theorem RowsX.keep {B : Nat} {X X' : XW} {w' : World} (hB : ∀ (i : Nat) q g, X.pls[i]? = some q → q.2.v.ownBlock = some g → g < B) (hr : RepX w' X') (h : ∀ (i : Nat) q, X.pls[i]? = some q → ∃ q', X'.pls[i]? = some q' ∧ q'.2.v = q.2.v ∧ q'.2.us.map (·.g) = q.2.us.map (·.g)) : RowsX B X w' X' := by
  intro i q hq
  obtain ⟨q', h1, h2, h3⟩ := h i q hq
  have pre : ∀ (j : Nat) x, q.2.us[j]? = some x → ∃ x', q'.2.us[j]? = some x' ∧ x'.g = x.g := by
    intro j x hx
    have e : (q'.2.us.map (·.g))[j]? = some x.g := by rw [h3]; simp [hx]
    simp only [List.getElem?_map, Option.map_eq_some_iff] at e
    exact e
  refine ⟨q', h1, pre, fun g hg => ?_⟩
  have hrow := (hr.each i q' h1).row
  have hgB := hB i q g hq hg
  rw [← h2] at hg
  rcases own_form hrow with ⟨e, _⟩ | ⟨g', cap, e, _, _, _⟩
  · rw [e] at hg; simp [Value.ownBlock] at hg
  · have e' : g' = g := by rw [e] at hg; simpa [Value.ownBlock] using hg
    subst e'
    refine ⟨fun j x hx => ?_, hgB, .inl hg⟩
    obtain ⟨x', hx', eg⟩ := pre j x hx
    rw [e] at hrow
    have := own_cell hrow (j := j) (u := ptrV x') (by simp [hx'])
    rw [this]
    simp [ptrV, eg]
theorem RowsX.trans {B B1 : Nat} {X X1 X2 : XW} {w1 w2 : World} (h : RowsX B X w1 X1) (h1 : RowsX B1 X1 w2 X2) (hk : Kept X1.foot w1 w2) (hB : B ≤ w1.heap.size) (hx : ∀ r ∈ X2.foot, r ∈ X1.foot ∨ B ≤ r) : RowsX B X w2 X2 := by
  intro i q hq
  obtain ⟨q1, a1, a2, a3⟩ := h i q hq
  obtain ⟨q2, b1, b2, b3⟩ := h1 i q1 a1
  refine ⟨q2, b1, fun j x hj => ?_, fun g hg => ?_⟩
  · obtain ⟨x1, c1, c2⟩ := a2 j x hj
    obtain ⟨x2, d1, d2⟩ := b2 j x1 c1
    exact ⟨x2, d1, d2.trans c2⟩
  · obtain ⟨r1, r2, r3⟩ := a3 g hg
    rcases r3 with r3 | r3
    · obtain ⟨s1, s2, s3⟩ := b3 g r3
      refine ⟨fun j x hj => ?_, r2, s3⟩
      obtain ⟨x1, c1, c2⟩ := a2 j x hj
      rw [s1 j x1 c1]
      simp [ptrV, c2]
    · refine ⟨fun j x hj => ?_, r2, .inr (fun hm => ?_)⟩
      · have := r1 j x hj
        rw [World.cell?_of_block (w := w1) (a := ⟨g, j, none⟩) (hk.block g (Nat.lt_of_lt_of_le r2 hB) r3)]
        exact this
      · rcases hx g hm with h' | h'
        · exact r3 h'
        · omega
theorem RowsX.refl {B : Nat} {X : XW} {w : World} (hB : ∀ (i : Nat) q g, X.pls[i]? = some q → q.2.v.ownBlock = some g → g < B) (hr : RepX w X) : RowsX B X w X := RowsX.keep hB hr (fun _ q hq => ⟨q, hq, rfl, rfl⟩)

/-- The program's world turns from X in w to X' in w'. -/
structure TurnX (w : World) (X : XW) (w' : World) (X' : XW) : Prop where
  rep : RepX w' X'
  kept : Kept X.foot w w'
  ext : ∀ r ∈ X'.foot, r ∈ X.foot ∨ w.heap.size ≤ r
  b : X'.b = X.b
  rows : RowsX w.heap.size X w' X'
theorem TurnX.refl {w : World} {X : XW} (h : RepX w X) : TurnX w X w X := ⟨h, Kept.refl _ _, fun _ h => .inl h, rfl, RowsX.refl h.rows_lt h⟩
theorem TurnX.trans {w w1 w2 : World} {X X1 X2 : XW} (h : TurnX w X w1 X1) (h1 : TurnX w1 X1 w2 X2) : TurnX w X w2 X2 := by
  refine ⟨h1.rep, h.kept.trans h1.kept h.ext, fun r hr => ?_, h1.b.trans h.b, h.rows.trans h1.rows h1.kept h.kept.size (fun r hr => (h1.ext r hr).elim .inl (fun h' => .inr (Nat.le_trans h.kept.size h')))⟩
  rcases h1.ext r hr with h' | h'
  · exact h.ext r h'
  · exact .inr (Nat.le_trans h.kept.size h')
theorem TurnX.below {w w1 w2 : World} {X X1 : XW} (h : TurnX w X w1 X1) (hb : Below w1.heap.size w1 w2) : TurnX w X w2 X1 :=
  h.trans ⟨h.rep.below hb, Kept.of_below hb, fun _ h => .inl h, rfl, RowsX.refl h.rep.rows_lt (h.rep.below hb)⟩
theorem TurnX.heapEq {w w1 w2 : World} {X X1 : XW} (h : TurnX w X w1 X1) (e : w2.heap = w1.heap) (h1 : w2.os = w1.os) (h2 : w2.tape = w1.tape) (h3 : w2.output = w1.output) : TurnX w X w2 X1 :=
  h.trans ⟨h.rep.heapEq e, ⟨h1, h2, h3, by rw [e]; exact Nat.le_refl _, fun _ _ _ => by rw [e]⟩, fun _ h => .inl h, rfl, RowsX.refl h.rep.rows_lt (h.rep.heapEq e)⟩
theorem TurnX.drewN {w w1 : World} {X X1 : XW} (h : TurnX w X w1 X1) (n : Nat) : TurnX w X (w1.drewN n) X1 := h.heapEq rfl rfl rfl rfl
theorem TurnX.drew {w w1 : World} {X X1 : XW} (h : TurnX w X w1 X1) : TurnX w X w1.drew X1 := h.heapEq rfl rfl rfl rfl

def XW.setQ (X : XW) (i : Nat) (q : SPlayer × XV) : XW := { X with pls := X.pls.set i q }
def XW.withNow (X : XW) (m : Int) : XW := { X with now := m }
def XW.withOre (X : XW) (l : List SSpot) : XW := { X with ore := l }
def XW.withLo (X : XW) (l : List CE) (c : Nat) : XW := { X with lo := l, co := c }
def XW.withLs (X : XW) (l : List CE) (c : Nat) : XW := { X with ls := l, cs := c }
theorem XS_setQ (X : XW) (n : Nat) (q : SPlayer × XV) : (X.setQ n q).S = X.S.setPl n q.1 := by simp [XW.S, XW.setQ, SWorld.setPl, List.map_set]
theorem XS_at {X : XW} {i : Nat} {p : SPlayer} {v : XV} (hq : X.pls[i]? = some (p, v)) : X.S.players[i]? = some p := by simp [XW.S, hq]

theorem setQ_get {X : XW} {i j : Nat} {q q' : SPlayer × XV} (hq : X.pls[i]? = some q) (q0 : SPlayer × XV) (h : (X.setQ i q').pls[j]? = some q0) : (j = i ∧ q0 = q') ∨ (j ≠ i ∧ X.pls[j]? = some q0) := by
  obtain ⟨hi, _⟩ := at_some hq
  simp only [XW.setQ, List.getElem?_set] at h
  split at h
  · rename_i e
    subst e
    injection h with h
    exact .inl ⟨rfl, h.symm⟩
  · rename_i e
    exact .inr ⟨Ne.symm e, h⟩
theorem set_get {α : Type} {l : List α} {k j : Nat} {a b c : α} (hk : l[k]? = some a) (h : (l.set k b)[j]? = some c) : (j = k ∧ c = b) ∨ (j ≠ k ∧ l[j]? = some c) := by
  obtain ⟨hi, _⟩ := at_some hk
  simp only [List.getElem?_set] at h
  split at h
  · rename_i e
    subst e
    injection h with h
    exact .inl ⟨rfl, h.symm⟩
  · rename_i e
    exact .inr ⟨Ne.symm e, h⟩
theorem xfoot_setQ (X : XW) (i : Nat) (q q' : SPlayer × XV) (hq : X.pls[i]? = some q) (h : xvFoot q' = xvFoot q) : (X.setQ i q').foot = X.foot := by
  obtain ⟨hi, rfl⟩ := at_some hq
  have : (X.pls.set i q').flatMap xvFoot = X.pls.flatMap xvFoot := by
    rw [List.flatMap_def, List.flatMap_def, List.map_set, h]
    have : (X.pls.map xvFoot).set i (xvFoot X.pls[i]) = X.pls.map xvFoot := by
      apply List.ext_getElem
      · simp
      · intro n h1 h2
        simp only [List.getElem_set, List.getElem_map]
        split
        · rename_i e; subst e; rfl
        · rfl
    rw [this]
  simp only [XW.foot, XW.setQ, this]

end Go.Proofs.YtlafddeoheambaaGreatDoor

/-
  What becomes of the program's world in memory where one cell of a unit, a player's money, the tick or a map turns.
-/
namespace Go.Proofs.YtlafddeoheambaaGreatDoor
open Go.RowKit

/-- All but the block r stays: what still holds. -/
theorem RepX.farU {w w' : World} {X : XW} (h : RepX w X) {i k : Nat} {q : SPlayer × XV} {x : XU} (hq : X.pls[i]? = some q) (hx : q.2.us[k]? = some x) (hs : ∀ r, r ≠ x.g → w'.heap[r]? = w.heap[r]?) :
    w'.heap[X.b]? = some (.cells X.cells 84 (0, 0)) ∧ MapD w' X.mo X.lo X.co ∧ MapD w' X.ms X.ls X.cs ∧ w'.ownsRow 0 76 2 X.vPl X.pls.length (X.pls.flatMap xplCells) ∧ RepL w' X.vOp X.opens X.vCl X.sales ∧
    (∀ (j : Nat) q', X.pls[j]? = some q' → w'.ownsRow 0 73 1 q'.2.v q'.2.us.length (q'.2.us.map ptrV)) ∧
    (∀ (j : Nat) q' (m : Nat) u y, X.pls[j]? = some q' → q'.1.units[m]? = some u → q'.2.us[m]? = some y → ¬ (j = i ∧ m = k) → RepU w' u y) := by
  have R := h.roles
  have e := R.unit i q k x hq hx
  have ne : ∀ r ρ, X.R r = ρ → ρ ≠ .unit i k → r ≠ x.g := fun r ρ hr hne hx => hne (by rw [← hr, hx, e])
  refine ⟨by rw [hs _ (ne _ _ R.b (by simp))]; exact h.top, h.ore.same (hs _ (ne _ _ R.mo (by simp))), h.st.same (hs _ (ne _ _ R.ms (by simp))), own_same h.pl (fun r hr => hs r (ne _ _ (R.pl r hr) (by simp))), h.lot.same (fun r hr => hs r (ne _ _ (R.lot.1 r hr) (by simp))) (fun r hr => hs r (ne _ _ (R.lot.2 r hr) (by simp))), fun j q' hq' => own_same (h.each j q' hq').row (fun r hr => hs r (ne _ _ (R.row j q' hq' r hr) (by simp))), fun j q' m u y hq' hu hy hn => ((h.each j q' hq').unit m u y hu hy).same (hs _ (ne _ _ (R.unit j q' m y hq' hy) (fun e => hn (by injection e with _ e1 e2; exact ⟨e1, e2⟩))))⟩

theorem xpl_set (X : XW) (i : Nat) (q q' : SPlayer × XV) (hq : X.pls[i]? = some q) (h : xplCells q' = xplCells q) : (X.pls.set i q').flatMap xplCells = X.pls.flatMap xplCells := by
  obtain ⟨hi, rfl⟩ := at_some hq
  rw [List.flatMap_def, List.flatMap_def, List.map_set, h]
  have : (X.pls.map xplCells).set i (xplCells X.pls[i]) = X.pls.map xplCells := by
    apply List.ext_getElem
    · simp
    · intro n h1 h2
      simp only [List.getElem_set, List.getElem_map]
      split
      · rename_i e; subst e; rfl
      · rfl
  rw [this]
theorem map_set_same {α β : Type} (f : α → β) (l : List α) (k : Nat) (a b : α) (hk : l[k]? = some a) (h : f b = f a) : (l.set k b).map f = l.map f := by
  obtain ⟨hk', rfl⟩ := at_some hk
  apply List.ext_getElem
  · simp
  · intro n h1 h2
    simp only [List.getElem_map, List.getElem_set]
    split
    · rename_i e; subst e; exact h
    · rfl

/-- One block of a unit turned. -/
theorem RepX.setU {w w' : World} {X : XW} (h : RepX w X) {i k : Nat} {p : SPlayer} {v : XV} {u : SUnit} {x : XU} (hq : X.pls[i]? = some (p, v)) (hu : p.units[k]? = some u) (hx : v.us[k]? = some x)
    (hs : ∀ r, r ≠ x.g → w'.heap[r]? = w.heap[r]?) (u' : SUnit) (x' : XU) (hg : x'.g = x.g) (hn : RepU w' u' x') :
    RepX w' (X.setQ i ({ p with units := p.units.set k u' }, { v with us := v.us.set k x' })) := by
  obtain ⟨f1, f2, f3, f4, f4l, f5, f6⟩ := h.farU (q := (p, v)) hq hx hs
  have R := h.roles
  have eq1 : ({ v with us := v.us.set k x' } : XV).us.map ptrV = v.us.map ptrV := map_set_same ptrV v.us k x x' hx (by simp [ptrV, hg])
  refine ⟨f1, f2, f3, ?_, f4l, ?_, ⟨R.b, R.mo, R.ms, R.pl, R.lot, ?_, ?_⟩⟩
  · have e := xpl_set X i (p, v) ({ p with units := p.units.set k u' }, { v with us := v.us.set k x' }) hq rfl
    simp only [XW.setQ, List.length_set]
    rw [e]
    exact f4
  · intro j q0 hj
    rcases setQ_get hq q0 hj with ⟨rfl, rfl⟩ | ⟨hne, hj'⟩
    · refine ⟨?_, by simpa using (h.each j _ hq).len, ?_⟩
      · have := f5 j (p, v) hq
        rw [eq1]
        simpa using this
      · intro m u0 y hu0 hy
        rcases set_get hu hu0 with ⟨rfl, rfl⟩ | ⟨hm, hu0'⟩
        · rcases set_get hx hy with ⟨_, rfl⟩ | ⟨hm, _⟩
          · exact hn
          · exact absurd rfl hm
        · rcases set_get hx hy with ⟨hm', _⟩ | ⟨_, hy'⟩
          · exact absurd hm' hm
          · exact f6 j (p, v) m u0 y hq hu0' hy' (fun e => hm e.2)
    · exact ⟨f5 j q0 hj', (h.each j q0 hj').len, fun m u0 y hu0 hy => f6 j q0 m u0 y hj' hu0 hy (fun e => hne e.1)⟩
  · intro j q0 hj r hr
    rcases setQ_get hq q0 hj with ⟨rfl, rfl⟩ | ⟨hne, hj'⟩
    · exact R.row j (p, v) hq r hr
    · exact R.row j q0 hj' r hr
  · intro j q0 m y hj hy
    rcases setQ_get hq q0 hj with ⟨rfl, rfl⟩ | ⟨hne, hj'⟩
    · rcases set_get hx hy with ⟨rfl, rfl⟩ | ⟨hm, hy'⟩
      · exact (congrArg X.R hg).trans (R.unit _ (p, v) _ x hq hx)
      · exact R.unit j (p, v) m y hq hy'
    · exact R.unit j q0 m y hj' hy
theorem xvFoot_setU {p p' : SPlayer} {v : XV} {k : Nat} {x x' : XU} (hx : v.us[k]? = some x) (hg : x'.g = x.g) : xvFoot (p', { v with us := v.us.set k x' }) = xvFoot (p, v) := by
  simp only [xvFoot]
  rw [map_set_same (·.g) v.us k x x' hx hg]

theorem cells_set {w : World} {g j : Nat} {cs : Array Value} {t : TypeId} {s : Nat × Nat} {val : Value} (h : w.heap[g]? = some (.cells cs t s)) : (w.setCell ⟨g, j, none⟩ val).heap[g]? = some (.cells (cs.setIfInBounds j val) t s) := by
  simp only [World.setCell, Array.getElem?_modify, h]
  simp
/-- One cell of one unit written. -/
theorem TurnX.unit1 {w w1 : World} {X X1 : XW} (h : TurnX w X w1 X1) {i k : Nat} {p : SPlayer} {v : XV} {u : SUnit} {x : XU} (hq : X1.pls[i]? = some (p, v)) (hu : p.units[k]? = some u) (hx : v.us[k]? = some x)
    (j : Nat) (u' : SUnit) (x' : XU) (val : Value) (hg : x'.g = x.g) (hc : xuCells u' x' = (xuCells u x).setIfInBounds j val) (hh : HeadC u'.head x'.a x'.b) (hw : u'.what.toList ∈ whatW) :
    TurnX w X (w1.setCell ⟨x.g, j, none⟩ val) (X1.setQ i ({ p with units := p.units.set k u' }, { v with us := v.us.set k x' })) := by
  have hru := (h.rep.each i _ hq).unit k u x hu hx
  have hr := h.rep.setU hq hu hx (fun r hr => setCell_far w1 x.g j val r hr) u' x' hg ⟨by rw [hg, cells_set hru.is, hc], hh, hw⟩
  have hf := xfoot_setQ X1 i (p, v) ({ p with units := p.units.set k u' }, { v with us := v.us.set k x' }) hq (xvFoot_setU hx hg)
  refine h.trans ⟨hr, (Kept.refl _ _).setCell _ _ _ (.inl (xfoot_u hq hx)), fun r hr => .inl (by rw [hf] at hr; exact hr), rfl, RowsX.keep h.rep.rows_lt hr (fun j q0 hj => ?_)⟩
  by_cases e : j = i
  · subst e
    rw [hq] at hj
    injection hj with hj
    subst hj
    exact ⟨_, set_at hq, rfl, map_set_same (·.g) v.us k x x' hx hg⟩
  · exact ⟨q0, by simp [XW.setQ, Ne.symm e, hj], rfl, rfl⟩

/-- A block of a map, or the tick. -/
theorem RepX.putTop {w w' : World} {X : XW} (h : RepX w X) (m : Int) (hs : ∀ r, r ≠ X.b → w'.heap[r]? = w.heap[r]?) (ht : w'.heap[X.b]? = some (.cells (X.withNow m).cells 84 (0, 0))) : RepX w' (X.withNow m) := by
  have R := h.roles
  have ne : ∀ r ρ, X.R r = ρ → ρ ≠ .top → r ≠ X.b := fun r ρ hr hne hx => hne (by rw [← hr, hx, R.b])
  refine ⟨ht, h.ore.same (hs _ (ne _ _ R.mo (by simp))), h.st.same (hs _ (ne _ _ R.ms (by simp))), own_same h.pl (fun r hr => hs r (ne _ _ (R.pl r hr) (by simp))), h.lot.same (fun r hr => hs r (ne _ _ (R.lot.1 r hr) (by simp))) (fun r hr => hs r (ne _ _ (R.lot.2 r hr) (by simp))), fun j q hq => ⟨own_same (h.each j q hq).row (fun r hr => hs r (ne _ _ (R.row j q hq r hr) (by simp))), (h.each j q hq).len, fun k u x hu hx => ((h.each j q hq).unit k u x hu hx).same (hs _ (ne _ _ (R.unit j q k x hq hx) (by simp)))⟩, ⟨R.b, R.mo, R.ms, R.pl, R.lot, R.row, R.unit⟩⟩
theorem TurnX.now1 {w w1 : World} {X X1 : XW} (h : TurnX w X w1 X1) (m : Int) : TurnX w X (w1.setCell ⟨X1.b, 0, none⟩ (.int .i64 m)) (X1.withNow m) := by
  have hr := h.rep.putTop m (fun r hr => setCell_far w1 X1.b _ (.int .i64 m) r hr) (by rw [cells_set (j := 0) h.rep.top]; rfl)
  exact h.trans ⟨hr, (Kept.refl _ _).setCell _ _ _ (.inl xfoot_b), fun r hr => .inl hr, rfl, RowsX.keep h.rep.rows_lt hr (fun j q0 hj => ⟨q0, hj, rfl, rfl⟩)⟩
theorem TurnX.ore1 {w w1 w2 : World} {X X1 : XW} (h : TurnX w X w1 X1) {l : List CE} {c : Nat} (hp : Put X1.mo w1 w2) (hm : MapD w2 X1.mo l c) : TurnX w X w2 (X1.withLo l c) := by
  have R := h.rep.roles
  have hr := h.rep
  have ne : ∀ r ρ, X1.R r = ρ → ρ ≠ .ore → r ≠ X1.mo := fun r ρ hr hne hx => hne (by rw [← hr, hx, R.mo])
  have hrep : RepX w2 (X1.withLo l c) := by
    refine ⟨?_, hm, hr.st.same (hp.block _ (ne _ _ R.ms (by simp))), own_same hr.pl (fun r hr => hp.block r (ne _ _ (R.pl r hr) (by simp))), hr.lot.same (fun r hr => hp.block r (ne _ _ (R.lot.1 r hr) (by simp))) (fun r hr => hp.block r (ne _ _ (R.lot.2 r hr) (by simp))), fun j q hq => ⟨own_same (hr.each j q hq).row (fun r hr' => hp.block r (ne _ _ (R.row j q hq r hr') (by simp))), (hr.each j q hq).len, fun k u x hu hx => ((hr.each j q hq).unit k u x hu hx).same (hp.block _ (ne _ _ (R.unit j q k x hq hx) (by simp)))⟩, ⟨R.b, R.mo, R.ms, R.pl, R.lot, R.row, R.unit⟩⟩
    show w2.heap[X1.b]? = _
    rw [hp.block _ (ne _ _ R.b (by simp)), hr.top]
    rfl
  exact h.trans ⟨hrep, Put.kept (Kept.refl _ _) hp (.inl xfoot_mo), fun r hr => .inl hr, rfl, RowsX.keep h.rep.rows_lt hrep (fun j q0 hj => ⟨q0, hj, rfl, rfl⟩)⟩
theorem TurnX.st1 {w w1 w2 : World} {X X1 : XW} (h : TurnX w X w1 X1) {l : List CE} {c : Nat} (hp : Put X1.ms w1 w2) (hm : MapD w2 X1.ms l c) : TurnX w X w2 (X1.withLs l c) := by
  have R := h.rep.roles
  have hr := h.rep
  have ne : ∀ r ρ, X1.R r = ρ → ρ ≠ .st → r ≠ X1.ms := fun r ρ hr hne hx => hne (by rw [← hr, hx, R.ms])
  have hrep : RepX w2 (X1.withLs l c) := by
    refine ⟨?_, hr.ore.same (hp.block _ (ne _ _ R.mo (by simp))), hm, own_same hr.pl (fun r hr => hp.block r (ne _ _ (R.pl r hr) (by simp))), hr.lot.same (fun r hr => hp.block r (ne _ _ (R.lot.1 r hr) (by simp))) (fun r hr => hp.block r (ne _ _ (R.lot.2 r hr) (by simp))), fun j q hq => ⟨own_same (hr.each j q hq).row (fun r hr' => hp.block r (ne _ _ (R.row j q hq r hr') (by simp))), (hr.each j q hq).len, fun k u x hu hx => ((hr.each j q hq).unit k u x hu hx).same (hp.block _ (ne _ _ (R.unit j q k x hq hx) (by simp)))⟩, ⟨R.b, R.mo, R.ms, R.pl, R.lot, R.row, R.unit⟩⟩
    show w2.heap[X1.b]? = _
    rw [hp.block _ (ne _ _ R.b (by simp)), hr.top]
    rfl
  exact h.trans ⟨hrep, Put.kept (Kept.refl _ _) hp (.inl xfoot_ms), fun r hr => .inl hr, rfl, RowsX.keep h.rep.rows_lt hrep (fun j q0 hj => ⟨q0, hj, rfl, rfl⟩)⟩



theorem RepX.cellTop {w : World} {X : XW} (h : RepX w X) {j : Nat} {u : Value} (hu : X.cells[j]? = some u) : w.cell? ⟨X.b, j, none⟩ = some u := by
  simp only [World.cell?, h.top]
  simpa using hu
theorem RepX.frozenTop {w : World} {X : XW} (h : RepX w X) (j : Nat) : w.frozen? ⟨X.b, j, none⟩ = false := by simp [World.frozen?, h.top]
theorem RepU.cell {w : World} {u : SUnit} {x : XU} (h : RepU w u x) {j : Nat} {c : Value} (hc : (xuCells u x)[j]? = some c) : w.cell? ⟨x.g, j, none⟩ = some c := by
  simp only [World.cell?, h.is]
  simpa using hc
theorem RepU.frozen {w : World} {u : SUnit} {x : XU} (h : RepU w u x) (j : Nat) : w.frozen? ⟨x.g, j, none⟩ = false := by simp [World.frozen?, h.is]
theorem RepX.plForm {w : World} {X : XW} (h : RepX w X) (h2 : 2 ≤ X.pls.length) : ∃ pb cap, X.vPl = .slice (some ⟨pb, 0, none⟩) X.pls.length cap ∧ X.pls.length ≤ cap ∧ cap ≤ maxLen := by
  rcases own_form h.pl with ⟨_, h0, _⟩ | ⟨pb, pcap, hvp, hpc, hpm, hpb⟩
  · omega
  · exact ⟨pb, pcap, hvp, hpc, hpm⟩
theorem RepX.plCell {w : World} {X : XW} (h : RepX w X) {i : Nat} {p : SPlayer} {v : XV} (hq : X.pls[i]? = some (p, v)) {pb cap : Nat} (hv : X.vPl = .slice (some ⟨pb, 0, none⟩) X.pls.length cap) :
    w.cell? ⟨pb, i * 2, none⟩ = some (.int .i64 p.money) ∧ w.cell? ⟨pb, i * 2 + 1, none⟩ = some v.v := by
  obtain ⟨hi, e⟩ := at_some hq
  have f := fun j (hj : j < 2) => flat_at xplCells 2 (fun _ => rfl) X.pls i j hi hj
  rw [e] at f
  have o := h.pl
  rw [hv] at o
  exact ⟨own_cell o (f 0 (by omega)), own_cell o (f 1 (by omega))⟩
theorem RepX.plFrozen {w : World} {X : XW} (h : RepX w X) {pb cap : Nat} (hv : X.vPl = .slice (some ⟨pb, 0, none⟩) X.pls.length cap) (j : Nat) : w.frozen? ⟨pb, j, none⟩ = false := by
  have o := h.pl
  rw [hv] at o
  exact own_frozen o j
end Go.Proofs.YtlafddeoheambaaGreatDoor

/-
  What becomes of the program's world in memory where a player's money turns, or a player gets a unit more.
-/
namespace Go.Proofs.YtlafddeoheambaaGreatDoor
open Go.RowKit

/-- A player's money written. -/
theorem TurnX.money1 {w w1 : World} {X X1 : XW} (h : TurnX w X w1 X1) {i : Nat} {p : SPlayer} {v : XV} (hq : X1.pls[i]? = some (p, v)) {pb cap : Nat} (hv : X1.vPl = .slice (some ⟨pb, 0, none⟩) X1.pls.length cap) (m : Int) :
    TurnX w X (w1.setCell ⟨pb, i * 2, none⟩ (.int .i64 m)) (X1.setQ i ({ p with money := m }, v)) := by
  obtain ⟨hi, e⟩ := at_some hq
  have hr := h.rep
  have R := hr.roles
  have hpb : pb ∈ blk X1.vPl := by simp [hv, blk_slice]
  have ne : ∀ r ρ, X1.R r = ρ → ρ ≠ .pls → r ≠ pb := fun r ρ hr hne hx => hne (by rw [← hr, hx, R.pl pb hpb])
  have far : ∀ r, r ≠ pb → (w1.setCell ⟨pb, i * 2, none⟩ (.int .i64 m)).heap[r]? = w1.heap[r]? := fun r hr => setCell_far w1 pb _ _ r hr
  have hf := xfoot_setQ X1 i (p, v) ({ p with money := m }, v) hq rfl
  suffices hrep : RepX (w1.setCell ⟨pb, i * 2, none⟩ (.int .i64 m)) (X1.setQ i ({ p with money := m }, v)) by
    refine h.trans ⟨hrep, (Kept.refl _ _).setCell _ _ _ (.inl (xfoot_pl hpb)), fun r hr => .inl (by rw [hf] at hr; exact hr), rfl, RowsX.keep h.rep.rows_lt hrep (fun j q0 hj => ?_)⟩
    by_cases e' : j = i
    · subst e'
      rw [hq] at hj
      injection hj with hj
      subst hj
      exact ⟨_, set_at hq, rfl, rfl⟩
    · exact ⟨q0, by simp [XW.setQ, Ne.symm e', hj], rfl, rfl⟩
  refine ⟨?_, hr.ore.same (far _ (ne _ _ R.mo (by simp))), hr.st.same (far _ (ne _ _ R.ms (by simp))), ?_, hr.lot.same (fun r hr => far r (ne _ _ (R.lot.1 r hr) (by simp))) (fun r hr => far r (ne _ _ (R.lot.2 r hr) (by simp))), ?_, ⟨R.b, R.mo, R.ms, R.pl, R.lot, ?_, ?_⟩⟩
  · show (w1.setCell _ _).heap[X1.b]? = _
    rw [far _ (ne _ _ R.b (by simp)), hr.top]
    rfl
  · show (w1.setCell _ _).ownsRow 0 _ 2 X1.vPl (X1.pls.set i ({ p with money := m }, v)).length ((X1.pls.set i ({ p with money := m }, v)).flatMap xplCells)
    rw [List.length_set, ← flat_set xplCells 2 (fun _ => rfl) X1.pls i 0 _ (.int .i64 m) hi (by omega) (by rw [e]; rfl), hv]
    exact own_set (hv ▸ hr.pl) (i * 2 + 0) _ (by omega)
  · intro j q0 hj
    have key : ∀ q', X1.pls[j]? = some q' → RepQ (w1.setCell ⟨pb, i * 2, none⟩ (.int .i64 m)) q' := fun q' hq' => by
      have h1 := hr.each j q' hq'
      exact ⟨own_same h1.row (fun r hr' => far r (ne _ _ (R.row j q' hq' r hr') (by simp))), h1.len, fun k u x hu hx => (h1.unit k u x hu hx).same (far _ (ne _ _ (R.unit j q' k x hq' hx) (by simp)))⟩
    rcases setQ_get hq q0 hj with ⟨rfl, rfl⟩ | ⟨hne, hj'⟩
    · have := key (p, v) hq
      exact ⟨this.row, this.len, this.unit⟩
    · exact key q0 hj'
  · intro j q0 hj r hr'
    rcases setQ_get hq q0 hj with ⟨rfl, rfl⟩ | ⟨hne, hj'⟩
    · exact R.row j (p, v) hq r hr'
    · exact R.row j q0 hj' r hr'
  · intro j q0 m' y hj hy
    rcases setQ_get hq q0 hj with ⟨rfl, rfl⟩ | ⟨hne, hj'⟩
    · exact R.unit j (p, v) m' y hq hy
    · exact R.unit j q0 m' y hj' hy

/-- A unit more: the roles. -/
def addR (R : Nat → Role) (gr gu i k : Nat) : Nat → Role := fun r => if r = gu then .unit i k else if r = gr then .row i else R r
def XW.addU (X : XW) (i : Nat) (p : SPlayer) (v : XV) (u : SUnit) (x : XU) (val : Value) (gr : Nat) : XW :=
  { X with pls := X.pls.set i ({ p with units := p.units ++ [u] }, ⟨val, v.us ++ [x]⟩), R := addR X.R gr x.g i v.us.length }

theorem TurnX.addU {w w1 w6 : World} {X X1 : XW} (h : TurnX w X w1 X1) {i : Nat} {p : SPlayer} {v : XV} (hq : X1.pls[i]? = some (p, v)) {pb cap : Nat} (hv : X1.vPl = .slice (some ⟨pb, 0, none⟩) X1.pls.length cap)
    {u : SUnit} {x : XU} (hu : RepU w1 u x) (hx : x.g ∉ X1.foot) (hx0 : w.heap.size ≤ x.g) (hg : w1.grownBy w6 v.v.ownBlock) (gr c n : Nat) (hg2 : w1.grownBy w6 (some gr)) (hn : n = v.us.length + 1)
    (ho : w6.ownsRow 0 73 1 (.slice (some ⟨gr, 0, none⟩) n c) n (v.us.map ptrV ++ [ptrV x])) (hat : v.v.ownBlock = some gr ∨ w1.heap.size ≤ gr) :
    TurnX w X (w6.setCell ⟨pb, i * 2 + 1, none⟩ (.slice (some ⟨gr, 0, none⟩) n c)) (X1.addU i p v u x (.slice (some ⟨gr, 0, none⟩) n c) gr) := by
  obtain ⟨hi, e⟩ := at_some hq
  have hr := h.rep
  have R := hr.roles
  have lt := hr.lt
  have xlt := lt_of_some hu.is
  have hpb : pb ∈ blk X1.vPl := by simp [hv, blk_slice]
  have hpbf := xfoot_pl (X := X1) hpb
  have hmem : ∀ r, v.v.ownBlock = some r → r ∈ blk v.v := fun r hr => by simp [blk, hr]
  have hgx : x.g ≠ gr := by
    rcases hat with h' | h'
    · intro e'; exact hx (xfoot_row hq (by rw [e']; exact hmem gr h'))
    · omega
  have hgp : gr ≠ pb := by
    rcases hat with h' | h'
    · intro e'
      have h1 := R.row i (p, v) hq gr (hmem gr h')
      have h2 := R.pl pb hpb
      rw [e', h2] at h1
      cases h1
    · have := lt pb hpbf; omega
  have hxp : x.g ≠ pb := fun e' => hx (e' ▸ hpbf)
  have old : ∀ r ∈ X1.foot, addR X1.R gr x.g i v.us.length r = X1.R r := by
    intro r hrf
    have h1 : r ≠ x.g := fun e' => hx (e' ▸ hrf)
    simp only [addR, if_neg h1]
    split
    · rename_i e'
      subst e'
      rcases hat with h' | h'
      · exact (R.row i (p, v) hq r (hmem r h')).symm
      · have := lt r hrf; omega
    · rfl
  have far : ∀ r, r < w1.heap.size → v.v.ownBlock ≠ some r → r ≠ pb → (w6.setCell ⟨pb, i * 2 + 1, none⟩ (.slice (some ⟨gr, 0, none⟩) n c)).heap[r]? = w1.heap[r]? := by
    intro r h1 h2 h3
    rw [setCell_far w6 pb _ _ r h3, hg.block r h1 (Ne.symm h2)]
  have farR : ∀ r ρ, r ∈ X1.foot → X1.R r = ρ → ρ ≠ .row i → ρ ≠ .pls → (w6.setCell ⟨pb, i * 2 + 1, none⟩ (.slice (some ⟨gr, 0, none⟩) n c)).heap[r]? = w1.heap[r]? := by
    intro r ρ h1 h2 h3 h4
    refine far r (lt r h1) (fun e' => h3 ?_) (fun e' => h4 ?_)
    · rw [← h2]; exact R.row i (p, v) hq r (hmem r e')
    · rw [← h2, e']; exact R.pl pb hpb
  have hrow6 : w6.ownsRow 0 76 2 X1.vPl X1.pls.length (X1.pls.flatMap xplCells) := by
    refine own_same hr.pl (fun r hr' => ?_)
    have h1 := R.pl r hr'
    refine hg.block r (lt r (xfoot_pl hr')) (fun e' => ?_)
    have h2 := R.row i (p, v) hq r (hmem r e'.symm)
    rw [h1] at h2
    cases h2
  have footsub : ∀ r ∈ (X1.addU i p v u x (.slice (some ⟨gr, 0, none⟩) n c) gr).foot, r ∈ X1.foot ∨ r = gr ∨ r = x.g := by
    intro r hr'
    simp only [XW.foot, XW.addU, List.mem_cons, List.mem_append, List.mem_flatMap] at hr'
    rcases hr' with rfl | rfl | rfl | hr' | ⟨q, hq', hr'⟩ | hr' | hr'
    · exact .inl xfoot_b
    · exact .inl xfoot_mo
    · exact .inl xfoot_ms
    · exact .inl (xfoot_pl hr')
    · rcases List.mem_or_eq_of_mem_set hq' with hq' | rfl
      · obtain ⟨j, hj⟩ := List.getElem?_of_mem hq'
        exact .inl (xfoot_q hj hr')
      · simp only [xvFoot, List.mem_append, blk_slice, List.map_append, List.map_cons, List.map_nil, List.mem_singleton, List.mem_map] at hr'
        rcases hr' with rfl | ⟨y, hy, rfl⟩ | rfl
        · exact .inr (.inl rfl)
        · obtain ⟨k, hk⟩ := List.getElem?_of_mem hy
          exact .inl (xfoot_u hq hk)
        · exact .inr (.inr rfl)
    · exact .inl (xfoot_op hr')
    · exact .inl (xfoot_cl hr')
  refine ⟨⟨?_, ?_, ?_, ?_, hr.lot.same (fun r hr' => farR r _ (xfoot_op hr') (R.lot.1 r hr') (by simp) (by simp)) (fun r hr' => farR r _ (xfoot_cl hr') (R.lot.2 r hr') (by simp) (by simp)), ?_, ⟨?_, ?_, ?_, ?_, ⟨fun r hr' => (old _ (xfoot_op hr')).trans (R.lot.1 r hr'), fun r hr' => (old _ (xfoot_cl hr')).trans (R.lot.2 r hr')⟩, ?_, ?_⟩⟩, ?_, ?_, h.b, ?_⟩
  · show (w6.setCell _ _).heap[X1.b]? = _
    rw [farR _ _ xfoot_b R.b (by simp) (by simp), hr.top]
    rfl
  · exact hr.ore.same (farR _ _ xfoot_mo R.mo (by simp) (by simp))
  · exact hr.st.same (farR _ _ xfoot_ms R.ms (by simp) (by simp))
  · show (w6.setCell _ _).ownsRow 0 _ 2 X1.vPl (X1.pls.set i ({ p with units := p.units ++ [u] }, ⟨.slice (some ⟨gr, 0, none⟩) n c, v.us ++ [x]⟩)).length ((X1.pls.set i ({ p with units := p.units ++ [u] }, ⟨.slice (some ⟨gr, 0, none⟩) n c, v.us ++ [x]⟩)).flatMap xplCells)
    rw [List.length_set, ← flat_set xplCells 2 (fun _ => rfl) X1.pls i 1 _ (.slice (some ⟨gr, 0, none⟩) n c) hi (by omega) (by rw [e]; rfl), hv]
    exact own_set (hv ▸ hrow6) (i * 2 + 1) _ (by omega)
  · intro j q0 hj
    rcases setQ_get (X := X1) hq q0 hj with ⟨rfl, rfl⟩ | ⟨hne, hj'⟩
    · have h1 := hr.each j _ hq
      refine ⟨?_, by simp [h1.len], ?_⟩
      · show (w6.setCell _ _).ownsRow 0 _ 1 (.slice (some ⟨gr, 0, none⟩) n c) (v.us ++ [x]).length ((v.us ++ [x]).map ptrV)
        have e1 : (v.us ++ [x]).length = n := by simp [hn]
        have e2 : (v.us ++ [x]).map ptrV = v.us.map ptrV ++ [ptrV x] := by simp
        rw [e1, e2]
        refine own_same ho (fun r hr' => setCell_far w6 pb _ _ r ?_)
        have h' : r ∈ blk (.slice (some ⟨gr, 0, none⟩) n c) := hr'
        have : r = gr := by simpa [blk_slice] using h'
        rw [this]; exact hgp
      · intro k u0 y hu0 hy
        have hl := h1.len
        simp only at hl
        by_cases hk : k < v.us.length
        · have hu0' : p.units[k]? = some u0 := by
            have := hu0
            simp only at this
            rw [List.getElem?_append_left (by omega)] at this; exact this
          have hy' : v.us[k]? = some y := by
            have := hy
            simp only at this
            rw [List.getElem?_append_left hk] at this; exact this
          exact (h1.unit k u0 y hu0' hy').same (farR _ _ (xfoot_u hq hy') (R.unit j (p, v) k y hq hy') (by simp) (by simp))
        · have hu0' : u0 = u ∧ k = p.units.length := by
            have := hu0
            simp only at this
            rw [List.getElem?_append_right (by omega)] at this
            obtain ⟨hk2, h2⟩ := at_some this
            simp at hk2
            have : k - p.units.length = 0 := by omega
            simp [this] at h2
            exact ⟨h2.symm, by omega⟩
          have hy' : y = x := by
            have := hy
            simp only at this
            rw [List.getElem?_append_right (by omega)] at this
            obtain ⟨hk2, h2⟩ := at_some this
            simp at hk2
            have : k - v.us.length = 0 := by omega
            simp [this] at h2
            exact h2.symm
          rw [hu0'.1, hy']
          exact hu.same (far x.g xlt (fun e' => hx (xfoot_row hq (hmem _ e'))) hxp)
    · have h1 := hr.each j q0 hj'
      exact ⟨own_same h1.row (fun r hr' => farR r _ (xfoot_row hj' hr') (R.row j q0 hj' r hr') (by simpa using hne) (by simp)), h1.len, fun k u0 y hu0 hy => (h1.unit k u0 y hu0 hy).same (farR _ _ (xfoot_u hj' hy) (R.unit j q0 k y hj' hy) (by simp) (by simp))⟩
  · exact (old _ xfoot_b).trans R.b
  · exact (old _ xfoot_mo).trans R.mo
  · exact (old _ xfoot_ms).trans R.ms
  · exact fun r hr' => (old _ (xfoot_pl hr')).trans (R.pl r hr')
  · intro j q0 hj r hr'
    rcases setQ_get (X := X1) hq q0 hj with ⟨rfl, rfl⟩ | ⟨hne, hj'⟩
    · have h' : r ∈ blk (.slice (some ⟨gr, 0, none⟩) n c) := hr'
      have h2 : r = gr := by simpa [blk_slice] using h'
      show addR X1.R gr x.g j v.us.length r = _
      simp [addR, h2, Ne.symm hgx]
    · exact (old _ (xfoot_row hj' hr')).trans (R.row j q0 hj' r hr')
  · intro j q0 k y hj hy
    rcases setQ_get (X := X1) hq q0 hj with ⟨rfl, rfl⟩ | ⟨hne, hj'⟩
    · simp only at hy
      by_cases hk : k < v.us.length
      · rw [List.getElem?_append_left hk] at hy
        exact (old _ (xfoot_u hq hy)).trans (R.unit j (p, v) k y hq hy)
      · rw [List.getElem?_append_right (by omega)] at hy
        obtain ⟨hk2, h2⟩ := at_some hy
        simp at hk2
        have h3 : k - v.us.length = 0 := by omega
        simp [h3] at h2
        have h4 : k = v.us.length := by omega
        show addR X1.R gr x.g j v.us.length y.g = _
        simp [addR, ← h2, h4]
    · exact (old _ (xfoot_u hj' hy)).trans (R.unit j q0 k y hj' hy)
  · refine Kept.setCell ?_ _ _ _ (h.ext _ hpbf)
    refine ⟨hg.os.trans h.kept.os, hg.tape.trans h.kept.tape, hg.output.trans h.kept.output, Nat.le_trans h.kept.size hg.size, fun k hk hn' => ?_⟩
    rw [hg.block k (Nat.lt_of_lt_of_le hk h.kept.size) (fun e' => ?_), h.kept.block k hk hn']
    rcases h.ext k (xfoot_row hq (hmem k e'.symm)) with h' | h'
    · exact hn' h'
    · omega
  · intro r hr'
    rcases footsub r hr' with h' | rfl | rfl
    · exact h.ext r h'
    · rcases hat with h' | h'
      · exact h.ext _ (xfoot_row hq (hmem _ h'))
      · exact .inr (Nat.le_trans h.kept.size h')
    · exact .inr hx0
  · refine h.rows.trans (X2 := X1.addU i p v u x (.slice (some ⟨gr, 0, none⟩) n c) gr) (w2 := w6.setCell ⟨pb, i * 2 + 1, none⟩ (.slice (some ⟨gr, 0, none⟩) n c)) (B1 := w1.heap.size) ?_ ?_ h.kept.size ?_
    · intro j q hj
      by_cases e' : j = i
      · subst e'
        rw [hq] at hj
        injection hj with hj
        subst hj
        have h1 := hr.each j _ hq
        refine ⟨({ p with units := p.units ++ [u] }, ⟨.slice (some ⟨gr, 0, none⟩) n c, v.us ++ [x]⟩), by simp [XW.addU, hi], fun m y hm => ⟨y, by obtain ⟨hm', _⟩ := at_some hm; simp only; rw [List.getElem?_append_left hm']; exact hm, rfl⟩, fun g hgo => ?_⟩
        have hgf := xfoot_row hq (hmem g hgo)
        have hgl := lt g hgf
        have hgpb : g ≠ pb := by
          intro e'
          have h2 := R.row j (p, v) hq g (hmem g hgo)
          rw [e', R.pl pb hpb] at h2
          cases h2
        refine ⟨fun m y hm => ?_, hgl, ?_⟩
        · rw [World.cell?_of_block (w := w6) (a := ⟨g, m, none⟩) (setCell_far w6 pb _ _ g hgpb)]
          by_cases hgg : gr = g
          · rw [hgg] at ho
            refine own_cell ho ?_
            obtain ⟨hm', _⟩ := at_some hm
            rw [List.getElem?_append_left (by simpa using hm')]
            simp only at hm
            simp [hm]
          · rw [World.cell?_of_block (w := w1) (a := ⟨g, m, none⟩) (hg2.block g hgl (by simpa using Ne.symm hgg))]
            have hrow := h1.row
            rcases own_form hrow with ⟨e2, _⟩ | ⟨g', cap', e2, _⟩
            · simp only at e2; simp only at hgo; rw [e2] at hgo; simp [Value.ownBlock] at hgo
            · have e3 : g' = g := by simp only at e2; simp only at hgo; rw [e2] at hgo; simpa [Value.ownBlock] using hgo
              subst e3
              rw [e2] at hrow
              simp only at hm
              exact own_cell hrow (by simp [hm])
        · by_cases hgg : gr = g
          · exact .inl (by rw [hgg]; rfl)
          · refine .inr (fun hm => ?_)
            simp only [XW.foot, XW.addU, List.mem_cons, List.mem_append, List.mem_flatMap] at hm
            have hRg := R.row j (p, v) hq g (hmem g hgo)
            rcases hm with rfl | rfl | rfl | hm | ⟨q, hq', hm⟩ | hm | hm
            · rw [R.b] at hRg; cases hRg
            · rw [R.mo] at hRg; cases hRg
            · rw [R.ms] at hRg; cases hRg
            · rw [R.pl g hm] at hRg; cases hRg
            · obtain ⟨l, hl⟩ := List.getElem?_of_mem hq'
              rcases setQ_get (X := X1) hq q hl with ⟨rfl, rfl⟩ | ⟨hne, hl'⟩
              · simp only [xvFoot, List.mem_append, blk_slice, List.map_append, List.map_cons, List.map_nil, List.mem_singleton, List.mem_map] at hm
                rcases hm with rfl | ⟨y, hy, rfl⟩ | rfl
                · exact hgg rfl
                · obtain ⟨m, hm⟩ := List.getElem?_of_mem hy
                  rw [R.unit l (p, v) m y hq hm] at hRg
                  cases hRg
                · exact hx hgf
              · simp only [xvFoot, List.mem_append, List.mem_map] at hm
                rcases hm with hm | ⟨y, hy, rfl⟩
                · rw [R.row l q hl' g hm] at hRg
                  injection hRg with _ hRg _
                  exact hne hRg
                · obtain ⟨m, hm⟩ := List.getElem?_of_mem hy
                  rw [R.unit l q m y hl' hm] at hRg
                  cases hRg
            · rw [R.lot.1 g hm] at hRg; cases hRg
            · rw [R.lot.2 g hm] at hRg; cases hRg
      · refine ⟨q, by simp [XW.addU, Ne.symm e', hj], fun m y hm => ⟨y, hm, rfl⟩, fun g hgo => ?_⟩
        have hgm : g ∈ blk q.2.v := by simp [blk, hgo]
        have hgl := lt g (xfoot_row hj hgm)
        have hsame := farR g _ (xfoot_row hj hgm) (R.row j q hj g hgm) (by simpa using e') (by simp)
        refine ⟨fun m y hm => ?_, hgl, .inl hgo⟩
        rw [World.cell?_of_block (w := w1) (a := ⟨g, m, none⟩) hsame]
        have hrow := (hr.each j q hj).row
        rcases own_form hrow with ⟨e2, _⟩ | ⟨g', cap', e2, _⟩
        · rw [e2] at hgo; simp [Value.ownBlock] at hgo
        · have e3 : g' = g := by rw [e2] at hgo; simpa [Value.ownBlock] using hgo
          subst e3
          rw [e2] at hrow
          exact own_cell hrow (by simp [hm])
    · refine Kept.setCell ?_ _ _ _ (.inl hpbf)
      refine ⟨hg.os, hg.tape, hg.output, hg.size, fun k hk hn' => hg.block k hk (fun e' => hn' (xfoot_row hq (hmem k e'.symm)))⟩
    · intro r hr'
      rcases footsub r hr' with h' | rfl | rfl
      · exact .inl h'
      · rcases hat with h' | h'
        · exact .inl (xfoot_row hq (hmem _ h'))
        · exact .inr (Nat.le_trans h.kept.size h')
      · exact .inr hx0

end Go.Proofs.YtlafddeoheambaaGreatDoor
