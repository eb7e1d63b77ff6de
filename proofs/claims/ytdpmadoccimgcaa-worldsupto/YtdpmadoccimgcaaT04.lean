/-
  The function dig of package hazeref: it says whether there is ore at a spot, and takes one of it.
-/
import Derived.Test.YtdpmadoccimgcaaT03
import Derived.Test.YtdpmadoccimgcaaT01
import Derived.Laws.CopyRow
import Derived.Laws.CopyOwn
import Derived.WalkKit
import Derived.Deep.Draws
set_option linter.unusedVariables false
namespace Go.Proofs.Ytdpmadoccimgcaa
open Go.RowKit

theorem WF.full {Y : YW} {M : Int} (h : WF Y M) : Full Y := ⟨by have := h.pl; omega, fun p hp => (h.un p hp).1⟩

set_option maxHeartbeats 2000000 in
theorem rdig_any (w : World) (Y : YW) (x y : Int) (hr : RepY w Y) (ho : ∀ s ∈ Y.ore, 0 ≤ s.amount ∧ s.amount ≤ 99) :
    Calls Try.prog 69 #[.pointer (some ⟨Y.b, 0, none⟩), .int .i64 x, .int .i64 y] w fun e w' => e = .returned (.bool (digB Y.ore x y)) ∧ Turn w Y w' (Y.withOre (digL x y Y.ore)) := by
  obtain ⟨ao, ob, ocap, hvo, hoc, hom, rd⟩ := own_rd hr.ore
  unfold maxLen at hom
  have c4 : w.cell? ⟨Y.b, 4, none⟩ = some (.slice ao Y.ore.length ocap) := by rw [← hvo]; exact hr.cellTop rfl
  go_enter Try.func69, Try.ntmps69
  go_wp2
  go_loop [7] (fun i => ∃ k : Nat, k ≤ Y.ore.length ∧ i = .int .i64 k ∧ Hid (noneTo (hitB x y) Y.ore k)) (fun i => Y.ore.length + 1 - (intOf i).toNat)
  case atStart => exact ⟨0, Nat.zero_le _, rfl, noneTo_zero _ _⟩
  case round =>
    obtain ⟨k, hk, rfl, hn⟩ := hrel
    by_cases hlt : k < Y.ore.length
    · obtain rfl := rd.base (by omega)
      have d0 : w.cell? ⟨ob, k * 3, none⟩ = some (.int .i64 Y.ore[k].x) := rd.cell (k * 3 + 0) _ (by rw [flat_at spotCells 3 (fun _ => rfl) Y.ore k 0 hlt (by omega)]; rfl)
      have d1 : w.cell? ⟨ob, k * 3 + 1, none⟩ = some (.int .i64 Y.ore[k].y) := rd.cell (k * 3 + 1) _ (by rw [flat_at spotCells 3 (fun _ => rfl) Y.ore k 1 hlt (by omega)]; rfl)
      have d2 : w.cell? ⟨ob, k * 3 + 2, none⟩ = some (.int .i64 Y.ore[k].amount) := rd.cell (k * 3 + 2) _ (by rw [flat_at spotCells 3 (fun _ => rfl) Y.ore k 2 hlt (by omega)]; rfl)
      have fz : w.frozen? ⟨ob, k * 3 + 2, none⟩ = false := own_frozen (hvo ▸ hr.ore) _
      have ha := ho _ (List.getElem_mem hlt)
      by_cases e0 : Y.ore[k].x = x
      · by_cases e1 : Y.ore[k].y = y
        · by_cases e2 : 0 < Y.ore[k].amount
          · have hh : hitB x y Y.ore[k] = true := by simp [hitB, e0, e1, e2]
            have G : Hid (digB Y.ore x y = true) := any_hit _ _ k hlt hh
            have T : Hid (Turn w Y (w.setCell ⟨ob, k * 3 + 2, none⟩ (.int .i64 (Y.ore[k].amount - 1))) (Y.withOre (digL x y Y.ore))) := by
              unfold Hid
              rw [digL_hit x y Y.ore k hlt hn.out hh]
              exact ⟨hr.setOre k hlt ob ocap hvo _, (Kept.refl _ _).setCell _ _ _ (.inl (foot_o (by rw [hvo]; simp [blk_slice]))), fun _ h => .inl h, rfl⟩
            have e0' : (Y.ore[k].x == x) = true := by simpa using e0
            have e1' : (Y.ore[k].y == y) = true := by simpa using e1
            clear e0 e1 hh
            go_wp2
            go_ret
            exact ⟨ret_bool G.out.symm, T.out⟩
          · have hn' : Hid _ := noneTo_succ hn.out hlt (by simp [hitB, e2])
            have e0' : (Y.ore[k].x == x) = true := by simpa using e0
            have e1' : (Y.ore[k].y == y) = true := by simpa using e1
            clear e0 e1
            go_wp2
            exact ⟨⟨k + 1, by omega, by go_num, hn'⟩, by simp [intOf]; omega⟩
        · have hn' : Hid _ := noneTo_succ hn.out hlt (by simp [hitB, e1])
          have e0' : (Y.ore[k].x == x) = true := by simpa using e0
          have e1' : (Y.ore[k].y == y) = false := by simpa using e1
          clear e0 e1
          go_wp2
          exact ⟨⟨k + 1, by omega, by go_num, hn'⟩, by simp [intOf]; omega⟩
      · have hn' : Hid _ := noneTo_succ hn.out hlt (by simp [hitB, e0])
        have e0' : (Y.ore[k].x == x) = false := by simpa using e0
        clear e0
        go_wp2
        exact ⟨⟨k + 1, by omega, by go_num, hn'⟩, by simp [intOf]; omega⟩
    · have G : Hid (digB Y.ore x y = false) := any_miss _ _ (noneTo_all hn.out hlt)
      have T : Hid (Turn w Y w (Y.withOre (digL x y Y.ore))) := by
        unfold Hid
        rw [digL_miss x y Y.ore (noneTo_all hn.out hlt)]
        exact Turn.refl hr
      go_wp2
      go_ret
      exact ⟨ret_bool G.out.symm, T.out⟩
end Go.Proofs.Ytdpmadoccimgcaa

/-
  Two laws of our own: the built-in copy at elements of several cells, into a row that is known whole.
-/
namespace Go.Proofs.Ytdpmadoccimgcaa
open Go.RowKit

theorem run_copy_wide {P : Program} (w : World) (dT sT ty elem : TypeId) (size g dLen dCap : Nat) (ao : Option Addr) (sLen sCap : Nat) (cur : Array Value) (t : TypeId) (cs : List Value)
    (hu : P.underlying dT = some (.slice elem)) (hs : (P.info? elem).map (·.size) = some size)
    (hg : w.heap[g]? = some (.cells cur t (0, 0))) (hle : sLen ≤ dLen) (hn : cs.length = sLen * size)
    (hsrc : 0 < sLen → ∃ a, ao = some a ∧ ∀ j v, cs[j]? = some v → w.cell? (a.add j) = some v) (hfit : cs.length ≤ cur.size) (h1 : ∀ v ∈ cs, v.oneCell' = true) :
    (Builtin.copy_ #[dT, sT] ty #[.slice (some ⟨g, 0, none⟩) dLen dCap, .slice ao sLen sCap]).run P w =
      .ok (goInt sLen) (w.setRow g (cs ++ cur.toList.drop cs.length).toArray) := by
  have hmin : Nat.min sLen dLen = sLen := Nat.min_eq_left hle
  have hst := run_storeCells_at P g 0 t cs 0 cur w hg (by simpa using hfit) h1
  simp only [Nat.add_zero, Nat.zero_add, List.take_zero, List.nil_append] at hst
  cases hq : P.info? elem with
  | none => simp [hq] at hs
  | some i =>
    have hi : i.size = size := by simpa [hq] using hs
    by_cases h0 : 0 < sLen
    · obtain ⟨a, rfl, hsrc2⟩ := hsrc h0
      have hl := run_loadCells_list (P := P) w a cs hsrc2
      rw [hn] at hl
      simp [Builtin.copy_, run_underlying hu, Builtin.lenOf, Builtin.firstCells, sizeOf, typeInfo, hq, hi, hmin, hl, hst]
    · have hz : sLen = 0 := by omega
      subst hz
      have hc : cs = [] := List.eq_nil_of_length_eq_zero (by simpa using hn)
      subst hc
      have hl : ∀ (x : Addr), (loadCells x 0).run P w = .ok #[] w := fun x => by simpa using run_loadCells_list (P := P) w x [] (by simp)
      cases ao <;> simp [Builtin.copy_, run_underlying hu, Builtin.lenOf, Builtin.firstCells, sizeOf, typeInfo, hq, hmin, hl, storeCells, setRow_self w g cur t (0, 0) hg]

theorem wpList_copy_wide {P : Program} {w : World} {ops : Array Oper} {rest : List Oper} {o : Oper} {a : Act} {Q : Exit → Act → World → Prop} (hgd : o.guard = none) (d s : Operand) (dT sT : TypeId)
    (ho : o.op = .call { callee := .builtin .copy, args := #[d, s], argTypes := #[dT, sT] }) (elem : TypeId) (size : Nat) (hu : P.underlying dT = some (.slice elem)) (hsz : (P.info? elem).map (·.size) = some size)
    (g dLen dCap : Nat) (ao : Option Addr) (sLen sCap : Nat) (hd : a.eval d = .slice (some ⟨g, 0, none⟩) dLen dCap) (hs : a.eval s = .slice ao sLen sCap)
    (cur : Array Value) (t : TypeId) (hg : w.heap[g]? = some (.cells cur t (0, 0))) (cs : List Value) (hle : sLen ≤ dLen) (hn : cs.length = sLen * size)
    (hsrc : 0 < sLen → ∃ a, ao = some a ∧ ∀ j v, cs[j]? = some v → w.cell? (a.add j) = some v) (hfit : cs.length ≤ cur.size) (h1 : ∀ v ∈ cs, v.oneCell' = true)
    (h : wpList P ops Q rest (a.put o.dst (goInt sLen)) (w.setRow g (cs ++ cur.toList.drop cs.length).toArray)) : wpList P ops Q (o :: rest) a w := by
  refine wpList_plain hgd fun K hK => ?_
  have hrun := run_copy_wide (P := P) w dT sT o.type elem size g dLen dCap ao sLen sCap cur t cs hu hsz hg hle hn hsrc hfit h1
  unfold Oper.wp
  simp [execOp, ho, resolve, invoke, builtin, hd, hs, hrun, Result.andThen]
  exact hK _ _ h

theorem wpList_copy_letter {P : Program} {w : World} {ops : Array Oper} {rest : List Oper} {o : Oper} {a : Act} {Q : Exit → Act → World → Prop} (hgd : o.guard = none) (d s : Operand) (dT sT : TypeId)
    (ho : o.op = .call { callee := .builtin .copy, args := #[d, s], argTypes := #[dT, sT] }) (elem : TypeId) (size : Nat) (hu : P.underlying dT = some (.slice elem)) (hsz : (P.info? elem).map (·.size) = some size)
    (g dLen dCap : Nat) (ao : Option Addr) (sLen sCap : Nat) (hd : a.eval d = .slice (some ⟨g, 0, none⟩) dLen dCap) (hs : a.eval s = .slice ao sLen sCap)
    (cur : Array Value) (t : TypeId) (hg : w.heap[g]? = some (.cells cur t (0, 0))) (cs : List Value) (hle : sLen ≤ dLen) (hn : cs.length = sLen * size)
    (hsrc : 0 < sLen → ∃ a, ao = some a ∧ ∀ j v, cs[j]? = some v → w.cell? (a.add j) = some v) (hfit : cs.length ≤ cur.size) (h1 : ∀ v ∈ cs, v.oneCell' = true)
    (h : ∀ w1, w1.heap[g]? = some (.cells (cs ++ cur.toList.drop cs.length).toArray t (0, 0)) → Below g w w1 → w1.heap.size = w.heap.size → wpList P ops Q rest (a.put o.dst (goInt sLen)) w1) : wpList P ops Q (o :: rest) a w :=
  wpList_copy_wide hgd d s dT sT ho elem size hu hsz g dLen dCap ao sLen sCap hd hs cur t hg cs hle hn hsrc hfit h1
    (h _ (setRow_heap w g _ _ t _ hg) (below_setRow (Below.refl _ _) (Nat.le_refl _) _) (by simp [World.setRow]))

/-- A guard for an arm of the walk: it fits at a copy alone. -/
def AtCopy (p : Prop) : Prop := p
theorem copy_guard {P : Program} {ops : Array Oper} {rest : List Oper} {dst : Option Tmp} {d s : Operand} {dT sT ty : TypeId} {pos : String} {af : Array Edge} {a : Act} {w : World} {Q : Exit → Act → World → Prop}
    (h : AtCopy (wpList P ops Q ({ dst := dst, op := .call { callee := .builtin .copy, args := #[d, s], argTypes := #[dT, sT] }, type := ty, pos := pos, after := af, guard := none } :: rest) a w)) :
    wpList P ops Q ({ dst := dst, op := .call { callee := .builtin .copy, args := #[d, s], argTypes := #[dT, sT] }, type := ty, pos := pos, after := af, guard := none } :: rest) a w := h

end Go.Proofs.Ytdpmadoccimgcaa

/-
  The document's world, one thing of it turned, said by what stands at a place.
-/
namespace Go.Proofs.Ytdpmadoccimgcaa
open Go.RowKit

theorem at_some {α : Type} {l : List α} {i : Nat} {a : α} (h : l[i]? = some a) : ∃ hi : i < l.length, l[i] = a := List.getElem?_eq_some_iff.1 h
theorem setQ_at {Y : YW} {i : Nat} {q q' : SPlayer × PV} (h : Y.pls[i]? = some q) : (Y.setQ i q').pls[i]? = some q' := by
  obtain ⟨hi, _⟩ := at_some h
  simp [YW.setQ, hi]
theorem set_at {α : Type} {l : List α} {i : Nat} {a b : α} (h : l[i]? = some a) : (l.set i b)[i]? = some b := by
  obtain ⟨hi, _⟩ := at_some h
  simp [hi]
theorem setQ_setQ (Y : YW) (i : Nat) (q q' : SPlayer × PV) : (Y.setQ i q).setQ i q' = Y.setQ i q' := by simp [YW.setQ]

/-- The player's own cells. -/
theorem RepY.plCell {w : World} {Y : YW} (h : RepY w Y) {i : Nat} {p : SPlayer} {v : PV} (hq : Y.pls[i]? = some (p, v)) {pb cap : Nat} (hv : Y.vPl = .slice (some ⟨pb, 0, none⟩) Y.pls.length cap) :
    w.cell? ⟨pb, i * 4, none⟩ = some (.int .i64 p.money) ∧ w.cell? ⟨pb, i * 4 + 1, none⟩ = some v.u ∧ w.cell? ⟨pb, i * 4 + 2, none⟩ = some v.b ∧ w.cell? ⟨pb, i * 4 + 3, none⟩ = some v.n := by
  obtain ⟨hi, e⟩ := at_some hq
  have f := fun j (hj : j < 4) => flat_at plCells 4 (fun _ => rfl) Y.pls i j hi hj
  rw [e] at f
  have o := h.pl
  rw [hv] at o
  exact ⟨own_cell o (f 0 (by omega)), own_cell o (f 1 (by omega)), own_cell o (f 2 (by omega)), own_cell o (f 3 (by omega))⟩
theorem RepY.plFrozen {w : World} {Y : YW} (h : RepY w Y) {pb cap : Nat} (hv : Y.vPl = .slice (some ⟨pb, 0, none⟩) Y.pls.length cap) (j : Nat) : w.frozen? ⟨pb, j, none⟩ = false := by
  have o := h.pl
  rw [hv] at o
  exact own_frozen o j
theorem RepY.eachAt {w : World} {Y : YW} (h : RepY w Y) {i : Nat} {q : SPlayer × PV} (hq : Y.pls[i]? = some q) : RepP w q := by
  obtain ⟨hi, rfl⟩ := at_some hq
  exact h.each _ (List.getElem_mem hi)
theorem RepP.uCell {w : World} {p : SPlayer} {v : PV} (h : RepP w (p, v)) {k : Nat} {u : SUnit} (hu : p.units[k]? = some u) {ub cap : Nat} (hv : v.u = .slice (some ⟨ub, 0, none⟩) p.units.length cap) :
    w.cell? ⟨ub, k * 7, none⟩ = some (.string u.name) ∧ w.cell? ⟨ub, k * 7 + 1, none⟩ = some (.int .i64 u.x) ∧ w.cell? ⟨ub, k * 7 + 2, none⟩ = some (.int .i64 u.y) ∧ w.cell? ⟨ub, k * 7 + 3, none⟩ = some (.int .i64 u.head) ∧
    w.cell? ⟨ub, k * 7 + 4, none⟩ = some (.int .i64 u.cargo) ∧ w.cell? ⟨ub, k * 7 + 5, none⟩ = some (.string u.what) ∧ w.cell? ⟨ub, k * 7 + 6, none⟩ = some (.string u.arg) := by
  obtain ⟨hk, rfl⟩ := at_some hu
  have o := h.units
  simp only [hv] at o
  exact unit_cells o hk
theorem RepP.uFrozen {w : World} {p : SPlayer} {v : PV} (h : RepP w (p, v)) {ub cap : Nat} (hv : v.u = .slice (some ⟨ub, 0, none⟩) p.units.length cap) (j : Nat) : w.frozen? ⟨ub, j, none⟩ = false := by
  have o := h.units
  simp only [hv] at o
  exact own_frozen o j

/-- One cell of one unit written. -/
theorem Turn.unit1 {w w1 : World} {Y Y1 : YW} (h : Turn w Y w1 Y1) {i k : Nat} {p : SPlayer} {v : PV} {u : SUnit} (hq : Y1.pls[i]? = some (p, v)) (hu : p.units[k]? = some u) {ub cap : Nat} (hv : v.u = .slice (some ⟨ub, 0, none⟩) p.units.length cap)
    (j : Nat) (u' : SUnit) (val : Value) (hj : j < 7) (hc : unitCells u' = (unitCells u).set j val) :
    Turn w Y (w1.setCell ⟨ub, k * 7 + j, none⟩ val) (Y1.setQ i ({ p with units := p.units.set k u' }, v)) := by
  obtain ⟨hi, e⟩ := at_some hq
  obtain ⟨hk, rfl⟩ := at_some hu
  have h1 : p = Y1.pls[i].1 := by rw [e]
  have h2 : v = Y1.pls[i].2 := by rw [e]
  subst h1 h2
  have hr := h.rep.setUnit i k j hi hk hj ub cap hv u' val hc
  have hub : ub ∈ Y1.foot := foot_e (List.getElem_mem hi) (by simp [pvFoot, hv, blk_slice])
  have hf := foot_setQ Y1 i ({ Y1.pls[i].1 with units := Y1.pls[i].1.units.set k u' }, Y1.pls[i].2) hi rfl
  exact ⟨hr, h.kept.setCell _ _ _ (h.ext ub hub), fun r hr => h.ext r (by rw [hf] at hr; exact hr), h.b⟩
/-- The player's money written. -/
theorem Turn.money1 {w w1 : World} {Y Y1 : YW} (h : Turn w Y w1 Y1) {i : Nat} {p : SPlayer} {v : PV} (hq : Y1.pls[i]? = some (p, v)) {pb cap : Nat} (hv : Y1.vPl = .slice (some ⟨pb, 0, none⟩) Y1.pls.length cap) (m : Int) :
    Turn w Y (w1.setCell ⟨pb, i * 4, none⟩ (.int .i64 m)) (Y1.setQ i ({ p with money := m }, v)) := by
  obtain ⟨hi, e⟩ := at_some hq
  have h1 : p = Y1.pls[i].1 := by rw [e]
  have h2 : v = Y1.pls[i].2 := by rw [e]
  subst h1 h2
  have hr := h.rep.setMoney i hi pb cap hv m
  have hpb : pb ∈ Y1.foot := foot_p (by simp [hv, blk_slice])
  have hf := foot_setQ Y1 i ({ Y1.pls[i].1 with money := m }, Y1.pls[i].2) hi rfl
  exact ⟨hr, h.kept.setCell _ _ _ (h.ext pb hpb), fun r hr => h.ext r (by rw [hf] at hr; exact hr), h.b⟩

theorem Turn.unit2 {w w1 : World} {Y Y1 : YW} (h : Turn w Y w1 Y1) {i k : Nat} {p : SPlayer} {v : PV} {u : SUnit} (hq : Y1.pls[i]? = some (p, v)) (hu : p.units[k]? = some u) {ub cap : Nat} (hv : v.u = .slice (some ⟨ub, 0, none⟩) p.units.length cap)
    (j j' : Nat) (u' u'' : SUnit) (val val' : Value) (hj : j < 7) (hj' : j' < 7) (hc : unitCells u' = (unitCells u).set j val) (hc' : unitCells u'' = (unitCells u').set j' val') :
    Turn w Y ((w1.setCell ⟨ub, k * 7 + j, none⟩ val).setCell ⟨ub, k * 7 + j', none⟩ val') (Y1.setQ i ({ p with units := p.units.set k u'' }, v)) := by
  have t1 := h.unit1 hq hu hv j u' val hj hc
  have t2 := t1.unit1 (setQ_at hq) (set_at hu) (by simpa using hv) j' u'' val' hj' hc'
  rw [setQ_setQ] at t2
  simpa using t2
theorem Turn.drew {w w1 : World} {Y Y1 : YW} (h : Turn w Y w1 Y1) : Turn w Y w1.drew Y1 := ⟨h.rep.drew, h.kept.drew, h.ext, h.b⟩
/-- The lists of players and of a player's units lie apart. -/
theorem RepY.apart {w : World} {Y : YW} (h : RepY w Y) {i : Nat} {p : SPlayer} {v : PV} (hq : Y.pls[i]? = some (p, v)) {pb cap : Nat} (hv : Y.vPl = .slice (some ⟨pb, 0, none⟩) Y.pls.length cap) {ub n c : Nat} (hu : v.u = .slice (some ⟨ub, 0, none⟩) n c) : ub ≠ pb := by
  obtain ⟨hi, e⟩ := at_some hq
  have hm : (p, v) ∈ Y.pls := by rw [← e]; exact List.getElem_mem hi
  intro e
  subst e
  exact (sep_of h.sep).pe ub (by simp [hv, blk_slice]) _ hm (by simp [pvFoot, hu, blk_slice])
theorem RepY.apartB {w : World} {Y : YW} (h : RepY w Y) {i : Nat} {p : SPlayer} {v : PV} (hq : Y.pls[i]? = some (p, v)) {ub n c : Nat} (hu : v.u = .slice (some ⟨ub, 0, none⟩) n c) : ub ≠ Y.b := by
  obtain ⟨hi, e⟩ := at_some hq
  have hm : (p, v) ∈ Y.pls := by rw [← e]; exact List.getElem_mem hi
  intro e
  subst e
  exact (sep_of h.sep).be _ hm (by simp [pvFoot, hu, blk_slice])

theorem S_at {Y : YW} {i : Nat} {p : SPlayer} {v : PV} (hq : Y.pls[i]? = some (p, v)) : Y.S.players[i]? = some p := by simp [YW.S, hq]
theorem doesS_at {Y : YW} {n k : Nat} {p : SPlayer} {v : PV} {u : SUnit} (hq : Y.pls[n]? = some (p, v)) (hu : p.units[k]? = some u) :
    doesS Y.S n k = actS (Y.S.setPl n { p with units := p.units.set k { u with what := emptyB, arg := emptyB } }) n k { p with units := p.units.set k { u with what := emptyB, arg := emptyB } } { u with what := emptyB, arg := emptyB } u.what u.arg := by
  unfold doesS
  rw [S_at hq]
  simp only [hu]

theorem actS_go (s : SWorld) (n k : Nat) (p : SPlayer) (u : SUnit) (what arg : ByteArray)  (h0 : (what.toList == [103, 111]) = true) (hx : freeS s (u.x + dxI u.head) (u.y + dyI u.head) = true) : actS s n k p u what arg = s.setPl n { p with units := p.units.set k { u with x := u.x + dxI u.head, y := u.y + dyI u.head } } := by simp [actS, h0, hx]
theorem actS_go_no (s : SWorld) (n k : Nat) (p : SPlayer) (u : SUnit) (what arg : ByteArray)  (h0 : (what.toList == [103, 111]) = true) (hx : freeS s (u.x + dxI u.head) (u.y + dyI u.head) = false) : actS s n k p u what arg = s := by simp [actS, h0, hx]
theorem actS_left (s : SWorld) (n k : Nat) (p : SPlayer) (u : SUnit) (what arg : ByteArray) (h0 : (what.toList == [103, 111]) = false) (h1 : (what.toList == [108, 101, 102, 116]) = true)  : actS s n k p u what arg = s.setPl n { p with units := p.units.set k { u with head := (u.head + 1) % 4 } } := by simp [actS, h0, h1]
theorem actS_back (s : SWorld) (n k : Nat) (p : SPlayer) (u : SUnit) (what arg : ByteArray) (h0 : (what.toList == [103, 111]) = false) (h1 : (what.toList == [108, 101, 102, 116]) = false) (h2 : (what.toList == [98, 97, 99, 107]) = true)  : actS s n k p u what arg = s.setPl n { p with units := p.units.set k { u with head := (u.head + 2) % 4 } } := by simp [actS, h0, h1, h2]
theorem actS_right (s : SWorld) (n k : Nat) (p : SPlayer) (u : SUnit) (what arg : ByteArray) (h0 : (what.toList == [103, 111]) = false) (h1 : (what.toList == [108, 101, 102, 116]) = false) (h2 : (what.toList == [98, 97, 99, 107]) = false) (h3 : (what.toList == [114, 105, 103, 104, 116]) = true)  : actS s n k p u what arg = s.setPl n { p with units := p.units.set k { u with head := (u.head + 3) % 4 } } := by simp [actS, h0, h1, h2, h3]
theorem actS_dig (s : SWorld) (n k : Nat) (p : SPlayer) (u : SUnit) (what arg : ByteArray) (h0 : (what.toList == [103, 111]) = false) (h1 : (what.toList == [108, 101, 102, 116]) = false) (h2 : (what.toList == [98, 97, 99, 107]) = false) (h3 : (what.toList == [114, 105, 103, 104, 116]) = false) (h4 : (what.toList == [100, 105, 103]) = true) (hx : u.cargo < 9) (hy : digB s.ore u.x u.y = true) : actS s n k p u what arg = { s.setPl n { p with units := p.units.set k { u with cargo := u.cargo + 1 } } with ore := digL u.x u.y s.ore } := by simp [actS, h0, h1, h2, h3, h4, hx, hy]
theorem actS_dig_full (s : SWorld) (n k : Nat) (p : SPlayer) (u : SUnit) (what arg : ByteArray) (h0 : (what.toList == [103, 111]) = false) (h1 : (what.toList == [108, 101, 102, 116]) = false) (h2 : (what.toList == [98, 97, 99, 107]) = false) (h3 : (what.toList == [114, 105, 103, 104, 116]) = false) (h4 : (what.toList == [100, 105, 103]) = true) (hx : ¬ u.cargo < 9) : actS s n k p u what arg = s := by simp [actS, h0, h1, h2, h3, h4, hx]
theorem actS_dig_none (s : SWorld) (n k : Nat) (p : SPlayer) (u : SUnit) (what arg : ByteArray) (h0 : (what.toList == [103, 111]) = false) (h1 : (what.toList == [108, 101, 102, 116]) = false) (h2 : (what.toList == [98, 97, 99, 107]) = false) (h3 : (what.toList == [114, 105, 103, 104, 116]) = false) (h4 : (what.toList == [100, 105, 103]) = true) (hx : u.cargo < 9) (hy : digB s.ore u.x u.y = false) : actS s n k p u what arg = s := by simp [actS, h0, h1, h2, h3, h4, hx, hy]
theorem actS_sell (s : SWorld) (n k : Nat) (p : SPlayer) (u : SUnit) (what arg : ByteArray) (h0 : (what.toList == [103, 111]) = false) (h1 : (what.toList == [108, 101, 102, 116]) = false) (h2 : (what.toList == [98, 97, 99, 107]) = false) (h3 : (what.toList == [114, 105, 103, 104, 116]) = false) (h4 : (what.toList == [100, 105, 103]) = false) (h5 : (what.toList == [115, 101, 108, 108]) = true)  : actS s n k p u what arg = s.setPl n { p with money := p.money + 10 * u.cargo, units := p.units.set k { u with cargo := 0 } } := by simp [actS, h0, h1, h2, h3, h4, h5]
theorem actS_call (s : SWorld) (n k : Nat) (p : SPlayer) (u : SUnit) (what arg : ByteArray) (h0 : (what.toList == [103, 111]) = false) (h1 : (what.toList == [108, 101, 102, 116]) = false) (h2 : (what.toList == [98, 97, 99, 107]) = false) (h3 : (what.toList == [114, 105, 103, 104, 116]) = false) (h4 : (what.toList == [100, 105, 103]) = false) (h5 : (what.toList == [115, 101, 108, 108]) = false) (h6 : (what.toList == [99, 97, 108, 108]) = true) (hx : unitIx p.units arg < 0) : actS s n k p u what arg = s.setPl n { p with units := p.units.set k { u with name := arg } } := by simp [actS, h0, h1, h2, h3, h4, h5, h6, hx]
theorem actS_call_no (s : SWorld) (n k : Nat) (p : SPlayer) (u : SUnit) (what arg : ByteArray) (h0 : (what.toList == [103, 111]) = false) (h1 : (what.toList == [108, 101, 102, 116]) = false) (h2 : (what.toList == [98, 97, 99, 107]) = false) (h3 : (what.toList == [114, 105, 103, 104, 116]) = false) (h4 : (what.toList == [100, 105, 103]) = false) (h5 : (what.toList == [115, 101, 108, 108]) = false) (h6 : (what.toList == [99, 97, 108, 108]) = true) (hx : ¬ unitIx p.units arg < 0) : actS s n k p u what arg = s := by simp [actS, h0, h1, h2, h3, h4, h5, h6, hx]
theorem actS_build (s : SWorld) (n k : Nat) (p : SPlayer) (u : SUnit) (what arg : ByteArray) (h0 : (what.toList == [103, 111]) = false) (h1 : (what.toList == [108, 101, 102, 116]) = false) (h2 : (what.toList == [98, 97, 99, 107]) = false) (h3 : (what.toList == [114, 105, 103, 104, 116]) = false) (h4 : (what.toList == [100, 105, 103]) = false) (h5 : (what.toList == [115, 101, 108, 108]) = false) (h6 : (what.toList == [99, 97, 108, 108]) = false) (h7 : (what.toList == [98, 117, 105, 108, 100]) = true) (hx : unitIx p.units arg < 0) (hl : p.units.length < 5) (hm : 50 ≤ p.money - stakedI p.bids emptyB) (hg : freeS s (u.x + dxI u.head) (u.y + dyI u.head) = true) : actS s n k p u what arg = s.setPl n { p with money := p.money - 50, units := p.units ++ [{ name := arg, x := u.x + dxI u.head, y := u.y + dyI u.head, head := u.head, cargo := 0, what := emptyB, arg := emptyB }] } := by simp [actS, h0, h1, h2, h3, h4, h5, h6, h7, hx, hl, hm, hg]
theorem actS_build_no (s : SWorld) (n k : Nat) (p : SPlayer) (u : SUnit) (what arg : ByteArray) (h0 : (what.toList == [103, 111]) = false) (h1 : (what.toList == [108, 101, 102, 116]) = false) (h2 : (what.toList == [98, 97, 99, 107]) = false) (h3 : (what.toList == [114, 105, 103, 104, 116]) = false) (h4 : (what.toList == [100, 105, 103]) = false) (h5 : (what.toList == [115, 101, 108, 108]) = false) (h6 : (what.toList == [99, 97, 108, 108]) = false) (h7 : (what.toList == [98, 117, 105, 108, 100]) = true) (hx : ¬ (unitIx p.units arg < 0 ∧ p.units.length < 5 ∧ 50 ≤ p.money - stakedI p.bids emptyB ∧ freeS s (u.x + dxI u.head) (u.y + dyI u.head) = true)) : actS s n k p u what arg = s := by simp only [actS, h0, h1, h2, h3, h4, h5, h6, h7, if_neg hx]; rfl
theorem actS_none (s : SWorld) (n k : Nat) (p : SPlayer) (u : SUnit) (what arg : ByteArray) (h0 : (what.toList == [103, 111]) = false) (h1 : (what.toList == [108, 101, 102, 116]) = false) (h2 : (what.toList == [98, 97, 99, 107]) = false) (h3 : (what.toList == [114, 105, 103, 104, 116]) = false) (h4 : (what.toList == [100, 105, 103]) = false) (h5 : (what.toList == [115, 101, 108, 108]) = false) (h6 : (what.toList == [99, 97, 108, 108]) = false) (h7 : (what.toList == [98, 117, 105, 108, 100]) = false) : actS s n k p u what arg = s := by simp [actS, h0, h1, h2, h3, h4, h5, h6, h7]

end Go.Proofs.Ytdpmadoccimgcaa

/-
  That a world with players and units has them still where one unit has turned.
-/
namespace Go.Proofs.Ytdpmadoccimgcaa
open Go.RowKit

theorem Full.setQ {Y : YW} (h : Full Y) {n : Nat} {q q' : SPlayer × PV} (hq : Y.pls[n]? = some q) (hl : q'.1.units.length = q.1.units.length) : Full (Y.setQ n q') := by
  obtain ⟨hn, rfl⟩ := at_some hq
  refine ⟨by simpa [YW.setQ] using h.pl1, fun p hp => ?_⟩
  obtain ⟨j, hj, rfl⟩ := List.mem_iff_getElem.1 hp
  simp only [YW.setQ, List.length_set] at hj
  simp only [YW.setQ, List.getElem_set]
  split
  · rw [hl]; exact h.un1 _ (List.getElem_mem hn)
  · exact h.un1 _ (List.getElem_mem hj)

theorem hidOf {p : Prop} (h : p) : Hid p := h
theorem digKeep {w3 w4 : World} {Y1 : YW} {n k : Nat} {p : SPlayer} {v : PV} {u : SUnit} {ub cap : Nat} (hq : Y1.pls[n]? = some (p, v)) (hu : p.units[k]? = some u) (hv : v.u = .slice (some ⟨ub, 0, none⟩) p.units.length cap) {l : List SSpot} (h4 : Turn w3.drew Y1 w4 (Y1.withOre l)) :
    (w4.cell? ⟨ub, k * 7 + 1, none⟩ = some (.int .i64 u.x) ∧ w4.cell? ⟨ub, k * 7 + 2, none⟩ = some (.int .i64 u.y)) ∧ w4.cell? ⟨ub, k * 7 + 4, none⟩ = some (.int .i64 u.cargo) ∧ w4.frozen? ⟨ub, k * 7 + 4, none⟩ = false := by
  obtain ⟨_, a1, a2, _, a4, _⟩ := (h4.rep.eachAt (show (Y1.withOre l).pls[n]? = _ from hq)).uCell hu hv
  exact ⟨⟨a1, a2⟩, a4, (h4.rep.eachAt (show (Y1.withOre l).pls[n]? = _ from hq)).uFrozen hv _⟩
theorem digL_none (x y : Int) (l : List SSpot) (h : digB l x y = false) : digL x y l = l := by
  refine digL_miss x y l (fun j hj => ?_)
  have := List.any_eq_false.1 h l[j] (List.getElem_mem hj)
  simpa using this
theorem RepY.heapEq {w w' : World} {Y : YW} (h : RepY w Y) (e : w'.heap = w.heap) : RepY w' Y := h.same (fun r _ => by rw [e])
theorem Turn.drewN {w w1 : World} {Y Y1 : YW} (h : Turn w Y w1 Y1) (n : Nat) : Turn w Y (w1.drewN n) Y1 :=
  ⟨h.rep.heapEq rfl, ⟨h.kept.os, h.kept.tape, h.kept.output, h.kept.size, h.kept.block⟩, h.ext, h.b⟩
theorem Try.infoUnit : (Try.prog.info? 95).map (fun i => (i.zero, i.size, i.bytes)) = some (some (.agg #[.string ⟨#[]⟩, .int .i64 0, .int .i64 0, .int .i64 0, .int .i64 0, .string ⟨#[]⟩, .string ⟨#[]⟩]), 7, 80) := by kernel_rfl
theorem S_withOre (Y : YW) (l : List SSpot) : (Y.withOre l).S = { Y.S with ore := l } := rfl
end Go.Proofs.Ytdpmadoccimgcaa

/-
  What becomes of the document's world in memory where a player gets a unit more.
-/
namespace Go.Proofs.Ytdpmadoccimgcaa
open Go.RowKit

theorem nodup_map_on {l : List Nat} (f : Nat → Nat) (h : l.Nodup) (hf : ∀ x ∈ l, ∀ y ∈ l, f x = f y → x = y) : (l.map f).Nodup := by
  unfold List.Nodup at *
  rw [List.pairwise_map]
  exact List.Pairwise.imp_of_mem (fun {a b} ha hb hab e => hab (hf a ha b hb e)) h
theorem map_fix {l : List Nat} (f : Nat → Nat) (h : ∀ x ∈ l, f x = x) : l.map f = l := by
  rw [List.map_congr_left (g := id) (fun x hx => h x hx)]
  simp

/-- One block put in the place of another. -/
def subB (ub g r : Nat) : Nat := if r = ub then g else r
theorem subB_other {ub g r : Nat} (h : r ≠ ub) : subB ub g r = r := by simp [subB, h]
theorem subB_same (ub g : Nat) : subB ub g ub = g := by simp [subB]

theorem foot_sub {Y : YW} (hs : Y.foot.Nodup) {n : Nat} {p p' : SPlayer} {v : PV} (hq : Y.pls[n]? = some (p, v)) {ub a b g c d : Nat} (hv : v.u = .slice (some ⟨ub, 0, none⟩) a b) :
    (Y.setQ n (p', { v with u := .slice (some ⟨g, 0, none⟩) c d })).foot = Y.foot.map (subB ub g) := by
  obtain ⟨hn, e⟩ := at_some hq
  have sp := sep_of hs
  have hmem : Y.pls[n] ∈ Y.pls := List.getElem_mem hn
  have hub : ub ∈ pvFoot Y.pls[n] := by rw [e]; simp [pvFoot, hv, blk_slice]
  have e1 : Y.b ≠ ub := fun h => sp.be _ hmem (h ▸ hub)
  have fo : ∀ r ∈ blk Y.vOre, subB ub g r = r := fun r hr => subB_other (fun h => sp.oe r hr _ hmem (h ▸ hub))
  have fp : ∀ r ∈ blk Y.vPl, subB ub g r = r := fun r hr => subB_other (fun h => sp.pe r hr _ hmem (h ▸ hub))
  have fl : ∀ r ∈ blk Y.vLots, subB ub g r = r := fun r hr => subB_other (fun h => sp.le r hr _ hmem (h ▸ hub))
  have fe : (Y.pls.set n (p', { v with u := .slice (some ⟨g, 0, none⟩) c d })).flatMap pvFoot = (Y.pls.flatMap pvFoot).map (subB ub g) := by
    rw [List.map_flatMap, List.flatMap_def, List.flatMap_def]
    congr 1
    apply List.ext_getElem
    · simp
    · intro j h1 h2
      have hj : j < Y.pls.length := by simpa using h2
      simp only [List.getElem_map, List.getElem_set]
      split
      · rename_i hnj
        subst hnj
        have nd := sp.e1 n hn
        rw [e] at nd ⊢
        simp only [pvFoot, hv, blk_slice, List.singleton_append, List.nodup_cons, List.mem_append, not_or] at nd
        simp only [pvFoot, hv, blk_slice, List.singleton_append, List.map_cons, List.map_append, subB_same]
        have g1 : ∀ x ∈ blk v.b, subB ub g x = x := fun x hx => subB_other (fun h => nd.1.1 (h ▸ hx))
        have g2 : ∀ x ∈ blk v.n, subB ub g x = x := fun x hx => subB_other (fun h => nd.1.2 (h ▸ hx))
        rw [map_fix _ g1, map_fix _ g2]
      · rename_i hnj
        rw [map_fix]
        intro x hx
        exact subB_other (fun h => sp.ee n j hn hj hnj ub hub (h ▸ hx))
  simp only [YW.foot, YW.setQ, List.map_cons, List.map_append, subB_other e1, map_fix _ fo, map_fix _ fp, map_fix _ fl, fe]

theorem Turn.addUnit {w w5 w5' w6 : World} {Y Y2 : YW} (h : Turn w Y w5 Y2) {n : Nat} {p : SPlayer} {v : PV} (hq : Y2.pls[n]? = some (p, v)) {pb pcap ub a c : Nat} (hvp : Y2.vPl = .slice (some ⟨pb, 0, none⟩) Y2.pls.length pcap) (hv : v.u = .slice (some ⟨ub, 0, none⟩) a c)
    (hb5 : Below w5.heap.size w5 w5') (hg : w5'.grownBy w6 (some ub)) (g cap : Nat) (u' : SUnit) (us : List SUnit) (hus : us = p.units ++ [u'])
    (ho : w6.ownsRow 0 95 7 (.slice (some ⟨g, 0, none⟩) us.length cap) us.length (us.flatMap unitCells)) (hat : ub = g ∨ w5.heap.size ≤ g) :
    Turn w Y (w6.setCell ⟨pb, n * 4 + 1, none⟩ (.slice (some ⟨g, 0, none⟩) us.length cap)) (Y2.setQ n ({ p with units := us }, { v with u := .slice (some ⟨g, 0, none⟩) us.length cap })) := by
  obtain ⟨hn, e⟩ := at_some hq
  have hr := h.rep
  have sp := sep_of hr.sep
  have hmem : Y2.pls[n] ∈ Y2.pls := List.getElem_mem hn
  have hub : ub ∈ pvFoot Y2.pls[n] := by rw [e]; simp [pvFoot, hv, blk_slice]
  have hubf : ub ∈ Y2.foot := foot_e hmem hub
  have hpb : pb ∈ blk Y2.vPl := by simp [hvp, blk_slice]
  have hpbf : pb ∈ Y2.foot := foot_p hpb
  have hne : ub ≠ pb := fun h => sp.pe pb hpb _ hmem (h ▸ hub)
  have far : ∀ r, r < w5.heap.size → r ≠ ub → r ≠ pb → (w6.setCell ⟨pb, n * 4 + 1, none⟩ (.slice (some ⟨g, 0, none⟩) us.length cap)).heap[r]? = w5.heap[r]? := by
    intro r hr1 hr2 hr3
    rw [setCell_far w6 pb _ _ r hr3, hg.block r (Nat.lt_of_lt_of_le hr1 hb5.size) (by simpa using hr2), hb5.block r hr1]
  have lt := hr.lt
  have hgpb : g ≠ pb := by
    rcases hat with h | h
    · rw [← h]; exact hne
    · have := lt pb hpbf; omega
  refine ⟨⟨?_, ?_, ?_, ?_, ?_, ?_⟩, ?_, ?_, h.b⟩
  · show (w6.setCell _ _).heap[Y2.b]? = _
    rw [far Y2.b (lt _ foot_b) (fun h => sp.be _ hmem (h ▸ hub)) (fun h => sp.bp (h ▸ hpb)), hr.top]; rfl
  · exact own_same hr.ore (fun r hr' => far r (lt _ (foot_o hr')) (fun h => sp.oe r hr' _ hmem (h ▸ hub)) (fun h => sp.op r hr' (h ▸ hpb)))
  · show (w6.setCell _ _).ownsRow 0 _ 4 Y2.vPl (Y2.pls.set n _).length ((Y2.pls.set n _).flatMap plCells)
    rw [List.length_set, ← flat_set plCells 4 (fun _ => rfl) Y2.pls n 1 _ (.slice (some ⟨g, 0, none⟩) us.length cap) hn (by omega) (by rw [e]; rfl), hvp]
    have o := hr.pl
    rw [hvp] at o
    refine own_set (own_same o (fun r hr' => ?_)) (n * 4 + 1) _ (by omega)
    have : r = pb := by simpa [blk_slice] using hr'
    subst this
    rw [hg.block r (Nat.lt_of_lt_of_le (lt _ hpbf) hb5.size) (by simpa using Ne.symm hne), hb5.block r (lt _ hpbf)]
  · exact own_same hr.lots (fun r hr' => far r (lt _ (foot_l hr')) (fun h => sp.le r hr' _ hmem (h ▸ hub)) (fun h => sp.pl pb hpb (h ▸ hr')))
  · intro q hqm
    obtain ⟨j, hj, rfl⟩ := List.mem_iff_getElem.1 hqm
    simp only [YW.setQ, List.length_set] at hj
    simp only [YW.setQ, List.getElem_set]
    split
    · have nd := sp.e1 n hn
      have old := hr.each _ hmem
      rw [e] at nd old
      simp only [pvFoot, hv, blk_slice, List.singleton_append, List.nodup_cons, List.mem_append, not_or] at nd
      have inf : ∀ r, r ∈ pvFoot (p, v) → r ∈ Y2.foot := fun r hr' => foot_e hmem (by rw [e]; exact hr')
      have npb : ∀ r, r ∈ pvFoot (p, v) → r ≠ pb := fun r hr' h => sp.pe pb hpb _ hmem (by rw [e]; exact h ▸ hr')
      refine ⟨?_, ?_, ?_⟩
      · refine own_same ho (fun r hr' => setCell_far w6 pb _ _ r ?_)
        have : r = g := by simpa [blk_slice] using hr'
        rw [this]; exact hgpb
      · exact own_same old.bids (fun r hr' => far r (lt _ (inf r (by simp [pvFoot]; exact .inr (.inl hr')))) (fun h => nd.1.1 (h ▸ hr')) (npb r (by simp [pvFoot]; exact .inr (.inl hr'))))
      · exact own_same old.news (fun r hr' => far r (lt _ (inf r (by simp [pvFoot]; exact .inr (.inr hr')))) (fun h => nd.1.2 (h ▸ hr')) (npb r (by simp [pvFoot]; exact .inr (.inr hr'))))
    · rename_i hnj
      exact (hr.each _ (List.getElem_mem hj)).same (fun r hr' => far r (lt _ (foot_e (List.getElem_mem hj) hr')) (fun h => sp.ee n j hn hj hnj ub hub (h ▸ hr')) (fun h => sp.pe pb hpb _ (List.getElem_mem hj) (h ▸ hr')))
  · rw [foot_sub hr.sep hq hv]
    refine nodup_map_on _ hr.sep (fun x hx y hy hxy => ?_)
    unfold subB at hxy
    have lx := lt x hx
    have ly := lt y hy
    split at hxy <;> split at hxy
    · omega
    · rcases hat with h | h <;> omega
    · rcases hat with h | h <;> omega
    · exact hxy
  · refine h.kept.trans (F1 := Y2.foot) ⟨?_, ?_, ?_, ?_, ?_⟩ h.ext
    · exact hg.os.trans hb5.os
    · exact hg.tape.trans hb5.tape
    · exact hg.output.trans hb5.output
    · have := hb5.size; have := hg.size; simp [World.setCell]; omega
    · intro k hk hkn
      exact far k hk (fun h => hkn (h ▸ hubf)) (fun h => hkn (h ▸ hpbf))
  · intro r hr'
    rw [foot_sub hr.sep hq hv] at hr'
    obtain ⟨x, hx, rfl⟩ := List.mem_map.1 hr'
    unfold subB
    split
    · rename_i hx'
      rcases hat with h' | h'
      · rw [← h']; exact h.ext ub hubf
      · exact .inr (Nat.le_trans h.kept.size h')
    · exact h.ext x hx

theorem rowAfter {w : World} {Y : YW} (h : RepY w Y) {n : Nat} {p : SPlayer} {v : PV} (hq : Y.pls[n]? = some (p, v)) (wx : World) (o : Obj) (hx : wx.heap = w.heap.push o) : wx.ownsRow 0 95 7 v.u p.units.length (p.units.flatMap unitCells) := by
  have hb : Below w.heap.size w (w.alloc o) := (Below.refl _ _).alloc (Nat.le_refl _) _
  exact (((h.below hb).heapEq (w' := wx) hx).eachAt hq).units
theorem addKeep {w5 wx w6 : World} {pb ub : Nat} (hb : Below w5.heap.size w5 wx) (hg : wx.grownBy w6 (some ub)) (hp : pb < w5.heap.size) (hne : pb ≠ ub) (j : Nat) : w6.cell? ⟨pb, j, none⟩ = w5.cell? ⟨pb, j, none⟩ ∧ w6.frozen? ⟨pb, j, none⟩ = w5.frozen? ⟨pb, j, none⟩ := by
  have e : w6.heap[pb]? = w5.heap[pb]? := by rw [hg.block pb (Nat.lt_of_lt_of_le hp hb.size) (by simpa using hne), hb.block pb hp]
  exact ⟨World.cell?_of_block (w := w5) (a := ⟨pb, j, none⟩) e, World.frozen?_of_block (w := w5) (a := ⟨pb, j, none⟩) e⟩
theorem buildEnd {w w5 wx w6 : World} {Y Y1 : YW} {n k L pb pcap ub a c g cap : Nat} {p : SPlayer} {v : PV} {q : SPlayer × PV} (us0 : List SUnit) (u' : SUnit) (hL : us0.length = L) (T6 : Turn w Y w5 (Y1.setQ n ({ p with money := p.money - 50, units := us0 }, v))) (hq1 : Y1.pls[n]? = some q)
    (hvp2 : (Y1.setQ n ({ p with money := p.money - 50, units := us0 }, v)).vPl = .slice (some ⟨pb, 0, none⟩) (Y1.setQ n ({ p with money := p.money - 50, units := us0 }, v)).pls.length pcap) (hvu : v.u = .slice (some ⟨ub, 0, none⟩) a c)
    (hb : Below w5.heap.size w5 wx) (hgrow : wx.grownBy w6 (some ub)) (hown : w6.ownsRow 0 95 7 (.slice (some ⟨g, 0, none⟩) (L + 1) cap) (L + 1) (us0.flatMap unitCells ++ unitCells u')) (hat : some ub = some g ∨ g = w5.heap.size + 1)
    (hF : doesS Y.S n k = Y1.S.setPl n { p with money := p.money - 50, units := us0 ++ [u'] }) :
    ∃ Y', Turn w Y (w6.setCell ⟨pb, n * 4 + 1, none⟩ (.slice (some ⟨g, 0, none⟩) (L + 1) cap)) Y' ∧ Y'.S = doesS Y.S n k := by
  have hl : (us0 ++ [u']).length = L + 1 := by simp [hL]
  have ho : w6.ownsRow 0 95 7 (.slice (some ⟨g, 0, none⟩) (us0 ++ [u']).length cap) (us0 ++ [u']).length ((us0 ++ [u']).flatMap unitCells) := by
    rw [hl, List.flatMap_append]
    simpa using hown
  have T7 := T6.addUnit (setQ_at hq1) hvp2 hvu hb hgrow g cap u' (us0 ++ [u']) rfl ho (by rcases hat with h | h; exact .inl (by injection h); exact .inr (by omega))
  rw [hl, setQ_setQ] at T7
  exact ⟨_, T7, by rw [S_setQ]; exact hF.symm⟩
end Go.Proofs.Ytdpmadoccimgcaa

/-
  What holds of the document's world's numbers holds still behind what a unit does.
-/
namespace Go.Proofs.Ytdpmadoccimgcaa
open Go.RowKit

structure UnOK (w h : Int) (u : SUnit) : Prop where
  x : 0 ≤ u.x ∧ u.x < w
  y : 0 ≤ u.y ∧ u.y < h
  head : 0 ≤ u.head ∧ u.head ≤ 3
  cargo : 0 ≤ u.cargo ∧ u.cargo ≤ 9
structure PlOK (w h M : Int) (p : SPlayer) : Prop where
  un : 1 ≤ p.units.length ∧ p.units.length ≤ 5
  each : ∀ u ∈ p.units, UnOK w h u
  mo : 0 ≤ p.money ∧ p.money ≤ M
  bi : (∀ b ∈ p.bids, 0 ≤ b.n ∧ b.n ≤ 100000) ∧ p.bids.length ≤ 1000
structure WFS (s : SWorld) (M : Int) : Prop where
  pl : 2 ≤ s.players.length ∧ s.players.length ≤ 4
  wd : 3 ≤ s.width ∧ s.width ≤ 10
  ht : 3 ≤ s.height ∧ s.height ≤ 10
  orn : s.ore.length ≤ 6
  ora : ∀ x ∈ s.ore, 0 ≤ x.amount ∧ x.amount ≤ 99
  each : ∀ p ∈ s.players, PlOK s.width s.height M p

theorem WF.of {Y : YW} {M : Int} (h : WFS Y.S M) : WF Y M := by
  have e : ∀ p ∈ Y.pls, PlOK Y.width Y.height M p.1 := fun p hp => h.each p.1 (List.mem_map_of_mem hp)
  exact ⟨by simpa [YW.S] using h.pl, fun p hp => (e p hp).un, h.wd, h.ht, h.orn, h.ora, fun p hp u hu => ⟨((e p hp).each u hu).x.1, ((e p hp).each u hu).x.2, ((e p hp).each u hu).y.1, ((e p hp).each u hu).y.2⟩,
    fun p hp u hu => ((e p hp).each u hu).head, fun p hp u hu => ((e p hp).each u hu).cargo, fun p hp => (e p hp).mo, fun p hp => (e p hp).bi⟩
theorem PlOK.mono {w h M M' : Int} {p : SPlayer} (k : PlOK w h M p) (hM : M ≤ M') : PlOK w h M' p := ⟨k.un, k.each, ⟨k.mo.1, by have := k.mo.2; omega⟩, k.bi⟩
theorem WFS.mono {s : SWorld} {M M' : Int} (h : WFS s M) (hM : M ≤ M') : WFS s M' := ⟨h.pl, h.wd, h.ht, h.orn, h.ora, fun p hp => (h.each p hp).mono hM⟩
theorem WFS.setPl {s : SWorld} {M : Int} (h : WFS s M) (n : Nat) {p : SPlayer} (hp : PlOK s.width s.height M p) : WFS (s.setPl n p) M := by
  refine ⟨by simpa [SWorld.setPl] using h.pl, h.wd, h.ht, h.orn, h.ora, fun q hq => ?_⟩
  rcases List.mem_or_eq_of_mem_set hq with h1 | h1
  · exact h.each q h1
  · rw [h1]; exact hp
theorem PlOK.setU {w h M : Int} {p : SPlayer} (k : PlOK w h M p) (i : Nat) {u : SUnit} (hu : UnOK w h u) : PlOK w h M { p with units := p.units.set i u } := by
  refine ⟨by simpa using k.un, fun v hv => ?_, k.mo, k.bi⟩
  rcases List.mem_or_eq_of_mem_set hv with h1 | h1
  · exact k.each v h1
  · rw [h1]; exact hu
theorem free_in {s : SWorld} {x y : Int} (h : freeS s x y = true) : (0 ≤ x ∧ x < s.width) ∧ (0 ≤ y ∧ y < s.height) := by
  simp [freeS, inB] at h
  omega
theorem digL_ok {l : List SSpot} {x y : Int} (h : ∀ s ∈ l, 0 ≤ s.amount ∧ s.amount ≤ 99) : ∀ s ∈ digL x y l, 0 ≤ s.amount ∧ s.amount ≤ 99 := by
  induction l with
  | nil => intro s hs; simp [digL] at hs
  | cons a l ih =>
    intro s hs
    simp only [digL] at hs
    split at hs
    · rename_i hh
      simp [hitB] at hh
      have ha := h a (by simp)
      rcases List.mem_cons.1 hs with rfl | hs
      · simp only; omega
      · exact h s (by simp [hs])
    · rcases List.mem_cons.1 hs with rfl | hs
      · exact h s (by simp)
      · exact ih (fun t ht => h t (by simp [ht])) s hs
theorem digL_length {l : List SSpot} {x y : Int} : (digL x y l).length = l.length := by
  induction l with
  | nil => rfl
  | cons a l ih => simp only [digL]; split <;> simp [ih]

theorem WFS.act {s : SWorld} {M : Int} (h : WFS s M) (n k : Nat) {p : SPlayer} {u : SUnit} (hp : PlOK s.width s.height M p) (hu : UnOK s.width s.height u) (what arg : ByteArray) : WFS (actS s n k p u what arg) (M + 90) := by
  have hb : WFS s (M + 90) := h.mono (by omega)
  have hp' : PlOK s.width s.height (M + 90) p := hp.mono (by omega)
  have hh := hu.head
  unfold actS
  simp only
  split
  · split
    · rename_i hf
      have := free_in hf
      exact hb.setPl n (hp'.setU k ⟨this.1, this.2, hu.head, hu.cargo⟩)
    · exact hb
  split
  · exact hb.setPl n (hp'.setU k ⟨hu.x, hu.y, ⟨by simp only; omega, by simp only; omega⟩, hu.cargo⟩)
  split
  · exact hb.setPl n (hp'.setU k ⟨hu.x, hu.y, ⟨by simp only; omega, by simp only; omega⟩, hu.cargo⟩)
  split
  · exact hb.setPl n (hp'.setU k ⟨hu.x, hu.y, ⟨by simp only; omega, by simp only; omega⟩, hu.cargo⟩)
  split
  · split
    · split
      · rename_i hc _
        have w1 := hb.setPl n (hp'.setU k (u := { u with cargo := u.cargo + 1 }) ⟨hu.x, hu.y, hu.head, ⟨by have := hu.cargo; simp only; omega, by simp only; omega⟩⟩)
        exact ⟨w1.pl, w1.wd, w1.ht, by simp only [digL_length]; exact h.orn, digL_ok h.ora, w1.each⟩
      · exact hb
    · exact hb
  split
  · have := hp.mo
    have hc := hu.cargo
    have q := hp'.setU k (u := { u with cargo := 0 }) ⟨hu.x, hu.y, hu.head, ⟨by simp, by simp⟩⟩
    exact hb.setPl n ⟨q.un, q.each, ⟨by simp only; omega, by simp only; omega⟩, q.bi⟩
  split
  · split
    · exact hb.setPl n (hp'.setU k ⟨hu.x, hu.y, hu.head, hu.cargo⟩)
    · exact hb
  split
  · split
    · rename_i hc
      obtain ⟨_, h2, h3, h4⟩ := hc
      have hf := free_in h4
      have hs := stakedI_bd p.bids emptyB hp.bi.1
      have hm := hp.mo
      refine hb.setPl n ⟨by simp; omega, fun v hv => ?_, ⟨by simp only; omega, by simp only; omega⟩, hp.bi⟩
      rcases List.mem_append.1 hv with h5 | h5
      · exact hp.each v h5
      · simp at h5
        rw [h5]
        exact ⟨hf.1, hf.2, hu.head, ⟨by simp, by simp⟩⟩
    · exact hb
  · exact hb

theorem WFS.does {s : SWorld} {M : Int} (h : WFS s M) (n k : Nat) : WFS (doesS s n k) (M + 90) := by
  unfold doesS
  split
  · exact h.mono (by omega)
  · rename_i p hp
    split
    · exact h.mono (by omega)
    · rename_i u hu
      have hpm : p ∈ s.players := List.mem_of_getElem? hp
      have hum : u ∈ p.units := List.mem_of_getElem? hu
      have pk := h.each p hpm
      have uk := pk.each u hum
      have u0 : UnOK s.width s.height { u with what := emptyB, arg := emptyB } := ⟨uk.x, uk.y, uk.head, uk.cargo⟩
      exact (h.setPl n (pk.setU k u0)).act n k (pk.setU k u0) u0 _ _

end Go.Proofs.Ytdpmadoccimgcaa

/-
  What a Tick comes to, said plainly; what is told of lots taken away, in memory.
-/
namespace Go.Proofs.Ytdpmadoccimgcaa
open Go.RowKit

theorem flat_sub {α : Type} (f : α → List Nat) (l : List α) (n : Nat) (q : α) (hn : n < l.length) (h : (f q).Sublist (f l[n])) : ((l.set n q).flatMap f).Sublist (l.flatMap f) := by
  induction l generalizing n with
  | nil => simp at hn
  | cons a l ih =>
    cases n with
    | zero => simp only [List.set_cons_zero, List.flatMap_cons]; exact List.Sublist.append (by simpa using h) (List.Sublist.refl _)
    | succ n => simp only [List.set_cons_succ, List.flatMap_cons]; exact List.Sublist.append (List.Sublist.refl _) (ih n (by simpa using hn) (by simpa using h))

/-- A player's news taken away. -/
theorem Turn.clearNews {w w1 : World} {Y Y1 : YW} (h : Turn w Y w1 Y1) {n : Nat} {p : SPlayer} {v : PV} (hq : Y1.pls[n]? = some (p, v)) {pb cap : Nat} (hv : Y1.vPl = .slice (some ⟨pb, 0, none⟩) Y1.pls.length cap) :
    Turn w Y (w1.setCell ⟨pb, n * 4 + 3, none⟩ (.slice none 0 0)) (Y1.setQ n ({ p with news := [] }, { v with n := .slice none 0 0 })) := by
  obtain ⟨hn, e⟩ := at_some hq
  have hr := h.rep
  have sp := sep_of hr.sep
  have hmem : Y1.pls[n] ∈ Y1.pls := List.getElem_mem hn
  have hpb : pb ∈ blk Y1.vPl := by simp [hv, blk_slice]
  have far : ∀ r, r ≠ pb → (w1.setCell ⟨pb, n * 4 + 3, none⟩ (.slice none 0 0)).heap[r]? = w1.heap[r]? := fun r hr => setCell_far w1 pb _ _ r hr
  have hsub : (pvFoot ({ p with news := [] }, { v with n := .slice none 0 0 })).Sublist (pvFoot Y1.pls[n]) := by
    rw [e]
    simp only [pvFoot]
    refine List.Sublist.append (List.Sublist.refl _) ?_
    have : blk (.slice none 0 0) = [] := rfl
    rw [this, List.append_nil]
    exact List.sublist_append_left _ _
  have hfs : (Y1.setQ n ({ p with news := [] }, { v with n := .slice none 0 0 })).foot.Sublist Y1.foot := by
    simp only [YW.foot, YW.setQ]
    exact List.Sublist.cons_cons _ (List.Sublist.append (List.Sublist.refl _) (List.Sublist.append (List.Sublist.refl _) (List.Sublist.append (List.Sublist.refl _) (flat_sub pvFoot Y1.pls n _ hn hsub))))
  refine ⟨⟨?_, ?_, ?_, ?_, ?_, hr.sep.sublist hfs⟩, h.kept.setCell _ _ _ (h.ext pb (foot_p hpb)), fun r hr' => h.ext r (hfs.subset hr'), h.b⟩
  · show (w1.setCell _ _).heap[Y1.b]? = _
    rw [far Y1.b (fun e => sp.bp (e ▸ hpb)), hr.top]; rfl
  · exact own_same hr.ore (fun r hr' => far r (fun e => sp.op r hr' (e ▸ hpb)))
  · show (w1.setCell _ _).ownsRow 0 _ 4 Y1.vPl (Y1.pls.set n _).length ((Y1.pls.set n _).flatMap plCells)
    rw [List.length_set, ← flat_set plCells 4 (fun _ => rfl) Y1.pls n 3 _ (.slice none 0 0) hn (by omega) (by rw [e]; rfl), hv]
    exact own_set (hv ▸ hr.pl) (n * 4 + 3) _ (by omega)
  · exact own_same hr.lots (fun r hr' => far r (fun e => sp.pl pb hpb (e ▸ hr')))
  · intro q hqm
    obtain ⟨j, hj, rfl⟩ := List.mem_iff_getElem.1 hqm
    simp only [YW.setQ, List.length_set] at hj
    simp only [YW.setQ, List.getElem_set]
    have hj' := (hr.each _ (List.getElem_mem hj)).same (w' := w1.setCell ⟨pb, n * 4 + 3, none⟩ (.slice none 0 0)) (fun r hr' => far r (fun e => sp.pe pb hpb _ (List.getElem_mem hj) (e ▸ hr')))
    split
    · rename_i hnj
      subst hnj
      rw [e] at hj'
      exact ⟨hj'.units, hj'.bids, ⟨rfl, .inl ⟨rfl, rfl⟩⟩⟩
    · exact hj'

def YW.noLots (y : YW) : YW := { y with lots := [], vLots := .slice none 0 0 }
/-- The lots taken away. -/
theorem Turn.clearLots {w w1 : World} {Y Y1 : YW} (h : Turn w Y w1 Y1) : Turn w Y (w1.setCell ⟨Y1.b, 6, none⟩ (.slice none 0 0)) Y1.noLots := by
  have hr := h.rep
  have sp := sep_of hr.sep
  have far : ∀ r, r ≠ Y1.b → (w1.setCell ⟨Y1.b, 6, none⟩ (.slice none 0 0)).heap[r]? = w1.heap[r]? := fun r hr => setCell_far w1 Y1.b _ _ r hr
  have hfs : Y1.noLots.foot.Sublist Y1.foot := by
    simp only [YW.foot, YW.noLots]
    have : blk (.slice none 0 0) = [] := rfl
    rw [this, List.nil_append]
    exact List.Sublist.cons_cons _ (List.Sublist.append (List.Sublist.refl _) (List.Sublist.append (List.Sublist.refl _) (List.sublist_append_right _ _)))
  refine ⟨⟨?_, own_same hr.ore (fun r hr' => far r (fun e => sp.bo (e ▸ hr'))), own_same hr.pl (fun r hr' => far r (fun e => sp.bp (e ▸ hr'))), ⟨rfl, .inl ⟨rfl, rfl⟩⟩, fun p hp => (hr.each p hp).same (fun r hr' => far r (fun e => sp.be p hp (e ▸ hr'))), hr.sep.sublist hfs⟩, h.kept.setCell _ _ _ (h.ext _ foot_b), fun r hr' => h.ext r (hfs.subset hr'), h.b⟩
  show (w1.setCell _ _).heap[Y1.b]? = _
  simp only [World.setCell, Array.getElem?_modify, hr.top]
  simp [YW.cells, YW.noLots]
theorem Turn.now1 {w w1 : World} {Y Y1 : YW} (h : Turn w Y w1 Y1) (m : Int) : Turn w Y (w1.setCell ⟨Y1.b, 3, none⟩ (.int .i64 m)) (Y1.withNow m) :=
  ⟨h.rep.setNow m, h.kept.setCell _ _ _ (h.ext _ foot_b), fun r hr' => h.ext r hr', h.b⟩

def clearN (s : SWorld) (n : Nat) : SWorld := match s.players[n]? with
  | none => s
  | some p => s.setPl n { p with news := [] }
/-- What the first j units of the n-th player do. -/
def unitsTo (s : SWorld) (n : Nat) : Nat → SWorld
  | 0 => s
  | j + 1 => doesS (unitsTo s n j) n j
def unitsN (s : SWorld) (n : Nat) : Nat := match s.players[n]? with
  | none => 0
  | some p => p.units.length
def playerS (s : SWorld) (n : Nat) : SWorld := unitsTo (clearN s n) n (unitsN (clearN s n) n)
/-- What the first n players' units do. -/
def tickTo (s : SWorld) : Nat → SWorld
  | 0 => s
  | n + 1 => playerS (tickTo s n) n
/-- The world behind a Tick, where no lot is open. -/
def tickS (s : SWorld) : SWorld := { tickTo s s.players.length with now := s.now + 1, lots := [] }

theorem act_len (s : SWorld) (n k : Nat) (p : SPlayer) (u : SUnit) (what arg : ByteArray) : (actS s n k p u what arg).players.length = s.players.length ∧ (actS s n k p u what arg).now = s.now ∧ (actS s n k p u what arg).lots = s.lots := by
  unfold actS
  simp only
  repeat' split
  all_goals simp [SWorld.setPl]
theorem does_len (s : SWorld) (n k : Nat) : (doesS s n k).players.length = s.players.length ∧ (doesS s n k).now = s.now ∧ (doesS s n k).lots = s.lots := by
  unfold doesS
  split
  · exact ⟨rfl, rfl, rfl⟩
  · split
    · exact ⟨rfl, rfl, rfl⟩
    · refine ⟨(act_len _ _ _ _ _ _ _).1.trans (by simp [SWorld.setPl]), (act_len _ _ _ _ _ _ _).2.1, (act_len _ _ _ _ _ _ _).2.2⟩
theorem act_units (s : SWorld) (n k : Nat) (p : SPlayer) (u : SUnit) (what arg : ByteArray) (hp : s.players[n]? = some p) : p.units.length ≤ unitsN (actS s n k p u what arg) n := by
  obtain ⟨hn, he⟩ := at_some hp
  unfold actS
  simp only
  repeat' split
  all_goals simp [SWorld.setPl, unitsN, hn, he]
theorem does_units (s : SWorld) (n k : Nat) : unitsN s n ≤ unitsN (doesS s n k) n := by
  unfold doesS
  split
  · exact Nat.le_refl _
  · rename_i p hp
    obtain ⟨hn, _⟩ := at_some hp
    split
    · exact Nat.le_refl _
    · refine Nat.le_trans ?_ (act_units _ _ _ _ _ _ _ (by simp [SWorld.setPl, hn]))
      simp [unitsN, hp]
theorem unitsTo_len (s : SWorld) (n j : Nat) : (unitsTo s n j).players.length = s.players.length ∧ (unitsTo s n j).now = s.now ∧ (unitsTo s n j).lots = s.lots ∧ unitsN s n ≤ unitsN (unitsTo s n j) n := by
  induction j with
  | zero => exact ⟨rfl, rfl, rfl, Nat.le_refl _⟩
  | succ j ih =>
    have := does_len (unitsTo s n j) n j
    exact ⟨this.1.trans ih.1, this.2.1.trans ih.2.1, this.2.2.trans ih.2.2.1, Nat.le_trans ih.2.2.2 (does_units _ _ _)⟩
theorem clearN_len (s : SWorld) (n : Nat) : (clearN s n).players.length = s.players.length ∧ (clearN s n).now = s.now ∧ (clearN s n).lots = s.lots := by
  unfold clearN
  split
  · exact ⟨rfl, rfl, rfl⟩
  · simp [SWorld.setPl]
theorem tickTo_len (s : SWorld) (n : Nat) : (tickTo s n).players.length = s.players.length ∧ (tickTo s n).now = s.now ∧ (tickTo s n).lots = s.lots := by
  induction n with
  | zero => exact ⟨rfl, rfl, rfl⟩
  | succ n ih =>
    have h1 := unitsTo_len (clearN (tickTo s n) n) n (unitsN (clearN (tickTo s n) n) n)
    have h2 := clearN_len (tickTo s n) n
    exact ⟨h1.1.trans (h2.1.trans ih.1), h1.2.1.trans (h2.2.1.trans ih.2.1), h1.2.2.1.trans (h2.2.2.trans ih.2.2)⟩
theorem WFS.clearN {s : SWorld} {M : Int} (h : WFS s M) (n : Nat) : WFS (clearN s n) M := by
  unfold Proofs.Ytdpmadoccimgcaa.clearN
  split
  · exact h
  · rename_i p hp
    have pk := h.each p (List.mem_of_getElem? hp)
    exact h.setPl n ⟨pk.un, pk.each, pk.mo, pk.bi⟩
theorem WFS.unitsTo {s : SWorld} {M : Int} (h : WFS s M) (n j : Nat) : WFS (unitsTo s n j) (M + 90 * j) := by
  induction j with
  | zero => exact h.mono (by simp)
  | succ j ih => exact (ih.does n j).mono (by omega)
theorem WFS.unitsN {s : SWorld} {M : Int} (h : WFS s M) (n : Nat) : unitsN s n ≤ 5 := by
  unfold Proofs.Ytdpmadoccimgcaa.unitsN
  split
  · omega
  · rename_i p hp
    exact (h.each p (List.mem_of_getElem? hp)).un.2
theorem WFS.tickTo {s : SWorld} {M : Int} (h : WFS s M) (n : Nat) : WFS (tickTo s n) (M + 450 * n) := by
  induction n with
  | zero => exact h.mono (by simp)
  | succ n ih =>
    have h1 := ih.clearN n
    have h2 := h1.unitsN n
    exact (h1.unitsTo n _).mono (by omega)

end Go.Proofs.Ytdpmadoccimgcaa
