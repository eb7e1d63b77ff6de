/-
  The function Insert of package slices, in the midst of a list of lots.
-/
import Derived.Test.YtlafddeoheambaaGreatDoorT48
import Derived.Lib.Overlaps
import Derived.Lib.AppendZerosOnto
import Derived.Laws.CopyRow
import Derived.Deep.RegionLaw
import Derived.Test.YtlafddeoheambaaGreatDoorT44
import Derived.Test.YtlafddeoheambaaGreatDoorT45
set_option linter.unusedVariables false
namespace Go.Proofs.YtlafddeoheambaaGreatDoor
open Go.RowKit

/-- copy of things of some cells each, between rows that are known. -/
theorem run_copy_n {P : Program} (w : World) (dT sT ty elem : TypeId) (g o dLen dCap : Nat) (a : Addr) (sLen sCap sz : Nat) (cur : Array Value) (t : TypeId) (cs : List Value)
    (hu : P.underlying dT = some (.slice elem)) (hs : (P.info? elem).map (·.size) = some sz) (hg : w.heap[g]? = some (.cells cur t (0, 0))) (hn : cs.length = Nat.min sLen dLen * sz)
    (hsrc : ∀ j v, cs[j]? = some v → w.cell? (a.add j) = some v) (hfit : o + cs.length ≤ cur.size) (h1 : ∀ v ∈ cs, v.oneCell' = true) :
    (Builtin.copy_ #[dT, sT] ty #[.slice (some ⟨g, o, none⟩) dLen dCap, .slice (some a) sLen sCap]).run P w = .ok (goInt (Nat.min sLen dLen)) (w.setRow g (cur.toList.take o ++ cs ++ cur.toList.drop (o + cs.length)).toArray) := by
  have hl := run_loadCells_list (P := P) w a cs hsrc
  have hst := run_storeCells_at P g o t cs 0 cur w hg (by simpa using hfit) h1
  rw [hn] at hl
  cases hq : P.info? elem with
  | none => simp [hq] at hs
  | some i =>
    have hi : i.size = sz := by simpa [hq] using hs
    simp [Builtin.copy_, run_underlying hu, Builtin.lenOf, Builtin.firstCells, sizeOf, typeInfo, hq, hi, hl, hst]
theorem wpList_copied {P : Program} (w : World) {ops : Array Oper} {rest : List Oper} {o : Oper} {a : Act} {Q : Exit → Act → World → Prop} (hgd : o.guard = none) (d s : Operand) (t t' : TypeId)
    (ho : o.op = .call { callee := .builtin .copy, args := #[d, s], argTypes := #[t, t'] }) (v u : Value) (hd : a.eval d = v) (hs : a.eval s = u) {v' : Value} {w' : World}
    (hr : (Builtin.copy_ #[t, t'] o.type #[v, u]).run P w = .ok v' w') (h : wpList P ops Q rest (a.put o.dst v') w') : wpList P ops Q (o :: rest) a w := by
  refine wpList_plain hgd fun K hK => ?_
  unfold Oper.wp
  simp [execOp, ho, resolve, invoke, builtin, hd, hs, hr, Result.andThen]
  exact hK _ _ h
theorem step_copied {P : Program} {ops : Array Oper} {o : Oper} {a : Act} {w : World} {K : Act → World → Prop} {Q : Exit → Act → World → Prop} {E : Prop}
    (hgd : o.guard = none) (d s : Operand) (t t' : TypeId) (ho : o.op = .call { callee := .builtin .copy, args := #[d, s], argTypes := #[t, t'] })
    (v u : Value) (hd : a.eval d = v) (hs : a.eval s = u) {v' : Value} {w' : World} (hr : (Builtin.copy_ #[t, t'] o.type #[v, u]).run P w = .ok v' w') (hK : K (a.put o.dst v') w') :
    if Region.wanted o (yielded ops a.tmps) = true then Oper.wp P o a w K Q else E := by
  have hw : Region.wanted o (yielded ops a.tmps) = true := by simp [Region.wanted, hgd]
  rw [if_pos hw]
  unfold Oper.wp
  simp [execOp, ho, resolve, invoke, builtin, hd, hs, hr, Result.andThen]
  exact hK
theorem Tryz.sizeLot : (Tryz.prog.info? 108).map (·.size) = some 7 := by
  obtain ⟨i0, hi0, h0, h1, h2⟩ := info_parts Tryz.infoLot
  rw [hi0]
  simp [h1]
theorem Tryz.runSizeLot (w : World) : (Go.sizeOf 108).run Tryz.prog w = .ok 7 w := by
  obtain ⟨i0, hi0, h0, h1, h2⟩ := info_parts Tryz.infoLot
  simp [Go.sizeOf, typeInfo, hi0, h1]
/-- The cells of a row with room, things moved up by one, and then one more laid. -/
def row1 (cur : List Value) (i n : Nat) : List Value := cur.take ((i + 1) * 7) ++ (cur.take (n * 7)).drop (i * 7) ++ cur.drop ((i + 1) * 7 + ((cur.take (n * 7)).drop (i * 7)).length)
def row2 (cur ys : List Value) (i n : Nat) : List Value := (row1 cur i n).take (i * 7) ++ ys ++ (row1 cur i n).drop (i * 7 + ys.length)

set_option maxRecDepth 100000 in
set_option maxHeartbeats 4000000 in
theorem insert_room (w : World) (g n cap i gn : Nat) (cur : Array Value) (ys : List Value) (hb : w.heap[g]? = some (.cells cur 108 (0, 0))) (hcs : cap * 7 ≤ cur.size) (hroom : n + 1 ≤ cap) (hcap : cap ≤ maxLen) (hi : i < n) (hn : n ≤ 4) (hy : ys.length = 7) (hgn : gn ≠ g)
    (hnew : w.heap[gn]? = some (.cells ys.toArray 108 (0, 0))) (h1c : ∀ v ∈ cur.toList.take (n * 7), v.oneCell' = true) (h1y : ∀ v ∈ ys, v.oneCell' = true) :
    Calls Tryz.prog 42 #[.slice (some ⟨g, 0, none⟩) n cap, .int .i64 i, .slice (some ⟨gn, 0, none⟩) 1 1] w fun e w' =>
      e = .returned (.slice (some ⟨g, 0, none⟩) (n + 1) cap) ∧ w' = (w.drew.setRow g (row1 cur.toList i n).toArray).setRow g (row2 cur.toList ys i n).toArray := by
  unfold maxLen at hcap
  have hov : ∀ lb cb o2, (callFunc 85 #[.slice (some ⟨gn, 0, none⟩) 1 1, .slice (some ⟨g, o2, none⟩) lb cb]).run Tryz.prog w = .ok (.value (.bool false)) w := fun lb cb o2 => by
    rw [run_callFunc_extern Tryz.func85 (by kernel_rfl) (by kernel_rfl) (by kernel_rfl) (e := Extern.SlicesOverlaps.overlaps #[81, 81] #[4]) (by kernel_rfl),
      Lib.run_overlaps_apart w 81 4 108 Tryz.underlying81 7 Tryz.runSizeLot ⟨gn, 0, none⟩ ⟨g, o2, none⟩ 1 1 lb cb hgn 108 108 7 cur.size (by simp [World.shape?, hnew, hy]) (by simp [World.shape?, hb]) (by omega) (by simp [World.frozen?, hnew]) (by simp [World.frozen?, hnew])]
    rfl
  have hz1 : ¬ ((i : Int) = (n : Int)) := by omega
  have hz2 : ((i : Int) == (n : Int)) = false := by simp; omega
  have hw1 : IntKind.i64.wrap ((i : Int) + 1) = (i : Int) + 1 := by rw [IntKind.wrap_i64]; omega
  have hw2 : IntKind.i64.wrap ((n : Int) + 1) = (n : Int) + 1 := by rw [IntKind.wrap_i64]; omega
  have ht1 : ((i : Int) + 1).toNat = i + 1 := by omega
  have ht2 : ((n : Int) + 1).toNat = n + 1 := by omega
  have hb3 : (i : Int) ≤ (n : Int) := by omega
  have hc1 : ¬ (cap = i + 1) := by omega
  have hp1 : (0 : Int) ≤ (i : Int) + 1 := by omega
  have hp3 : (i : Int) ≤ (n : Int) + 1 := by omega
  have hc2 : ¬ (cap = i) := by omega
  have hcl : cur.toList.length = cur.size := by simp
  have hxl : (cur.toList.take (n * 7)).length = n * 7 := by rw [List.length_take]; omega
  have hdl : ((cur.toList.take (n * 7)).drop (i * 7)).length = (n - i) * 7 := by rw [List.length_drop, hxl, Nat.sub_mul]
  have hcell : ∀ (W : World), W.heap[g]? = some (.cells cur 108 (0, 0)) → ∀ (j : Nat) v, ((cur.toList.take (n * 7)).drop (i * 7))[j]? = some v → W.cell? ⟨g, i * 7 + j, none⟩ = some v := fun W hW j v hj => by
    rw [List.getElem?_drop, List.getElem?_take] at hj
    split at hj
    · simp only [World.cell?, hW]
      simpa using hj
    · cases hj
  have hmin1 : Nat.min (n + 1 - i) (n - i) = n - i := by simp only [Nat.min_def]; split <;> omega
  have hmin2 : Nat.min 1 (n + 1 - i) = 1 := by simp only [Nat.min_def]; split <;> omega
  have hr1l : (row1 cur.toList i n).length = cur.size := by
    unfold row1
    simp only [List.length_append, List.length_take, List.length_drop, hcl]
    omega
  have HCp1 : Hid (∀ (W : World) ty dc sc, W.heap[g]? = some (.cells cur 108 (0, 0)) → (Builtin.copy_ #[81, 81] ty #[.slice (some ⟨g, (i + 1) * 7, none⟩) (n - i) dc, .slice (some ⟨g, i * 7, none⟩) (n + 1 - i) sc]).run Tryz.prog W = .ok (goInt (Nat.min (n + 1 - i) (n - i))) (W.setRow g (row1 cur.toList i n).toArray)) := fun W ty dc sc hW =>
    run_copy_n W _ _ ty 108 g ((i + 1) * 7) _ dc ⟨g, i * 7, none⟩ _ sc 7 cur 108 _ Tryz.underlying81 Tryz.sizeLot hW (by rw [hdl, hmin1]) (fun j v hj => by rw [Lib.add_plain]; exact hcell W hW j v hj) (by rw [hdl]; omega) (fun v hv => h1c v (List.mem_of_mem_drop hv))
  have HCp2 : Hid (∀ (W : World) ty dc, W.heap[g]? = some (.cells (row1 cur.toList i n).toArray 108 (0, 0)) → W.heap[gn]? = some (.cells ys.toArray 108 (0, 0)) → (Builtin.copy_ #[81, 81] ty #[.slice (some ⟨g, i * 7, none⟩) (n + 1 - i) dc, .slice (some ⟨gn, 0, none⟩) 1 1]).run Tryz.prog W = .ok (goInt (Nat.min 1 (n + 1 - i))) (W.setRow g (row2 cur.toList ys i n).toArray)) := fun W ty dc hW hV =>
    run_copy_n W _ _ ty 108 g (i * 7) _ dc ⟨gn, 0, none⟩ _ 1 7 (row1 cur.toList i n).toArray 108 ys Tryz.underlying81 Tryz.sizeLot hW (by rw [hy, hmin2]) (fun j v hj => by rw [Lib.add_plain, Nat.zero_add]; simp only [World.cell?, hV]; simpa using hj) (by rw [hy, List.size_toArray, hr1l]; omega) h1y
  have HB := hidOf hb
  have HV := hidOf hnew
  have HG := hidOf hgn
  obtain ⟨R1, hR1⟩ : ∃ R1, R1 = (row1 cur.toList i n).toArray := ⟨_, rfl⟩
  obtain ⟨R2, hR2⟩ : ∃ R2, R2 = (row2 cur.toList ys i n).toArray := ⟨_, rfl⟩
  rw [← hR1] at HCp1 HCp2 ⊢
  rw [← hR2] at HCp2 ⊢
  have HV1 : Hid ((w.drew.setRow g R1).heap[g]? = some (.cells R1 108 (0, 0))) := setRow_heap w.drew g cur R1 _ _ HB.out
  have HV2 : Hid ((w.drew.setRow g R1).heap[gn]? = some (.cells ys.toArray 108 (0, 0))) := (setRow_other w.drew g gn R1 HG.out).trans HV.out
  have HE1 : Hid (∀ (W : World) ty dc, W.heap = (w.drew.setRow g R1).heap → (Builtin.copy_ #[81, 81] ty #[.slice (some ⟨g, i * 7, none⟩) (n + 1 - i) dc, .slice (some ⟨gn, 0, none⟩) 1 1]).run Tryz.prog W = .ok (goInt (Nat.min 1 (n + 1 - i))) (W.setRow g R2)) := fun W ty dc hW => HCp2.out W ty dc (by rw [hW]; exact HV1.out) (by rw [hW]; exact HV2.out)
  clear hR1 hR2 hb hnew hgn hcell hr1l hdl hxl h1c h1y HV1 HV2
  go_enter Tryz.func42, Tryz.ntmps42
  go_wp2_with (simp only [hov])
  go_region_law (refine step_copied rfl _ _ 81 81 rfl (.slice (some ⟨g, (i + 1) * 7, none⟩) (n - i) (cap - (i + 1))) (.slice (some ⟨g, i * 7, none⟩) (n + 1 - i) (cap - i)) (by simp [Act.eval, Act.put]) (by simp [Act.eval, Act.put]) (HCp1.out _ _ _ _ (by exact HB.out)) ?_)
  all_goals
    have hcx := HE1.out (w.drew.setRow g R1) 3 (cap - i) rfl
    go_wp2_with (simp only [hcx])
    go_ret
    exact ⟨rfl, rfl⟩
theorem row2_is (cur ys : List Value) (i n : Nat) (hi : i < n) (hc : (n + 1) * 7 ≤ cur.length) (hy : ys.length = 7) : (row2 cur ys i n).length = cur.length ∧ (row2 cur ys i n).take ((n + 1) * 7) = (cur.take (n * 7)).take (i * 7) ++ ys ++ (cur.take (n * 7)).drop (i * 7) := by
  have hxl : (cur.take (n * 7)).length = n * 7 := by rw [List.length_take]; omega
  obtain ⟨D, hD⟩ : ∃ D, D = (cur.take (n * 7)).drop (i * 7) := ⟨_, rfl⟩
  have hDl : D.length = n * 7 - i * 7 := by rw [hD, List.length_drop, hxl]
  have e1 : row1 cur i n = cur.take ((i + 1) * 7) ++ (D ++ cur.drop ((i + 1) * 7 + D.length)) := by unfold row1; rw [← hD, List.append_assoc]
  have hl7 : (cur.take ((i + 1) * 7)).length = (i + 1) * 7 := by rw [List.length_take]; omega
  have e2 : (row1 cur i n).take (i * 7) = cur.take (i * 7) := by
    rw [e1, List.take_append_of_le_length (by omega), List.take_take, Nat.min_eq_left (by omega)]
  have e3 : (row1 cur i n).drop (i * 7 + ys.length) = D ++ cur.drop ((i + 1) * 7 + D.length) := by
    rw [e1]
    exact List.drop_left' (by omega)
  have e4 : (cur.take (n * 7)).take (i * 7) = cur.take (i * 7) := by rw [List.take_take, Nat.min_eq_left (by omega)]
  have e5 : row2 cur ys i n = (cur.take (i * 7) ++ ys ++ D) ++ cur.drop ((i + 1) * 7 + D.length) := by
    unfold row2
    rw [e2, e3]
    simp [List.append_assoc]
  rw [← hD, e4, e5]
  refine ⟨?_, List.take_left' ?_⟩
  · simp only [List.length_append, List.length_take, List.length_drop, hDl, hy]
    omega
  · simp only [List.length_append, List.length_take, hDl, hy]
    omega
/-- The row without room: a new one. -/
def rowA (R ys : List Value) (i : Nat) : List Value := R.take (i * 7) ++ ys ++ R.drop (i * 7 + ys.length)
def rowB (R ys D : List Value) (i : Nat) : List Value := (rowA R ys i).take ((i + 1) * 7) ++ D ++ (rowA R ys i).drop ((i + 1) * 7 + D.length)
theorem rowB_is (R ys X : List Value) (i n : Nat) (hi : i < n) (hR : (n + 1) * 7 ≤ R.length) (hy : ys.length = 7) (hX : X.length = n * 7) (hRX : R.take (i * 7) = X.take (i * 7)) : (rowA R ys i).length = R.length ∧ (rowB R ys (X.drop (i * 7)) i).length = R.length ∧ (rowB R ys (X.drop (i * 7)) i).take ((n + 1) * 7) = X.take (i * 7) ++ ys ++ X.drop (i * 7) := by
  have h1 : (rowA R ys i).length = R.length := by
    unfold rowA
    simp only [List.length_append, List.length_take, List.length_drop, hy]
    omega
  have hDl : (X.drop (i * 7)).length = n * 7 - i * 7 := by rw [List.length_drop, hX]
  have e1 : (rowA R ys i).take ((i + 1) * 7) = X.take (i * 7) ++ ys := by
    unfold rowA
    rw [hRX]
    exact List.take_left' (by simp only [List.length_append, List.length_take, hX, hy]; omega)
  have e2 : rowB R ys (X.drop (i * 7)) i = (X.take (i * 7) ++ ys ++ X.drop (i * 7)) ++ (rowA R ys i).drop ((i + 1) * 7 + (X.drop (i * 7)).length) := by
    unfold rowB
    rw [e1]
  refine ⟨h1, ?_, ?_⟩
  · rw [e2]
    simp only [List.length_append, List.length_take, List.length_drop, hX, hy, h1]
    omega
  · rw [e2]
    exact List.take_left' (by simp only [List.length_append, List.length_take, hX, hy, hDl]; omega)
set_option maxRecDepth 100000 in
set_option maxHeartbeats 4000000 in
theorem insert_grow (w : World) (g n i gn : Nat) (cur : Array Value) (ys : List Value) (hb : w.heap[g]? = some (.cells cur 108 (0, 0))) (hcs : n * 7 ≤ cur.size) (hi : i < n) (hn : n ≤ 4) (hy : ys.length = 7)
    (hnew : w.heap[gn]? = some (.cells ys.toArray 108 (0, 0))) (h1c : ∀ v ∈ cur.toList.take (n * 7), v.oneCell' = true) (h1y : ∀ v ∈ ys, v.oneCell' = true) :
    Calls Tryz.prog 42 #[.slice (some ⟨g, 0, none⟩) n n, .int .i64 i, .slice (some ⟨gn, 0, none⟩) 1 1] w fun e w' =>
      ∃ (G : Nat) (row : List Value), e = .returned (.slice (some ⟨w.heap.size, 0, none⟩) (n + 1) G) ∧ n + 1 ≤ G ∧ G ≤ maxLen ∧ w'.heap[w.heap.size]? = some (.cells row.toArray 108 (0, 0)) ∧ row.length = G * 7 ∧ row.take ((n + 1) * 7) = (cur.toList.take (n * 7)).take (i * 7) ++ ys ++ (cur.toList.take (n * 7)).drop (i * 7) ∧ Below w.heap.size w w' := by
  obtain ⟨i0, hi0, hz0, hzs, hzb⟩ := info_parts Tryz.infoLot
  obtain ⟨X, hX⟩ : ∃ X, X = cur.toList.take (n * 7) := ⟨_, rfl⟩
  rw [← hX] at h1c ⊢
  have hcl : cur.toList.length = cur.size := by simp
  have hXl : X.length = n * 7 := by rw [hX, List.length_take]; omega
  have hXc : ∀ (W : World), W.heap[g]? = some (.cells cur 108 (0, 0)) → ∀ (j : Nat) v, X[j]? = some v → W.cell? ⟨g, j, none⟩ = some v := fun W hW j v hj => by
    rw [hX, List.getElem?_take] at hj
    split at hj
    · simp only [World.cell?, hW]
      simpa using hj
    · cases hj
  have hgw : g < w.heap.size := lt_of_some hb
  have hvw : gn < w.heap.size := lt_of_some hnew
  have hik : i + (n + 1 - i) = n + 1 := by omega
  have hkk : (n : Int) + 1 - (i : Int) = ((n + 1 - i : Nat) : Int) := by omega
  have hold : (Builtin.firstCells i0.size i (.slice (some ⟨g, 0, none⟩) i n)).run Tryz.prog w.drew = .ok (X.take (i * 7)).toArray w.drew := by
    rw [hzs]
    exact run_firstCells_some w.drew 7 i ⟨g, 0, none⟩ i n (X.take (i * 7)) (by rw [List.length_take, hXl]; omega) (fun j v hj => by
      rw [Lib.add_plain, Nat.zero_add]
      rw [List.getElem?_take] at hj
      split at hj
      · exact hXc w.drew hb j v hj
      · cases hj)
  obtain ⟨Z, hZ⟩ : ∃ Z : Array Value, Z = (Value.agg #[.string ⟨#[]⟩, .int .i64 0, .int .i64 0, .int .i64 0, .int .i64 0, .int .i64 0, .int .i64 0]).cells := ⟨_, rfl⟩
  have hZl : Z.size = 7 := by rw [hZ]; rfl
  obtain ⟨G, hG⟩ : ∃ G, G = grownCap w (n + 1) n 108 := ⟨_, rfl⟩
  have hGn : n + 1 ≤ G := by rw [hG]; exact grownCap_ge w _ _ _
  have hGm : G ≤ maxLen := by rw [hG]; exact grownCap_le_maxLen w _ _ _ (by unfold maxLen; omega)
  obtain ⟨ROW, hROW⟩ : ∃ ROW : Array Value, ROW = (X.take (i * 7)).toArray ++ Builtin.zeroCells Z (n + 1 - i) ++ Builtin.zeroCells Z (G - (n + 1)) := ⟨_, rfl⟩
  have hrz : ∀ ty, (Builtin.append_ #[81, 3] ty #[.slice (some ⟨g, 0, none⟩) i n, .int .i64 ((n : Int) + 1 - (i : Int))]).run Tryz.prog w = .ok (.slice (some ⟨w.heap.size, 0, none⟩) (n + 1) G) (w.drew.alloc (.cells ROW 108)) := fun ty => by
    have h := Lib.run_append_grow_zeros w 81 3 ty 108 i0 _ .i64 .i64 Tryz.underlying81 Tryz.underlying3 hi0 hz0 (some ⟨g, 0, none⟩) i n (X.take (i * 7)) hold (n + 1 - i) (by omega) (by omega) (by omega) (by omega) (by rw [hzb]; omega) (by rw [hzb, hik]; exact growslice_fits (by omega) (by omega))
    rw [hik, ← hG, ← hZ, ← hROW] at h
    rw [hkk]
    exact h
  have hRl : ROW.toList.length = G * 7 := by
    rw [hROW]
    simp [Builtin.zeroCells, hZl, hXl]
    omega
  have hRX : ROW.toList.take (i * 7) = X.take (i * 7) := by
    rw [hROW]
    simp only [Array.toList_append, List.append_assoc]
    exact List.take_left' (by rw [List.length_take, hXl]; omega)
  obtain ⟨hA1, hB1, hB2⟩ := rowB_is ROW.toList ys X i n hi (by omega) hy hXl hRX
  have hmin1 : Nat.min 1 (n + 1 - i) = 1 := by simp only [Nat.min_def]; split <;> omega
  have hmin2 : Nat.min (n - i) (n - i) = n - i := by simp
  have hdl : (X.drop (i * 7)).length = (n - i) * 7 := by rw [List.length_drop, hXl, Nat.sub_mul]
  have HCpA : Hid (∀ (W : World) ty dc, W.heap[w.heap.size]? = some (.cells ROW 108 (0, 0)) → W.heap[gn]? = some (.cells ys.toArray 108 (0, 0)) → (Builtin.copy_ #[81, 81] ty #[.slice (some ⟨w.heap.size, i * 7, none⟩) (n + 1 - i) dc, .slice (some ⟨gn, 0, none⟩) 1 1]).run Tryz.prog W = .ok (goInt (Nat.min 1 (n + 1 - i))) (W.setRow w.heap.size (rowA ROW.toList ys i).toArray)) := fun W ty dc hW hV =>
    run_copy_n W _ _ ty 108 w.heap.size (i * 7) _ dc ⟨gn, 0, none⟩ _ 1 7 ROW 108 ys Tryz.underlying81 Tryz.sizeLot hW (by rw [hy, hmin1]) (fun j v hj => by rw [Lib.add_plain, Nat.zero_add]; simp only [World.cell?, hV]; simpa using hj) (by rw [hy, ← Array.length_toList, hRl]; omega) h1y
  have HCpB : Hid (∀ (W : World) ty dc sc, W.heap[w.heap.size]? = some (.cells (rowA ROW.toList ys i).toArray 108 (0, 0)) → W.heap[g]? = some (.cells cur 108 (0, 0)) → (Builtin.copy_ #[81, 81] ty #[.slice (some ⟨w.heap.size, (i + 1) * 7, none⟩) (n - i) dc, .slice (some ⟨g, i * 7, none⟩) (n - i) sc]).run Tryz.prog W = .ok (goInt (Nat.min (n - i) (n - i))) (W.setRow w.heap.size (rowB ROW.toList ys (X.drop (i * 7)) i).toArray)) := fun W ty dc sc hW hV =>
    run_copy_n W _ _ ty 108 w.heap.size ((i + 1) * 7) _ dc ⟨g, i * 7, none⟩ _ sc 7 (rowA ROW.toList ys i).toArray 108 _ Tryz.underlying81 Tryz.sizeLot hW (by rw [hdl, hmin2]) (fun j v hj => by rw [Lib.add_plain]; exact hXc W hV _ v (by rwa [List.getElem?_drop] at hj)) (by rw [hdl, List.size_toArray, hA1, hRl]; omega) (fun v hv => h1c v (List.mem_of_mem_drop hv))
  obtain ⟨RA, hRA⟩ : ∃ RA, RA = (rowA ROW.toList ys i).toArray := ⟨_, rfl⟩
  obtain ⟨RB, hRB⟩ : ∃ RB, RB = rowB ROW.toList ys (X.drop (i * 7)) i := ⟨_, rfl⟩
  rw [← hRA] at HCpA HCpB
  rw [← hRB] at HCpB hB1 hB2
  obtain ⟨W1, hW1⟩ : ∃ W1, W1 = w.drew.alloc (.cells ROW 108) := ⟨_, rfl⟩
  have k1 : W1.heap[w.heap.size]? = some (.cells ROW 108 (0, 0)) := by rw [hW1]; exact Go.heap_alloc_new w.drew _
  have k2 : W1.heap[gn]? = some (.cells ys.toArray 108 (0, 0)) := by rw [hW1]; exact (Below.heap_alloc w.drew _ _ hvw).trans hnew
  have k3 : W1.heap[g]? = some (.cells cur 108 (0, 0)) := by rw [hW1]; exact (Below.heap_alloc w.drew _ _ hgw).trans hb
  have hBe : Below w.heap.size w W1 := by rw [hW1]; exact (Below.refl _ _).drew.alloc (Nat.le_refl _) _
  rw [← hW1] at hrz
  have HRz := hidOf hrz
  have HE1 : Hid (∀ (W : World) ty dc, W.heap = W1.heap → (Builtin.copy_ #[81, 81] ty #[.slice (some ⟨w.heap.size, i * 7, none⟩) (n + 1 - i) dc, .slice (some ⟨gn, 0, none⟩) 1 1]).run Tryz.prog W = .ok (goInt (Nat.min 1 (n + 1 - i))) (W.setRow w.heap.size RA)) := fun W ty dc hW => HCpA.out W ty dc (by rw [hW]; exact k1) (by rw [hW]; exact k2)
  have HE2 : Hid (∀ (W : World) ty dc sc, W.heap = (W1.setRow w.heap.size RA).heap → (Builtin.copy_ #[81, 81] ty #[.slice (some ⟨w.heap.size, (i + 1) * 7, none⟩) (n - i) dc, .slice (some ⟨g, i * 7, none⟩) (n - i) sc]).run Tryz.prog W = .ok (goInt (Nat.min (n - i) (n - i))) (W.setRow w.heap.size RB.toArray)) := fun W ty dc sc hW =>
    HCpB.out W ty dc sc (by rw [hW]; exact setRow_heap W1 w.heap.size ROW RA _ _ k1) (by rw [hW, setRow_other W1 _ _ _ (by omega)]; exact k3)
  have HFin : Hid (∀ W : World, W.heap = ((W1.setRow w.heap.size RA).setRow w.heap.size RB.toArray).heap → W.os = w.os → W.tape = w.tape → W.output = w.output → W.heap[w.heap.size]? = some (.cells RB.toArray 108 (0, 0)) ∧ Below w.heap.size w W) := fun W h1 h2 h3 h4 => by
    refine ⟨?_, h2, h3, h4, ?_, fun r hr => ?_⟩
    · rw [h1]
      exact setRow_heap _ w.heap.size RA _ _ _ (setRow_heap W1 w.heap.size ROW RA _ _ k1)
    · rw [h1]
      simp only [setRow_size]
      exact hBe.size
    · rw [h1, setRow_other _ _ _ _ (by omega), setRow_other _ _ _ _ (by omega)]
      exact hBe.block r hr
  have HO := hidOf (And.intro hBe.os (And.intro hBe.tape hBe.output))
  have hz1 : ¬ ((i : Int) = (n : Int)) := by omega
  have hz2 : ((i : Int) == (n : Int)) = false := by simp; omega
  have hz3 : (n : Int) < (n : Int) + 1 := by omega
  have hw1 : IntKind.i64.wrap ((i : Int) + 1) = (i : Int) + 1 := by rw [IntKind.wrap_i64]; omega
  have hw2 : IntKind.i64.wrap ((n : Int) + 1) = (n : Int) + 1 := by rw [IntKind.wrap_i64]; omega
  have hw3 : IntKind.i64.wrap ((n : Int) + 1 - (i : Int)) = (n : Int) + 1 - (i : Int) := by rw [IntKind.wrap_i64]; omega
  have ht1 : ((i : Int) + 1).toNat = i + 1 := by omega
  have hp1 : (0 : Int) ≤ (i : Int) + 1 := by omega
  have hb3 : (i : Int) ≤ (n : Int) := by omega
  have hin : i ≤ n := by omega
  have hp3 : (i : Int) ≤ (n : Int) + 1 := by omega
  have hc1 : ¬ (n = i) := by omega
  have hc2 : ¬ (G = i) := by omega
  have hc3 : ¬ (G = i + 1) := by omega
  unfold maxLen at hGm
  have HRow : Hid (RB.length = G * 7 ∧ RB.take ((n + 1) * 7) = X.take (i * 7) ++ ys ++ X.drop (i * 7)) := ⟨by omega, hB2⟩
  clear hRA hRB hROW hG hZ hX hW1 hrz hold hkk hik hb hnew k1 k2 k3 hBe hA1 hB1 hB2 HCpA HCpB hRl hRX hXc h1c h1y hdl hXl
  go_enter Tryz.func42, Tryz.ntmps42
  go_wp2_with (first
    | (at_builtin; refine Lib.wpList_append_run _ rfl _ _ _ _ rfl _ _ rfl rfl _ _ (HRz.out _) ?_; have hcx := HE1.out W1 3 (G - i) rfl)
    | (simp only [hcx]))
  go_region_law (refine step_copied rfl _ _ 81 81 rfl (.slice (some ⟨w.heap.size, (i + 1) * 7, none⟩) (n - i) (G - (i + 1))) (.slice (some ⟨g, i * 7, none⟩) (n - i) (n - i)) (by simp [Act.eval, Act.put]) (by simp [Act.eval, Act.put]) (HE2.out _ _ _ _ (by rfl)) ?_)
  all_goals
    go_wp2
    go_ret
    obtain ⟨r1, r2⟩ := HFin.out ((W1.setRow w.heap.size RA).drew.setRow w.heap.size RB.toArray) rfl HO.out.1 HO.out.2.1 HO.out.2.2
    exact ⟨G, RB, rfl, hGn, by unfold maxLen; omega, r1, HRow.out.1, HRow.out.2, r2⟩
/-- A lot more, in the midst of the list. -/
theorem insert_mid (w : World) (ao : Option Addr) (n cap i gn : Nat) (xs ys : List Value) (hown : w.ownsRow 0 108 7 (.slice ao n cap) n xs) (hi : i < n) (hn : n ≤ 4) (hy : ys.length = 7) (hgn : some gn ≠ (Value.slice ao n cap).ownBlock)
    (hnew : w.heap[gn]? = some (.cells ys.toArray 108 (0, 0))) (h1c : ∀ v ∈ xs, v.oneCell' = true) (h1y : ∀ v ∈ ys, v.oneCell' = true) :
    Calls Tryz.prog 42 #[.slice ao n cap, .int .i64 i, .slice (some ⟨gn, 0, none⟩) 1 1] w fun e w' => ∃ gr cp, e = .returned (.slice (some ⟨gr, 0, none⟩) (n + 1) cp) ∧ w'.ownsRow 0 108 7 (.slice (some ⟨gr, 0, none⟩) (n + 1) cp) (n + 1) (xs.take (i * 7) ++ ys ++ xs.drop (i * 7)) ∧ w.grownBy w' (Value.slice ao n cap).ownBlock ∧ ((Value.slice ao n cap).ownBlock = some gr ∨ gr = w.heap.size) := by
  obtain ⟨hl, h⟩ := hown
  rcases h with ⟨h, rfl⟩ | ⟨g, cap', cur, e, h0, hb, hc1, hc2, hc3, hxs⟩
  · injection h with _ h _
    omega
  injection e with e1 _ e3
  subst e1 e3
  have hlen : (xs.take (i * 7) ++ ys ++ xs.drop (i * 7)).length = (n + 1) * 7 := by
    simp only [List.length_append, List.length_take, List.length_drop, hy, hl]
    omega
  by_cases hr : n + 1 ≤ cap
  · refine (insert_room w g n cap i gn cur ys hb (by omega) hr hc2 hi hn hy (fun e => hgn (by rw [e]; rfl)) hnew (by rw [hxs]; exact h1c) h1y).mono ?_
    rintro e w' ⟨rfl, rfl⟩
    obtain ⟨q1, q2⟩ := row2_is cur.toList ys i n hi (by simp; omega) hy
    refine ⟨g, cap, rfl, ⟨hlen, .inr ⟨g, cap, (row2 cur.toList ys i n).toArray, rfl, h0, ?_, hr, hc2, ?_, ?_⟩⟩, ⟨?_, ?_, ?_, ?_, ?_⟩, .inl rfl⟩
    · exact setRow_heap _ g _ _ _ _ (setRow_heap w.drew g cur _ _ _ hb)
    · rw [List.size_toArray, q1]
      simpa using hc3
    · rw [← hxs]
      exact q2
    · rfl
    · rfl
    · rfl
    · simp
    · intro k hk hne
      have hkg : k ≠ g := fun e => hne (by rw [e]; rfl)
      rw [setRow_other _ _ _ _ hkg, setRow_other _ _ _ _ hkg]
      rfl
  · have hcn : cap = n := by omega
    subst hcn
    refine (insert_grow w g cap i gn cur ys hb (by omega) hi hn hy hnew (by rw [hxs]; exact h1c) h1y).mono ?_
    rintro e w' ⟨G, row, rfl, hG1, hG2, hh, hrl, hrt, hB⟩
    refine ⟨w.heap.size, G, rfl, ⟨hlen, .inr ⟨w.heap.size, G, row.toArray, rfl, Nat.zero_le _, hh, hG1, hG2, ?_, ?_⟩⟩, ⟨hB.os, hB.tape, hB.output, hB.size, fun k hk _ => hB.block k hk⟩, .inr rfl⟩
    · simpa using hrl
    · rw [← hxs]
      exact hrt
end Go.Proofs.YtlafddeoheambaaGreatDoor

/-
  The function Offer of package haze, wherever among the open lots the new one's place is.
-/
namespace Go.Proofs.YtlafddeoheambaaGreatDoor
open Go.RowKit

theorem flat_take7 (l : List XLot) (k : Nat) : (l.take k).flatMap xlotCells = (l.flatMap xlotCells).take (k * 7) := by
  induction l generalizing k with
  | nil => simp
  | cons x l ih =>
    cases k with
    | zero => simp
    | succ k =>
      have e : (xlotCells x).length = 7 := rfl
      rw [List.take_succ_cons, List.flatMap_cons, List.flatMap_cons, ih, List.take_append, e, List.take_of_length_le (l := xlotCells x) (by rw [e]; omega), show (k + 1) * 7 - 7 = k * 7 by omega]
theorem flat_drop7 (l : List XLot) (k : Nat) : (l.drop k).flatMap xlotCells = (l.flatMap xlotCells).drop (k * 7) := by
  induction l generalizing k with
  | nil => simp
  | cons x l ih =>
    cases k with
    | zero => simp
    | succ k =>
      have e : (xlotCells x).length = 7 := rfl
      rw [List.drop_succ_cons, List.flatMap_cons, ih, List.drop_append, e, List.drop_of_length_le (l := xlotCells x) (by rw [e]; omega), show (k + 1) * 7 - 7 = k * 7 by omega, List.nil_append]
theorem one_cells (l : List XLot) : ∀ v ∈ l.flatMap xlotCells, v.oneCell' = true := by
  intro v hv
  obtain ⟨x, _, hx⟩ := List.mem_flatMap.1 hv
  simp [xlotCells] at hx
  rcases hx with rfl | rfl | rfl | rfl | rfl | rfl | rfl <;> rfl
/-- Other lots in the place of the open ones. -/
theorem TurnX.putLots {w0 w w6 : World} {X0 X : XW} (T : TurnX w0 X0 w X) (ls : List XLot) {gr cap : Nat} (hg : w.grownBy w6 X.vOp.ownBlock)
    (ho : w6.ownsRow 0 108 7 (.slice (some ⟨gr, 0, none⟩) (ls.length) cap) (ls.length) (ls.flatMap xlotCells)) (hat : X.vOp.ownBlock = some gr ∨ w.heap.size ≤ gr) :
    TurnX w0 X0 (w6.setCell ⟨X.b, 7, none⟩ (.slice (some ⟨gr, 0, none⟩) (ls.length) cap)) (X.withL (.slice (some ⟨gr, 0, none⟩) (ls.length) cap) ls X.vCl X.sales (opnR1 X gr)) := by
  have R := T.rep.roles
  have lt := T.rep.lt
  have hop : gr ∈ blk X.vOp ∨ w.heap.size ≤ gr := hat.imp (fun h => by simp [blk, h]) id
  have ngr : ∀ r ∈ X.foot, r ∉ blk X.vOp → r ≠ gr := by
    rintro r hr hn rfl
    rcases hop with h | h
    · exact hn h
    · have := lt r hr; omega
  have nb : X.b ∉ blk X.vOp := fun hm => by have := R.lot.1 _ hm; rw [R.b] at this; cases this
  have ncl : ∀ r ∈ blk X.vCl, r ∉ blk X.vOp ∧ r ≠ X.b ∧ r ∈ X.foot := by
    intro r hr
    have h1 := R.lot.2 r hr
    refine ⟨(fun hm => by have := R.lot.1 _ hm; rw [h1] at this; cases this), ?_, by simp [XW.foot, hr]⟩
    rintro rfl
    rw [R.b] at h1
    cases h1
  have old : ∀ r, r < w.heap.size → r ∉ blk X.vOp → w6.heap[r]? = w.heap[r]? := fun r hr hn => hg.block r hr (fun e => hn (by simp [blk, ← e]))
  have ht : (w6.setCell ⟨X.b, 7, none⟩ (.slice (some ⟨gr, 0, none⟩) (ls.length) cap)).heap[X.b]? = some (.cells (X.withL (.slice (some ⟨gr, 0, none⟩) (ls.length) cap) ls X.vCl X.sales (opnR1 X gr)).cells 84 (0, 0)) := by
    rw [cells_set (show w6.heap[X.b]? = some (.cells X.cells 84 (0, 0)) by rw [old _ (lt _ xfoot_b) nb]; exact T.rep.top)]
    rfl
  have hrep := T.rep.withL (v := .slice (some ⟨gr, 0, none⟩) (ls.length) cap) (l := ls) (v' := X.vCl) (l' := X.sales) (R' := opnR1 X gr)
    (w' := w6.setCell ⟨X.b, 7, none⟩ (.slice (some ⟨gr, 0, none⟩) (ls.length) cap))
    (fun r hr hb hn _ => by rw [setCell_far _ _ _ _ r hb, old r (lt r hr) hn]) ht
    ⟨by
      refine own_same ho (fun r hr => setCell_far _ _ _ _ r ?_)
      have : r = gr := by simpa [blk_slice] using hr
      rw [this]
      exact Ne.symm (ngr _ xfoot_b nb), own_same T.rep.lot.2 (fun r hr => by obtain ⟨h1, h2, h3⟩ := ncl r hr; rw [setCell_far _ _ _ _ r h2, old r (lt r h3) h1])⟩
    (fun r hr hn _ => by unfold opnR1; rw [if_neg (ngr r hr hn)])
    ⟨fun r hr => by
      have : r = gr := by simpa [blk_slice] using hr
      unfold opnR1
      rw [if_pos this], fun r hr => by unfold opnR1; rw [if_neg (ngr r (ncl r hr).2.2 (ncl r hr).1)]; exact R.lot.2 r hr⟩
  refine T.withL hrep ⟨hg.os, hg.tape, hg.output, ?_, fun k hk hn => ?_⟩ (fun r hr => ?_) (fun r hr => .inl (ncl r hr).2.2)
  · show w.heap.size ≤ (w6.setCell _ _).heap.size
    rw [World.setCell]
    simp only [Array.size_modify]
    exact hg.size
  · have h1 : k ≠ X.b := fun e => hn (by rw [e]; exact xfoot_b)
    rw [setCell_far _ _ _ _ k h1, old k hk (fun hm => hn (by simp [XW.foot, hm]))]
  · have : r = gr := by simpa [blk_slice] using hr
    rw [this]
    rcases hop with h | h
    · exact .inl (by simp [XW.foot, h])
    · exact .inr h
set_option maxRecDepth 100000 in
set_option maxHeartbeats 8000000 in
theorem xoffer_l (w : World) (X : XW) (nm : ByteArray) (least ticks : Int) (hr : RepX w X) (hO : OkX X) (hg : GoodL X.S) (hs : nm.size ≤ 2000000) :
    Calls Tryz.prog 19 #[.pointer (some ⟨X.b, 0, none⟩), .string nm, .int .i64 least, .int .i64 ticks] w fun e w' => e = .returned (.int .i64 (offerS X.S nm least ticks).1) ∧ ∃ X', TurnX w X w' X' ∧ OkX X' ∧ X'.S = (offerS X.S nm least ticks).2 ∧ X'.sales = X.sales ∧ X'.pls = X.pls := by
  have hap : Apart X.lots := hg.lw.apart
  have hol : X.opens.length ≤ 4 := by rw [hO.lot.len]; exact hg.lw.len
  have HI := hidOf (isName_any nm w hs)
  have HS : Hid (∀ wx, Below w.heap.size w wx → Calls Tryz.prog 40 #[.pointer (some ⟨X.b, 0, none⟩), .string nm] wx fun e w' => e = .returned (.tuple #[.int .i64 (placeX X.opens nm), .bool (foundX X.opens nm)]) ∧ Below wx.heap.size wx w') := fun wx h => seek_any wx X nm (hr.below h) (hO.lot.asc hap) hol
  have HT : Hid (∀ wx, Below w.heap.size w wx → TurnX w X wx X) := fun wx h => (TurnX.refl hr).below h
  have HO := hidOf hO
  have hoff : offerS X.S nm least ticks = if nameB nm.data.toList then (if openB X.lots nm then (4, X.S) else if inB least 0 100000 && inB ticks 1 1000 then (if 4 ≤ X.lots.length then (6, X.S) else (0, { X.S with lots := X.lots ++ [⟨nm, least, X.S.now + ticks⟩] })) else (1, X.S)) else (2, X.S) := rfl
  have HOf := hidOf hoff
  have HFo := hidOf (offer_found hO hap nm)
  have HG := hidOf hg
  clear hr hO hoff hap hg
  cases hn : nameB nm.data.toList
  · rw [hn] at HI
    have HE : Hid (offerS X.S nm least ticks = (2, X.S)) := by unfold Hid; rw [HOf.out, hn]; rfl
    go_enter Tryz.func19, Tryz.ntmps19
    go_wp2_with fail
    refine HI.out.mono ?_
    rintro e w1 ⟨rfl, hb⟩
    have T := HT.out w1 hb
    clear hb HI
    go_wp2
    go_ret
    exact ⟨by rw [HE.out]; rfl, X, T, HO.out, by rw [HE.out], rfl, rfl⟩
  · rw [hn] at HI
    go_enter Tryz.func19, Tryz.ntmps19
    go_wp2_with fail
    refine HI.out.mono ?_
    rintro e w1 ⟨rfl, hb1⟩
    have B1 := hidOf hb1
    have HS1 := hidOf (HS.out w1 hb1)
    clear hb1 HI HS
    go_wp2_with fail
    refine HS1.out.mono ?_
    rintro e w2 ⟨rfl, hb2⟩
    have B2 := hidOf (B1.out.trans (hb2.mono B1.out.size))
    clear hb2 HS1 B1
    rw [HFo.out]
    cases ho : openB X.lots nm
    · have hol2 : X.opens.length = X.lots.length := HO.out.lot.len
      obtain ⟨pl, hpl⟩ : ∃ pl, pl = placeX X.opens nm := ⟨_, rfl⟩
      have hple : pl ≤ X.opens.length := by rw [hpl]; exact placeX_le X.opens nm
      obtain ⟨N, hN⟩ : ∃ N, N = X.opens.length := ⟨_, rfl⟩
      rw [← hN] at hol2 hple hol
      rw [← hpl]
      have HPl := hidOf hpl
      clear hpl
      cases hb : (inB least 0 100000 && inB ticks 1 1000)
      · have HE : Hid (offerS X.S nm least ticks = (1, X.S)) := by unfold Hid; rw [HOf.out, hn, ho, hb]; rfl
        have T := hidOf (HT.out w2 B2.out)
        have HBt : Hid (∀ n lo hi (wx : World), Calls Tryz.prog 41 #[.int .i64 n, .int .i64 lo, .int .i64 hi] wx fun e w' => e = .returned (.bool (inB n lo hi)) ∧ w' = wx) := fun n lo hi wx => between_any n lo hi wx
        cases h1 : inB least 0 100000
        · go_wp2_with fail
          refine (HBt.out least 0 100000 _).mono ?_
          rintro e w' ⟨rfl, h⟩
          rw [h, h1]
          clear h w'
          go_wp2
          go_ret
          exact ⟨by rw [HE.out]; rfl, X, T.out, HO.out, by rw [HE.out], rfl, rfl⟩
        · have h2 : inB ticks 1 1000 = false := by rw [h1] at hb; simpa using hb
          go_wp2_with fail
          refine (HBt.out least 0 100000 _).mono ?_
          rintro e w' ⟨rfl, h⟩
          rw [h, h1]
          clear h w'
          go_wp2_with fail
          refine (HBt.out ticks 1 1000 _).mono ?_
          rintro e w' ⟨rfl, h⟩
          rw [h, h2]
          clear h w'
          go_wp2
          go_ret
          exact ⟨by rw [HE.out]; rfl, X, T.out, HO.out, by rw [HE.out], rfl, rfl⟩
      · have h1 : inB least 0 100000 = true := by cases h : inB least 0 100000 <;> simp [h] at hb ⊢
        have h2 : inB ticks 1 1000 = true := by rw [h1] at hb; simpa using hb
        have hle : 0 ≤ least ∧ least ≤ 100000 := by simp only [inB, Bool.and_eq_true, decide_eq_true_eq] at h1; exact h1
        have hti : 1 ≤ ticks ∧ ticks ≤ 1000 := by simp only [inB, Bool.and_eq_true, decide_eq_true_eq] at h2; exact h2
        have hno := HG.out.now
        have HBt : Hid (∀ n lo hi (wx : World), Calls Tryz.prog 41 #[.int .i64 n, .int .i64 lo, .int .i64 hi] wx fun e w' => e = .returned (.bool (inB n lo hi)) ∧ w' = wx) := fun n lo hi wx => between_any n lo hi wx
        have HCn : Hid (∀ wx, Hid (Below w2.heap.size w2 wx) → Calls Tryz.prog 30 #[.string nm] wx fun e w' => e = .returned (.string nm) ∧ Below wx.heap.size wx w') := fun wx _ => clone_any nm wx hs
        obtain ⟨ao, g, cap, hv, hcap, hmax, rd⟩ := own_rd (HT.out w2 B2.out).rep.lot.1
        rw [← hN] at hv
        unfold maxLen at hmax
        have c7 : w2.cell? ⟨X.b, 7, none⟩ = some (.slice ao N cap) := by
          have := (HT.out w2 B2.out).rep.cellTop (j := 7) (u := X.vOp) rfl
          rw [this, hv]
        have c0 : w2.cell? ⟨X.b, 0, none⟩ = some (.int .i64 X.S.now) := (HT.out w2 B2.out).rep.cellTop rfl
        have hbl : X.b < w2.heap.size := (HT.out w2 B2.out).rep.lt _ xfoot_b
        obtain ⟨now, hnw⟩ : ∃ now, now = X.S.now := ⟨_, rfl⟩
        rw [← hnw] at c0 hno
        have hwr : IntKind.i64.wrap (now + ticks) = now + ticks := by rw [IntKind.wrap_i64]; omega
        have HNw := hidOf hnw
        have HV := hidOf hv
        have hcm : N ≤ cap := by rw [hN]; exact hcap
        have HN := hidOf hN
        clear hnw hv rd hcap hN
        by_cases h4 : 4 ≤ N
        · have HE : Hid (offerS X.S nm least ticks = (6, X.S)) := by unfold Hid; rw [HOf.out, hn, ho, hb, ← hol2]; simp [h4]
          have h4' : (4 : Int) ≤ (N : Int) := by omega
          have T := hidOf (HT.out w2 B2.out)
          go_wp2_with fail
          refine (HBt.out least 0 100000 _).mono ?_
          rintro e w' ⟨rfl, h⟩
          rw [h, h1]
          clear h w'
          go_wp2_with fail
          refine (HBt.out ticks 1 1000 _).mono ?_
          rintro e w' ⟨rfl, h⟩
          rw [h, h2]
          clear h w'
          go_wp2
          go_ret
          exact ⟨by rw [HE.out]; rfl, X, T.out, HO.out, by rw [HE.out], rfl, rfl⟩
        have HE : Hid (offerS X.S nm least ticks = (0, { X.S with lots := X.lots ++ [⟨nm, least, X.S.now + ticks⟩] })) := by unfold Hid; rw [HOf.out, hn, ho, hb, ← hol2]; simp [h4]
        have h4' : decide ((4 : Int) ≤ (N : Int)) = false := decide_eq_false (by omega)
        clear hol2
        obtain ⟨xs, hxs⟩ : ∃ xs, xs = X.opens.flatMap xlotCells := ⟨_, rfl⟩
        have HXs := hidOf hxs
        have HXl : Hid (xs.length = N * 7) := by unfold Hid; rw [hxs, HN.out]; exact flat_length xlotCells 7 (fun _ => rfl) X.opens
        clear hxs
        go_wp2_with fail
        refine (HBt.out least 0 100000 _).mono ?_
        rintro e w' ⟨rfl, h⟩
        rw [h, h1]
        clear h w'
        go_wp2_with fail
        refine (HBt.out ticks 1 1000 _).mono ?_
        rintro e w' ⟨rfl, h⟩
        rw [h, h2]
        clear h w'
        go_wp2_with fail
        have HC0 : Hid (∀ wx, Hid (Below w2.heap.size w2 wx) → wx.cell? ⟨X.b, 0, none⟩ = some (.int .i64 now)) := fun wx h => (h.out.cell (p := ⟨X.b, 0, none⟩) hbl).trans c0
        have BX : Hid (∀ wx wy, Hid (Below w2.heap.size w2 wx) → Below wx.heap.size wx wy → Hid (Below w2.heap.size w2 wy)) := fun wx wy h h' => h.out.trans (h'.mono h.out.size)
        have HZ : Hid (∀ wx w5 : World, Below wx.heap.size wx w5 → wx = (w2.alloc (.cells #[.string ⟨#[]⟩, .int .i64 0, .int .i64 0, .int .i64 0, .int .i64 0, .int .i64 0, .int .i64 0] 108)).drew → Hid (w5.heap[w2.heap.size]? = some (.cells #[.string ⟨#[]⟩, .int .i64 0, .int .i64 0, .int .i64 0, .int .i64 0, .int .i64 0, .int .i64 0] 108 (0, 0))) ∧ (∀ j, w5.frozen? ⟨w2.heap.size, j, none⟩ = false) ∧ w5.cell? ⟨w2.heap.size, 0, none⟩ = some (.string ⟨#[]⟩) ∧ w5.cell? ⟨w2.heap.size, 1, none⟩ = some (.int .i64 0) ∧ w5.cell? ⟨w2.heap.size, 2, none⟩ = some (.int .i64 0) ∧ w5.cell? ⟨w2.heap.size, 3, none⟩ = some (.int .i64 0) ∧ w5.cell? ⟨w2.heap.size, 4, none⟩ = some (.int .i64 0) ∧ w5.cell? ⟨w2.heap.size, 5, none⟩ = some (.int .i64 0) ∧ w5.cell? ⟨w2.heap.size, 6, none⟩ = some (.int .i64 0)) := fun wx w5 h e => by
          subst e
          have hn := Go.heap_alloc_new w2 (.cells #[.string ⟨#[]⟩, .int .i64 0, .int .i64 0, .int .i64 0, .int .i64 0, .int .i64 0, .int .i64 0] 108)
          have hn2 : w5.heap[w2.heap.size]? = some (.cells #[.string ⟨#[]⟩, .int .i64 0, .int .i64 0, .int .i64 0, .int .i64 0, .int .i64 0, .int .i64 0] 108 (0, 0)) := (h.block w2.heap.size (lt_of_some hn)).trans hn
          exact ⟨hn2, fun j => by simp [World.frozen?, hn2], by rw [cell_of_row _ _ _ _ _ _ hn2]; rfl, by rw [cell_of_row _ _ _ _ _ _ hn2]; rfl, by rw [cell_of_row _ _ _ _ _ _ hn2]; rfl, by rw [cell_of_row _ _ _ _ _ _ hn2]; rfl, by rw [cell_of_row _ _ _ _ _ _ hn2]; rfl, by rw [cell_of_row _ _ _ _ _ _ hn2]; rfl, by rw [cell_of_row _ _ _ _ _ _ hn2]; rfl⟩
        go_cut [11] (fun p wc => ∃ lb, p = .pointer (some ⟨lb, 0, none⟩) ∧ Hid (Below w2.heap.size w2 wc) ∧ LotAt wc lb 0 (newLot nm least (now + ticks)))
        case first =>
          have B5 : Hid (Below w2.heap.size w2 w2.drew) := (Below.refl _ _).drew
          have S5 := HC0.out _ B5
          have BZ : Hid (Below w2.heap.size w2 (w2.alloc (.cells #[.string ⟨#[]⟩, .int .i64 0, .int .i64 0, .int .i64 0, .int .i64 0, .int .i64 0, .int .i64 0] 108)).drew) := ((Below.refl _ _).alloc (Nat.le_refl _) _).drew
          have SZ := HC0.out _ BZ
          have HC1 : Hid (Calls Tryz.prog 30 #[.string nm] w2.drew fun e w' => e = .returned (.string nm) ∧ Hid (Below w2.heap.size w2 w') ∧ w'.cell? ⟨X.b, 0, none⟩ = some (.int .i64 now) ∧ X.b < w'.heap.size) := (clone_any nm w2.drew hs).mono (fun e w' h => ⟨h.1, BX.out _ _ B5 h.2, HC0.out _ (BX.out _ _ B5 h.2), Nat.lt_of_lt_of_le hbl (BX.out _ _ B5 h.2).out.size⟩)
          have HC2 : Hid (Calls Tryz.prog 30 #[.string nm] ((w2.alloc (.cells #[.string ⟨#[]⟩, .int .i64 0, .int .i64 0, .int .i64 0, .int .i64 0, .int .i64 0, .int .i64 0] 108)).drew) fun e w' => e = .returned (.string nm) ∧ Hid (Below w2.heap.size w2 w') ∧ w'.cell? ⟨X.b, 0, none⟩ = some (.int .i64 now) ∧ Hid (w'.heap[w2.heap.size]? = some (.cells #[.string ⟨#[]⟩, .int .i64 0, .int .i64 0, .int .i64 0, .int .i64 0, .int .i64 0, .int .i64 0] 108 (0, 0))) ∧ (∀ j, w'.frozen? ⟨w2.heap.size, j, none⟩ = false) ∧ w'.cell? ⟨w2.heap.size, 0, none⟩ = some (.string ⟨#[]⟩) ∧ w'.cell? ⟨w2.heap.size, 1, none⟩ = some (.int .i64 0) ∧ w'.cell? ⟨w2.heap.size, 2, none⟩ = some (.int .i64 0) ∧ w'.cell? ⟨w2.heap.size, 3, none⟩ = some (.int .i64 0) ∧ w'.cell? ⟨w2.heap.size, 4, none⟩ = some (.int .i64 0) ∧ w'.cell? ⟨w2.heap.size, 5, none⟩ = some (.int .i64 0) ∧ w'.cell? ⟨w2.heap.size, 6, none⟩ = some (.int .i64 0)) := (clone_any nm ((w2.alloc (.cells #[.string ⟨#[]⟩, .int .i64 0, .int .i64 0, .int .i64 0, .int .i64 0, .int .i64 0, .int .i64 0] 108)).drew) hs).mono (fun e w' h => ⟨h.1, BX.out _ _ BZ h.2, HC0.out _ (BX.out _ _ BZ h.2), HZ.out _ _ h.2 rfl⟩)
          have hXw : X.b ≠ w2.heap.size := by omega
          clear HE HV HNw HT HO HG HOf HFo HBt c7 c0 hle hti hno hb h1 h2 ho hol HZ HCn h4 h4' hple HPl HN HXs HXl hcm hmax
          go_region_held3 (fun w' => w'.cell? ⟨X.b, 0, none⟩ = some (.int .i64 now)) (first | with_reducible assumption | go_keep | (with_reducible refine (World.cell?_alloc_past _ X.b 0 (by with_reducible assumption)).trans ?_; with_reducible assumption) | (with_reducible refine (far7 hXw _ _ _ _ _ _ _).trans ?_; with_reducible assumption)) (first | (go_at_call 30; with_reducible refine HC1.out.mono ?_; rintro e w5 ⟨rfl, B6, S6, hx6⟩) | (go_at_call 30; with_reducible refine HC2.out.mono ?_; rintro e w5 ⟨rfl, B6, S6, zz, zf, z0, z1, z2, z3, z4, z5, z6⟩))
          · go_wp2_with fail
            go_meet
            exact ⟨_, rfl, BX.out _ _ B6 ((Below.refl _ _).alloc (Nat.le_refl _) _), lotNew (newLot nm least (now + ticks))⟩
          · go_wp2_with fail
            go_meet
            exact ⟨_, rfl, ((((((B6.out.setCell (p := ⟨w2.heap.size, 0, none⟩) (Nat.le_refl _) _).setCell (p := ⟨w2.heap.size, 1, none⟩) (Nat.le_refl _) _).setCell (p := ⟨w2.heap.size, 2, none⟩) (Nat.le_refl _) _).setCell (p := ⟨w2.heap.size, 3, none⟩) (Nat.le_refl _) _).setCell (p := ⟨w2.heap.size, 4, none⟩) (Nat.le_refl _) _).setCell (p := ⟨w2.heap.size, 5, none⟩) (Nat.le_refl _) _).setCell (p := ⟨w2.heap.size, 6, none⟩) (Nat.le_refl _) _, lot7 zz.out (newLot nm least (now + ticks))⟩
        case rest =>
          obtain ⟨lb, rfl, Bc, LA⟩ := hcut
          obtain ⟨l0, l1, l2, l3, l4, l5, l6⟩ := LA
          simp only [newLot] at l0 l1 l2 l3 l4 l5 l6
          have hbw : X.b < wc.heap.size := Nat.lt_of_lt_of_le hbl Bc.out.size
          have k7 : wc.cell? ⟨X.b, 7, none⟩ = some (.slice ao N cap) := (Bc.out.cell (p := ⟨X.b, 7, none⟩) hbl).trans c7
          have a7 : ∀ o, (wc.drew.alloc o).cell? ⟨X.b, 7, none⟩ = some (.slice ao N cap) := fun o => (World.cell?_alloc_past (w := wc.drew) o X.b 7 hbw).trans k7
          have Tc := hidOf ((HT.out w2 B2.out).below Bc.out)
          have f7 : wc.frozen? ⟨X.b, 7, none⟩ = false := Tc.out.rep.frozenTop 7
          have HW : Hid (∀ o, TurnX w X (wc.drew.alloc o) X) := fun o => Tc.out.drew.below ((Below.refl _ _).alloc (Nat.le_refl _) _)
          have HFin : Hid (∀ (o : Obj) (gr cp : Nat) (w6 : World), w6.ownsRow 0 108 7 (.slice (some ⟨gr, 0, none⟩) (N + 1) cp) (N + 1) (xs.take (pl * 7) ++ xlotCells (newLot nm least (now + ticks)) ++ xs.drop (pl * 7)) → (wc.drew.alloc o).grownBy w6 (Value.slice ao N cap).ownBlock → ((Value.slice ao N cap).ownBlock = some gr ∨ gr = (wc.drew.alloc o).heap.size) → ∃ X', TurnX w X (w6.setCell ⟨X.b, 7, none⟩ (.slice (some ⟨gr, 0, none⟩) (N + 1) cp)) X' ∧ OkX X' ∧ X'.S = (offerS X.S nm least ticks).2 ∧ X'.sales = X.sales ∧ X'.pls = X.pls) := fun o gr cp w6 h1 h2 h3 => by
            have hv := HV.out
            have hln : (X.opens.take pl ++ newLot nm least (now + ticks) :: X.opens.drop pl).length = N + 1 := by
              simp only [List.length_append, List.length_cons, List.length_take, List.length_drop, ← HN.out]
              omega
            have hfl : (X.opens.take pl ++ newLot nm least (now + ticks) :: X.opens.drop pl).flatMap xlotCells = xs.take (pl * 7) ++ xlotCells (newLot nm least (now + ticks)) ++ xs.drop (pl * 7) := by
              rw [List.flatMap_append, List.flatMap_cons, flat_take7, flat_drop7, ← HXs.out, List.append_assoc]
            have T6 := (HW.out o).putLots (X.opens.take pl ++ newLot nm least (now + ticks) :: X.opens.drop pl) (gr := gr) (cap := cp) (w6 := w6) (by rw [hv]; exact h2) (by rw [hln, hfl]; exact h1) (by rw [hv]; exact h3.imp id (fun e => Nat.le_of_eq e.symm))
            rw [hln] at T6
            have hpl : ∀ Y : XW, (lotG Y (X.lots ++ [⟨nm, least, now + ticks⟩])).pls = Y.pls := fun Y => lotG_pls Y _
            refine ⟨lotG _ (X.lots ++ [⟨nm, least, now + ticks⟩]), T6.ghost _ _, ⟨?_, HO.out.ore, HO.out.dist, ?_⟩, ?_, rfl, hpl _⟩
            · rw [hpl]
              exact HO.out.st
            · rw [hpl]
              have := HO.out.lot.offer (now := X.S.now) (by have := HG.out.lw; simpa [XW.S, Function.comp_def] using this) nm least (now + ticks) (openB_no ho)
              rw [← HPl.out] at this
              exact this
            · rw [HE.out]
              have e1 : (lotG (X.withL (.slice (some ⟨gr, 0, none⟩) (N + 1) cp) (X.opens.take pl ++ newLot nm least (now + ticks) :: X.opens.drop pl) X.vCl X.sales (opnR1 X gr)) (X.lots ++ [⟨nm, least, now + ticks⟩])).S.players = X.S.players := by
                show List.map _ _ = List.map _ _
                rw [hpl]
                rfl
              have e2 : (lotG (X.withL (.slice (some ⟨gr, 0, none⟩) (N + 1) cp) (X.opens.take pl ++ newLot nm least (now + ticks) :: X.opens.drop pl) X.vCl X.sales (opnR1 X gr)) (X.lots ++ [⟨nm, least, now + ticks⟩])).S = { X.S with players := (lotG (X.withL (.slice (some ⟨gr, 0, none⟩) (N + 1) cp) (X.opens.take pl ++ newLot nm least (now + ticks) :: X.opens.drop pl) X.vCl X.sales (opnR1 X gr)) (X.lots ++ [⟨nm, least, now + ticks⟩])).S.players, lots := X.lots ++ [⟨nm, least, now + ticks⟩] } := rfl
              rw [e2, e1, HNw.out]
          have hown0 : Hid (∀ o, (wc.drew.alloc o).ownsRow 0 108 7 (.slice ao N cap) N xs) := fun o => by
            have := (HW.out o).rep.lot.1
            rw [HV.out, ← HXs.out, ← HN.out] at this
            exact this
          have hneX : Hid ((Value.slice ao N cap).ownBlock ≠ some X.b) := by
            intro e
            have e1 := Tc.out.rep.roles.lot.1 X.b (by rw [HV.out]; show X.b ∈ blk (Value.slice ao N cap); simp [blk, e])
            rw [Tc.out.rep.roles.b] at e1
            cases e1
          have hnB : Hid (some wc.heap.size ≠ (Value.slice ao N cap).ownBlock) := by
            intro e
            have h1 := own_lt Tc.out.rep.lot.1 wc.heap.size (by rw [HV.out]; show wc.heap.size ∈ blk (Value.slice ao N cap); simp [blk, ← e])
            omega
          have HIn : Hid (∀ wx, wx = wc.drew.alloc (.cells #[.string nm, .int .i64 (now + ticks), .int .i64 least, .int .i64 0, .int .i64 0, .int .i64 0, .int .i64 0] 108) → Calls Tryz.prog 42 #[.slice ao N cap, .int .i64 pl, .slice (some ⟨wc.heap.size, 0, none⟩) 1 1] wx fun e w' => ∃ gr cp, e = .returned (.slice (some ⟨gr, 0, none⟩) (N + 1) cp) ∧ w'.cell? ⟨X.b, 7, none⟩ = some (.slice ao N cap) ∧ w'.frozen? ⟨X.b, 7, none⟩ = false ∧ Hid (∃ X', TurnX w X (w'.setCell ⟨X.b, 7, none⟩ (.slice (some ⟨gr, 0, none⟩) (N + 1) cp)) X' ∧ OkX X' ∧ X'.S = (offerS X.S nm least ticks).2 ∧ X'.sales = X.sales ∧ X'.pls = X.pls)) := fun wx hwx => by
            subst hwx
            have hn : (wc.drew.alloc (.cells #[.string nm, .int .i64 (now + ticks), .int .i64 least, .int .i64 0, .int .i64 0, .int .i64 0, .int .i64 0] 108)).heap[wc.heap.size]? = some (.cells #[.string nm, .int .i64 (now + ticks), .int .i64 least, .int .i64 0, .int .i64 0, .int .i64 0, .int .i64 0] 108 (0, 0)) := Go.heap_alloc_new wc.drew (.cells #[.string nm, .int .i64 (now + ticks), .int .i64 least, .int .i64 0, .int .i64 0, .int .i64 0, .int .i64 0] 108)
            have hone : ∀ u ∈ xlotCells (newLot nm least (now + ticks)), u.oneCell' = true := by
              intro u hu
              simp [xlotCells] at hu
              rcases hu with rfl | rfl | rfl | rfl | rfl | rfl | rfl <;> rfl
            have hpt : Calls Tryz.prog 42 #[.slice ao N cap, .int .i64 pl, .slice (some ⟨wc.heap.size, 0, none⟩) 1 1] (wc.drew.alloc (.cells #[.string nm, .int .i64 (now + ticks), .int .i64 least, .int .i64 0, .int .i64 0, .int .i64 0, .int .i64 0] 108)) fun e w' => ∃ gr cp, e = .returned (.slice (some ⟨gr, 0, none⟩) (N + 1) cp) ∧ w'.ownsRow 0 108 7 (.slice (some ⟨gr, 0, none⟩) (N + 1) cp) (N + 1) (xs.take (pl * 7) ++ xlotCells (newLot nm least (now + ticks)) ++ xs.drop (pl * 7)) ∧ (wc.drew.alloc (.cells #[.string nm, .int .i64 (now + ticks), .int .i64 least, .int .i64 0, .int .i64 0, .int .i64 0, .int .i64 0] 108)).grownBy w' (Value.slice ao N cap).ownBlock ∧ ((Value.slice ao N cap).ownBlock = some gr ∨ gr = (wc.drew.alloc (.cells #[.string nm, .int .i64 (now + ticks), .int .i64 least, .int .i64 0, .int .i64 0, .int .i64 0, .int .i64 0] 108)).heap.size) := by
              by_cases hend : pl = N
              · subst hend
                have e1 : xs.take (pl * 7) = xs := List.take_of_length_le (by rw [HXl.out]; omega)
                have e2 : xs.drop (pl * 7) = [] := List.drop_of_length_le (by rw [HXl.out]; omega)
                rw [e1, e2, List.append_nil]
                exact insert_end _ ao pl cap wc.heap.size xs (xlotCells (newLot nm least (now + ticks))) (hown0.out _) (by omega) rfl (fun j u hu => by rw [cell_of_row _ _ _ _ _ _ hn]; simpa [xlotCells, newLot] using hu) hone
              · exact insert_mid _ ao N cap pl wc.heap.size xs (xlotCells (newLot nm least (now + ticks))) (hown0.out _) (by omega) (by omega) rfl hnB.out hn (by rw [HXs.out]; exact one_cells X.opens) hone
            refine hpt.mono ?_
            rintro e w' ⟨gr, cp, rfl, h1, h2, h3⟩
            obtain ⟨q1, q2⟩ := keepOther (w5 := wc) (((Below.refl _ wc).drew).alloc (Nat.le_refl _) (.cells #[.string nm, .int .i64 (now + ticks), .int .i64 least, .int .i64 0, .int .i64 0, .int .i64 0, .int .i64 0] 108)) h2 hbw (Ne.symm hneX.out) 7
            exact ⟨gr, cp, rfl, q1.trans k7, q2.trans f7, HFin.out _ gr cp w' h1 h2 h3⟩
          clear HFin hown0 hneX hnB HW Tc HT HO HG HOf h4 h4' hcm hmax hple hol HXs HXl HPl HN HZ HC0 BX HCn HBt HNw HV B2 Bc hn ho hb h1 h2 hle hti hno c0 c7 hwr
          go_wp2_with fail
          go_region_with (go_at_call 42; refine (HIn.out _ rfl).mono ?_; rintro e w6 ⟨gr, cp, rfl, q1, q2, HX6⟩)
          all_goals
            go_wp2
            go_ret
            exact ⟨by rw [HE.out]; rfl, HX6.out⟩
    · have HE : Hid (offerS X.S nm least ticks = (4, X.S)) := by unfold Hid; rw [HOf.out, hn, ho]; rfl
      have T := hidOf (HT.out w2 B2.out)
      go_wp2
      go_ret
      exact ⟨by rw [HE.out]; rfl, X, T.out, HO.out, by rw [HE.out], rfl, rfl⟩
end Go.Proofs.YtlafddeoheambaaGreatDoor

/-
  Both worlds of a pair turn alike, where lots may be open.
-/
namespace Go.Proofs.YtlafddeoheambaaGreatDoor
open Go.RowKit

structure SyncL (ps : List (XW × YW)) : Prop where
  s : ∀ q ∈ ps, q.1.S = q.2.S
  o : ∀ q ∈ ps, OkX q.1
  g : ∀ q ∈ ps, GoodL q.2.S
  n : ∀ q ∈ ps, NewsOK q.1
  sl : ∀ q ∈ ps, SaleOK q.1.sales
theorem xorder_l (w : World) (X : XW) (n : Int) (t : ByteArray) (hr : RepX w X) (ho : OkX X) (hg : GoodL X.S) (hN : NewsOK X) (hsl : SaleOK X.sales) (hs : t.size ≤ 2000000) :
    Calls Tryz.prog 10 #[.pointer (some ⟨X.b, 0, none⟩), .int .i64 n, .string t] w fun e w' => e = .returned (.int .i64 (orderS X.S n t.data.toList).1) ∧ ∃ X', TurnX w X w' X' ∧ OkX X' ∧ X'.S = (orderS X.S n t.data.toList).2 ∧ NewsOK X' ∧ SaleOK X'.sales := by
  refine (xorder_any w X _ n t hr (hg.allX ho) (by have := hg.now.2; omega) hs).mono ?_
  rintro e w' ⟨rfl, X', T, O, S, L⟩
  exact ⟨rfl, X', T, O, S, hN.of (by rw [S]; exact order_news X.S n t.data.toList) L, by rw [L]; exact hsl⟩
theorem rtick_l (w : World) (Y : YW) (hr : RepY w Y) (hg : GoodL Y.S) :
    Calls Tryz.prog 53 #[.pointer (some ⟨Y.b, 0, none⟩)] w fun e w' => e = .returned (.int .i64 (tickC Y.S)) ∧ ∃ Y', Turn w Y w' Y' ∧ Y'.S = tickN Y.S := by
  unfold tickC tickN
  have hn := hg.now
  have e : Y.S.now = Y.now := rfl
  by_cases h : Y.S.now = 1000
  · rw [if_pos h, if_pos h]
    refine (rtick_full w Y hr h).mono ?_
    rintro e w' ⟨rfl, rfl⟩
    exact ⟨rfl, Y, Turn.refl hr, rfl⟩
  · rw [if_neg h, if_neg h]
    exact rtick_lots w Y hr hg (by omega)
theorem xoffer_c (w : World) (X : XW) (nm : ByteArray) (least ticks : Int) (hr : RepX w X) (ho : OkX X) (hg : GoodL X.S) (hN : NewsOK X) (hsl : SaleOK X.sales) (hs : nm.size ≤ 2000000) :
    Calls Tryz.prog 19 #[.pointer (some ⟨X.b, 0, none⟩), .string nm, .int .i64 least, .int .i64 ticks] w fun e w' => e = .returned (.int .i64 (offerS X.S nm least ticks).1) ∧ ∃ X', TurnX w X w' X' ∧ OkX X' ∧ X'.S = (offerS X.S nm least ticks).2 ∧ NewsOK X' ∧ SaleOK X'.sales := by
  refine (xoffer_l w X nm least ticks hr ho hg hs).mono ?_
  rintro e w' ⟨rfl, X', T, O, E, L, P⟩
  exact ⟨rfl, X', T, O, E, fun i q hq => by rw [L]; exact hN i q (by rw [← P]; exact hq), by rw [L]; exact hsl⟩
theorem xview_l (w : World) (X : XW) (n : Int) (hr : RepX w X) (ht : Tab w) (ho : OkX X) (hg : GoodL X.S) (hN : NewsOK X) (hsl : SaleOK X.sales) :
    Calls Tryz.prog 38 #[.pointer (some ⟨X.b, 0, none⟩), .int .i64 n] w fun e w' => e = .returned (.tuple #[.string (viewS X.S n).1, .int .i64 (viewS X.S n).2]) ∧ Below w.heap.size w w' :=
  xview_any w X _ n hr ht (hg.allX ho) (by have := hg.now.2; omega) hg.now hg.nm hN hsl
theorem rview_l (w : World) (Y : YW) (n : Int) (hr : RepY w Y) (hg : GoodL Y.S) (hd : oreD Y.ore) (hnw : ∀ p ∈ Y.S.players, NwP p) :
    Calls Tryz.prog 55 #[.pointer (some ⟨Y.b, 0, none⟩), .int .i64 n] w fun e w' => e = .returned (.tuple #[.string (viewS Y.S n).1, .int .i64 (viewS Y.S n).2]) ∧ Below w.heap.size w w' := by
  have hpl : Y.S.players.length = Y.pls.length := by simp [YW.S]
  by_cases hn : 0 ≤ n ∧ n < Y.pls.length
  · obtain ⟨hn0, hn1⟩ := hn
    obtain ⟨k, rfl⟩ := Int.eq_ofNat_of_zero_le hn0
    have hk : k < Y.pls.length := by omega
    obtain ⟨p, v, hq⟩ : ∃ p v, Y.pls[k]? = some (p, v) := ⟨Y.pls[k].1, Y.pls[k].2, by simp [hk]⟩
    have e : viewS Y.S k = (bytesOf (viewL Y.S k p), 0) := by
      unfold viewS
      rw [if_pos (by rw [hpl]; omega), Int.toNat_natCast, S_at hq]
    rw [e]
    have hlw := hg.lw
    have e2 : Y.S.players.map (·.bids) = Y.pls.map (·.1.bids) := by simp [YW.S, Function.comp_def]
    rw [e2] at hlw
    exact rview_is w Y _ k p v hr hg.wf (by have := hg.now.2; omega) hg.now hlw hd hg.nm (hnw p (List.mem_of_getElem? (S_at hq))) hq
  · have e : viewS Y.S n = (⟨#[]⟩, 1) := by
      unfold viewS
      rw [if_neg (by rw [hpl]; exact hn)]
    rw [e]
    exact rview_no w Y n hr (by rw [← hpl]; exact hg.wf.pl.1) hn

/-- One pair turns, both worlds alike. -/
theorem pairTurnL {w w1 w2 : World} {L : LW} {i : Nat} {X X' : XW} {Y Y' : YW} (h : LRep w L) (hS : SyncL L.ps) (hq : L.ps[i]? = some (X, Y)) (T : TurnX w X w1 X') (O : OkX X') (U : Turn w1 Y w2 Y') (hE : X'.S = Y'.S) (hG : GoodL Y'.S) (hN : NewsOK X' ∧ SaleOK X'.sales) :
    ∃ L', LTurn w L w2 L' ∧ SyncL L'.ps ∧ L'.ps.length = L.ps.length := by
  have t1 := h.turnX hq T
  have hi := (at_some hq).1
  have hq1 : (L.setX w.heap.size i X' Y).ps[i]? = some (X', Y) := by simp [LW.setX, hi]
  have t2 := t1.rep.turnY hq1 U
  refine ⟨_, t1.trans t2, ⟨?_, ?_, ?_, ?_, ?_⟩, by simp [LW.setY, LW.setX]⟩
  all_goals
    intro q hq'
    have hq2 : q ∈ L.ps ∨ q = (X', Y') := by
      simp only [LW.setY, LW.setX, List.set_set] at hq'
      exact List.mem_or_eq_of_mem_set hq'
    rcases hq2 with h' | rfl
  · exact hS.s q h'
  · exact hE
  · exact hS.o q h'
  · exact O
  · exact hS.g q h'
  · exact hG
  · exact hS.n q h'
  · exact hN.1
  · exact hS.sl q h'
  · exact hN.2
end Go.Proofs.YtlafddeoheambaaGreatDoor
