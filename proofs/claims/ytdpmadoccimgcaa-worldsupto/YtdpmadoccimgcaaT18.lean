/-
  Maps by spots: a look-up and a store as equations; a delete as one step of a region that draws its order.
-/
import Derived.Test.YtdpmadoccimgcaaT17
import Derived.Deep.AppendLies
import Derived.Test.YtdpmadoccimgcaaT08
import Derived.Deep.QuietTactic
set_option linter.unusedVariables false
namespace Go.Proofs.Ytdpmadoccimgcaa
open Go.RowKit

theorem step_delete_c {P : Program} {w : World} {ops : Array Oper} {o : Oper} {a : Act} {K : Act → World → Prop} {Q : Exit → Act → World → Prop} {E : Prop} (hg : o.guard = none) (m x : Operand) (t k : TypeId) (hop : o.op = Op.call { callee := Callee.builtin Builtin.delete, args := #[m, x], argTypes := #[t, k] })
    (e : TypeId) (ht : P.underlying t = some (.map k e)) (hk : P.underlying k = some (.complex .f64)) (r clock : Nat) (l : List CE)
    (hm : a.eval m = .map (some r)) (hown : MapD w r l clock) (cx cy : Int) (hx : a.eval x = .complex .f64 (flI cx) (flI cy)) (h1 : 0 ≤ cx ∧ cx ≤ 9) (h2 : 0 ≤ cy ∧ cy ≤ 9)
    (hK : ∀ w', MapD w' r (cdel cx cy l) clock → Put r w w' → K (a.put o.dst (.tuple #[])) w') :
    if Region.wanted o (yielded ops a.tmps) = true then Oper.wp P o a w K Q else E := by
  have hw : Region.wanted o (yielded ops a.tmps) = true := by simp [Region.wanted, hg]
  rw [if_pos hw]
  have hrun := run_delete_c hown.is t k e k o.type cx cy ht hk h1 h2
  unfold Oper.wp
  simp [execOp, hop, resolve, invoke, builtin, hm, hx, hrun, Result.andThen]
  exact hK _ (hown.del cx cy) (putObj_put _ _ _)

theorem MapD.lookup {w : World} {r clock : Nat} {l : List CE} (h : MapD w r l clock) (x y : Int) (hx : 0 ≤ x ∧ x ≤ 9) (hy : 0 ≤ y ∧ y ≤ 9) :
    (Instr.lookup 70 (.map (some r)) (.complex .f64 (flI x) (flI y)) false).run Try.prog w = .ok (.int .i64 ((look x y l).getD 0)) w := by
  have := run_lookup_c h.is 70 75 3 false x y Try.underlying70 Try.underlying75 Try.zeroInt hx hy
  rw [cfind_look] at this
  exact this
theorem MapD.update {w : World} {r clock : Nat} {l : List CE} (h : MapD w r l clock) (x y v : Int) (hx : 0 ≤ x ∧ x ≤ 9) (hy : 0 ≤ y ∧ y ≤ 9) :
    ∃ w', (Instr.mapUpdate 70 (.map (some r)) (.complex .f64 (flI x) (flI y)) (.int .i64 v)).run Try.prog w = .ok () w' ∧ MapD w' r (cput x y v clock l) (cclock x y l clock) ∧ Put r w w' :=
  ⟨_, run_update_c h.is 70 75 3 x y v Try.underlying70 Try.underlying75 hx hy, h.put x y v hx hy, putObj_put _ _ _⟩
theorem MapD.drew {w : World} {r clock : Nat} {l : List CE} (h : MapD w r l clock) : MapD w.drew r l clock := h.same rfl
theorem Put.cell {r : Nat} {w w' : World} (h : Put r w w') {g j : Nat} (hn : g ≠ r) : w'.cell? ⟨g, j, none⟩ = w.cell? ⟨g, j, none⟩ := World.cell?_of_block (h.block g hn)
theorem Put.frozen {r : Nat} {w w' : World} (h : Put r w w') {g j : Nat} (hn : g ≠ r) : w'.frozen? ⟨g, j, none⟩ = w.frozen? ⟨g, j, none⟩ := World.frozen?_of_block (h.block g hn)

theorem run_store_c (w : World) (a : Addr) (x y : Nat) : (store a (.complex .f64 x y)).run Try.prog w = stored Try.prog w a (.complex .f64 x y) .plain := run_store Try.prog w a _ .plain rfl
/-- What holds of the places of a unit of the program's world. -/
structure AtX (w : World) (X : XW) (n k : Nat) (p : SPlayer) (v : XV) (u : SUnit) (x : XU) : Prop where
  q : X.pls[n]? = some (p, v)
  u : p.units[k]? = some u
  x : v.us[k]? = some x
  rep : RepX w X
theorem AtX.unit {w : World} {X : XW} {n k : Nat} {p : SPlayer} {v : XV} {u : SUnit} {x : XU} (h : AtX w X n k p v u x) : RepU w u x := (h.rep.each n _ h.q).unit k u x h.u h.x
theorem AtX.ne_b {w : World} {X : XW} {n k : Nat} {p : SPlayer} {v : XV} {u : SUnit} {x : XU} (h : AtX w X n k p v u x) : x.g ≠ X.b := fun e => by
  have := h.rep.roles.unit n _ k x h.q h.x
  rw [e, h.rep.roles.b] at this
  cases this
theorem AtX.ne_ms {w : World} {X : XW} {n k : Nat} {p : SPlayer} {v : XV} {u : SUnit} {x : XU} (h : AtX w X n k p v u x) : x.g ≠ X.ms := fun e => by
  have := h.rep.roles.unit n _ k x h.q h.x
  rw [e, h.rep.roles.ms] at this
  cases this
theorem AtX.ne_mo {w : World} {X : XW} {n k : Nat} {p : SPlayer} {v : XV} {u : SUnit} {x : XU} (h : AtX w X n k p v u x) : x.g ≠ X.mo := fun e => by
  have := h.rep.roles.unit n _ k x h.q h.x
  rw [e, h.rep.roles.mo] at this
  cases this
theorem RepX.b_ms {w : World} {X : XW} (h : RepX w X) : X.b ≠ X.ms := fun e => by
  have := h.roles.b
  rw [e, h.roles.ms] at this
  cases this
theorem RepX.b_mo {w : World} {X : XW} (h : RepX w X) : X.b ≠ X.mo := fun e => by
  have := h.roles.b
  rw [e, h.roles.mo] at this
  cases this
theorem RepX.mo_ms {w : World} {X : XW} (h : RepX w X) : X.mo ≠ X.ms := fun e => by
  have := h.roles.mo
  rw [e, h.roles.ms] at this
  cases this
/-- The bounds that a walk wants. -/
structure BdX (X : XW) (u : SUnit) : Prop where
  w : 3 ≤ X.width ∧ X.width ≤ 10
  h : 3 ≤ X.height ∧ X.height ≤ 10
  x : 0 ≤ u.x ∧ u.x ≤ 9
  y : 0 ≤ u.y ∧ u.y ≤ 9
theorem freeV_S {X : XW} (h : OkX X) (x y : Int) : freeV X.width X.height x y X.ls = freeS X.S x y := by
  unfold freeV freeS
  have := h.st.free x y
  rw [← this]
  rfl
end Go.Proofs.Ytdpmadoccimgcaa

/-
  append onto a list of one's own: but for the block that the new list lies in, all is as it was.
-/
namespace Go.Proofs.Ytdpmadoccimgcaa
open Go.RowKit

section
variable {P : Program} {w : World}
theorem append_only (t ty : TypeId) (base : Nat) (e : TypeId) (i : TypeInfo) (z : Value) (size bytes : Nat) (ht : P.underlying t = some (.slice e)) (hi : P.info? e = some i) (hz : i.zero = some z)
    (hsize : i.size = size)
    (v : Value) (n : Nat) (xs : List Value) (hown : w.ownsRow base e size v n xs)
    (ad : Addr) (m c : Nat) (news : List Value) (hl : news.length = m * size) (hnews : ∀ j u, news[j]? = some u → w.cell? (ad.add j) = some u) (h1 : ∀ u ∈ news, u.oneCell' = true)
    (h63 : n + m ≤ maxLen) (hby : i.bytes = bytes) (hbytes : (n + m) * bytes ≤ 140737488355328) {g cap : Nat} {w' : World}
    (hr : (Builtin.append_ #[t, t] ty #[v, .slice (some ad) m c]).run P w = .ok (.slice (some ⟨g, 0, none⟩) (n + m) cap) w') (hg : w.grownBy w' v.ownBlock) (hat : v.ownBlock = some g ∨ g = w.heap.size) : w.grownBy w' (some g) := by
  rcases hat with h | h
  · rw [← h]; exact hg
  · refine ⟨hg.os, hg.tape, hg.output, hg.size, fun k hk hne => ?_⟩
    by_cases e1 : some k = v.ownBlock
    · subst hsize
      subst hby
      have hsmall : n + m ≤ 9223372036854775807 := by simp only [maxLen] at h63; omega
      rcases hown.2 with ⟨rfl, rfl⟩ | ⟨g', cap', cur, rfl, _, hb, hnc, hcm, hcs, _⟩
      · simp [Value.ownBlock] at e1
      · by_cases hroom : n + m ≤ cap'
        · have hfit : n * i.size + news.length ≤ cur.size := by rw [hl, hcs, ← Nat.add_mul]; exact Nat.mul_le_mul_right _ hroom
          have hr2 := run_append_room (P := P) w t ty e i ht hi g' n cap' cur hb ad m c news hl hnews h1 hroom hfit
          rw [hr2] at hr
          injection hr with hr _
          injection hr with hr _ _
          injection hr with hr
          injection hr with hr _ _
          have := (Array.getElem?_eq_some_iff.1 hb).1
          omega
        · have hr2 := run_append_grow (P := P) w t ty e i z ht hi hz ⟨g', 0, none⟩ n cap' xs hown.1 (hown.cells (g := g') rfl) ad m c news hl hnews (by omega) (by omega) (growslice_fits (by omega) hbytes)
          rw [hr2] at hr
          injection hr with _ hr
          rw [← hr]
          exact Below.heap_alloc w.drew _ k hk
    · exact hg.block k hk e1
theorem step_append_only {ops : Array Oper} {o : Oper} {a : Act} {K : Act → World → Prop} {Q : Exit → Act → World → Prop} {E : Prop} (hgd : o.guard = none) (s x : Operand) (t : TypeId)
    (ho : o.op = .call { callee := .builtin .append, args := #[s, x], argTypes := #[t, t] })
    (base : Nat) (e : TypeId) (i : TypeInfo) (z : Value) (size bytes : Nat) (ht : P.underlying t = some (.slice e)) (hi : P.info? e = some i) (hz : i.zero = some z)
    (hsize : i.size = size) (hby : i.bytes = bytes) (hzs : z.cells.size = size) (hsz : 0 < size)
    (v : Value) (n : Nat) (xs : List Value) (hs : a.eval s = v) (hown : w.ownsRow base e size v n xs)
    (ad : Addr) (m c : Nat) (news : List Value) (hx : a.eval x = .slice (some ad) m c) (hl : news.length = m * size) (hnews : ∀ j u, news[j]? = some u → w.cell? (ad.add j) = some u) (h1 : ∀ u ∈ news, u.oneCell' = true)
    (hm : 0 < m) (h63 : n + m ≤ maxLen) (hbytes : (n + m) * bytes ≤ 140737488355328) (hbase : base ≤ w.heap.size) (H : Nat) (hH : w.heap.size = H)
    (h : ∀ g cap w', w'.ownsRow base e size (.slice (some ⟨g, 0, none⟩) (n + m) cap) (n + m) (xs ++ news) → w.grownBy w' v.ownBlock → (v.ownBlock = some g ∨ g = H) → w.grownBy w' (some g) → K (a.put o.dst (.slice (some ⟨g, 0, none⟩) (n + m) cap)) w') :
    if Region.wanted o (yielded ops a.tmps) = true then Oper.wp P o a w K Q else E := by
  have hw : Region.wanted o (yielded ops a.tmps) = true := by simp [Region.wanted, hgd]
  rw [if_pos hw]
  obtain ⟨g, cap, w', hr, h2, h3, h4, h5⟩ := run_append_lies (P := P) w t o.type base e i z size bytes ht hi hz hsize hby hzs hsz v n xs hown ad m c news hl hnews h1 hm h63 hbytes hbase H hH
  have h6 := append_only t o.type base e i z size bytes ht hi hz hsize v n xs hown ad m c news hl hnews h1 h63 hby hbytes hr h3 (by rw [hH]; exact h4)
  unfold Oper.wp execOp
  simp only [ho, resolve, invoke, builtin, Sem.run_bind, Sem.run_pure, Result.andThen_ok, List.map_toArray, List.map_cons, List.map_nil, hs, hx, hr]
  exact h g cap w' h2 h3 h4 h6
end
end Go.Proofs.Ytdpmadoccimgcaa

/-
  The function move of package haze.
-/
namespace Go.Proofs.Ytdpmadoccimgcaa
open Go.RowKit

def moveS (s : SWorld) (n k : Nat) (p : SPlayer) (u : SUnit) : SWorld :=
  if freeS s (u.x + dxI u.head) (u.y + dyI u.head) then s.setPl n { p with units := p.units.set k { u with x := u.x + dxI u.head, y := u.y + dyI u.head } } else s

set_option maxRecDepth 100000 in
set_option maxHeartbeats 2000000 in
theorem move_any (w : World) (X : XW) (n k : Nat) (p : SPlayer) (v : XV) (u : SUnit) (x : XU) (ha : AtX w X n k p v u x) (ho : OkX X) (hb : BdX X u) :
    Calls Try.prog 62 #[.pointer (some ⟨X.b, 0, none⟩), .int .i64 n, .pointer (some ⟨x.g, 0, none⟩)] w fun e w' => e = .returned (.tuple #[]) ∧ ∃ X', TurnX w X w' X' ∧ OkX X' ∧ X'.S = moveS X.S n k p u := by
  have HA := hidOf (freeAhead_any w X ha.rep hb.w hb.h u x ha.unit hb.x hb.y)
  have HX := hidOf ha
  have bx := hb.x
  have bY := hb.y
  have HO := hidOf ho
  cases hF : freeV X.width X.height (u.x + dxI u.head) (u.y + dyI u.head) X.ls
  · rw [hF] at HA
    have HS : Hid (moveS X.S n k p u = X.S) := by unfold Hid moveS; rw [← freeV_S HO.out, hF]; rfl
    clear ha ho hF
    go_enter Try.func62, Try.ntmps62
    go_wp2_with (go_at_call 75; refine HA.out.mono ?_; rintro e w1 ⟨rfl, hb1⟩)
    refine bodyPost_ret (results_none rfl _ _ _) rfl ?_
    exact ⟨rfl, X, (TurnX.refl HX.out.rep).below hb1, HO.out, HS.out.symm⟩
  · rw [hF] at HA
    have HS : Hid (moveS X.S n k p u = X.S.setPl n { p with units := p.units.set k { u with x := u.x + dxI u.head, y := u.y + dyI u.head } }) := by unfold Hid moveS; rw [← freeV_S HO.out, hF]; rfl
    have hF' : freeV X.width X.height (u.x + dxI u.head) (u.y + dyI u.head) X.ls = true := hF
    unfold freeV at hF'
    simp only [Bool.and_eq_true] at hF'
    have HL : Hid (look (u.x + dxI u.head) (u.y + dyI u.head) X.ls = none) := by
      have := hF'.2
      unfold Hid
      cases hl : look (u.x + dxI u.head) (u.y + dyI u.head) X.ls with
      | none => rfl
      | some m => rw [hl] at this; cases this
    have hw := hb.w
    have hh := hb.h
    have nx : 0 ≤ u.x + dxI u.head ∧ u.x + dxI u.head ≤ 9 := by have := hF'.1.1; simp [inB] at this; omega
    have ny : 0 ≤ u.y + dyI u.head ∧ u.y + dyI u.head ≤ 9 := by have := hF'.1.2; simp [inB] at this; omega
    clear ha ho hF hF' hw hh
    go_enter Try.func62, Try.ntmps62
    go_wp2_with (go_at_call 75; refine HA.out.mono ?_; rintro e w1 ⟨rfl, hb1⟩)
    have T1 := hidOf ((TurnX.refl HX.out.rep).below hb1)
    have A1 : Hid (AtX w1 X n k p v u x) := ⟨HX.out.q, HX.out.u, HX.out.x, T1.out.rep⟩
    clear hb1
    have c4 : w1.cell? ⟨X.b, 4, none⟩ = some (.map (some X.ms)) := T1.out.rep.cellTop rfl
    have d1 : w1.cell? ⟨x.g, 1, none⟩ = some (.complex .f64 (flI u.x) (flI u.y)) := A1.out.unit.cell rfl
    have HM := hidOf T1.out.rep.st.drew
    have hst := run_store_c
    go_region_law (refine step_delete_c rfl _ _ 70 75 rfl 3 Try.underlying70 Try.underlying75 X.ms X.cs X.ls rfl HM.out u.x u.y rfl bx bY ?_; intro w2 hm2 hp2)
    all_goals
      have T2 := hidOf (T1.out.drew.st1 hp2 hm2)
      have A2 : Hid (AtX w2 (X.withLs (cdel u.x u.y X.ls) X.cs) n k p v u x) := ⟨HX.out.q, HX.out.u, HX.out.x, T2.out.rep⟩
      have e4 : w2.cell? ⟨X.b, 4, none⟩ = some (.map (some X.ms)) := T2.out.rep.cellTop rfl
      have HM2 := hidOf hm2
      clear c4 d1 HM hm2 hp2
      go_wp2_with (at_mapUpdate; refine wpList_update_c _ rfl _ _ _ 70 rfl 75 3 Try.underlying70 Try.underlying75 X.ms X.cs (cdel u.x u.y X.ls) rfl HM2.out (u.x + dxI u.head) (u.y + dyI u.head) n rfl rfl nx ny ?_; intro w3 hm3 hp3; have T3 := hidOf (T2.out.st1 hp3 hm3); have A3 := hidOf (AtX.mk (w := w3) (X := (X.withLs (cdel u.x u.y X.ls) X.cs).withLs (cput (u.x + dxI u.head) (u.y + dyI u.head) n X.cs (cdel u.x u.y X.ls)) (cclock (u.x + dxI u.head) (u.y + dyI u.head) (cdel u.x u.y X.ls) X.cs)) HX.out.q HX.out.u HX.out.x T3.out.rep); have g1 : w3.cell? ⟨x.g, 1, none⟩ = some (.complex .f64 (flI u.x) (flI u.y)) := A3.out.unit.cell rfl; have fz : w3.frozen? ⟨x.g, 1, none⟩ = false := A3.out.unit.frozen 1; clear hm3 hp3)
      go_end0
      refine ⟨rfl, _, T3.out.unit1 A3.out.q A3.out.u A3.out.x 1 { u with x := u.x + dxI u.head, y := u.y + dyI u.head } x _ rfl rfl A3.out.unit.head A3.out.unit.what, ⟨?_, HO.out.ore, HO.out.dist⟩, ?_⟩
      · have hst := HO.out.st.go HX.out.rep.st.keys (posL_at (XS_at HX.out.q)) (posP_at HX.out.u) HL.out X.cs
        simp only [XW.setQ, XW.withLs, List.map_set]
        rw [posL_set]
        have e : posP { p with units := p.units.set k { u with x := u.x + dxI u.head, y := u.y + dyI u.head } } = (posP p).set k (u.x + dxI u.head, u.y + dyI u.head) := by simp [posP, List.map_set]
        rw [e]
        exact hst
      · rw [HS.out, XS_setQ]
        rfl
end Go.Proofs.Ytdpmadoccimgcaa

/-
  The function dig of package haze.
-/
namespace Go.Proofs.Ytdpmadoccimgcaa
open Go.RowKit

def digS (s : SWorld) (n k : Nat) (p : SPlayer) (u : SUnit) : SWorld :=
  if u.cargo < 9 then (if digB s.ore u.x u.y then { s.setPl n { p with units := p.units.set k { u with cargo := u.cargo + 1 } } with ore := digL u.x u.y s.ore } else s) else s

theorem AtX.ore1 {w w' : World} {X : XW} {n k : Nat} {p : SPlayer} {v : XV} {u : SUnit} {x : XU} (h : AtX w X n k p v u x) {l : List CE} {c : Nat} (hr : RepX w' (X.withLo l c)) : AtX w' (X.withLo l c) n k p v u x := ⟨h.q, h.u, h.x, hr⟩
theorem TurnX.withOre {w w1 : World} {X X1 : XW} (h : TurnX w X w1 X1) (l : List SSpot) : TurnX w X w1 (X1.withOre l) := by
  have hr : RepX w1 (X1.withOre l) := ⟨h.rep.top, h.rep.ore, h.rep.st, h.rep.pl, h.rep.each, ⟨h.rep.roles.b, h.rep.roles.mo, h.rep.roles.ms, h.rep.roles.pl, h.rep.roles.row, h.rep.roles.unit⟩⟩
  exact ⟨hr, h.kept, h.ext, h.b, h.rows⟩
theorem st_same {X : XW} {l : List CE} (h : StOK (posL (X.pls.map (·.1))) l) {n k : Nat} {p : SPlayer} {v : XV} {u : SUnit} (hq : X.pls[n]? = some (p, v)) (hu : p.units[k]? = some u) (p' : SPlayer) (v' : XV) (u' : SUnit) (hx : u'.x = u.x) (hy : u'.y = u.y) (h' : p'.units = p.units.set k u') :
    StOK (posL ((X.setQ n (p', v')).pls.map (·.1))) l := by
  have e := posL_same (ps := X.pls.map (·.1)) (XS_at hq) hu p' u' hx hy h'
  simp only [XW.setQ, List.map_set]
  rw [e]
  exact h
theorem oreAt_mem {o : List SSpot} {x y a : Int} (h : oreAt o x y = some a) : ∃ s ∈ o, s.amount = a := by
  simp only [oreAt, Option.map_eq_some_iff] at h
  obtain ⟨s, hs, e⟩ := h
  exact ⟨s, List.mem_of_find?_eq_some hs, e⟩

set_option maxRecDepth 100000 in
set_option maxHeartbeats 4000000 in
theorem xdig_any (w : World) (X : XW) (n k : Nat) (p : SPlayer) (v : XV) (u : SUnit) (x : XU) (ha : AtX w X n k p v u x) (ho : OkX X) (hb : BdX X u) (hc : 0 ≤ u.cargo ∧ u.cargo ≤ 9) (hor : ∀ s ∈ X.ore, 0 ≤ s.amount ∧ s.amount ≤ 99) :
    Calls Try.prog 66 #[.pointer (some ⟨X.b, 0, none⟩), .pointer (some ⟨x.g, 0, none⟩)] w fun e w' => e = .returned (.tuple #[]) ∧ ∃ X', TurnX w X w' X' ∧ OkX X' ∧ X'.S = digS X.S n k p u := by
  have HX := hidOf ha
  have bx := hb.x
  have bY := hb.y
  have HO := hidOf ho
  have c3 : w.cell? ⟨X.b, 3, none⟩ = some (.map (some X.mo)) := ha.rep.cellTop rfl
  have d1 : w.cell? ⟨x.g, 1, none⟩ = some (.complex .f64 (flI u.x) (flI u.y)) := ha.unit.cell rfl
  have d3 : w.cell? ⟨x.g, 3, none⟩ = some (.int .i64 u.cargo) := ha.unit.cell rfl
  have fz : w.frozen? ⟨x.g, 3, none⟩ = false := ha.unit.frozen 3
  cases hl : look u.x u.y X.lo with
  | none =>
    have l0 : ∀ m, (Instr.lookup 70 (.map (some X.mo)) (.complex .f64 (flI u.x) (flI u.y)) false).run Try.prog (w.drewN m) = .ok (.int .i64 0) (w.drewN m) := fun m => by
      have := (ha.rep.ore.same (w' := w.drewN m) rfl).lookup u.x u.y bx bY
      rw [hl] at this
      exact this
    have HS : Hid (digS X.S n k p u = X.S) := by
      unfold Hid digS
      have : digB X.S.ore u.x u.y = false := by rw [digB_at, show oreAt X.S.ore u.x u.y = look u.x u.y X.lo from (ho.ore _ _).symm, hl]; rfl
      rw [this]
      simp
    clear ha ho hl
    go_enter Try.func66, Try.ntmps66
    go_wp2_with fail
    go_quiet (fail)
    go_wp2
    refine bodyPost_ret (results_none rfl _ _ _) rfl ?_
    exact ⟨rfl, X, (TurnX.refl HX.out.rep).drewN _, HO.out, HS.out.symm⟩
  | some a =>
    have h0 : oreAt X.ore u.x u.y = some a := by rw [← ho.ore]; exact hl
    have a0 : 0 < a := oreAt_pos h0
    have a9 : a ≤ 99 := by obtain ⟨s, hs, e⟩ := oreAt_mem h0; have := (hor s hs).2; omega
    have hdig : Hid (digB X.ore u.x u.y = true) := by unfold Hid; rw [digB_at, h0]; rfl
    have l0 : ∀ m, (Instr.lookup 70 (.map (some X.mo)) (.complex .f64 (flI u.x) (flI u.y)) false).run Try.prog (w.drewN m) = .ok (.int .i64 a) (w.drewN m) := fun m => by
      have := (ha.rep.ore.same (w' := w.drewN m) rfl).lookup u.x u.y bx bY
      rw [hl] at this
      exact this
    have hz0 : (a == 0) = false := beq_eq_false_iff_ne.2 (by omega)
    have HL := hidOf hl
    clear ha ho hl h0 hor
    by_cases hcg : u.cargo < 9
    · have HS : Hid (digS X.S n k p u = { X.S.setPl n { p with units := p.units.set k { u with cargo := u.cargo + 1 } } with ore := digL u.x u.y X.S.ore }) := by
        unfold Hid digS
        rw [if_pos hcg, show digB X.S.ore u.x u.y = true from hdig.out]
        rfl
      have hcg' : (9 ≤ u.cargo) = False := by simp; omega
      go_enter Try.func66, Try.ntmps66
      go_wp2_with fail
      go_quiet (fail)
      go_wp2
      have T2 := hidOf (((TurnX.refl HX.out.rep).drewN nq).unit1 HX.out.q HX.out.u HX.out.x 3 { u with cargo := u.cargo + 1 } x (.int .i64 (u.cargo + 1)) rfl rfl HX.out.unit.head HX.out.unit.what)
      obtain ⟨w2, hw2⟩ : ∃ w2, w2 = (w.drewN nq).setCell ⟨x.g, 3, none⟩ (.int .i64 (u.cargo + 1)) := ⟨_, rfl⟩
      rw [← hw2] at T2 ⊢
      clear hw2 c3 d1 d3 fz l0
      have hq2 : (X.setQ n ({ p with units := p.units.set k { u with cargo := u.cargo + 1 } }, { v with us := v.us.set k x })).pls[n]? = some ({ p with units := p.units.set k { u with cargo := u.cargo + 1 } }, { v with us := v.us.set k x }) := set_at HX.out.q
      have A2 : Hid (AtX w2 (X.setQ n ({ p with units := p.units.set k { u with cargo := u.cargo + 1 } }, { v with us := v.us.set k x })) n k { p with units := p.units.set k { u with cargo := u.cargo + 1 } } { v with us := v.us.set k x } { u with cargo := u.cargo + 1 } x) := ⟨hq2, set_at HX.out.u, set_at HX.out.x, T2.out.rep⟩
      clear hq2
      have c3 : w2.cell? ⟨X.b, 3, none⟩ = some (.map (some X.mo)) := T2.out.rep.cellTop rfl
      have d1 : w2.cell? ⟨x.g, 1, none⟩ = some (.complex .f64 (flI u.x) (flI u.y)) := A2.out.unit.cell rfl
      have hm2 := T2.out.rep.ore.drew
      have l0 := hm2.lookup u.x u.y bx bY
      obtain ⟨w3, hup, hm3, hp3⟩ := hm2.update u.x u.y (a - 1) bx bY
      have l0' : (Instr.lookup 70 (.map (some X.mo)) (.complex .f64 (flI u.x) (flI u.y)) false).run Try.prog w2.drew = .ok (.int .i64 a) w2.drew := by
        have e : look u.x u.y (X.setQ n ({ p with units := p.units.set k { u with cargo := u.cargo + 1 } }, { v with us := v.us.set k x })).lo = some a := HL.out
        rw [e] at l0
        exact l0
      have hup' : (Instr.mapUpdate 70 (.map (some X.mo)) (.complex .f64 (flI u.x) (flI u.y)) (.int .i64 (a - 1))).run Try.prog w2.drew = .ok () w3 := hup
      have HM3 : Hid (MapD w3 X.mo (cput u.x u.y (a - 1) X.co X.lo) (cclock u.x u.y X.lo X.co)) := hm3
      have HP3 := hidOf hp3
      clear l0 hup hm2 hm3 hp3
      by_cases ha1 : a = 1
      · have hz1 : (a - 1 == 0) = true := by simp; omega
        have HA1 := hidOf ha1
        clear ha1
        go_region
        all_goals
          have T3 := hidOf (T2.out.drew.ore1 HP3.out HM3.out)
          have A3 := hidOf (A2.out.ore1 T3.out.rep)
          clear c3 d1 l0' hup'
          have c3 : w3.cell? ⟨X.b, 3, none⟩ = some (.map (some X.mo)) := T3.out.rep.cellTop rfl
          have d1 : w3.cell? ⟨x.g, 1, none⟩ = some (.complex .f64 (flI u.x) (flI u.y)) := A3.out.unit.cell rfl
          have l3 : ∀ m, (Instr.lookup 70 (.map (some X.mo)) (.complex .f64 (flI u.x) (flI u.y)) false).run Try.prog (w3.drewN m) = .ok (.int .i64 (a - 1)) (w3.drewN m) := fun m => by
            have := (HM3.out.same (w' := w3.drewN m) rfl).lookup u.x u.y bx bY
            rw [look_put] at this
            simpa using this
          go_wp2_with fail
          go_quiet (fail)
          go_wp2_with fail
          have HM4 : Hid _ := hidOf (HM3.out.same (w' := (w3.drewN nq).drew) rfl)
          go_region_law (refine step_delete_c rfl _ _ 70 75 rfl 3 Try.underlying70 Try.underlying75 X.mo _ _ rfl HM4.out u.x u.y rfl bx bY ?_; intro w4 hm4 hp4)
          all_goals
            go_wp2
            go_end0
            refine ⟨rfl, _, ((T3.out.drewN nq).drew.ore1 hp4 hm4).withOre (digL u.x u.y X.ore), ⟨?_, ?_, oreD_dig HO.out.dist⟩, ?_⟩
            · exact st_same HO.out.st HX.out.q HX.out.u _ _ { u with cargo := u.cargo + 1 } rfl rfl rfl
            · have := HO.out.ore.dig HO.out.dist HX.out.rep.ore.keys HL.out X.co
              rw [if_pos HA1.out] at this
              exact this
            · rw [HS.out]
              simp [XW.withOre, XW.withLo, XW.setQ, XW.S, SWorld.setPl, List.map_set]
      · have hz1 : (a - 1 == 0) = false := beq_eq_false_iff_ne.2 (by omega)
        have HA1 := hidOf ha1
        clear ha1
        go_region
        all_goals
          have T3 := hidOf (T2.out.drew.ore1 HP3.out HM3.out)
          have A3 := hidOf (A2.out.ore1 T3.out.rep)
          clear c3 d1 l0' hup'
          have c3 : w3.cell? ⟨X.b, 3, none⟩ = some (.map (some X.mo)) := T3.out.rep.cellTop rfl
          have d1 : w3.cell? ⟨x.g, 1, none⟩ = some (.complex .f64 (flI u.x) (flI u.y)) := A3.out.unit.cell rfl
          have l3 : ∀ m, (Instr.lookup 70 (.map (some X.mo)) (.complex .f64 (flI u.x) (flI u.y)) false).run Try.prog (w3.drewN m) = .ok (.int .i64 (a - 1)) (w3.drewN m) := fun m => by
            have := (HM3.out.same (w' := w3.drewN m) rfl).lookup u.x u.y bx bY
            rw [look_put] at this
            simpa using this
          go_wp2_with fail
          go_quiet (fail)
          go_wp2
          go_end0
          refine ⟨rfl, _, (T3.out.drewN nq).withOre (digL u.x u.y X.ore), ⟨?_, ?_, oreD_dig HO.out.dist⟩, ?_⟩
          · exact st_same HO.out.st HX.out.q HX.out.u _ _ { u with cargo := u.cargo + 1 } rfl rfl rfl
          · have := HO.out.ore.dig HO.out.dist HX.out.rep.ore.keys HL.out X.co
            rw [if_neg HA1.out] at this
            exact this
          · rw [HS.out]
            simp [XW.withOre, XW.withLo, XW.setQ, XW.S, SWorld.setPl, List.map_set]
    · have HS : Hid (digS X.S n k p u = X.S) := by
        unfold Hid digS
        rw [if_neg hcg]
      have hcg' : (9 ≤ u.cargo) = True := by simp; omega
      go_enter Try.func66, Try.ntmps66
      go_wp2_with fail
      go_quiet (fail)
      go_wp2
      refine bodyPost_ret (results_none rfl _ _ _) rfl ?_
      exact ⟨rfl, X, (TurnX.refl HX.out.rep).drewN _, HO.out, HS.out.symm⟩
end Go.Proofs.Ytdpmadoccimgcaa
