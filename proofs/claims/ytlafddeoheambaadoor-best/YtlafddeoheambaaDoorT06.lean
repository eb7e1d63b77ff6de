/-
  The function dig of package haze.
-/
import Derived.Test.YtlafddeoheambaaDoorT05
import Derived.Deep.QuietTactic
set_option linter.unusedVariables false
namespace Go.Proofs.YtlafddeoheambaaDoor
open Go.RowKit

def digS (s : SWorld) (n k : Nat) (p : SPlayer) (u : SUnit) : SWorld :=
  if u.cargo < 9 then (if digB s.ore u.x u.y then { s.setPl n { p with units := p.units.set k { u with cargo := u.cargo + 1 } } with ore := digL u.x u.y s.ore } else s) else s

theorem AtX.ore1 {w w' : World} {X : XW} {n k : Nat} {p : SPlayer} {v : XV} {u : SUnit} {x : XU} (h : AtX w X n k p v u x) {l : List CE} {c : Nat} (hr : RepX w' (X.withLo l c)) : AtX w' (X.withLo l c) n k p v u x := ⟨h.q, h.u, h.x, hr⟩
theorem TurnX.withOre {w w1 : World} {X X1 : XW} (h : TurnX w X w1 X1) (l : List SSpot) : TurnX w X w1 (X1.withOre l) := by
  have hr : RepX w1 (X1.withOre l) := ⟨h.rep.top, h.rep.ore, h.rep.st, h.rep.pl, h.rep.lot, h.rep.each, ⟨h.rep.roles.b, h.rep.roles.mo, h.rep.roles.ms, h.rep.roles.pl, h.rep.roles.lot, h.rep.roles.row, h.rep.roles.unit⟩⟩
  exact ⟨hr, h.kept, h.ext, h.b, h.rows⟩
theorem st_same {X : XW} {l : List CE} (h : StOK (posL (X.pls.map (·.1))) l) {n k : Nat} {p : SPlayer} {v : XV} {u : SUnit} (hq : X.pls[n]? = some (p, v)) (hu : p.units[k]? = some u) (p' : SPlayer) (v' : XV) (u' : SUnit) (hx : u'.x = u.x) (hy : u'.y = u.y) (h' : p'.units = p.units.set k u') :
    StOK (posL ((X.setQ n (p', v')).pls.map (·.1))) l := by
  have e := posL_same (ps := X.pls.map (·.1)) (XS_at hq) hu p' u' hx hy h'
  simp only [XW.setQ, List.map_set]
  rw [e]
  exact h
theorem oreAt_mem {o : List SSpot} {x y a : Int} (h : oreAt o x y = some a) : ∃ s ∈ o, s.amount = a := by
  simp only [oreAt, Option.map_eq_some_iff] at h
  obtain ⟨s, hs, e⟩ := h
  exact ⟨s, List.mem_of_find?_eq_some hs, e⟩

set_option maxRecDepth 100000 in
set_option maxHeartbeats 4000000 in
theorem xdig_any (w : World) (X : XW) (n k : Nat) (p : SPlayer) (v : XV) (u : SUnit) (x : XU) (ha : AtX w X n k p v u x) (ho : OkX X) (hb : BdX X u) (hc : 0 ≤ u.cargo ∧ u.cargo ≤ 9) (hor : ∀ s ∈ X.ore, 0 ≤ s.amount ∧ s.amount ≤ 99) :
    Calls Tryd.prog 49 #[.pointer (some ⟨X.b, 0, none⟩), .pointer (some ⟨x.g, 0, none⟩)] w fun e w' => e = .returned (.tuple #[]) ∧ ∃ X', TurnX w X w' X' ∧ OkX X' ∧ X'.S = digS X.S n k p u := by
  have HX := hidOf ha
  have bx := hb.x
  have bY := hb.y
  have HO := hidOf ho
  have c3 : w.cell? ⟨X.b, 4, none⟩ = some (.map (some X.mo)) := ha.rep.cellTop rfl
  have d1 : w.cell? ⟨x.g, 1, none⟩ = some (.complex .f64 (flI u.x) (flI u.y)) := ha.unit.cell rfl
  have d3 : w.cell? ⟨x.g, 3, none⟩ = some (.int .i64 u.cargo) := ha.unit.cell rfl
  have fz : w.frozen? ⟨x.g, 3, none⟩ = false := ha.unit.frozen 3
  cases hl : look u.x u.y X.lo with
  | none =>
    have l0 : ∀ m, (Instr.lookup 68 (.map (some X.mo)) (.complex .f64 (flI u.x) (flI u.y)) false).run Tryd.prog (w.drewN m) = .ok (.int .i64 0) (w.drewN m) := fun m => by
      have := (ha.rep.ore.same (w' := w.drewN m) rfl).lookup u.x u.y bx bY
      rw [hl] at this
      exact this
    have HS : Hid (digS X.S n k p u = X.S) := by
      unfold Hid digS
      have : digB X.S.ore u.x u.y = false := by rw [digB_at, show oreAt X.S.ore u.x u.y = look u.x u.y X.lo from (ho.ore _ _).symm, hl]; rfl
      rw [this]
      simp
    clear ha ho hl
    go_enter Tryd.func49, Tryd.ntmps49
    go_wp2_with fail
    go_quiet (fail)
    go_wp2
    refine bodyPost_ret (results_none rfl _ _ _) rfl ?_
    exact ⟨rfl, X, (TurnX.refl HX.out.rep).drewN _, HO.out, HS.out.symm⟩
  | some a =>
    have h0 : oreAt X.ore u.x u.y = some a := by rw [← ho.ore]; exact hl
    have a0 : 0 < a := oreAt_pos h0
    have a9 : a ≤ 99 := by obtain ⟨s, hs, e⟩ := oreAt_mem h0; have := (hor s hs).2; omega
    have hdig : Hid (digB X.ore u.x u.y = true) := by unfold Hid; rw [digB_at, h0]; rfl
    have l0 : ∀ m, (Instr.lookup 68 (.map (some X.mo)) (.complex .f64 (flI u.x) (flI u.y)) false).run Tryd.prog (w.drewN m) = .ok (.int .i64 a) (w.drewN m) := fun m => by
      have := (ha.rep.ore.same (w' := w.drewN m) rfl).lookup u.x u.y bx bY
      rw [hl] at this
      exact this
    have hz0 : (a == 0) = false := beq_eq_false_iff_ne.2 (by omega)
    have HL := hidOf hl
    clear ha ho hl h0 hor
    by_cases hcg : u.cargo < 9
    · have HS : Hid (digS X.S n k p u = { X.S.setPl n { p with units := p.units.set k { u with cargo := u.cargo + 1 } } with ore := digL u.x u.y X.S.ore }) := by
        unfold Hid digS
        rw [if_pos hcg, show digB X.S.ore u.x u.y = true from hdig.out]
        rfl
      have hcg' : (9 ≤ u.cargo) = False := by simp; omega
      go_enter Tryd.func49, Tryd.ntmps49
      go_wp2_with fail
      go_quiet (fail)
      go_wp2
      have T2 := hidOf (((TurnX.refl HX.out.rep).drewN nq).unit1 HX.out.q HX.out.u HX.out.x 3 { u with cargo := u.cargo + 1 } x (.int .i64 (u.cargo + 1)) rfl rfl HX.out.unit.head HX.out.unit.what)
      obtain ⟨w2, hw2⟩ : ∃ w2, w2 = (w.drewN nq).setCell ⟨x.g, 3, none⟩ (.int .i64 (u.cargo + 1)) := ⟨_, rfl⟩
      rw [← hw2] at T2 ⊢
      clear hw2 c3 d1 d3 fz l0
      have hq2 : (X.setQ n ({ p with units := p.units.set k { u with cargo := u.cargo + 1 } }, { v with us := v.us.set k x })).pls[n]? = some ({ p with units := p.units.set k { u with cargo := u.cargo + 1 } }, { v with us := v.us.set k x }) := set_at HX.out.q
      have A2 : Hid (AtX w2 (X.setQ n ({ p with units := p.units.set k { u with cargo := u.cargo + 1 } }, { v with us := v.us.set k x })) n k { p with units := p.units.set k { u with cargo := u.cargo + 1 } } { v with us := v.us.set k x } { u with cargo := u.cargo + 1 } x) := ⟨hq2, set_at HX.out.u, set_at HX.out.x, T2.out.rep⟩
      clear hq2
      have c3 : w2.cell? ⟨X.b, 4, none⟩ = some (.map (some X.mo)) := T2.out.rep.cellTop rfl
      have d1 : w2.cell? ⟨x.g, 1, none⟩ = some (.complex .f64 (flI u.x) (flI u.y)) := A2.out.unit.cell rfl
      have hm2 := T2.out.rep.ore.drew
      have l0 := hm2.lookup u.x u.y bx bY
      obtain ⟨w3, hup, hm3, hp3⟩ := hm2.update u.x u.y (a - 1) bx bY
      have l0' : (Instr.lookup 68 (.map (some X.mo)) (.complex .f64 (flI u.x) (flI u.y)) false).run Tryd.prog w2.drew = .ok (.int .i64 a) w2.drew := by
        have e : look u.x u.y (X.setQ n ({ p with units := p.units.set k { u with cargo := u.cargo + 1 } }, { v with us := v.us.set k x })).lo = some a := HL.out
        rw [e] at l0
        exact l0
      have hup' : (Instr.mapUpdate 68 (.map (some X.mo)) (.complex .f64 (flI u.x) (flI u.y)) (.int .i64 (a - 1))).run Tryd.prog w2.drew = .ok () w3 := hup
      have HM3 : Hid (MapD w3 X.mo (cput u.x u.y (a - 1) X.co X.lo) (cclock u.x u.y X.lo X.co)) := hm3
      have HP3 := hidOf hp3
      clear l0 hup hm2 hm3 hp3
      by_cases ha1 : a = 1
      · have hz1 : (a - 1 == 0) = true := by simp; omega
        have HA1 := hidOf ha1
        clear ha1
        go_region
        all_goals
          have T3 := hidOf (T2.out.drew.ore1 HP3.out HM3.out)
          have A3 := hidOf (A2.out.ore1 T3.out.rep)
          clear c3 d1 l0' hup'
          have c3 : w3.cell? ⟨X.b, 4, none⟩ = some (.map (some X.mo)) := T3.out.rep.cellTop rfl
          have d1 : w3.cell? ⟨x.g, 1, none⟩ = some (.complex .f64 (flI u.x) (flI u.y)) := A3.out.unit.cell rfl
          have l3 : ∀ m, (Instr.lookup 68 (.map (some X.mo)) (.complex .f64 (flI u.x) (flI u.y)) false).run Tryd.prog (w3.drewN m) = .ok (.int .i64 (a - 1)) (w3.drewN m) := fun m => by
            have := (HM3.out.same (w' := w3.drewN m) rfl).lookup u.x u.y bx bY
            rw [look_put] at this
            simpa using this
          go_wp2_with fail
          go_quiet (fail)
          go_wp2_with fail
          have HM4 : Hid _ := hidOf (HM3.out.same (w' := (w3.drewN nq).drew) rfl)
          go_region_law (refine step_delete_c rfl _ _ 68 77 rfl 3 Tryd.underlying68 Tryd.underlying77 X.mo _ _ rfl HM4.out u.x u.y rfl bx bY ?_; intro w4 hm4 hp4)
          all_goals
            go_wp2
            go_end0
            refine ⟨rfl, _, ((T3.out.drewN nq).drew.ore1 hp4 hm4).withOre (digL u.x u.y X.ore), ⟨?_, ?_, oreD_dig HO.out.dist, lotQ HO.out.lot HX.out.q rfl⟩, ?_⟩
            · exact st_same HO.out.st HX.out.q HX.out.u _ _ { u with cargo := u.cargo + 1 } rfl rfl rfl
            · have := HO.out.ore.dig HO.out.dist HX.out.rep.ore.keys HL.out X.co
              rw [if_pos HA1.out] at this
              exact this
            · rw [HS.out]
              simp [XW.withOre, XW.withLo, XW.setQ, XW.S, SWorld.setPl, List.map_set]
      · have hz1 : (a - 1 == 0) = false := beq_eq_false_iff_ne.2 (by omega)
        have HA1 := hidOf ha1
        clear ha1
        go_region
        all_goals
          have T3 := hidOf (T2.out.drew.ore1 HP3.out HM3.out)
          have A3 := hidOf (A2.out.ore1 T3.out.rep)
          clear c3 d1 l0' hup'
          have c3 : w3.cell? ⟨X.b, 4, none⟩ = some (.map (some X.mo)) := T3.out.rep.cellTop rfl
          have d1 : w3.cell? ⟨x.g, 1, none⟩ = some (.complex .f64 (flI u.x) (flI u.y)) := A3.out.unit.cell rfl
          have l3 : ∀ m, (Instr.lookup 68 (.map (some X.mo)) (.complex .f64 (flI u.x) (flI u.y)) false).run Tryd.prog (w3.drewN m) = .ok (.int .i64 (a - 1)) (w3.drewN m) := fun m => by
            have := (HM3.out.same (w' := w3.drewN m) rfl).lookup u.x u.y bx bY
            rw [look_put] at this
            simpa using this
          go_wp2_with fail
          go_quiet (fail)
          go_wp2
          go_end0
          refine ⟨rfl, _, (T3.out.drewN nq).withOre (digL u.x u.y X.ore), ⟨?_, ?_, oreD_dig HO.out.dist, lotQ HO.out.lot HX.out.q rfl⟩, ?_⟩
          · exact st_same HO.out.st HX.out.q HX.out.u _ _ { u with cargo := u.cargo + 1 } rfl rfl rfl
          · have := HO.out.ore.dig HO.out.dist HX.out.rep.ore.keys HL.out X.co
            rw [if_neg HA1.out] at this
            exact this
          · rw [HS.out]
            simp [XW.withOre, XW.withLo, XW.setQ, XW.S, SWorld.setPl, List.map_set]
    · have HS : Hid (digS X.S n k p u = X.S) := by
        unfold Hid digS
        rw [if_neg hcg]
      have hcg' : (9 ≤ u.cargo) = True := by simp; omega
      go_enter Tryd.func49, Tryd.ntmps49
      go_wp2_with fail
      go_quiet (fail)
      go_wp2
      refine bodyPost_ret (results_none rfl _ _ _) rfl ?_
      exact ⟨rfl, X, (TurnX.refl HX.out.rep).drewN _, HO.out, HS.out.symm⟩
end Go.Proofs.YtlafddeoheambaaDoor

/-
  append onto a list of one's own: but for the block that the new list lies in, all is as it was.
-/
namespace Go.Proofs.YtlafddeoheambaaDoor
open Go.RowKit

section
variable {P : Program} {w : World}
theorem append_only (t ty : TypeId) (base : Nat) (e : TypeId) (i : TypeInfo) (z : Value) (size bytes : Nat) (ht : P.underlying t = some (.slice e)) (hi : P.info? e = some i) (hz : i.zero = some z)
    (hsize : i.size = size)
    (v : Value) (n : Nat) (xs : List Value) (hown : w.ownsRow base e size v n xs)
    (ad : Addr) (m c : Nat) (news : List Value) (hl : news.length = m * size) (hnews : ∀ j u, news[j]? = some u → w.cell? (ad.add j) = some u) (h1 : ∀ u ∈ news, u.oneCell' = true)
    (h63 : n + m ≤ maxLen) (hby : i.bytes = bytes) (hbytes : (n + m) * bytes ≤ 140737488355328) {g cap : Nat} {w' : World}
    (hr : (Builtin.append_ #[t, t] ty #[v, .slice (some ad) m c]).run P w = .ok (.slice (some ⟨g, 0, none⟩) (n + m) cap) w') (hg : w.grownBy w' v.ownBlock) (hat : v.ownBlock = some g ∨ g = w.heap.size) : w.grownBy w' (some g) := by
  rcases hat with h | h
  · rw [← h]; exact hg
  · refine ⟨hg.os, hg.tape, hg.output, hg.size, fun k hk hne => ?_⟩
    by_cases e1 : some k = v.ownBlock
    · subst hsize
      subst hby
      have hsmall : n + m ≤ 9223372036854775807 := by simp only [maxLen] at h63; omega
      rcases hown.2 with ⟨rfl, rfl⟩ | ⟨g', cap', cur, rfl, _, hb, hnc, hcm, hcs, _⟩
      · simp [Value.ownBlock] at e1
      · by_cases hroom : n + m ≤ cap'
        · have hfit : n * i.size + news.length ≤ cur.size := by rw [hl, hcs, ← Nat.add_mul]; exact Nat.mul_le_mul_right _ hroom
          have hr2 := run_append_room (P := P) w t ty e i ht hi g' n cap' cur hb ad m c news hl hnews h1 hroom hfit
          rw [hr2] at hr
          injection hr with hr _
          injection hr with hr _ _
          injection hr with hr
          injection hr with hr _ _
          have := (Array.getElem?_eq_some_iff.1 hb).1
          omega
        · have hr2 := run_append_grow (P := P) w t ty e i z ht hi hz ⟨g', 0, none⟩ n cap' xs hown.1 (hown.cells (g := g') rfl) ad m c news hl hnews (by omega) (by omega) (growslice_fits (by omega) hbytes)
          rw [hr2] at hr
          injection hr with _ hr
          rw [← hr]
          exact Below.heap_alloc w.drew _ k hk
    · exact hg.block k hk e1
theorem step_append_only {ops : Array Oper} {o : Oper} {a : Act} {K : Act → World → Prop} {Q : Exit → Act → World → Prop} {E : Prop} (hgd : o.guard = none) (s x : Operand) (t : TypeId)
    (ho : o.op = .call { callee := .builtin .append, args := #[s, x], argTypes := #[t, t] })
    (base : Nat) (e : TypeId) (i : TypeInfo) (z : Value) (size bytes : Nat) (ht : P.underlying t = some (.slice e)) (hi : P.info? e = some i) (hz : i.zero = some z)
    (hsize : i.size = size) (hby : i.bytes = bytes) (hzs : z.cells.size = size) (hsz : 0 < size)
    (v : Value) (n : Nat) (xs : List Value) (hs : a.eval s = v) (hown : w.ownsRow base e size v n xs)
    (ad : Addr) (m c : Nat) (news : List Value) (hx : a.eval x = .slice (some ad) m c) (hl : news.length = m * size) (hnews : ∀ j u, news[j]? = some u → w.cell? (ad.add j) = some u) (h1 : ∀ u ∈ news, u.oneCell' = true)
    (hm : 0 < m) (h63 : n + m ≤ maxLen) (hbytes : (n + m) * bytes ≤ 140737488355328) (hbase : base ≤ w.heap.size) (H : Nat) (hH : w.heap.size = H)
    (h : ∀ g cap w', w'.ownsRow base e size (.slice (some ⟨g, 0, none⟩) (n + m) cap) (n + m) (xs ++ news) → w.grownBy w' v.ownBlock → (v.ownBlock = some g ∨ g = H) → w.grownBy w' (some g) → K (a.put o.dst (.slice (some ⟨g, 0, none⟩) (n + m) cap)) w') :
    if Region.wanted o (yielded ops a.tmps) = true then Oper.wp P o a w K Q else E := by
  have hw : Region.wanted o (yielded ops a.tmps) = true := by simp [Region.wanted, hgd]
  rw [if_pos hw]
  obtain ⟨g, cap, w', hr, h2, h3, h4, h5⟩ := run_append_lies (P := P) w t o.type base e i z size bytes ht hi hz hsize hby hzs hsz v n xs hown ad m c news hl hnews h1 hm h63 hbytes hbase H hH
  have h6 := append_only t o.type base e i z size bytes ht hi hz hsize v n xs hown ad m c news hl hnews h1 h63 hby hbytes hr h3 (by rw [hH]; exact h4)
  unfold Oper.wp execOp
  simp only [ho, resolve, invoke, builtin, Sem.run_bind, Sem.run_pure, Result.andThen_ok, List.map_toArray, List.map_cons, List.map_nil, hs, hx, hr]
  exact h g cap w' h2 h3 h4 h6
end
end Go.Proofs.YtlafddeoheambaaDoor
