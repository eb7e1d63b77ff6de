/-
  The function build of package haze.
-/
import Derived.Test.YtdpmadoccimgcaaT19
set_option linter.unusedVariables false
namespace Go.Proofs.Ytdpmadoccimgcaa
open Go.RowKit

def builtU (u : SUnit) (nm : ByteArray) : SUnit := { name := nm, x := u.x + dxI u.head, y := u.y + dyI u.head, head := u.head, cargo := 0, what := emptyB, arg := emptyB }
def buildS (s : SWorld) (n : Nat) (p : SPlayer) (u : SUnit) (nm : ByteArray) : SWorld :=
  if unitIx p.units nm < 0 ∧ p.units.length < 5 ∧ 50 ≤ p.money - stakedI p.bids emptyB ∧ freeS s (u.x + dxI u.head) (u.y + dyI u.head) = true then
    s.setPl n { p with money := p.money - 50, units := p.units ++ [builtU u nm] } else s

theorem find_none {us : List SUnit} {xs : List XU} {nm : ByteArray} (h : unitIx us nm < 0) : findA us xs nm = none := by unfold findA; rw [if_pos h]
theorem find_some {us : List SUnit} {xs : List XU} {nm : ByteArray} (hl : xs.length = us.length) (h : ¬ unitIx us nm < 0) : ∃ k x, findA us xs nm = some ⟨x.g, 0, none⟩ ∧ unitIx us nm = (k : Nat) ∧ xs[k]? = some x ∧ k < us.length := by
  obtain ⟨k, e, hk⟩ := ixOf_at _ us h
  have e' : unitIx us nm = (k : Nat) := e
  have hk' : k < xs.length := by omega
  refine ⟨k, xs[k], ?_, e', by simp [hk'], hk⟩
  unfold findA
  rw [if_neg h, e']
  simp [hk']
theorem staked_nil : stakedI [] emptyB = 0 := rfl
theorem newCells {w : World} {u : SUnit} {x : XU} (nm : ByteArray) (hh : HeadC u.head x.a x.b) : RepU (w.alloc (.cells (xuCells (builtU u nm) ⟨w.heap.size, x.a, x.b⟩) 87)) (builtU u nm) ⟨w.heap.size, x.a, x.b⟩ :=
  ⟨Go.heap_alloc_new w _, hh, by simp [builtU, emptyB, whatW, Lib.toList_data]⟩

theorem freeV_parts {W H x y : Int} {l : List CE} (h : freeV W H x y l = true) (hW : W ≤ 10) (hH : H ≤ 10) : look x y l = none ∧ (0 ≤ x ∧ x ≤ 9) ∧ (0 ≤ y ∧ y ≤ 9) := by
  unfold freeV at h
  simp only [Bool.and_eq_true] at h
  refine ⟨?_, ?_, ?_⟩
  · have := h.2
    cases hl : look x y l with
    | none => rfl
    | some m => rw [hl] at this; cases this
  · have := h.1.1; simp [inB] at this; omega
  · have := h.1.2; simp [inB] at this; omega
theorem builtCells (u : SUnit) (nm : ByteArray) (x : XU) : xuCells (builtU u nm) x = #[.string nm, .complex .f64 (flI (u.x + dxI u.head)) (flI (u.y + dyI u.head)), .complex .f64 x.a x.b, .int .i64 0, .int .i64 0, .string ⟨#[]⟩, .string ⟨#[]⟩, .int .i64 0] := by
  simp [xuCells, builtU, emptyB, Lib.toList_data, kindW, kindP, kindN]
/-- The unit laid, the money paid: the place is called. -/
theorem buildEnd2 (w : World) (X : XW) (n k : Nat) (p : SPlayer) (v : XV) (u : SUnit) (x : XU) (nm : ByteArray) (ha : AtX w X n k p v u x) (ho : OkX X) (hb : BdX X u) (h2 : 2 ≤ X.pls.length ∧ X.pls.length ≤ 4) (h5 : p.units.length ≤ 5)
    (hF : freeV X.width X.height (u.x + dxI u.head) (u.y + dyI u.head) X.ls = true) (pb pcap : Nat) (hvp : X.vPl = .slice (some ⟨pb, 0, none⟩) X.pls.length pcap)
    (hS : buildS X.S n p u nm = X.S.setPl n { p with money := p.money - 50, units := p.units ++ [builtU u nm] }) (w1 : World) (hb1 : Below w.heap.size w w1) :
    Calls Try.prog 28 #[.pointer (some ⟨X.b, 0, none⟩), .int .i64 n, .pointer (some ⟨w1.heap.size, 0, none⟩)] ((w1.setCell ⟨pb, n * 2, none⟩ (.int .i64 (p.money - 50))).alloc (.cells #[.string nm, .complex .f64 (flI (u.x + dxI u.head)) (flI (u.y + dyI u.head)), .complex .f64 x.a x.b, .int .i64 0, .int .i64 0, .string ⟨#[]⟩, .string ⟨#[]⟩, .int .i64 0] 87)) fun e w' => e = .returned (.tuple #[]) ∧ ∃ X', TurnX w X w' X' ∧ OkX X' ∧ X'.S = buildS X.S n p u nm := by
  have T1 := (TurnX.refl ha.rep).below hb1
  have T2 := T1.money1 ha.q hvp (p.money - 50)
  have hs2 : (w1.setCell ⟨pb, n * 2, none⟩ (.int .i64 (p.money - 50))).heap.size = w1.heap.size := by simp [World.setCell]
  obtain ⟨w2, hw2⟩ : ∃ w2, w2 = w1.setCell ⟨pb, n * 2, none⟩ (.int .i64 (p.money - 50)) := ⟨_, rfl⟩
  rw [← hw2] at T2 hs2 ⊢
  have hb3 : Below w2.heap.size w2 (w2.alloc (.cells (xuCells (builtU u nm) ⟨w2.heap.size, x.a, x.b⟩) 87)) := (Below.refl _ w2).alloc (Nat.le_refl _) _
  have T3 := T2.below hb3
  have hu3 := newCells (w := w2) (u := u) (x := x) nm ha.unit.head
  rw [builtCells] at T3 hu3
  obtain ⟨hl, nx, ny⟩ := freeV_parts hF hb.w.2 hb.h.2
  have hlen := (ha.rep.each n _ ha.q).len
  simp only at hlen
  have hq2 : (X.setQ n ({ p with money := p.money - 50 }, v)).pls[n]? = some ({ p with money := p.money - 50 }, v) := set_at ha.q
  rw [← hs2]
  refine (place_any w _ X (X.setQ n ({ p with money := p.money - 50 }, v)) T3 n { p with money := p.money - 50 } v hq2 (by simpa [XW.setQ] using h2) (builtU u nm) ⟨w2.heap.size, x.a, x.b⟩ hu3 (fun h => by have := T2.rep.lt _ h; exact Nat.lt_irrefl _ this) (by rw [hs2]; exact hb1.size) nx ny (by omega)).mono ?_
  rintro e w' ⟨rfl, val, gr, T4⟩
  refine ⟨rfl, _, T4, ⟨?_, ho.ore, ho.dist⟩, ?_⟩
  · have hst := ho.st.add (posL_at (XS_at ha.q)) hl X.cs
    have e : posL (((X.setQ n ({ p with money := p.money - 50 }, v)).addU n { p with money := p.money - 50 } v (builtU u nm) ⟨w2.heap.size, x.a, x.b⟩ val gr).pls.map (·.1)) = (posL (X.pls.map (·.1))).set n (posP p ++ [(u.x + dxI u.head, u.y + dyI u.head)]) := by
      simp [XW.addU, XW.setQ, List.map_set, posL, posP, builtU]
    show StOK (posL (((X.setQ n ({ p with money := p.money - 50 }, v)).addU n { p with money := p.money - 50 } v (builtU u nm) ⟨w2.heap.size, x.a, x.b⟩ val gr).pls.map (·.1))) _
    rw [e]
    exact hst
  · rw [hS]
    simp [XW.addU, XW.setQ, XW.withLs, XW.S, SWorld.setPl, List.map_set]

set_option maxRecDepth 100000 in
set_option maxHeartbeats 4000000 in
theorem build_any (w : World) (X : XW) (n k : Nat) (p : SPlayer) (v : XV) (u : SUnit) (x : XU) (nm : ByteArray) (ha : AtX w X n k p v u x) (ho : OkX X) (hb : BdX X u) (h2 : 2 ≤ X.pls.length ∧ X.pls.length ≤ 4) (hbi : p.bids = []) (hmo : 0 ≤ p.money ∧ p.money ≤ 1000000000000) (h5 : p.units.length ≤ 5) :
    Calls Try.prog 67 #[.pointer (some ⟨X.b, 0, none⟩), .int .i64 n, .pointer (some ⟨x.g, 0, none⟩), .string nm] w fun e w' => e = .returned (.tuple #[]) ∧ ∃ X', TurnX w X w' X' ∧ OkX X' ∧ X'.S = buildS X.S n p u nm := by
  have HX := hidOf ha
  have HO := hidOf ho
  have HA := hidOf (freeAhead_any w X ha.rep hb.w hb.h u x ha.unit hb.x hb.y)
  obtain ⟨pb, pcap, hvp, hpc, hpm⟩ := ha.rep.plForm h2.1
  unfold maxLen at hpm
  obtain ⟨hi, _⟩ := at_some ha.q
  have hi2 : (n : Int) < X.pls.length := by omega
  have c5 : w.cell? ⟨X.b, 5, none⟩ = some (.slice (some ⟨pb, 0, none⟩) X.pls.length pcap) := by rw [← hvp]; exact ha.rep.cellTop rfl
  obtain ⟨m0, m1⟩ := ha.rep.plCell ha.q hvp
  have fz := ha.rep.plFrozen hvp (n * 2)
  have HFd := hidOf (find_any pb (n * 2) (p, v) nm w m1 (ha.rep.each n _ ha.q))
  have hlen := (ha.rep.each n _ ha.q).len
  simp only at hlen
  obtain ⟨ao, g0, vcap, hv, hvc, hvm, _⟩ := own_rd (ha.rep.each n _ ha.q).row
  simp only at hv hvc
  unfold maxLen at hvm
  rw [hv] at m1
  have HVP := hidOf hvp
  have hst : stakedI p.bids emptyB = 0 := by rw [hbi]; rfl
  by_cases hA : unitIx p.units nm < 0
  · have hfn : findA p.units v.us nm = none := find_none hA
    simp only [hfn] at HFd
    by_cases hB : p.units.length < 5
    · have hB' : decide ((5 : Int) ≤ v.us.length) = false := decide_eq_false (by omega)
      by_cases hC : 50 ≤ p.money
      · have hC' : decide (p.money < 50) = false := decide_eq_false (by omega)
        cases hF : freeV X.width X.height (u.x + dxI u.head) (u.y + dyI u.head) X.ls
        · rw [hF] at HA
          have HS : Hid (buildS X.S n p u nm = X.S) := by
            unfold Hid buildS
            rw [if_neg]
            rintro ⟨_, _, _, h⟩
            rw [← freeV_S HO.out, hF] at h
            cases h
          clear ha ho hF hvp hv
          go_enter Try.func67, Try.ntmps67
          go_wp2_with (first | (go_at_call 33; refine HFd.out.mono ?_; rintro e w' ⟨rfl, rfl⟩) | (go_at_call 75; refine HA.out.mono ?_; rintro e w1 ⟨rfl, hb1⟩))
          refine bodyPost_ret (results_none rfl _ _ _) rfl ?_
          exact ⟨rfl, X, (TurnX.refl HX.out.rep).below hb1, HO.out, HS.out.symm⟩
        · rw [hF] at HA
          have HS : buildS X.S n p u nm = X.S.setPl n { p with money := p.money - 50, units := p.units ++ [builtU u nm] } := by
            unfold buildS
            rw [if_pos]
            exact ⟨hA, hB, by omega, by rw [← freeV_S HO.out, hF]⟩
          have HP := hidOf (buildEnd2 w X n k p v u x nm ha ho hb h2 h5 hF pb pcap hvp HS)
          have hxp : x.g ≠ pb := fun e => by
            have e1 := ha.rep.roles.unit n _ k x ha.q ha.x
            rw [e, ha.rep.roles.pl pb (by simp [hvp, blk_slice])] at e1
            cases e1
          clear ha ho hF hvp hv HS
          go_enter Try.func67, Try.ntmps67
          go_wp2_with (first | (go_at_call 33; refine HFd.out.mono ?_; rintro e w' ⟨rfl, rfl⟩) | (go_at_call 75; refine HA.out.mono ?_; rintro e w1 ⟨rfl, hb1⟩; have T1 := hidOf ((TurnX.refl HX.out.rep).below hb1); have HB1 := hidOf hb1; have k0 : w1.cell? ⟨pb, n * 2, none⟩ = some (.int .i64 p.money) := (T1.out.rep.plCell HX.out.q HVP.out).1; have kz : w1.frozen? ⟨pb, n * 2, none⟩ = false := T1.out.rep.plFrozen HVP.out (n * 2); have k2 : w1.cell? ⟨x.g, 2, none⟩ = some (.complex .f64 x.a x.b) := ((T1.out.rep.each n _ HX.out.q).unit k u x HX.out.u HX.out.x).cell rfl; clear hb1) | (go_at_call 28; refine (HP.out _ HB1.out).mono ?_; rintro e w5 ⟨rfl, h5⟩))
          go_end0
          exact ⟨rfl, h5⟩
      · have hC' : decide (p.money < 50) = true := decide_eq_true (by omega)
        have HS : Hid (buildS X.S n p u nm = X.S) := by
          unfold Hid buildS
          rw [if_neg]
          rintro ⟨_, _, h, _⟩
          omega
        clear ha ho hvp hv hC
        go_enter Try.func67, Try.ntmps67
        go_wp2_with (go_at_call 33; refine HFd.out.mono ?_; rintro e w' ⟨rfl, rfl⟩)
        refine bodyPost_ret (results_none rfl _ _ _) rfl ?_
        exact ⟨rfl, X, TurnX.refl HX.out.rep, HO.out, HS.out.symm⟩
    · have hB' : decide ((5 : Int) ≤ p.units.length) = true := decide_eq_true (by omega)
      have HS : Hid (buildS X.S n p u nm = X.S) := by
        unfold Hid buildS
        rw [if_neg]
        rintro ⟨_, h, _, _⟩
        exact hB h
      clear ha ho hvp hv hB
      go_enter Try.func67, Try.ntmps67
      go_wp2_with (go_at_call 33; refine HFd.out.mono ?_; rintro e w' ⟨rfl, rfl⟩)
      refine bodyPost_ret (results_none rfl _ _ _) rfl ?_
      exact ⟨rfl, X, TurnX.refl HX.out.rep, HO.out, HS.out.symm⟩
  · obtain ⟨j, y, hfn, _⟩ := find_some hlen hA
    simp only [hfn] at HFd
    have HS : Hid (buildS X.S n p u nm = X.S) := by
      unfold Hid buildS
      rw [if_neg]
      rintro ⟨h, _⟩
      exact hA h
    clear ha ho hvp hv hA hfn
    go_enter Try.func67, Try.ntmps67
    go_wp2_with (go_at_call 33; refine HFd.out.mono ?_; rintro e w' ⟨rfl, rfl⟩)
    refine bodyPost_ret (results_none rfl _ _ _) rfl ?_
    exact ⟨rfl, X, TurnX.refl HX.out.rep, HO.out, HS.out.symm⟩
end Go.Proofs.Ytdpmadoccimgcaa

/-
  What the function carryOut of package haze begins with: the order is taken from the unit.
-/
namespace Go.Proofs.Ytdpmadoccimgcaa
open Go.RowKit

/-- What carryOut is called with. -/
structure CarX (w : World) (X : XW) (n k : Nat) (p : SPlayer) (v : XV) (u : SUnit) (x : XU) : Prop where
  a : AtX w X n k p v u x
  o : OkX X
  b : BdX X u
  h2 : 2 ≤ X.pls.length ∧ X.pls.length ≤ 4
  bi : p.bids = []
  mo : 0 ≤ p.money ∧ p.money ≤ 100000000000
  h5 : p.units.length ≤ 5
  ca : 0 ≤ u.cargo ∧ u.cargo ≤ 9
  or : ∀ s ∈ X.ore, 0 ≤ s.amount ∧ s.amount ≤ 99

def bareU (u : SUnit) : SUnit := { u with what := emptyB, arg := emptyB }
def bareP (p : SPlayer) (k : Nat) (u : SUnit) : SPlayer := { p with units := p.units.set k (bareU u) }
def bareV (v : XV) (k : Nat) (x : XU) : XV := { v with us := v.us.set k x }
def bareX (X : XW) (n k : Nat) (p : SPlayer) (v : XV) (u : SUnit) (x : XU) : XW := X.setQ n (bareP p k u, bareV v k x)
def bareW (w : World) (g : Nat) : World := (((w.setCell ⟨g, 4, none⟩ (.int .i64 0)).setCell ⟨g, 5, none⟩ (.string ⟨#[]⟩)).setCell ⟨g, 6, none⟩ (.string ⟨#[]⟩)).setCell ⟨g, 7, none⟩ (.int .i64 0)
theorem bareCells (u : SUnit) (x : XU) : xuCells (bareU u) x = #[.string u.name, .complex .f64 (flI u.x) (flI u.y), .complex .f64 x.a x.b, .int .i64 u.cargo, .int .i64 0, .string ⟨#[]⟩, .string ⟨#[]⟩, .int .i64 0] := by
  simp [xuCells, bareU, emptyB, Lib.toList_data, kindW, kindP, kindN]
theorem bare_far (w : World) (g r : Nat) (h : r ≠ g) : (bareW w g).heap[r]? = w.heap[r]? := by
  unfold bareW
  rw [setCell_far _ _ _ _ r h, setCell_far _ _ _ _ r h, setCell_far _ _ _ _ r h, setCell_far _ _ _ _ r h]
theorem bare_turn {w : World} {X : XW} {n k : Nat} {p : SPlayer} {v : XV} {u : SUnit} {x : XU} (h : AtX w X n k p v u x) : TurnX w X (bareW w x.g) (bareX X n k p v u x) := by
  have hu := h.unit
  have e : (bareW w x.g).heap[x.g]? = some (.cells (xuCells (bareU u) x) 87 (0, 0)) := by
    unfold bareW
    rw [cells_set (cells_set (cells_set (cells_set hu.is))), bareCells]
    rfl
  have hr := h.rep.setU h.q h.u h.x (fun r hr => bare_far w x.g r hr) (bareU u) x rfl ⟨e, hu.head, by simp [bareU, emptyB, whatW, Lib.toList_data]⟩
  have hf := xfoot_setQ X n (p, v) (bareP p k u, bareV v k x) h.q (xvFoot_setU h.x rfl)
  refine ⟨hr, ?_, fun r hr => .inl (by have := hr; unfold bareX at this; rw [hf] at this; exact this), rfl, RowsX.keep h.rep.rows_lt hr (fun j q0 hj => ?_)⟩
  rotate_left
  · by_cases e' : j = n
    · subst e'
      rw [h.q] at hj
      injection hj with hj
      subst hj
      exact ⟨_, set_at h.q, rfl, map_set_same (·.g) v.us k x x h.x rfl⟩
    · exact ⟨q0, by simp [bareX, XW.setQ, Ne.symm e', hj], rfl, rfl⟩
  unfold bareW
  have hg := xfoot_u h.q h.x
  exact ((((Kept.refl _ _).setCell _ _ _ (.inl hg)).setCell _ _ _ (.inl hg)).setCell _ _ _ (.inl hg)).setCell _ _ _ (.inl hg)
theorem bare_at {w w' : World} {X : XW} {n k : Nat} {p : SPlayer} {v : XV} {u : SUnit} {x : XU} (h : AtX w X n k p v u x) (hr : RepX w' (bareX X n k p v u x)) : AtX w' (bareX X n k p v u x) n k (bareP p k u) (bareV v k x) (bareU u) x :=
  ⟨set_at h.q, set_at h.u, set_at h.x, hr⟩
theorem bare_car {w w' : World} {X : XW} {n k : Nat} {p : SPlayer} {v : XV} {u : SUnit} {x : XU} (h : CarX w X n k p v u x) (hr : RepX w' (bareX X n k p v u x)) : CarX w' (bareX X n k p v u x) n k (bareP p k u) (bareV v k x) (bareU u) x :=
  ⟨bare_at h.a hr, ⟨st_same h.o.st h.a.q h.a.u _ _ (bareU u) rfl rfl rfl, h.o.ore, h.o.dist⟩, ⟨h.b.w, h.b.h, h.b.x, h.b.y⟩, by simpa [bareX, XW.setQ] using h.h2, h.bi, h.mo, by simpa [bareP] using h.h5, h.ca, h.or⟩
theorem car_does {w : World} {X : XW} {n k : Nat} {p : SPlayer} {v : XV} {u : SUnit} {x : XU} (h : AtX w X n k p v u x) : doesS X.S n k = actS (bareX X n k p v u x).S n k (bareP p k u) (bareU u) u.what u.arg := by
  unfold doesS
  rw [XS_at h.q]
  simp only [h.u]
  unfold bareX
  rw [XS_setQ]
  rfl
/-- The copy of the order lies behind all. -/
def carW (w : World) (g : Nat) (kd : Int) (arg : ByteArray) : World := (bareW w g).alloc (.cells #[.int .i64 kd, .string ⟨#[]⟩, .string arg, .int .i64 0] 85)
theorem car_turn {w : World} {X : XW} {n k : Nat} {p : SPlayer} {v : XV} {u : SUnit} {x : XU} (h : CarX w X n k p v u x) (kd : Int) : TurnX w X (carW w x.g kd u.arg) (bareX X n k p v u x) ∧ CarX (carW w x.g kd u.arg) (bareX X n k p v u x) n k (bareP p k u) (bareV v k x) (bareU u) x := by
  have t := (bare_turn h.a).below (w2 := carW w x.g kd u.arg) ((Below.refl _ _).alloc (Nat.le_refl _) _)
  exact ⟨t, bare_car h t.rep⟩
end Go.Proofs.Ytdpmadoccimgcaa

/-
  The function carryOut of package haze: a unit without an order.
-/
namespace Go.Proofs.Ytdpmadoccimgcaa
open Go.RowKit

set_option maxRecDepth 100000 in
set_option maxHeartbeats 4000000 in
theorem carry_none (w : World) (X : XW) (n k : Nat) (p : SPlayer) (v : XV) (u : SUnit) (x : XU) (hc : CarX w X n k p v u x) (hk : u.what.toList = []) :
    Calls Try.prog 43 #[.pointer (some ⟨X.b, 0, none⟩), .int .i64 n, .pointer (some ⟨x.g, 0, none⟩)] w fun e w' => e = .returned (.tuple #[]) ∧ ∃ X', TurnX w X w' X' ∧ OkX X' ∧ X'.S = doesS X.S n k := by
  have HD : Hid (doesS X.S n k = (bareX X n k p v u x).S) := by
    unfold Hid
    rw [car_does hc.a]
    simp only [actS, hk]
    rfl
  obtain ⟨pb, pcap, hvp, hpc, hpm⟩ := hc.a.rep.plForm hc.h2.1
  unfold maxLen at hpm
  obtain ⟨hi, _⟩ := at_some hc.a.q
  have hi2 : (n : Int) < X.pls.length := by omega
  have c5 : w.cell? ⟨X.b, 5, none⟩ = some (.slice (some ⟨pb, 0, none⟩) X.pls.length pcap) := by rw [← hvp]; exact hc.a.rep.cellTop rfl
  have hkw : kindW u.what.toList = 0 := by rw [hk]; decide
  have d4 : w.cell? ⟨x.g, 4, none⟩ = some (.int .i64 0) := by rw [← hkw]; exact hc.a.unit.cell rfl
  have d5 : w.cell? ⟨x.g, 5, none⟩ = some (.string ⟨#[]⟩) := hc.a.unit.cell rfl
  have d6 : w.cell? ⟨x.g, 6, none⟩ = some (.string u.arg) := hc.a.unit.cell rfl
  have d7 : w.cell? ⟨x.g, 7, none⟩ = some (.int .i64 0) := hc.a.unit.cell rfl
  have z4 : w.frozen? ⟨x.g, 4, none⟩ = false := hc.a.unit.frozen 4
  have z5 : w.frozen? ⟨x.g, 5, none⟩ = false := hc.a.unit.frozen 5
  have z6 : w.frozen? ⟨x.g, 6, none⟩ = false := hc.a.unit.frozen 6
  have z7 : w.frozen? ⟨x.g, 7, none⟩ = false := hc.a.unit.frozen 7
  have hlx := lt_of_some hc.a.unit.is
  have hlb := lt_of_some hc.a.rep.top
  have nxb := hc.a.ne_b
  have HC := hidOf hc
  have HVP := hidOf hvp
  obtain ⟨ht0, hc0⟩ := car_turn hc 0
  have HT := hidOf ht0
  have HC2 := hidOf hc0

  clear hc hvp ht0 hc0 hkw hk
  go_enter Try.func43, Try.ntmps43
  go_wp2
  go_end0
  exact ⟨rfl, _, HT.out, HC2.out.o, HD.out.symm⟩
end Go.Proofs.Ytdpmadoccimgcaa

/-
  The function carryOut of package haze: go.
-/
namespace Go.Proofs.Ytdpmadoccimgcaa
open Go.RowKit

set_option maxRecDepth 100000 in
set_option maxHeartbeats 4000000 in
theorem carry_go (w : World) (X : XW) (n k : Nat) (p : SPlayer) (v : XV) (u : SUnit) (x : XU) (hc : CarX w X n k p v u x) (hk : u.what.toList = [103, 111]) :
    Calls Try.prog 43 #[.pointer (some ⟨X.b, 0, none⟩), .int .i64 n, .pointer (some ⟨x.g, 0, none⟩)] w fun e w' => e = .returned (.tuple #[]) ∧ ∃ X', TurnX w X w' X' ∧ OkX X' ∧ X'.S = doesS X.S n k := by
  have HD : Hid (doesS X.S n k = moveS (bareX X n k p v u x).S n k (bareP p k u) (bareU u)) := by
    unfold Hid
    rw [car_does hc.a]
    simp only [actS, hk]
    rfl
  obtain ⟨pb, pcap, hvp, hpc, hpm⟩ := hc.a.rep.plForm hc.h2.1
  unfold maxLen at hpm
  obtain ⟨hi, _⟩ := at_some hc.a.q
  have hi2 : (n : Int) < X.pls.length := by omega
  have c5 : w.cell? ⟨X.b, 5, none⟩ = some (.slice (some ⟨pb, 0, none⟩) X.pls.length pcap) := by rw [← hvp]; exact hc.a.rep.cellTop rfl
  have hkw : kindW u.what.toList = 1 := by rw [hk]; decide
  have d4 : w.cell? ⟨x.g, 4, none⟩ = some (.int .i64 1) := by rw [← hkw]; exact hc.a.unit.cell rfl
  have d5 : w.cell? ⟨x.g, 5, none⟩ = some (.string ⟨#[]⟩) := hc.a.unit.cell rfl
  have d6 : w.cell? ⟨x.g, 6, none⟩ = some (.string u.arg) := hc.a.unit.cell rfl
  have d7 : w.cell? ⟨x.g, 7, none⟩ = some (.int .i64 0) := hc.a.unit.cell rfl
  have z4 : w.frozen? ⟨x.g, 4, none⟩ = false := hc.a.unit.frozen 4
  have z5 : w.frozen? ⟨x.g, 5, none⟩ = false := hc.a.unit.frozen 5
  have z6 : w.frozen? ⟨x.g, 6, none⟩ = false := hc.a.unit.frozen 6
  have z7 : w.frozen? ⟨x.g, 7, none⟩ = false := hc.a.unit.frozen 7
  have hlx := lt_of_some hc.a.unit.is
  have hlb := lt_of_some hc.a.rep.top
  have nxb := hc.a.ne_b
  have HC := hidOf hc
  have HVP := hidOf hvp
  obtain ⟨ht0, hc0⟩ := car_turn hc 1
  have HT := hidOf ht0
  have HC2 := hidOf hc0
  have HM := hidOf (move_any _ _ n k _ _ _ x hc0.a hc0.o hc0.b)
  clear hc hvp ht0 hc0 hkw hk
  go_enter Try.func43, Try.ntmps43
  go_wp2_with (go_at_call 62; refine HM.out.mono ?_; rintro e w5 ⟨rfl, h5⟩)
  go_end0
  obtain ⟨X', T', O', S'⟩ := h5
  exact ⟨rfl, X', HT.out.trans T', O', S'.trans HD.out.symm⟩
end Go.Proofs.Ytdpmadoccimgcaa

/-
  The function carryOut of package haze: left.
-/
namespace Go.Proofs.Ytdpmadoccimgcaa
open Go.RowKit

set_option maxRecDepth 100000 in
set_option maxHeartbeats 4000000 in
theorem carry_left (w : World) (X : XW) (n k : Nat) (p : SPlayer) (v : XV) (u : SUnit) (x : XU) (hc : CarX w X n k p v u x) (hk : u.what.toList = [108, 101, 102, 116]) :
    Calls Try.prog 43 #[.pointer (some ⟨X.b, 0, none⟩), .int .i64 n, .pointer (some ⟨x.g, 0, none⟩)] w fun e w' => e = .returned (.tuple #[]) ∧ ∃ X', TurnX w X w' X' ∧ OkX X' ∧ X'.S = doesS X.S n k := by
  have HD : Hid (doesS X.S n k = (bareX X n k p v u x).S.setPl n { bareP p k u with units := (bareP p k u).units.set k { bareU u with head := (u.head + 1) % 4 } }) := by
    unfold Hid
    rw [car_does hc.a]
    simp only [actS, hk]
    rfl
  obtain ⟨pb, pcap, hvp, hpc, hpm⟩ := hc.a.rep.plForm hc.h2.1
  unfold maxLen at hpm
  obtain ⟨hi, _⟩ := at_some hc.a.q
  have hi2 : (n : Int) < X.pls.length := by omega
  have c5 : w.cell? ⟨X.b, 5, none⟩ = some (.slice (some ⟨pb, 0, none⟩) X.pls.length pcap) := by rw [← hvp]; exact hc.a.rep.cellTop rfl
  have hkw : kindW u.what.toList = 2 := by rw [hk]; decide
  have d4 : w.cell? ⟨x.g, 4, none⟩ = some (.int .i64 2) := by rw [← hkw]; exact hc.a.unit.cell rfl
  have d5 : w.cell? ⟨x.g, 5, none⟩ = some (.string ⟨#[]⟩) := hc.a.unit.cell rfl
  have d6 : w.cell? ⟨x.g, 6, none⟩ = some (.string u.arg) := hc.a.unit.cell rfl
  have d7 : w.cell? ⟨x.g, 7, none⟩ = some (.int .i64 0) := hc.a.unit.cell rfl
  have z4 : w.frozen? ⟨x.g, 4, none⟩ = false := hc.a.unit.frozen 4
  have z5 : w.frozen? ⟨x.g, 5, none⟩ = false := hc.a.unit.frozen 5
  have z6 : w.frozen? ⟨x.g, 6, none⟩ = false := hc.a.unit.frozen 6
  have z7 : w.frozen? ⟨x.g, 7, none⟩ = false := hc.a.unit.frozen 7
  have hlx := lt_of_some hc.a.unit.is
  have hlb := lt_of_some hc.a.rep.top
  have nxb := hc.a.ne_b
  have HC := hidOf hc
  have HVP := hidOf hvp
  obtain ⟨ht0, hc0⟩ := car_turn hc 2
  have HT := hidOf ht0
  have HC2 := hidOf hc0
  obtain ⟨w1, hw1⟩ : ∃ w1, w1 = carW w x.g 2 u.arg := ⟨_, rfl⟩
  rw [← hw1] at HT HC2
  unfold carW bareW at hw1
  have HW := hidOf hw1
  clear hw1
  have d2 : w.cell? ⟨x.g, 2, none⟩ = some (.complex .f64 x.a x.b) := hc.a.unit.cell rfl
  have e2 : w1.cell? ⟨x.g, 2, none⟩ = some (.complex .f64 x.a x.b) := HC2.out.a.unit.cell rfl
  have z2 : w1.frozen? ⟨x.g, 2, none⟩ = false := HC2.out.a.unit.frozen 2
  have HH := hidOf (fun wx => left_any u.head x.a x.b wx hc.a.unit.head)
  have hst := run_store_c
  clear hc hvp ht0 hc0 hkw hk
  go_enter Try.func43, Try.ntmps43
  go_wp2_with (go_at_call 63; refine (HH.out _).mono ?_; rintro e w5 ⟨re, im, rfl, hh5, h5⟩; rw [h5, ← HW.out]; clear h5 w5)
  go_end0
  refine ⟨rfl, _, HT.out.unit1 HC2.out.a.q HC2.out.a.u HC2.out.a.x 2 { bareU u with head := (u.head + 1) % 4 } ⟨x.g, re, im⟩ _ rfl rfl hh5 HC2.out.a.unit.what, ⟨st_same HC2.out.o.st HC2.out.a.q HC2.out.a.u _ _ { bareU u with head := (u.head + 1) % 4 } rfl rfl rfl, HC2.out.o.ore, HC2.out.o.dist⟩, ?_⟩
  rw [HD.out, XS_setQ]
end Go.Proofs.Ytdpmadoccimgcaa

/-
  The function carryOut of package haze: right.
-/
namespace Go.Proofs.Ytdpmadoccimgcaa
open Go.RowKit

set_option maxRecDepth 100000 in
set_option maxHeartbeats 4000000 in
theorem carry_right (w : World) (X : XW) (n k : Nat) (p : SPlayer) (v : XV) (u : SUnit) (x : XU) (hc : CarX w X n k p v u x) (hk : u.what.toList = [114, 105, 103, 104, 116]) :
    Calls Try.prog 43 #[.pointer (some ⟨X.b, 0, none⟩), .int .i64 n, .pointer (some ⟨x.g, 0, none⟩)] w fun e w' => e = .returned (.tuple #[]) ∧ ∃ X', TurnX w X w' X' ∧ OkX X' ∧ X'.S = doesS X.S n k := by
  have HD : Hid (doesS X.S n k = (bareX X n k p v u x).S.setPl n { bareP p k u with units := (bareP p k u).units.set k { bareU u with head := (u.head + 3) % 4 } }) := by
    unfold Hid
    rw [car_does hc.a]
    simp only [actS, hk]
    rfl
  obtain ⟨pb, pcap, hvp, hpc, hpm⟩ := hc.a.rep.plForm hc.h2.1
  unfold maxLen at hpm
  obtain ⟨hi, _⟩ := at_some hc.a.q
  have hi2 : (n : Int) < X.pls.length := by omega
  have c5 : w.cell? ⟨X.b, 5, none⟩ = some (.slice (some ⟨pb, 0, none⟩) X.pls.length pcap) := by rw [← hvp]; exact hc.a.rep.cellTop rfl
  have hkw : kindW u.what.toList = 3 := by rw [hk]; decide
  have d4 : w.cell? ⟨x.g, 4, none⟩ = some (.int .i64 3) := by rw [← hkw]; exact hc.a.unit.cell rfl
  have d5 : w.cell? ⟨x.g, 5, none⟩ = some (.string ⟨#[]⟩) := hc.a.unit.cell rfl
  have d6 : w.cell? ⟨x.g, 6, none⟩ = some (.string u.arg) := hc.a.unit.cell rfl
  have d7 : w.cell? ⟨x.g, 7, none⟩ = some (.int .i64 0) := hc.a.unit.cell rfl
  have z4 : w.frozen? ⟨x.g, 4, none⟩ = false := hc.a.unit.frozen 4
  have z5 : w.frozen? ⟨x.g, 5, none⟩ = false := hc.a.unit.frozen 5
  have z6 : w.frozen? ⟨x.g, 6, none⟩ = false := hc.a.unit.frozen 6
  have z7 : w.frozen? ⟨x.g, 7, none⟩ = false := hc.a.unit.frozen 7
  have hlx := lt_of_some hc.a.unit.is
  have hlb := lt_of_some hc.a.rep.top
  have nxb := hc.a.ne_b
  have HC := hidOf hc
  have HVP := hidOf hvp
  obtain ⟨ht0, hc0⟩ := car_turn hc 3
  have HT := hidOf ht0
  have HC2 := hidOf hc0
  obtain ⟨w1, hw1⟩ : ∃ w1, w1 = carW w x.g 3 u.arg := ⟨_, rfl⟩
  rw [← hw1] at HT HC2
  unfold carW bareW at hw1
  have HW := hidOf hw1
  clear hw1
  have d2 : w.cell? ⟨x.g, 2, none⟩ = some (.complex .f64 x.a x.b) := hc.a.unit.cell rfl
  have e2 : w1.cell? ⟨x.g, 2, none⟩ = some (.complex .f64 x.a x.b) := HC2.out.a.unit.cell rfl
  have z2 : w1.frozen? ⟨x.g, 2, none⟩ = false := HC2.out.a.unit.frozen 2
  have HH := hidOf (fun wx => right_any u.head x.a x.b wx hc.a.unit.head)
  have hst := run_store_c
  clear hc hvp ht0 hc0 hkw hk
  go_enter Try.func43, Try.ntmps43
  go_wp2_with (go_at_call 64; refine (HH.out _).mono ?_; rintro e w5 ⟨re, im, rfl, hh5, h5⟩; rw [h5, ← HW.out]; clear h5 w5)
  go_end0
  refine ⟨rfl, _, HT.out.unit1 HC2.out.a.q HC2.out.a.u HC2.out.a.x 2 { bareU u with head := (u.head + 3) % 4 } ⟨x.g, re, im⟩ _ rfl rfl hh5 HC2.out.a.unit.what, ⟨st_same HC2.out.o.st HC2.out.a.q HC2.out.a.u _ _ { bareU u with head := (u.head + 3) % 4 } rfl rfl rfl, HC2.out.o.ore, HC2.out.o.dist⟩, ?_⟩
  rw [HD.out, XS_setQ]
end Go.Proofs.Ytdpmadoccimgcaa

/-
  The function carryOut of package haze: back.
-/
namespace Go.Proofs.Ytdpmadoccimgcaa
open Go.RowKit

set_option maxRecDepth 100000 in
set_option maxHeartbeats 4000000 in
theorem carry_back (w : World) (X : XW) (n k : Nat) (p : SPlayer) (v : XV) (u : SUnit) (x : XU) (hc : CarX w X n k p v u x) (hk : u.what.toList = [98, 97, 99, 107]) :
    Calls Try.prog 43 #[.pointer (some ⟨X.b, 0, none⟩), .int .i64 n, .pointer (some ⟨x.g, 0, none⟩)] w fun e w' => e = .returned (.tuple #[]) ∧ ∃ X', TurnX w X w' X' ∧ OkX X' ∧ X'.S = doesS X.S n k := by
  have HD : Hid (doesS X.S n k = (bareX X n k p v u x).S.setPl n { bareP p k u with units := (bareP p k u).units.set k { bareU u with head := (u.head + 2) % 4 } }) := by
    unfold Hid
    rw [car_does hc.a]
    simp only [actS, hk]
    rfl
  obtain ⟨pb, pcap, hvp, hpc, hpm⟩ := hc.a.rep.plForm hc.h2.1
  unfold maxLen at hpm
  obtain ⟨hi, _⟩ := at_some hc.a.q
  have hi2 : (n : Int) < X.pls.length := by omega
  have c5 : w.cell? ⟨X.b, 5, none⟩ = some (.slice (some ⟨pb, 0, none⟩) X.pls.length pcap) := by rw [← hvp]; exact hc.a.rep.cellTop rfl
  have hkw : kindW u.what.toList = 4 := by rw [hk]; decide
  have d4 : w.cell? ⟨x.g, 4, none⟩ = some (.int .i64 4) := by rw [← hkw]; exact hc.a.unit.cell rfl
  have d5 : w.cell? ⟨x.g, 5, none⟩ = some (.string ⟨#[]⟩) := hc.a.unit.cell rfl
  have d6 : w.cell? ⟨x.g, 6, none⟩ = some (.string u.arg) := hc.a.unit.cell rfl
  have d7 : w.cell? ⟨x.g, 7, none⟩ = some (.int .i64 0) := hc.a.unit.cell rfl
  have z4 : w.frozen? ⟨x.g, 4, none⟩ = false := hc.a.unit.frozen 4
  have z5 : w.frozen? ⟨x.g, 5, none⟩ = false := hc.a.unit.frozen 5
  have z6 : w.frozen? ⟨x.g, 6, none⟩ = false := hc.a.unit.frozen 6
  have z7 : w.frozen? ⟨x.g, 7, none⟩ = false := hc.a.unit.frozen 7
  have hlx := lt_of_some hc.a.unit.is
  have hlb := lt_of_some hc.a.rep.top
  have nxb := hc.a.ne_b
  have HC := hidOf hc
  have HVP := hidOf hvp
  obtain ⟨ht0, hc0⟩ := car_turn hc 4
  have HT := hidOf ht0
  have HC2 := hidOf hc0
  obtain ⟨w1, hw1⟩ : ∃ w1, w1 = carW w x.g 4 u.arg := ⟨_, rfl⟩
  rw [← hw1] at HT HC2
  unfold carW bareW at hw1
  have HW := hidOf hw1
  clear hw1
  have d2 : w.cell? ⟨x.g, 2, none⟩ = some (.complex .f64 x.a x.b) := hc.a.unit.cell rfl
  have e2 : w1.cell? ⟨x.g, 2, none⟩ = some (.complex .f64 x.a x.b) := HC2.out.a.unit.cell rfl
  have z2 : w1.frozen? ⟨x.g, 2, none⟩ = false := HC2.out.a.unit.frozen 2
  have HH := hidOf (fun wx => back_any u.head x.a x.b wx hc.a.unit.head)
  have hst := run_store_c
  clear hc hvp ht0 hc0 hkw hk
  go_enter Try.func43, Try.ntmps43
  go_wp2_with (go_at_call 65; refine (HH.out _).mono ?_; rintro e w5 ⟨re, im, rfl, hh5, h5⟩; rw [h5, ← HW.out]; clear h5 w5)
  go_end0
  refine ⟨rfl, _, HT.out.unit1 HC2.out.a.q HC2.out.a.u HC2.out.a.x 2 { bareU u with head := (u.head + 2) % 4 } ⟨x.g, re, im⟩ _ rfl rfl hh5 HC2.out.a.unit.what, ⟨st_same HC2.out.o.st HC2.out.a.q HC2.out.a.u _ _ { bareU u with head := (u.head + 2) % 4 } rfl rfl rfl, HC2.out.o.ore, HC2.out.o.dist⟩, ?_⟩
  rw [HD.out, XS_setQ]
end Go.Proofs.Ytdpmadoccimgcaa

/-
  The function carryOut of package haze: dig.
-/
namespace Go.Proofs.Ytdpmadoccimgcaa
open Go.RowKit

set_option maxRecDepth 100000 in
set_option maxHeartbeats 4000000 in
theorem carry_dig (w : World) (X : XW) (n k : Nat) (p : SPlayer) (v : XV) (u : SUnit) (x : XU) (hc : CarX w X n k p v u x) (hk : u.what.toList = [100, 105, 103]) :
    Calls Try.prog 43 #[.pointer (some ⟨X.b, 0, none⟩), .int .i64 n, .pointer (some ⟨x.g, 0, none⟩)] w fun e w' => e = .returned (.tuple #[]) ∧ ∃ X', TurnX w X w' X' ∧ OkX X' ∧ X'.S = doesS X.S n k := by
  have HD : Hid (doesS X.S n k = digS (bareX X n k p v u x).S n k (bareP p k u) (bareU u)) := by
    unfold Hid
    rw [car_does hc.a]
    simp only [actS, hk]
    rfl
  obtain ⟨pb, pcap, hvp, hpc, hpm⟩ := hc.a.rep.plForm hc.h2.1
  unfold maxLen at hpm
  obtain ⟨hi, _⟩ := at_some hc.a.q
  have hi2 : (n : Int) < X.pls.length := by omega
  have c5 : w.cell? ⟨X.b, 5, none⟩ = some (.slice (some ⟨pb, 0, none⟩) X.pls.length pcap) := by rw [← hvp]; exact hc.a.rep.cellTop rfl
  have hkw : kindW u.what.toList = 5 := by rw [hk]; decide
  have d4 : w.cell? ⟨x.g, 4, none⟩ = some (.int .i64 5) := by rw [← hkw]; exact hc.a.unit.cell rfl
  have d5 : w.cell? ⟨x.g, 5, none⟩ = some (.string ⟨#[]⟩) := hc.a.unit.cell rfl
  have d6 : w.cell? ⟨x.g, 6, none⟩ = some (.string u.arg) := hc.a.unit.cell rfl
  have d7 : w.cell? ⟨x.g, 7, none⟩ = some (.int .i64 0) := hc.a.unit.cell rfl
  have z4 : w.frozen? ⟨x.g, 4, none⟩ = false := hc.a.unit.frozen 4
  have z5 : w.frozen? ⟨x.g, 5, none⟩ = false := hc.a.unit.frozen 5
  have z6 : w.frozen? ⟨x.g, 6, none⟩ = false := hc.a.unit.frozen 6
  have z7 : w.frozen? ⟨x.g, 7, none⟩ = false := hc.a.unit.frozen 7
  have hlx := lt_of_some hc.a.unit.is
  have hlb := lt_of_some hc.a.rep.top
  have nxb := hc.a.ne_b
  have HC := hidOf hc
  have HVP := hidOf hvp
  obtain ⟨ht0, hc0⟩ := car_turn hc 5
  have HT := hidOf ht0
  have HC2 := hidOf hc0
  have HM := hidOf (xdig_any _ _ n k _ _ _ x hc0.a hc0.o hc0.b hc0.ca hc0.or)
  clear hc hvp ht0 hc0 hkw hk
  go_enter Try.func43, Try.ntmps43
  go_wp2_with (go_at_call 66; refine HM.out.mono ?_; rintro e w5 ⟨rfl, h5⟩)
  go_end0
  obtain ⟨X', T', O', S'⟩ := h5
  exact ⟨rfl, X', HT.out.trans T', O', S'.trans HD.out.symm⟩
end Go.Proofs.Ytdpmadoccimgcaa
