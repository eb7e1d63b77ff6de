/-
  The function carryOut of package haze: sell.
-/
import Derived.Test.YtdpmadoccimgcaaT20
import Derived.Test.YtdpmadoccimgcaaT16
import Derived.Shelf.Lay
import Derived.Shelf.Strconv.Clone
set_option linter.unusedVariables false
namespace Go.Proofs.Ytdpmadoccimgcaa
open Go.RowKit

set_option maxRecDepth 100000 in
set_option maxHeartbeats 4000000 in
theorem carry_sell (w : World) (X : XW) (n k : Nat) (p : SPlayer) (v : XV) (u : SUnit) (x : XU) (hc : CarX w X n k p v u x) (hk : u.what.toList = [115, 101, 108, 108]) :
    Calls Try.prog 43 #[.pointer (some ⟨X.b, 0, none⟩), .int .i64 n, .pointer (some ⟨x.g, 0, none⟩)] w fun e w' => e = .returned (.tuple #[]) ∧ ∃ X', TurnX w X w' X' ∧ OkX X' ∧ X'.S = doesS X.S n k := by
  have HD : Hid (doesS X.S n k = (bareX X n k p v u x).S.setPl n { bareP p k u with money := p.money + 10 * u.cargo, units := (bareP p k u).units.set k { bareU u with cargo := 0 } }) := by
    unfold Hid
    rw [car_does hc.a]
    simp only [actS, hk]
    rfl
  obtain ⟨pb, pcap, hvp, hpc, hpm⟩ := hc.a.rep.plForm hc.h2.1
  unfold maxLen at hpm
  obtain ⟨hi, _⟩ := at_some hc.a.q
  have hi2 : (n : Int) < X.pls.length := by omega
  have c5 : w.cell? ⟨X.b, 5, none⟩ = some (.slice (some ⟨pb, 0, none⟩) X.pls.length pcap) := by rw [← hvp]; exact hc.a.rep.cellTop rfl
  have hkw : kindW u.what.toList = 6 := by rw [hk]; decide
  have d4 : w.cell? ⟨x.g, 4, none⟩ = some (.int .i64 6) := by rw [← hkw]; exact hc.a.unit.cell rfl
  have d5 : w.cell? ⟨x.g, 5, none⟩ = some (.string ⟨#[]⟩) := hc.a.unit.cell rfl
  have d6 : w.cell? ⟨x.g, 6, none⟩ = some (.string u.arg) := hc.a.unit.cell rfl
  have d7 : w.cell? ⟨x.g, 7, none⟩ = some (.int .i64 0) := hc.a.unit.cell rfl
  have z4 : w.frozen? ⟨x.g, 4, none⟩ = false := hc.a.unit.frozen 4
  have z5 : w.frozen? ⟨x.g, 5, none⟩ = false := hc.a.unit.frozen 5
  have z6 : w.frozen? ⟨x.g, 6, none⟩ = false := hc.a.unit.frozen 6
  have z7 : w.frozen? ⟨x.g, 7, none⟩ = false := hc.a.unit.frozen 7
  have hlx := lt_of_some hc.a.unit.is
  have hlb := lt_of_some hc.a.rep.top
  have nxb := hc.a.ne_b
  have HC := hidOf hc
  have HVP := hidOf hvp
  obtain ⟨ht0, hc0⟩ := car_turn hc 6
  have HT := hidOf ht0
  have HC2 := hidOf hc0
  obtain ⟨w1, hw1⟩ : ∃ w1, w1 = carW w x.g 6 u.arg := ⟨_, rfl⟩
  rw [← hw1] at HT HC2
  unfold carW bareW at hw1
  have HW := hidOf hw1
  clear hw1
  have hvp2 : (bareX X n k p v u x).vPl = .slice (some ⟨pb, 0, none⟩) (bareX X n k p v u x).pls.length pcap := by simpa [bareX, XW.setQ] using hvp
  have e3 : w1.cell? ⟨x.g, 3, none⟩ = some (.int .i64 u.cargo) := HC2.out.a.unit.cell rfl
  have z3 : w1.frozen? ⟨x.g, 3, none⟩ = false := HC2.out.a.unit.frozen 3
  have m0 : w1.cell? ⟨pb, n * 2, none⟩ = some (.int .i64 p.money) := (HC2.out.a.rep.plCell HC2.out.a.q hvp2).1
  have fz := HC2.out.a.rep.plFrozen hvp2 (n * 2)
  have ca := hc.ca
  have mo := hc.mo
  have HV2 := hidOf hvp2
  have hxp : x.g ≠ pb := fun e => by
    have e1 := hc.a.rep.roles.unit n _ k x hc.a.q hc.a.x
    rw [e, hc.a.rep.roles.pl pb (by simp [hvp, blk_slice])] at e1
    cases e1
  clear hvp2
  clear hc hvp ht0 hc0 hkw hk
  go_enter Try.func43, Try.ntmps43
  go_wp2
  rw [← HW.out]
  clear d4 d5 d6 d7 z4 z5 z6 z7 c5
  go_region
  all_goals
    go_wp2
    go_end0
    have T1 := HT.out.drew.money1 HC2.out.a.q HV2.out (p.money + 10 * u.cargo)
    have T2 := T1.unit1 (set_at HC2.out.a.q) HC2.out.a.u HC2.out.a.x 3 { bareU u with cargo := 0 } x (.int .i64 0) rfl rfl HC2.out.a.unit.head HC2.out.a.unit.what
    refine ⟨rfl, _, T2, ⟨?_, HC2.out.o.ore, HC2.out.o.dist⟩, ?_⟩
    · have e1 := st_same HC2.out.o.st HC2.out.a.q HC2.out.a.u { bareP p k u with money := p.money + 10 * u.cargo, units := (bareP p k u).units.set k { bareU u with cargo := 0 } } { bareV v k x with us := (bareV v k x).us.set k x } { bareU u with cargo := 0 } rfl rfl rfl
      simpa [XW.setQ] using e1
    · rw [HD.out, XS_setQ, XS_setQ]
      simp [SWorld.setPl]
end Go.Proofs.Ytdpmadoccimgcaa

/-
  The function carryOut of package haze: build.
-/
namespace Go.Proofs.Ytdpmadoccimgcaa
open Go.RowKit

set_option maxRecDepth 100000 in
set_option maxHeartbeats 4000000 in
theorem carry_build (w : World) (X : XW) (n k : Nat) (p : SPlayer) (v : XV) (u : SUnit) (x : XU) (hc : CarX w X n k p v u x) (hk : u.what.toList = [98, 117, 105, 108, 100]) :
    Calls Try.prog 43 #[.pointer (some ⟨X.b, 0, none⟩), .int .i64 n, .pointer (some ⟨x.g, 0, none⟩)] w fun e w' => e = .returned (.tuple #[]) ∧ ∃ X', TurnX w X w' X' ∧ OkX X' ∧ X'.S = doesS X.S n k := by
  have HD : Hid (doesS X.S n k = buildS (bareX X n k p v u x).S n (bareP p k u) (bareU u) u.arg) := by
    unfold Hid
    rw [car_does hc.a]
    simp only [actS, hk]
    rfl
  obtain ⟨pb, pcap, hvp, hpc, hpm⟩ := hc.a.rep.plForm hc.h2.1
  unfold maxLen at hpm
  obtain ⟨hi, _⟩ := at_some hc.a.q
  have hi2 : (n : Int) < X.pls.length := by omega
  have c5 : w.cell? ⟨X.b, 5, none⟩ = some (.slice (some ⟨pb, 0, none⟩) X.pls.length pcap) := by rw [← hvp]; exact hc.a.rep.cellTop rfl
  have hkw : kindW u.what.toList = 7 := by rw [hk]; decide
  have d4 : w.cell? ⟨x.g, 4, none⟩ = some (.int .i64 7) := by rw [← hkw]; exact hc.a.unit.cell rfl
  have d5 : w.cell? ⟨x.g, 5, none⟩ = some (.string ⟨#[]⟩) := hc.a.unit.cell rfl
  have d6 : w.cell? ⟨x.g, 6, none⟩ = some (.string u.arg) := hc.a.unit.cell rfl
  have d7 : w.cell? ⟨x.g, 7, none⟩ = some (.int .i64 0) := hc.a.unit.cell rfl
  have z4 : w.frozen? ⟨x.g, 4, none⟩ = false := hc.a.unit.frozen 4
  have z5 : w.frozen? ⟨x.g, 5, none⟩ = false := hc.a.unit.frozen 5
  have z6 : w.frozen? ⟨x.g, 6, none⟩ = false := hc.a.unit.frozen 6
  have z7 : w.frozen? ⟨x.g, 7, none⟩ = false := hc.a.unit.frozen 7
  have hlx := lt_of_some hc.a.unit.is
  have hlb := lt_of_some hc.a.rep.top
  have nxb := hc.a.ne_b
  have HC := hidOf hc
  have HVP := hidOf hvp
  obtain ⟨ht0, hc0⟩ := car_turn hc 7
  have HT := hidOf ht0
  have HC2 := hidOf hc0
  have HM := hidOf (build_any _ _ n k _ _ _ x u.arg hc0.a hc0.o hc0.b hc0.h2 hc0.bi ⟨hc0.mo.1, by have := hc0.mo.2; omega⟩ hc0.h5)
  clear hc hvp ht0 hc0 hkw hk
  go_enter Try.func43, Try.ntmps43
  go_wp2_with (go_at_call 67; refine HM.out.mono ?_; rintro e w5 ⟨rfl, h5⟩)
  go_end0
  obtain ⟨X', T', O', S'⟩ := h5
  exact ⟨rfl, X', HT.out.trans T', O', S'.trans HD.out.symm⟩
end Go.Proofs.Ytdpmadoccimgcaa

/-
  The function carryOut of package haze: call.
-/
namespace Go.Proofs.Ytdpmadoccimgcaa
open Go.RowKit

set_option maxRecDepth 100000 in
set_option maxHeartbeats 4000000 in
theorem carry_call (w : World) (X : XW) (n k : Nat) (p : SPlayer) (v : XV) (u : SUnit) (x : XU) (hc : CarX w X n k p v u x) (hk : u.what.toList = [99, 97, 108, 108]) :
    Calls Try.prog 43 #[.pointer (some ⟨X.b, 0, none⟩), .int .i64 n, .pointer (some ⟨x.g, 0, none⟩)] w fun e w' => e = .returned (.tuple #[]) ∧ ∃ X', TurnX w X w' X' ∧ OkX X' ∧ X'.S = doesS X.S n k := by
  have HD : Hid (doesS X.S n k = (if unitIx (bareP p k u).units u.arg < 0 then (bareX X n k p v u x).S.setPl n { bareP p k u with units := (bareP p k u).units.set k { bareU u with name := u.arg } } else (bareX X n k p v u x).S)) := by
    unfold Hid
    rw [car_does hc.a]
    simp only [actS, hk]
    rfl
  obtain ⟨pb, pcap, hvp, hpc, hpm⟩ := hc.a.rep.plForm hc.h2.1
  unfold maxLen at hpm
  obtain ⟨hi, _⟩ := at_some hc.a.q
  have hi2 : (n : Int) < X.pls.length := by omega
  have c5 : w.cell? ⟨X.b, 5, none⟩ = some (.slice (some ⟨pb, 0, none⟩) X.pls.length pcap) := by rw [← hvp]; exact hc.a.rep.cellTop rfl
  have hkw : kindW u.what.toList = 8 := by rw [hk]; decide
  have d4 : w.cell? ⟨x.g, 4, none⟩ = some (.int .i64 8) := by rw [← hkw]; exact hc.a.unit.cell rfl
  have d5 : w.cell? ⟨x.g, 5, none⟩ = some (.string ⟨#[]⟩) := hc.a.unit.cell rfl
  have d6 : w.cell? ⟨x.g, 6, none⟩ = some (.string u.arg) := hc.a.unit.cell rfl
  have d7 : w.cell? ⟨x.g, 7, none⟩ = some (.int .i64 0) := hc.a.unit.cell rfl
  have z4 : w.frozen? ⟨x.g, 4, none⟩ = false := hc.a.unit.frozen 4
  have z5 : w.frozen? ⟨x.g, 5, none⟩ = false := hc.a.unit.frozen 5
  have z6 : w.frozen? ⟨x.g, 6, none⟩ = false := hc.a.unit.frozen 6
  have z7 : w.frozen? ⟨x.g, 7, none⟩ = false := hc.a.unit.frozen 7
  have hlx := lt_of_some hc.a.unit.is
  have hlb := lt_of_some hc.a.rep.top
  have nxb := hc.a.ne_b
  have HC := hidOf hc
  have HVP := hidOf hvp
  obtain ⟨ht0, hc0⟩ := car_turn hc 8
  have HT := hidOf ht0
  have HC2 := hidOf hc0
  obtain ⟨w1, hw1⟩ : ∃ w1, w1 = carW w x.g 8 u.arg := ⟨_, rfl⟩
  rw [← hw1] at HT HC2
  unfold carW bareW at hw1
  have HW := hidOf hw1
  clear hw1
  have hvp2 : (bareX X n k p v u x).vPl = .slice (some ⟨pb, 0, none⟩) (bareX X n k p v u x).pls.length pcap := by simpa [bareX, XW.setQ] using hvp
  have m1 := (HC2.out.a.rep.plCell HC2.out.a.q hvp2).2
  have HFd := hidOf (find_any pb (n * 2) (bareP p k u, bareV v k x) u.arg w1 m1 (HC2.out.a.rep.each n _ HC2.out.a.q))
  have hlen := (HC2.out.a.rep.each n _ HC2.out.a.q).len
  simp only at hlen
  have d0 : w1.cell? ⟨x.g, 0, none⟩ = some (.string u.name) := HC2.out.a.unit.cell rfl
  have z0 : w1.frozen? ⟨x.g, 0, none⟩ = false := HC2.out.a.unit.frozen 0
  have b2 : w1.cell? ⟨w.heap.size, 2, none⟩ = some (.string u.arg) := by
    rw [HW.out]
    have hsz : ((((w.setCell ⟨x.g, 4, none⟩ (.int .i64 0)).setCell ⟨x.g, 5, none⟩ (.string ⟨#[]⟩)).setCell ⟨x.g, 6, none⟩ (.string ⟨#[]⟩)).setCell ⟨x.g, 7, none⟩ (.int .i64 0)).heap.size = w.heap.size := by simp [World.setCell]
    rw [← hsz, cell_of_row _ _ _ _ _ _ (Go.heap_alloc_new _ _)]
    rfl
  clear m1 hvp2
  clear hc hvp ht0 hc0 hkw hk
  go_enter Try.func43, Try.ntmps43
  by_cases hA : unitIx (bareP p k u).units u.arg < 0
  · rw [find_none hA] at HFd
    rw [if_pos hA] at HD
    go_wp2_with fail
    rw [← HW.out]
    refine HFd.out.mono ?_
    rintro e w5 ⟨rfl, h5⟩
    rw [h5]
    clear h5 w5 d4 d5 d6 d7 z4 z5 z6 z7 c5
    go_wp2
    go_end0
    refine ⟨rfl, _, HT.out.unit1 HC2.out.a.q HC2.out.a.u HC2.out.a.x 0 { bareU u with name := u.arg } x _ rfl rfl HC2.out.a.unit.head HC2.out.a.unit.what, ⟨st_same HC2.out.o.st HC2.out.a.q HC2.out.a.u _ _ { bareU u with name := u.arg } rfl rfl rfl, HC2.out.o.ore, HC2.out.o.dist⟩, ?_⟩
    rw [HD.out, XS_setQ]
  · obtain ⟨j, y, hfn, _⟩ := find_some hlen hA
    rw [hfn] at HFd
    rw [if_neg hA] at HD
    go_wp2_with fail
    rw [← HW.out]
    refine HFd.out.mono ?_
    rintro e w5 ⟨rfl, h5⟩
    rw [h5]
    clear h5 w5 d4 d5 d6 d7 z4 z5 z6 z7 c5
    go_wp2
    go_end0
    exact ⟨rfl, _, HT.out, HC2.out.o, HD.out.symm⟩
end Go.Proofs.Ytdpmadoccimgcaa

/-
  The function carryOut of package haze, whole.
-/
namespace Go.Proofs.Ytdpmadoccimgcaa
open Go.RowKit

theorem carry_any (w : World) (X : XW) (n k : Nat) (p : SPlayer) (v : XV) (u : SUnit) (x : XU) (hc : CarX w X n k p v u x) :
    Calls Try.prog 43 #[.pointer (some ⟨X.b, 0, none⟩), .int .i64 n, .pointer (some ⟨x.g, 0, none⟩)] w fun e w' => e = .returned (.tuple #[]) ∧ ∃ X', TurnX w X w' X' ∧ OkX X' ∧ X'.S = doesS X.S n k := by
  have h := hc.a.unit.what
  simp only [whatW, List.mem_cons, List.not_mem_nil, or_false] at h
  rcases h with h | h | h | h | h | h | h | h | h
  · exact carry_none w X n k p v u x hc h
  · exact carry_go w X n k p v u x hc h
  · exact carry_left w X n k p v u x hc h
  · exact carry_right w X n k p v u x hc h
  · exact carry_back w X n k p v u x hc h
  · exact carry_dig w X n k p v u x hc h
  · exact carry_sell w X n k p v u x hc h
  · exact carry_build w X n k p v u x hc h
  · exact carry_call w X n k p v u x hc h

/-- What is known of the program's world between two calls: no lots, no bids, no news. -/
structure AllX (X : XW) (M : Int) : Prop where
  wf : WFS X.S M
  ok : OkX X
  bi : ∀ p ∈ X.S.players, p.bids = [] ∧ p.news = []
  lo : X.lots = []
theorem AllX.car {w : World} {X : XW} {M : Int} (h : AllX X M) (hr : RepX w X) (hM : M ≤ 100000000000) {n k : Nat} {p : SPlayer} {v : XV} {u : SUnit} (hq : X.pls[n]? = some (p, v)) (hu : p.units[k]? = some u) : ∃ x, v.us[k]? = some x ∧ CarX w X n k p v u x := by
  obtain ⟨x, hx, _⟩ := (hr.each n _ hq).unitAt hu
  have hp : p ∈ X.S.players := List.mem_of_getElem? (XS_at hq)
  have pk := h.wf.each p hp
  have uk := pk.each u (List.mem_of_getElem? hu)
  have hw := h.wf.wd
  have hh := h.wf.ht
  have e1 : X.S.width = X.width := rfl
  have e2 : X.S.height = X.height := rfl
  rw [e1] at hw
  rw [e2] at hh
  have ux := uk.x
  have uy := uk.y
  rw [e1] at ux
  rw [e2] at uy
  refine ⟨x, hx, ⟨⟨hq, hu, hx, hr⟩, h.ok, ⟨hw, hh, by omega, by omega⟩, by simpa [XW.S] using h.wf.pl, (h.bi p hp).1, ⟨pk.mo.1, by have := pk.mo.2; omega⟩, pk.un.2, uk.cargo, h.wf.ora⟩⟩
end Go.Proofs.Ytdpmadoccimgcaa

/-
  The function Tick of package haze, where no lot is open.
-/
namespace Go.Proofs.Ytdpmadoccimgcaa
open Go.RowKit

/-- Nobody has a bid or news. -/
def NoB (s : SWorld) : Prop := ∀ (i : Nat) p, s.players[i]? = some p → p.bids = [] ∧ p.news = []
theorem NoB.setPl {s : SWorld} (h : NoB s) (n : Nat) {p : SPlayer} (hp : p.bids = [] ∧ p.news = []) : NoB (s.setPl n p) := by
  intro i q hq
  simp only [SWorld.setPl, List.getElem?_set] at hq
  split at hq
  · split at hq
    · injection hq with hq; subst hq; exact hp
    · cases hq
  · exact h i q hq
theorem NoB.act {s : SWorld} (h : NoB s) (n k : Nat) {p : SPlayer} (u : SUnit) (what arg : ByteArray) (hp : p.bids = [] ∧ p.news = []) : NoB (actS s n k p u what arg) := by
  unfold actS
  simp only
  repeat' split
  all_goals first
    | exact h
    | exact h.setPl n hp
    | (intro i q hq; exact h.setPl n (p := { p with units := p.units.set k { u with cargo := u.cargo + 1 } }) hp i q hq)
theorem NoB.does {s : SWorld} (h : NoB s) (n k : Nat) : NoB (doesS s n k) := by
  unfold doesS
  split
  · exact h
  · rename_i p hp
    split
    · exact h
    · rename_i u hu
      exact (h.setPl n (p := { p with units := p.units.set k { u with what := emptyB, arg := emptyB } }) (h n p hp)).act n k (p := { p with units := p.units.set k { u with what := emptyB, arg := emptyB } }) _ _ _ (h n p hp)
theorem NoB.unitsTo {s : SWorld} (h : NoB s) (n j : Nat) : NoB (unitsTo s n j) := by
  induction j with
  | zero => exact h
  | succ j ih => exact ih.does n j
theorem NoB.clear {s : SWorld} (h : NoB s) (n : Nat) : clearN s n = s := by
  unfold clearN
  split
  · rfl
  · rename_i p hp
    have e : ({ p with news := [] } : SPlayer) = p := by rw [← (h n p hp).2]
    rw [e]
    simp only [SWorld.setPl]
    rw [set_id hp]
theorem NoB.tickTo {s : SWorld} (h : NoB s) (n : Nat) : NoB (tickTo s n) := by
  induction n with
  | zero => exact h
  | succ n ih =>
    show NoB (playerS (Proofs.Ytdpmadoccimgcaa.tickTo s n) n)
    unfold playerS
    rw [ih.clear n]
    exact ih.unitsTo n _
theorem NoB.all {s : SWorld} (h : NoB s) : ∀ p ∈ s.players, p.bids = [] ∧ p.news = [] := by
  intro p hp
  obtain ⟨i, hi⟩ := List.getElem?_of_mem hp
  exact h i p hi
theorem NoB.of {s : SWorld} (h : ∀ p ∈ s.players, p.bids = [] ∧ p.news = []) : NoB s := fun _ p hp => h p (List.mem_of_getElem? hp)

/-- One round of the inner loop. -/
theorem tickRound {wr w1 : World} {X Xr X1 : XW} {n m : Nat} {p : SPlayer} {v : XV} {M : Int} (hr : RepX wr Xr) (hA : AllX Xr M) (hM : M ≤ 10000000000) (hq : Xr.pls[n]? = some (p, v)) {g cap : Nat} (hv : v.v = .slice (some ⟨g, 0, none⟩) v.us.length cap) (hm : m < v.us.length)
    (T : TurnX wr Xr w1 X1) (hS : X1.S = unitsTo Xr.S n m) (hO : OkX X1) (hb : X1.b = X.b) :
    ∃ x, w1.cell? ⟨g, m, none⟩ = some (.pointer (some ⟨x, 0, none⟩)) ∧ Calls Try.prog 43 #[.pointer (some ⟨X.b, 0, none⟩), .int .i64 n, .pointer (some ⟨x, 0, none⟩)] w1 fun e w' => e = .returned (.tuple #[]) ∧ ∃ X', TurnX wr Xr w' X' ∧ OkX X' ∧ X'.S = unitsTo Xr.S n (m + 1) := by
  obtain ⟨q', h1, h2, h3⟩ := T.rows n (p, v) hq
  obtain ⟨r1, _, _⟩ := h3 g (by rw [hv]; rfl)
  have hx : v.us[m]? = some v.us[m] := by simp [hm]
  obtain ⟨x', hx', eg⟩ := h2 m _ hx
  have hc := r1 m _ hx
  refine ⟨x'.g, by rw [hc]; simp [ptrV, eg], ?_⟩
  obtain ⟨p', v'⟩ := q'
  have hlen := (T.rep.each n _ h1).len
  simp only at hlen hx'
  obtain ⟨hml, _⟩ := at_some hx'
  have hu : p'.units[m]? = some (p'.units[m]'(by omega)) := by simp [← hlen, hml]
  have hwf : WFS X1.S (M + 90 * m) := by rw [hS]; exact hA.wf.unitsTo n m
  have hnb : NoB X1.S := by rw [hS]; exact (NoB.of hA.bi).unitsTo n m
  have hlo : X1.lots = [] := by
    have e := (unitsTo_len Xr.S n m).2.2.1
    rw [← hS] at e
    exact e.trans hA.lo
  have hA1 : AllX X1 (M + 90 * m) := ⟨hwf, hO, hnb.all, hlo⟩
  have hm5 : m ≤ 5 := by
    have := hwf.each p' (List.mem_of_getElem? (XS_at h1))
    have := this.un.2
    omega
  obtain ⟨y, hy, hcar⟩ := hA1.car T.rep (by omega) h1 hu
  rw [hx'] at hy
  injection hy with hy
  subst hy
  have := carry_any w1 X1 n m p' v' _ x' hcar
  rw [hb] at this
  refine this.mono ?_
  rintro e w' ⟨rfl, X', T', O', S'⟩
  refine ⟨rfl, X', T.trans T', O', ?_⟩
  rw [S', hS]
  rfl

set_option maxRecDepth 100000 in
set_option maxHeartbeats 1000000 in
theorem xtick_full (w : World) (X : XW) (hr : RepX w X) (hn : X.now = 1000) :
    Calls Try.prog 18 #[.pointer (some ⟨X.b, 0, none⟩)] w fun e w' => e = .returned (.int .i64 6) ∧ w' = w := by
  have c3 : w.cell? ⟨X.b, 0, none⟩ = some (.int .i64 1000) := by rw [← hn]; exact hr.cellTop rfl
  go_enter Try.func18, Try.ntmps18
  go_wp2
  go_ret
  exact ⟨rfl, rfl⟩

set_option maxRecDepth 100000 in
set_option maxHeartbeats 8000000 in
theorem xtick_any (w : World) (X : XW) (M : Int) (hr : RepX w X) (hA : AllX X M) (hM : M ≤ 1000000000) (hn : 0 ≤ X.now ∧ X.now < 1000) :
    Calls Try.prog 18 #[.pointer (some ⟨X.b, 0, none⟩)] w fun e w' => e = .returned (.int .i64 0) ∧ ∃ X', TurnX w X w' X' ∧ OkX X' ∧ X'.S = tickS X.S := by
  obtain ⟨hn0, hn1⟩ := hn
  have c3 : w.cell? ⟨X.b, 0, none⟩ = some (.int .i64 X.now) := hr.cellTop rfl
  have hpl : X.S.players.length = X.pls.length := by simp [XW.S]
  have h4 := hA.wf.pl
  rw [hpl] at h4
  obtain ⟨pb0, pcap0, hvp0, hpc0, hpm0⟩ := hr.plForm h4.1
  have c50 : w.cell? ⟨X.b, 5, none⟩ = some (.slice (some ⟨pb0, 0, none⟩) X.pls.length pcap0) := by rw [← hvp0]; exact hr.cellTop rfl
  have hc0 : (X.now == 1000) = false := beq_eq_false_iff_ne.2 (by omega)
  have HA := hidOf hA
  clear hA hvp0
  go_enter Try.func18, Try.ntmps18
  go_wp2
  go_loopw [3, 5, 16] (fun _ _ i w' => ∃ (k : Nat) (Xk : XW), k ≤ X.pls.length ∧ i = .int .i64 k ∧ TurnX w X w' Xk ∧ OkX Xk ∧ Hid (Xk.S = tickTo X.S k)) (fun _ _ i _ => X.pls.length + 1 - (intOf i).toNat)
  case atStart => exact ⟨0, X, Nat.zero_le _, rfl, TurnX.refl hr, HA.out.ok, rfl⟩
  case round =>
    clear c3 c50
    obtain ⟨k, Xk, hk, rfl, T, O, HS⟩ := hrel
    have hlen : Xk.pls.length = X.pls.length := by
      have e := (tickTo_len X.S k).1
      rw [← HS.out] at e
      simpa [XW.S] using e
    have hb : Xk.b = X.b := T.b
    obtain ⟨pb, pcap, hvp, hpc, hpm⟩ := T.rep.plForm (by omega)
    unfold maxLen at hpm
    have c5 : wr.cell? ⟨X.b, 5, none⟩ = some (.slice (some ⟨pb, 0, none⟩) X.pls.length pcap) := by rw [← hb, ← hlen, ← hvp]; exact T.rep.cellTop rfl
    by_cases hlt : k < X.pls.length
    · obtain ⟨p, v, hq⟩ := xat_of_lt (X := Xk) (n := k) (by omega)
      have hm1 := (T.rep.plCell hq hvp).2
      have hwk : WFS Xk.S (M + 450 * k) := by rw [HS.out]; exact HA.out.wf.tickTo k
      have hnk : NoB Xk.S := by rw [HS.out]; exact (NoB.of HA.out.bi).tickTo k
      have hlk : Xk.lots = [] := by
        have e := (tickTo_len X.S k).2.2
        rw [← HS.out] at e
        exact e.trans HA.out.lo
      have HAk : Hid (AllX Xk (M + 450 * k)) := ⟨hwk, O, hnk.all, hlk⟩
      have hun := (hwk.each p (List.mem_of_getElem? (XS_at hq))).un
      have hle := (T.rep.each k _ hq).len
      simp only at hle
      rcases own_form (T.rep.each k _ hq).row with ⟨_, h0, _⟩ | ⟨ub, ucap, hvu, huc, hum, hub⟩
      · simp only at h0; omega
      simp only at hvu huc
      unfold maxLen at hum
      rw [hvu] at hm1
      have HVU := hidOf hvu
      have HQ := hidOf hq
      have HT := hidOf (show tickTo X.S (k + 1) = playerS (tickTo X.S k) k from rfl)
      have HR := hidOf T.rep
      have HNk := hidOf hnk
      have HLE := hidOf hle
      have HB := hidOf hb
      clear hwk hvp hvu hq hpl hlen hnk hlk hle hb
      go_wp2
      go_loopw [5, 28] (fun _ i w' => ∃ (j : Nat) (Xj : XW), j ≤ v.us.length ∧ i = .int .i64 j ∧ TurnX wr Xk w' Xj ∧ OkX Xj ∧ Hid (Xj.S = unitsTo Xk.S k j)) (fun _ i _ => v.us.length + 1 - (intOf i).toNat)
      case atStart => exact ⟨0, Xk, Nat.zero_le _, rfl, TurnX.refl T.rep, O, rfl⟩
      case round =>
        clear c5 hm1
        obtain ⟨j, Xj, hj, rfl, Tj, Oj, HSj⟩ := hrel
        by_cases hlt1 : j < v.us.length
        · obtain ⟨xg, hcell, HD0⟩ := tickRound (X := X) HR.out HAk.out (by omega) HQ.out HVU.out hlt1 Tj HSj.out Oj (Tj.b.trans HB.out)
          have HD := hidOf HD0
          clear HD0
          go_wp2_with (go_at_call 43; refine HD.out.mono ?_; rintro e w' ⟨rfl, X', T', O', HS'⟩)
          exact ⟨⟨j + 1, X', by omega, by go_num, T', O', HS'⟩, by simp [intOf]; omega⟩
        · have hjm : j = v.us.length := by omega
          have HE : Hid (Xj.S = tickTo X.S (k + 1)) := by
            unfold Hid
            rw [HT.out, HSj.out, ← HS.out]
            unfold playerS
            rw [HNk.out.clear k]
            have e : unitsN Xk.S k = v.us.length := by
              unfold unitsN
              rw [XS_at HQ.out]
              exact HLE.out.symm
            rw [e, hjm]
          clear hjm
          go_wp2
          exact ⟨⟨k + 1, Xj, by omega, by go_num, T.trans Tj, Oj, HE⟩, by simp [intOf]; omega⟩
    · have hkl : k = X.pls.length := by omega
      have e2 := tickTo_len X.S k
      have hnow : Xk.now = X.now := by rw [← HS.out] at e2; exact e2.2.1
      have hlots : Xk.lots = [] := by rw [← HS.out] at e2; rw [← HA.out.lo]; exact e2.2.2
      have c3 : wr.cell? ⟨X.b, 0, none⟩ = some (.int .i64 X.now) := by rw [← hb, ← hnow]; exact T.rep.cellTop rfl
      have fz : wr.frozen? ⟨X.b, 0, none⟩ = false := by rw [← hb]; exact T.rep.frozenTop 0
      have HE : Hid ((Xk.withNow (X.now + 1)).S = tickS X.S) := by
        unfold Hid tickS
        rw [hpl, ← hkl, ← HS.out]
        simp [XW.withNow, XW.S, hlots]
      have HB := hidOf hb
      clear hkl e2 hnow hlots hb hlen hvp c5
      go_wp2
      go_ret
      have T9 := T.now1 (X.now + 1)
      rw [HB.out] at T9
      exact ⟨rfl, _, T9, ⟨O.st, O.ore, O.dist⟩, HE.out⟩
end Go.Proofs.Ytdpmadoccimgcaa

/-
  strings.Clone: the same bytes (by the shelf's contract).
-/
namespace Go.Proofs.Ytdpmadoccimgcaa
shelf_lay LaysM.n316 Nm 316 at Try as Try.laysClone
end Go.Proofs.Ytdpmadoccimgcaa
namespace Go.Proofs.Ytdpmadoccimgcaa
open Go.RowKit

theorem lclone_any (s : ByteArray) (w : World) (hs : s.size ≤ 2000000) :
    Calls Try.prog 60 #[.string s] w fun e w' => e = .returned (.string s) ∧ Below w.heap.size w w' := Any.stringslite_Clone Try.laysClone s w (by omega)

set_option maxRecDepth 100000 in
set_option maxHeartbeats 1000000 in
theorem clone_any (s : ByteArray) (w : World) (hs : s.size ≤ 2000000) :
    Calls Try.prog 34 #[.string s] w fun e w' => e = .returned (.string s) ∧ Below w.heap.size w w' := by
  go_enter Try.func34, Try.ntmps34
  go_wp2_with (go_at_call 60; refine (lclone_any s _ hs).mono ?_; rintro e w1 ⟨rfl, hb⟩)
  go_ret
  exact ⟨rfl, hb⟩
end Go.Proofs.Ytdpmadoccimgcaa
