/-
  The function carryOut of package haze: go.
-/
import Derived.Test.YtlafddeoheambaaGreatDoorT14
import Derived.Test.YtlafddeoheambaaGreatDoorT02
import Derived.Laws.RangeString
import Derived.Test.YtlafddeoheambaaGreatDoorT07
import Derived.Lib.OthersKept
import Derived.WalkSmall
set_option linter.unusedVariables false
namespace Go.Proofs.YtlafddeoheambaaGreatDoor
open Go.RowKit

set_option maxRecDepth 100000 in
set_option maxHeartbeats 4000000 in
theorem carry_go (w : World) (X : XW) (n k : Nat) (p : SPlayer) (v : XV) (u : SUnit) (x : XU) (hc : CarX w X n k p v u x) (hk : u.what.toList = [103, 111]) :
    Calls Tryz.prog 31 #[.pointer (some ⟨X.b, 0, none⟩), .int .i64 n, .pointer (some ⟨x.g, 0, none⟩)] w fun e w' => e = .returned (.tuple #[]) ∧ ∃ X', TurnX w X w' X' ∧ OkX X' ∧ X'.S = doesS X.S n k := by
  have HD : Hid (doesS X.S n k = moveS (bareX X n k p v u x).S n k (bareP p k u) (bareU u)) := by
    unfold Hid
    rw [car_does hc.a]
    simp only [actS, hk]
    rfl
  obtain ⟨pb, pcap, hvp, hpc, hpm⟩ := hc.a.rep.plForm hc.h2.1
  unfold maxLen at hpm
  obtain ⟨hi, _⟩ := at_some hc.a.q
  have hi2 : (n : Int) < X.pls.length := by omega
  have c5 : w.cell? ⟨X.b, 6, none⟩ = some (.slice (some ⟨pb, 0, none⟩) X.pls.length pcap) := by rw [← hvp]; exact hc.a.rep.cellTop rfl
  have hkw : kindW u.what.toList = 1 := by rw [hk]; decide
  have d4 : w.cell? ⟨x.g, 4, none⟩ = some (.int .i64 1) := by rw [← hkw]; exact hc.a.unit.cell rfl
  have d5 : w.cell? ⟨x.g, 5, none⟩ = some (.string ⟨#[]⟩) := hc.a.unit.cell rfl
  have d6 : w.cell? ⟨x.g, 6, none⟩ = some (.string u.arg) := hc.a.unit.cell rfl
  have d7 : w.cell? ⟨x.g, 7, none⟩ = some (.int .i64 0) := hc.a.unit.cell rfl
  have z4 : w.frozen? ⟨x.g, 4, none⟩ = false := hc.a.unit.frozen 4
  have z5 : w.frozen? ⟨x.g, 5, none⟩ = false := hc.a.unit.frozen 5
  have z6 : w.frozen? ⟨x.g, 6, none⟩ = false := hc.a.unit.frozen 6
  have z7 : w.frozen? ⟨x.g, 7, none⟩ = false := hc.a.unit.frozen 7
  have hlx := lt_of_some hc.a.unit.is
  have hlb := lt_of_some hc.a.rep.top
  have nxb := hc.a.ne_b
  have HC := hidOf hc
  have HVP := hidOf hvp
  obtain ⟨ht0, hc0⟩ := car_turn hc 1
  have HT := hidOf ht0
  have HC2 := hidOf hc0
  have HM := hidOf (move_any _ _ n k _ _ _ x hc0.a hc0.o hc0.b)
  clear hc hvp ht0 hc0 hkw hk
  go_enter Tryz.func31, Tryz.ntmps31
  go_wp2_with (go_at_call 67; refine HM.out.mono ?_; rintro e w5 ⟨rfl, h5⟩)
  go_end0
  obtain ⟨X', T', O', S'⟩ := h5
  exact ⟨rfl, X', HT.out.trans T', O', S'.trans HD.out.symm⟩
end Go.Proofs.YtlafddeoheambaaGreatDoor

/-
  The function carryOut of package haze: left.
-/
namespace Go.Proofs.YtlafddeoheambaaGreatDoor
open Go.RowKit

set_option maxRecDepth 100000 in
set_option maxHeartbeats 4000000 in
theorem carry_left (w : World) (X : XW) (n k : Nat) (p : SPlayer) (v : XV) (u : SUnit) (x : XU) (hc : CarX w X n k p v u x) (hk : u.what.toList = [108, 101, 102, 116]) :
    Calls Tryz.prog 31 #[.pointer (some ⟨X.b, 0, none⟩), .int .i64 n, .pointer (some ⟨x.g, 0, none⟩)] w fun e w' => e = .returned (.tuple #[]) ∧ ∃ X', TurnX w X w' X' ∧ OkX X' ∧ X'.S = doesS X.S n k := by
  have HD : Hid (doesS X.S n k = (bareX X n k p v u x).S.setPl n { bareP p k u with units := (bareP p k u).units.set k { bareU u with head := (u.head + 1) % 4 } }) := by
    unfold Hid
    rw [car_does hc.a]
    simp only [actS, hk]
    rfl
  obtain ⟨pb, pcap, hvp, hpc, hpm⟩ := hc.a.rep.plForm hc.h2.1
  unfold maxLen at hpm
  obtain ⟨hi, _⟩ := at_some hc.a.q
  have hi2 : (n : Int) < X.pls.length := by omega
  have c5 : w.cell? ⟨X.b, 6, none⟩ = some (.slice (some ⟨pb, 0, none⟩) X.pls.length pcap) := by rw [← hvp]; exact hc.a.rep.cellTop rfl
  have hkw : kindW u.what.toList = 2 := by rw [hk]; decide
  have d4 : w.cell? ⟨x.g, 4, none⟩ = some (.int .i64 2) := by rw [← hkw]; exact hc.a.unit.cell rfl
  have d5 : w.cell? ⟨x.g, 5, none⟩ = some (.string ⟨#[]⟩) := hc.a.unit.cell rfl
  have d6 : w.cell? ⟨x.g, 6, none⟩ = some (.string u.arg) := hc.a.unit.cell rfl
  have d7 : w.cell? ⟨x.g, 7, none⟩ = some (.int .i64 0) := hc.a.unit.cell rfl
  have z4 : w.frozen? ⟨x.g, 4, none⟩ = false := hc.a.unit.frozen 4
  have z5 : w.frozen? ⟨x.g, 5, none⟩ = false := hc.a.unit.frozen 5
  have z6 : w.frozen? ⟨x.g, 6, none⟩ = false := hc.a.unit.frozen 6
  have z7 : w.frozen? ⟨x.g, 7, none⟩ = false := hc.a.unit.frozen 7
  have hlx := lt_of_some hc.a.unit.is
  have hlb := lt_of_some hc.a.rep.top
  have nxb := hc.a.ne_b
  have HC := hidOf hc
  have HVP := hidOf hvp
  obtain ⟨ht0, hc0⟩ := car_turn hc 2
  have HT := hidOf ht0
  have HC2 := hidOf hc0
  obtain ⟨w1, hw1⟩ : ∃ w1, w1 = carW w x.g 2 u.arg := ⟨_, rfl⟩
  rw [← hw1] at HT HC2
  unfold carW bareW at hw1
  have HW := hidOf hw1
  clear hw1
  have d2 : w.cell? ⟨x.g, 2, none⟩ = some (.complex .f64 x.a x.b) := hc.a.unit.cell rfl
  have e2 : w1.cell? ⟨x.g, 2, none⟩ = some (.complex .f64 x.a x.b) := HC2.out.a.unit.cell rfl
  have z2 : w1.frozen? ⟨x.g, 2, none⟩ = false := HC2.out.a.unit.frozen 2
  have HH := hidOf (fun wx => left_any u.head x.a x.b wx hc.a.unit.head)
  have hst := run_store_c
  clear hc hvp ht0 hc0 hkw hk
  go_enter Tryz.func31, Tryz.ntmps31
  go_wp2_with (go_at_call 68; refine (HH.out _).mono ?_; rintro e w5 ⟨re, im, rfl, hh5, h5⟩; rw [h5, ← HW.out]; clear h5 w5)
  go_end0
  refine ⟨rfl, _, HT.out.unit1 HC2.out.a.q HC2.out.a.u HC2.out.a.x 2 { bareU u with head := (u.head + 1) % 4 } ⟨x.g, re, im⟩ _ rfl rfl hh5 HC2.out.a.unit.what, ⟨st_same HC2.out.o.st HC2.out.a.q HC2.out.a.u _ _ { bareU u with head := (u.head + 1) % 4 } rfl rfl rfl, HC2.out.o.ore, HC2.out.o.dist, lotQ HC2.out.o.lot HC2.out.a.q rfl⟩, ?_⟩
  rw [HD.out, XS_setQ]
end Go.Proofs.YtlafddeoheambaaGreatDoor

/-
  The function carryOut of package haze: right.
-/
namespace Go.Proofs.YtlafddeoheambaaGreatDoor
open Go.RowKit

set_option maxRecDepth 100000 in
set_option maxHeartbeats 4000000 in
theorem carry_right (w : World) (X : XW) (n k : Nat) (p : SPlayer) (v : XV) (u : SUnit) (x : XU) (hc : CarX w X n k p v u x) (hk : u.what.toList = [114, 105, 103, 104, 116]) :
    Calls Tryz.prog 31 #[.pointer (some ⟨X.b, 0, none⟩), .int .i64 n, .pointer (some ⟨x.g, 0, none⟩)] w fun e w' => e = .returned (.tuple #[]) ∧ ∃ X', TurnX w X w' X' ∧ OkX X' ∧ X'.S = doesS X.S n k := by
  have HD : Hid (doesS X.S n k = (bareX X n k p v u x).S.setPl n { bareP p k u with units := (bareP p k u).units.set k { bareU u with head := (u.head + 3) % 4 } }) := by
    unfold Hid
    rw [car_does hc.a]
    simp only [actS, hk]
    rfl
  obtain ⟨pb, pcap, hvp, hpc, hpm⟩ := hc.a.rep.plForm hc.h2.1
  unfold maxLen at hpm
  obtain ⟨hi, _⟩ := at_some hc.a.q
  have hi2 : (n : Int) < X.pls.length := by omega
  have c5 : w.cell? ⟨X.b, 6, none⟩ = some (.slice (some ⟨pb, 0, none⟩) X.pls.length pcap) := by rw [← hvp]; exact hc.a.rep.cellTop rfl
  have hkw : kindW u.what.toList = 3 := by rw [hk]; decide
  have d4 : w.cell? ⟨x.g, 4, none⟩ = some (.int .i64 3) := by rw [← hkw]; exact hc.a.unit.cell rfl
  have d5 : w.cell? ⟨x.g, 5, none⟩ = some (.string ⟨#[]⟩) := hc.a.unit.cell rfl
  have d6 : w.cell? ⟨x.g, 6, none⟩ = some (.string u.arg) := hc.a.unit.cell rfl
  have d7 : w.cell? ⟨x.g, 7, none⟩ = some (.int .i64 0) := hc.a.unit.cell rfl
  have z4 : w.frozen? ⟨x.g, 4, none⟩ = false := hc.a.unit.frozen 4
  have z5 : w.frozen? ⟨x.g, 5, none⟩ = false := hc.a.unit.frozen 5
  have z6 : w.frozen? ⟨x.g, 6, none⟩ = false := hc.a.unit.frozen 6
  have z7 : w.frozen? ⟨x.g, 7, none⟩ = false := hc.a.unit.frozen 7
  have hlx := lt_of_some hc.a.unit.is
  have hlb := lt_of_some hc.a.rep.top
  have nxb := hc.a.ne_b
  have HC := hidOf hc
  have HVP := hidOf hvp
  obtain ⟨ht0, hc0⟩ := car_turn hc 3
  have HT := hidOf ht0
  have HC2 := hidOf hc0
  obtain ⟨w1, hw1⟩ : ∃ w1, w1 = carW w x.g 3 u.arg := ⟨_, rfl⟩
  rw [← hw1] at HT HC2
  unfold carW bareW at hw1
  have HW := hidOf hw1
  clear hw1
  have d2 : w.cell? ⟨x.g, 2, none⟩ = some (.complex .f64 x.a x.b) := hc.a.unit.cell rfl
  have e2 : w1.cell? ⟨x.g, 2, none⟩ = some (.complex .f64 x.a x.b) := HC2.out.a.unit.cell rfl
  have z2 : w1.frozen? ⟨x.g, 2, none⟩ = false := HC2.out.a.unit.frozen 2
  have HH := hidOf (fun wx => right_any u.head x.a x.b wx hc.a.unit.head)
  have hst := run_store_c
  clear hc hvp ht0 hc0 hkw hk
  go_enter Tryz.func31, Tryz.ntmps31
  go_wp2_with (go_at_call 69; refine (HH.out _).mono ?_; rintro e w5 ⟨re, im, rfl, hh5, h5⟩; rw [h5, ← HW.out]; clear h5 w5)
  go_end0
  refine ⟨rfl, _, HT.out.unit1 HC2.out.a.q HC2.out.a.u HC2.out.a.x 2 { bareU u with head := (u.head + 3) % 4 } ⟨x.g, re, im⟩ _ rfl rfl hh5 HC2.out.a.unit.what, ⟨st_same HC2.out.o.st HC2.out.a.q HC2.out.a.u _ _ { bareU u with head := (u.head + 3) % 4 } rfl rfl rfl, HC2.out.o.ore, HC2.out.o.dist, lotQ HC2.out.o.lot HC2.out.a.q rfl⟩, ?_⟩
  rw [HD.out, XS_setQ]
end Go.Proofs.YtlafddeoheambaaGreatDoor

/-
  The function carryOut of package haze: back.
-/
namespace Go.Proofs.YtlafddeoheambaaGreatDoor
open Go.RowKit

set_option maxRecDepth 100000 in
set_option maxHeartbeats 4000000 in
theorem carry_back (w : World) (X : XW) (n k : Nat) (p : SPlayer) (v : XV) (u : SUnit) (x : XU) (hc : CarX w X n k p v u x) (hk : u.what.toList = [98, 97, 99, 107]) :
    Calls Tryz.prog 31 #[.pointer (some ⟨X.b, 0, none⟩), .int .i64 n, .pointer (some ⟨x.g, 0, none⟩)] w fun e w' => e = .returned (.tuple #[]) ∧ ∃ X', TurnX w X w' X' ∧ OkX X' ∧ X'.S = doesS X.S n k := by
  have HD : Hid (doesS X.S n k = (bareX X n k p v u x).S.setPl n { bareP p k u with units := (bareP p k u).units.set k { bareU u with head := (u.head + 2) % 4 } }) := by
    unfold Hid
    rw [car_does hc.a]
    simp only [actS, hk]
    rfl
  obtain ⟨pb, pcap, hvp, hpc, hpm⟩ := hc.a.rep.plForm hc.h2.1
  unfold maxLen at hpm
  obtain ⟨hi, _⟩ := at_some hc.a.q
  have hi2 : (n : Int) < X.pls.length := by omega
  have c5 : w.cell? ⟨X.b, 6, none⟩ = some (.slice (some ⟨pb, 0, none⟩) X.pls.length pcap) := by rw [← hvp]; exact hc.a.rep.cellTop rfl
  have hkw : kindW u.what.toList = 4 := by rw [hk]; decide
  have d4 : w.cell? ⟨x.g, 4, none⟩ = some (.int .i64 4) := by rw [← hkw]; exact hc.a.unit.cell rfl
  have d5 : w.cell? ⟨x.g, 5, none⟩ = some (.string ⟨#[]⟩) := hc.a.unit.cell rfl
  have d6 : w.cell? ⟨x.g, 6, none⟩ = some (.string u.arg) := hc.a.unit.cell rfl
  have d7 : w.cell? ⟨x.g, 7, none⟩ = some (.int .i64 0) := hc.a.unit.cell rfl
  have z4 : w.frozen? ⟨x.g, 4, none⟩ = false := hc.a.unit.frozen 4
  have z5 : w.frozen? ⟨x.g, 5, none⟩ = false := hc.a.unit.frozen 5
  have z6 : w.frozen? ⟨x.g, 6, none⟩ = false := hc.a.unit.frozen 6
  have z7 : w.frozen? ⟨x.g, 7, none⟩ = false := hc.a.unit.frozen 7
  have hlx := lt_of_some hc.a.unit.is
  have hlb := lt_of_some hc.a.rep.top
  have nxb := hc.a.ne_b
  have HC := hidOf hc
  have HVP := hidOf hvp
  obtain ⟨ht0, hc0⟩ := car_turn hc 4
  have HT := hidOf ht0
  have HC2 := hidOf hc0
  obtain ⟨w1, hw1⟩ : ∃ w1, w1 = carW w x.g 4 u.arg := ⟨_, rfl⟩
  rw [← hw1] at HT HC2
  unfold carW bareW at hw1
  have HW := hidOf hw1
  clear hw1
  have d2 : w.cell? ⟨x.g, 2, none⟩ = some (.complex .f64 x.a x.b) := hc.a.unit.cell rfl
  have e2 : w1.cell? ⟨x.g, 2, none⟩ = some (.complex .f64 x.a x.b) := HC2.out.a.unit.cell rfl
  have z2 : w1.frozen? ⟨x.g, 2, none⟩ = false := HC2.out.a.unit.frozen 2
  have HH := hidOf (fun wx => back_any u.head x.a x.b wx hc.a.unit.head)
  have hst := run_store_c
  clear hc hvp ht0 hc0 hkw hk
  go_enter Tryz.func31, Tryz.ntmps31
  go_wp2_with (go_at_call 70; refine (HH.out _).mono ?_; rintro e w5 ⟨re, im, rfl, hh5, h5⟩; rw [h5, ← HW.out]; clear h5 w5)
  go_end0
  refine ⟨rfl, _, HT.out.unit1 HC2.out.a.q HC2.out.a.u HC2.out.a.x 2 { bareU u with head := (u.head + 2) % 4 } ⟨x.g, re, im⟩ _ rfl rfl hh5 HC2.out.a.unit.what, ⟨st_same HC2.out.o.st HC2.out.a.q HC2.out.a.u _ _ { bareU u with head := (u.head + 2) % 4 } rfl rfl rfl, HC2.out.o.ore, HC2.out.o.dist, lotQ HC2.out.o.lot HC2.out.a.q rfl⟩, ?_⟩
  rw [HD.out, XS_setQ]
end Go.Proofs.YtlafddeoheambaaGreatDoor

/-
  The function carryOut of package haze: dig.
-/
namespace Go.Proofs.YtlafddeoheambaaGreatDoor
open Go.RowKit

set_option maxRecDepth 100000 in
set_option maxHeartbeats 4000000 in
theorem carry_dig (w : World) (X : XW) (n k : Nat) (p : SPlayer) (v : XV) (u : SUnit) (x : XU) (hc : CarX w X n k p v u x) (hk : u.what.toList = [100, 105, 103]) :
    Calls Tryz.prog 31 #[.pointer (some ⟨X.b, 0, none⟩), .int .i64 n, .pointer (some ⟨x.g, 0, none⟩)] w fun e w' => e = .returned (.tuple #[]) ∧ ∃ X', TurnX w X w' X' ∧ OkX X' ∧ X'.S = doesS X.S n k := by
  have HD : Hid (doesS X.S n k = digS (bareX X n k p v u x).S n k (bareP p k u) (bareU u)) := by
    unfold Hid
    rw [car_does hc.a]
    simp only [actS, hk]
    rfl
  obtain ⟨pb, pcap, hvp, hpc, hpm⟩ := hc.a.rep.plForm hc.h2.1
  unfold maxLen at hpm
  obtain ⟨hi, _⟩ := at_some hc.a.q
  have hi2 : (n : Int) < X.pls.length := by omega
  have c5 : w.cell? ⟨X.b, 6, none⟩ = some (.slice (some ⟨pb, 0, none⟩) X.pls.length pcap) := by rw [← hvp]; exact hc.a.rep.cellTop rfl
  have hkw : kindW u.what.toList = 5 := by rw [hk]; decide
  have d4 : w.cell? ⟨x.g, 4, none⟩ = some (.int .i64 5) := by rw [← hkw]; exact hc.a.unit.cell rfl
  have d5 : w.cell? ⟨x.g, 5, none⟩ = some (.string ⟨#[]⟩) := hc.a.unit.cell rfl
  have d6 : w.cell? ⟨x.g, 6, none⟩ = some (.string u.arg) := hc.a.unit.cell rfl
  have d7 : w.cell? ⟨x.g, 7, none⟩ = some (.int .i64 0) := hc.a.unit.cell rfl
  have z4 : w.frozen? ⟨x.g, 4, none⟩ = false := hc.a.unit.frozen 4
  have z5 : w.frozen? ⟨x.g, 5, none⟩ = false := hc.a.unit.frozen 5
  have z6 : w.frozen? ⟨x.g, 6, none⟩ = false := hc.a.unit.frozen 6
  have z7 : w.frozen? ⟨x.g, 7, none⟩ = false := hc.a.unit.frozen 7
  have hlx := lt_of_some hc.a.unit.is
  have hlb := lt_of_some hc.a.rep.top
  have nxb := hc.a.ne_b
  have HC := hidOf hc
  have HVP := hidOf hvp
  obtain ⟨ht0, hc0⟩ := car_turn hc 5
  have HT := hidOf ht0
  have HC2 := hidOf hc0
  have HM := hidOf (xdig_any _ _ n k _ _ _ x hc0.a hc0.o hc0.b hc0.ca hc0.or)
  clear hc hvp ht0 hc0 hkw hk
  go_enter Tryz.func31, Tryz.ntmps31
  go_wp2_with (go_at_call 71; refine HM.out.mono ?_; rintro e w5 ⟨rfl, h5⟩)
  go_end0
  obtain ⟨X', T', O', S'⟩ := h5
  exact ⟨rfl, X', HT.out.trans T', O', S'.trans HD.out.symm⟩
end Go.Proofs.YtlafddeoheambaaGreatDoor

/-
  The function carryOut of package haze: sell.
-/
namespace Go.Proofs.YtlafddeoheambaaGreatDoor
open Go.RowKit

set_option maxRecDepth 100000 in
set_option maxHeartbeats 4000000 in
theorem carry_sell (w : World) (X : XW) (n k : Nat) (p : SPlayer) (v : XV) (u : SUnit) (x : XU) (hc : CarX w X n k p v u x) (hk : u.what.toList = [115, 101, 108, 108]) :
    Calls Tryz.prog 31 #[.pointer (some ⟨X.b, 0, none⟩), .int .i64 n, .pointer (some ⟨x.g, 0, none⟩)] w fun e w' => e = .returned (.tuple #[]) ∧ ∃ X', TurnX w X w' X' ∧ OkX X' ∧ X'.S = doesS X.S n k := by
  have HD : Hid (doesS X.S n k = (bareX X n k p v u x).S.setPl n { bareP p k u with money := p.money + 10 * u.cargo, units := (bareP p k u).units.set k { bareU u with cargo := 0 } }) := by
    unfold Hid
    rw [car_does hc.a]
    simp only [actS, hk]
    rfl
  obtain ⟨pb, pcap, hvp, hpc, hpm⟩ := hc.a.rep.plForm hc.h2.1
  unfold maxLen at hpm
  obtain ⟨hi, _⟩ := at_some hc.a.q
  have hi2 : (n : Int) < X.pls.length := by omega
  have c5 : w.cell? ⟨X.b, 6, none⟩ = some (.slice (some ⟨pb, 0, none⟩) X.pls.length pcap) := by rw [← hvp]; exact hc.a.rep.cellTop rfl
  have hkw : kindW u.what.toList = 6 := by rw [hk]; decide
  have d4 : w.cell? ⟨x.g, 4, none⟩ = some (.int .i64 6) := by rw [← hkw]; exact hc.a.unit.cell rfl
  have d5 : w.cell? ⟨x.g, 5, none⟩ = some (.string ⟨#[]⟩) := hc.a.unit.cell rfl
  have d6 : w.cell? ⟨x.g, 6, none⟩ = some (.string u.arg) := hc.a.unit.cell rfl
  have d7 : w.cell? ⟨x.g, 7, none⟩ = some (.int .i64 0) := hc.a.unit.cell rfl
  have z4 : w.frozen? ⟨x.g, 4, none⟩ = false := hc.a.unit.frozen 4
  have z5 : w.frozen? ⟨x.g, 5, none⟩ = false := hc.a.unit.frozen 5
  have z6 : w.frozen? ⟨x.g, 6, none⟩ = false := hc.a.unit.frozen 6
  have z7 : w.frozen? ⟨x.g, 7, none⟩ = false := hc.a.unit.frozen 7
  have hlx := lt_of_some hc.a.unit.is
  have hlb := lt_of_some hc.a.rep.top
  have nxb := hc.a.ne_b
  have HC := hidOf hc
  have HVP := hidOf hvp
  obtain ⟨ht0, hc0⟩ := car_turn hc 6
  have HT := hidOf ht0
  have HC2 := hidOf hc0
  obtain ⟨w1, hw1⟩ : ∃ w1, w1 = carW w x.g 6 u.arg := ⟨_, rfl⟩
  rw [← hw1] at HT HC2
  unfold carW bareW at hw1
  have HW := hidOf hw1
  clear hw1
  have hvp2 : (bareX X n k p v u x).vPl = .slice (some ⟨pb, 0, none⟩) (bareX X n k p v u x).pls.length pcap := by simpa [bareX, XW.setQ] using hvp
  have e3 : w1.cell? ⟨x.g, 3, none⟩ = some (.int .i64 u.cargo) := HC2.out.a.unit.cell rfl
  have z3 : w1.frozen? ⟨x.g, 3, none⟩ = false := HC2.out.a.unit.frozen 3
  have m0 : w1.cell? ⟨pb, n * 2, none⟩ = some (.int .i64 p.money) := (HC2.out.a.rep.plCell HC2.out.a.q hvp2).1
  have fz := HC2.out.a.rep.plFrozen hvp2 (n * 2)
  have ca := hc.ca
  have mo := hc.mo
  have HV2 := hidOf hvp2
  have hxp : x.g ≠ pb := fun e => by
    have e1 := hc.a.rep.roles.unit n _ k x hc.a.q hc.a.x
    rw [e, hc.a.rep.roles.pl pb (by simp [hvp, blk_slice])] at e1
    cases e1
  clear hvp2
  clear hc hvp ht0 hc0 hkw hk
  go_enter Tryz.func31, Tryz.ntmps31
  go_wp2
  rw [← HW.out]
  clear d4 d5 d6 d7 z4 z5 z6 z7 c5
  go_region
  all_goals
    go_wp2
    go_end0
    have T1 := HT.out.drew.money1 HC2.out.a.q HV2.out (p.money + 10 * u.cargo)
    have T2 := T1.unit1 (set_at HC2.out.a.q) HC2.out.a.u HC2.out.a.x 3 { bareU u with cargo := 0 } x (.int .i64 0) rfl rfl HC2.out.a.unit.head HC2.out.a.unit.what
    refine ⟨rfl, _, T2, ⟨?_, HC2.out.o.ore, HC2.out.o.dist, lotQ (p' := { bareP p k u with money := p.money + 10 * u.cargo, units := (bareP p k u).units.set k { bareU u with cargo := 0 } }) (lotQ (p' := { bareP p k u with money := p.money + 10 * u.cargo }) (v' := bareV v k x) HC2.out.o.lot HC2.out.a.q rfl) (set_at HC2.out.a.q) rfl⟩, ?_⟩
    · have e1 := st_same HC2.out.o.st HC2.out.a.q HC2.out.a.u { bareP p k u with money := p.money + 10 * u.cargo, units := (bareP p k u).units.set k { bareU u with cargo := 0 } } { bareV v k x with us := (bareV v k x).us.set k x } { bareU u with cargo := 0 } rfl rfl rfl
      simpa [XW.setQ] using e1
    · rw [HD.out, XS_setQ, XS_setQ]
      simp [SWorld.setPl]
end Go.Proofs.YtlafddeoheambaaGreatDoor

/-
  The function carryOut of package haze: build.
-/
namespace Go.Proofs.YtlafddeoheambaaGreatDoor
open Go.RowKit

set_option maxRecDepth 100000 in
set_option maxHeartbeats 4000000 in
theorem carry_build (w : World) (X : XW) (n k : Nat) (p : SPlayer) (v : XV) (u : SUnit) (x : XU) (hc : CarX w X n k p v u x) (hk : u.what.toList = [98, 117, 105, 108, 100]) :
    Calls Tryz.prog 31 #[.pointer (some ⟨X.b, 0, none⟩), .int .i64 n, .pointer (some ⟨x.g, 0, none⟩)] w fun e w' => e = .returned (.tuple #[]) ∧ ∃ X', TurnX w X w' X' ∧ OkX X' ∧ X'.S = doesS X.S n k := by
  have HD : Hid (doesS X.S n k = buildS (bareX X n k p v u x).S n (bareP p k u) (bareU u) u.arg) := by
    unfold Hid
    rw [car_does hc.a]
    simp only [actS, hk]
    rfl
  obtain ⟨pb, pcap, hvp, hpc, hpm⟩ := hc.a.rep.plForm hc.h2.1
  unfold maxLen at hpm
  obtain ⟨hi, _⟩ := at_some hc.a.q
  have hi2 : (n : Int) < X.pls.length := by omega
  have c5 : w.cell? ⟨X.b, 6, none⟩ = some (.slice (some ⟨pb, 0, none⟩) X.pls.length pcap) := by rw [← hvp]; exact hc.a.rep.cellTop rfl
  have hkw : kindW u.what.toList = 7 := by rw [hk]; decide
  have d4 : w.cell? ⟨x.g, 4, none⟩ = some (.int .i64 7) := by rw [← hkw]; exact hc.a.unit.cell rfl
  have d5 : w.cell? ⟨x.g, 5, none⟩ = some (.string ⟨#[]⟩) := hc.a.unit.cell rfl
  have d6 : w.cell? ⟨x.g, 6, none⟩ = some (.string u.arg) := hc.a.unit.cell rfl
  have d7 : w.cell? ⟨x.g, 7, none⟩ = some (.int .i64 0) := hc.a.unit.cell rfl
  have z4 : w.frozen? ⟨x.g, 4, none⟩ = false := hc.a.unit.frozen 4
  have z5 : w.frozen? ⟨x.g, 5, none⟩ = false := hc.a.unit.frozen 5
  have z6 : w.frozen? ⟨x.g, 6, none⟩ = false := hc.a.unit.frozen 6
  have z7 : w.frozen? ⟨x.g, 7, none⟩ = false := hc.a.unit.frozen 7
  have hlx := lt_of_some hc.a.unit.is
  have hlb := lt_of_some hc.a.rep.top
  have nxb := hc.a.ne_b
  have HC := hidOf hc
  have HVP := hidOf hvp
  obtain ⟨ht0, hc0⟩ := car_turn hc 7
  have HT := hidOf ht0
  have HC2 := hidOf hc0
  have HM := hidOf (build_any _ _ n k _ _ _ x u.arg hc0.a hc0.o hc0.b hc0.h2 hc0.lw ⟨hc0.mo.1, by have := hc0.mo.2; omega⟩ hc0.h5)
  clear hc hvp ht0 hc0 hkw hk
  go_enter Tryz.func31, Tryz.ntmps31
  go_wp2_with (go_at_call 72; refine HM.out.mono ?_; rintro e w5 ⟨rfl, h5⟩)
  go_end0
  obtain ⟨X', T', O', S'⟩ := h5
  exact ⟨rfl, X', HT.out.trans T', O', S'.trans HD.out.symm⟩
end Go.Proofs.YtlafddeoheambaaGreatDoor

/-
  The function carryOut of package haze: call.
-/
namespace Go.Proofs.YtlafddeoheambaaGreatDoor
open Go.RowKit

set_option maxRecDepth 100000 in
set_option maxHeartbeats 4000000 in
theorem carry_call (w : World) (X : XW) (n k : Nat) (p : SPlayer) (v : XV) (u : SUnit) (x : XU) (hc : CarX w X n k p v u x) (hk : u.what.toList = [99, 97, 108, 108]) :
    Calls Tryz.prog 31 #[.pointer (some ⟨X.b, 0, none⟩), .int .i64 n, .pointer (some ⟨x.g, 0, none⟩)] w fun e w' => e = .returned (.tuple #[]) ∧ ∃ X', TurnX w X w' X' ∧ OkX X' ∧ X'.S = doesS X.S n k := by
  have HD : Hid (doesS X.S n k = (if unitIx (bareP p k u).units u.arg < 0 then (bareX X n k p v u x).S.setPl n { bareP p k u with units := (bareP p k u).units.set k { bareU u with name := u.arg } } else (bareX X n k p v u x).S)) := by
    unfold Hid
    rw [car_does hc.a]
    simp only [actS, hk]
    rfl
  obtain ⟨pb, pcap, hvp, hpc, hpm⟩ := hc.a.rep.plForm hc.h2.1
  unfold maxLen at hpm
  obtain ⟨hi, _⟩ := at_some hc.a.q
  have hi2 : (n : Int) < X.pls.length := by omega
  have c5 : w.cell? ⟨X.b, 6, none⟩ = some (.slice (some ⟨pb, 0, none⟩) X.pls.length pcap) := by rw [← hvp]; exact hc.a.rep.cellTop rfl
  have hkw : kindW u.what.toList = 8 := by rw [hk]; decide
  have d4 : w.cell? ⟨x.g, 4, none⟩ = some (.int .i64 8) := by rw [← hkw]; exact hc.a.unit.cell rfl
  have d5 : w.cell? ⟨x.g, 5, none⟩ = some (.string ⟨#[]⟩) := hc.a.unit.cell rfl
  have d6 : w.cell? ⟨x.g, 6, none⟩ = some (.string u.arg) := hc.a.unit.cell rfl
  have d7 : w.cell? ⟨x.g, 7, none⟩ = some (.int .i64 0) := hc.a.unit.cell rfl
  have z4 : w.frozen? ⟨x.g, 4, none⟩ = false := hc.a.unit.frozen 4
  have z5 : w.frozen? ⟨x.g, 5, none⟩ = false := hc.a.unit.frozen 5
  have z6 : w.frozen? ⟨x.g, 6, none⟩ = false := hc.a.unit.frozen 6
  have z7 : w.frozen? ⟨x.g, 7, none⟩ = false := hc.a.unit.frozen 7
  have hlx := lt_of_some hc.a.unit.is
  have hlb := lt_of_some hc.a.rep.top
  have nxb := hc.a.ne_b
  have HC := hidOf hc
  have HVP := hidOf hvp
  obtain ⟨ht0, hc0⟩ := car_turn hc 8
  have HT := hidOf ht0
  have HC2 := hidOf hc0
  obtain ⟨w1, hw1⟩ : ∃ w1, w1 = carW w x.g 8 u.arg := ⟨_, rfl⟩
  rw [← hw1] at HT HC2
  unfold carW bareW at hw1
  have HW := hidOf hw1
  clear hw1
  have hvp2 : (bareX X n k p v u x).vPl = .slice (some ⟨pb, 0, none⟩) (bareX X n k p v u x).pls.length pcap := by simpa [bareX, XW.setQ] using hvp
  have m1 := (HC2.out.a.rep.plCell HC2.out.a.q hvp2).2
  have HFd := hidOf (find_any pb (n * 2) (bareP p k u, bareV v k x) u.arg w1 m1 (HC2.out.a.rep.each n _ HC2.out.a.q))
  have hlen := (HC2.out.a.rep.each n _ HC2.out.a.q).len
  simp only at hlen
  have d0 : w1.cell? ⟨x.g, 0, none⟩ = some (.string u.name) := HC2.out.a.unit.cell rfl
  have z0 : w1.frozen? ⟨x.g, 0, none⟩ = false := HC2.out.a.unit.frozen 0
  have b2 : w1.cell? ⟨w.heap.size, 2, none⟩ = some (.string u.arg) := by
    rw [HW.out]
    have hsz : ((((w.setCell ⟨x.g, 4, none⟩ (.int .i64 0)).setCell ⟨x.g, 5, none⟩ (.string ⟨#[]⟩)).setCell ⟨x.g, 6, none⟩ (.string ⟨#[]⟩)).setCell ⟨x.g, 7, none⟩ (.int .i64 0)).heap.size = w.heap.size := by simp [World.setCell]
    rw [← hsz, cell_of_row _ _ _ _ _ _ (Go.heap_alloc_new _ _)]
    rfl
  clear m1 hvp2
  clear hc hvp ht0 hc0 hkw hk
  go_enter Tryz.func31, Tryz.ntmps31
  by_cases hA : unitIx (bareP p k u).units u.arg < 0
  · rw [find_none hA] at HFd
    rw [if_pos hA] at HD
    go_wp2_with fail
    rw [← HW.out]
    refine HFd.out.mono ?_
    rintro e w5 ⟨rfl, h5⟩
    rw [h5]
    clear h5 w5 d4 d5 d6 d7 z4 z5 z6 z7 c5
    go_wp2
    go_end0
    refine ⟨rfl, _, HT.out.unit1 HC2.out.a.q HC2.out.a.u HC2.out.a.x 0 { bareU u with name := u.arg } x _ rfl rfl HC2.out.a.unit.head HC2.out.a.unit.what, ⟨st_same HC2.out.o.st HC2.out.a.q HC2.out.a.u _ _ { bareU u with name := u.arg } rfl rfl rfl, HC2.out.o.ore, HC2.out.o.dist, lotQ HC2.out.o.lot HC2.out.a.q rfl⟩, ?_⟩
    rw [HD.out, XS_setQ]
  · obtain ⟨j, y, hfn, _⟩ := find_some hlen hA
    rw [hfn] at HFd
    rw [if_neg hA] at HD
    go_wp2_with fail
    rw [← HW.out]
    refine HFd.out.mono ?_
    rintro e w5 ⟨rfl, h5⟩
    rw [h5]
    clear h5 w5 d4 d5 d6 d7 z4 z5 z6 z7 c5
    go_wp2
    go_end0
    exact ⟨rfl, _, HT.out, HC2.out.o, HD.out.symm⟩
end Go.Proofs.YtlafddeoheambaaGreatDoor

/-
  The function carryOut of package haze, whole.
-/
namespace Go.Proofs.YtlafddeoheambaaGreatDoor
open Go.RowKit

theorem carry_any (w : World) (X : XW) (n k : Nat) (p : SPlayer) (v : XV) (u : SUnit) (x : XU) (hc : CarX w X n k p v u x) :
    Calls Tryz.prog 31 #[.pointer (some ⟨X.b, 0, none⟩), .int .i64 n, .pointer (some ⟨x.g, 0, none⟩)] w fun e w' => e = .returned (.tuple #[]) ∧ ∃ X', TurnX w X w' X' ∧ OkX X' ∧ X'.S = doesS X.S n k := by
  have h := hc.a.unit.what
  simp only [whatW, List.mem_cons, List.not_mem_nil, or_false] at h
  rcases h with h | h | h | h | h | h | h | h | h
  · exact carry_none w X n k p v u x hc h
  · exact carry_go w X n k p v u x hc h
  · exact carry_left w X n k p v u x hc h
  · exact carry_right w X n k p v u x hc h
  · exact carry_back w X n k p v u x hc h
  · exact carry_dig w X n k p v u x hc h
  · exact carry_sell w X n k p v u x hc h
  · exact carry_build w X n k p v u x hc h
  · exact carry_call w X n k p v u x hc h

/-- What is known of the program's world between two calls. -/
structure AllX (X : XW) (M : Int) : Prop where
  wf : WFS X.S M
  ok : OkX X
  lw : LotWF X.lots (X.pls.map (·.1.bids)) X.now
theorem AllX.car {w : World} {X : XW} {M : Int} (h : AllX X M) (hr : RepX w X) (hM : M ≤ 100000000000) {n k : Nat} {p : SPlayer} {v : XV} {u : SUnit} (hq : X.pls[n]? = some (p, v)) (hu : p.units[k]? = some u) : ∃ x, v.us[k]? = some x ∧ CarX w X n k p v u x := by
  obtain ⟨x, hx, _⟩ := (hr.each n _ hq).unitAt hu
  have hp : p ∈ X.S.players := List.mem_of_getElem? (XS_at hq)
  have pk := h.wf.each p hp
  have uk := pk.each u (List.mem_of_getElem? hu)
  have hw := h.wf.wd
  have hh := h.wf.ht
  have e1 : X.S.width = X.width := rfl
  have e2 : X.S.height = X.height := rfl
  rw [e1] at hw
  rw [e2] at hh
  have ux := uk.x
  have uy := uk.y
  rw [e1] at ux
  rw [e2] at uy
  refine ⟨x, hx, ⟨⟨hq, hu, hx, hr⟩, h.ok, ⟨hw, hh, by omega, by omega⟩, by simpa [XW.S] using h.wf.pl, h.lw, ⟨pk.mo.1, by have := pk.mo.2; omega⟩, pk.un.2, uk.cargo, h.wf.ora⟩⟩
end Go.Proofs.YtlafddeoheambaaGreatDoor

/-
  What a rune read from a text has to do with its bytes: the letters of names.
-/
namespace Go.Proofs.YtlafddeoheambaaGreatDoor
open Go.RowKit

theorem get_at (s : ByteArray) (pos : Nat) (h : pos < s.size) : s.get! pos = s[pos] := by
  simp [ByteArray.get!, getElem!_pos, h]
  rfl
theorem dec_low (s : ByteArray) (pos : Nat) (h : pos < s.size) (hl : lowB s[pos].toNat = true) : Utf8.decode s pos = (s[pos].toNat, 1) := by
  simp [lowB] at hl
  exact decode_ascii s pos h (by omega)
theorem dec_two (s : ByteArray) (pos : Nat) (h : pos + 1 < s.size) (h0 : s[pos].toNat = 206 ∨ s[pos].toNat = 207) (h1 : 128 ≤ s[pos + 1].toNat ∧ s[pos + 1].toNat ≤ 191) :
    Utf8.decode s pos = ((s[pos].toNat - 192) * 64 + (s[pos + 1].toNat - 128), 2) := by
  have e0 : s.get! (pos + 0) = s[pos] := get_at s pos (by omega)
  have e1 : s.get! (pos + 1) = s[pos + 1] := get_at s (pos + 1) h
  unfold Utf8.decode
  simp only [e0, e1, h]
  have a1 : ¬ s[pos].toNat < 128 := by omega
  have a2 : (s[pos].toNat / 32 == 6) = true := by simp; omega
  have a3 : (s[pos + 1].toNat / 64 == 2) = true := by simp; omega
  have a4 : s[pos].toNat % 32 = s[pos].toNat - 192 := by omega
  have a5 : s[pos + 1].toNat % 64 = s[pos + 1].toNat - 128 := by omega
  simp only [a1, a2, a3, a4, a5, if_false, decide_true, Bool.and_self, if_true]
  rw [if_pos (by omega)]
theorem dec_grk (s : ByteArray) (pos : Nat) (h : pos + 1 < s.size) (hg : grkB s[pos].toNat s[pos + 1].toNat = true) : (Utf8.decode s pos).2 = 2 ∧ letterR (Utf8.decode s pos).1 = true := by
  simp [grkB] at hg
  rw [dec_two s pos h (by omega) (by omega)]
  refine ⟨rfl, ?_⟩
  simp [letterR]
  omega
theorem dec_no (s : ByteArray) (pos : Nat) (h : pos < s.size) (hl : lowB s[pos].toNat = false) (hg : ∀ h' : pos + 1 < s.size, grkB s[pos].toNat s[pos + 1].toNat = false) : letterR (Utf8.decode s pos).1 = false := by
  have e0 : s.get! (pos + 0) = s[pos] := get_at s pos h
  simp [lowB] at hl
  unfold Utf8.decode
  simp only [e0]
  split
  · simp [letterR]; omega
  · split
    · rename_i h1 h2
      simp only [Bool.and_eq_true, decide_eq_true_eq, beq_iff_eq] at h2
      obtain ⟨h2, h3, h4⟩ := h2
      have e1 : s.get! (pos + 1) = s[pos + 1] := get_at s (pos + 1) h3
      rw [e1] at h4 ⊢
      have hg' := hg h3
      simp [grkB] at hg'
      split
      · simp [letterR]; omega
      · simp [letterR, Utf8.runeError]
    · split
      · split
        · rename_i h5
          simp only [Bool.and_eq_true, decide_eq_true_eq, ge_iff_le] at h5
          simp [letterR]; omega
        · simp [letterR, Utf8.runeError]
      · split
        · split
          · rename_i h5
            simp only [Bool.and_eq_true, decide_eq_true_eq, ge_iff_le] at h5
            simp [letterR]; omega
          · simp [letterR, Utf8.runeError]
        · simp [letterR, Utf8.runeError]
theorem runesGo_over {s : ByteArray} {n k : Nat} (hg : runesGo s n k) (hn : 6 < n) : nameB s.data.toList = false := by
  unfold runesGo at hg
  unfold nameB runesN
  rw [hg]
  cases runesL (s.data.toList.drop k) with
  | none => simp
  | some m => simp; omega
theorem name_step {s : ByteArray} {n pos : Nat} (hg : runesGo s n pos) (hp : pos < s.size) :
    (letterR (Utf8.decode s pos).1 = true ∧ runesGo s (n + 1) (pos + (Utf8.decode s pos).2) ∧ pos + (Utf8.decode s pos).2 ≤ s.size ∧ 0 < (Utf8.decode s pos).2) ∨ (letterR (Utf8.decode s pos).1 = false ∧ nameB s.data.toList = false) := by
  cases hl : lowB s[pos].toNat
  · by_cases hp2 : pos + 1 < s.size
    · cases hk : grkB s[pos].toNat s[pos + 1].toNat
      · right
        refine ⟨dec_no s pos hp hl (fun _ => hk), ?_⟩
        unfold nameB
        rw [runesGo_no hg hp hl (fun _ => hk)]
        rfl
      · left
        obtain ⟨h1, h2⟩ := dec_grk s pos hp2 hk
        rw [h1]
        exact ⟨h2, runesGo_grk hg hp2 hl hk, by omega, by omega⟩
    · right
      refine ⟨dec_no s pos hp hl (fun h => absurd h hp2), ?_⟩
      unfold nameB
      rw [runesGo_no hg hp hl (fun h => absurd h hp2)]
      rfl
  · left
    rw [dec_low s pos hp hl]
    refine ⟨?_, runesGo_low hg hp hl, by simp only; omega, by simp⟩
    simp [lowB] at hl
    simp [letterR]
    omega
theorem name_over {s : ByteArray} {n pos : Nat} (hg : runesGo s n pos) (hp : pos < s.size) (hn : 6 < n + 1) : nameB s.data.toList = false := by
  rcases name_step hg hp with ⟨_, h, _⟩ | ⟨_, h⟩
  · exact runesGo_over h hn
  · exact h

end Go.Proofs.YtlafddeoheambaaGreatDoor

/-
  The numbers of orders, read as the program reads them.
-/
namespace Go.Proofs.YtlafddeoheambaaGreatDoor
open Go.RowKit

/-- The number that digits make behind n; -1: it is none. -/
def numP : Nat → List UInt8 → Int
  | n, [] => n
  | n, c :: r => if c.toNat < 48 ∨ 57 < c.toNat then -1 else if 100000 < 10 * n + (c.toNat - 48) then -1 else numP (10 * n + (c.toNat - 48)) r
def badHead (l : List UInt8) : Bool := l == [] || (l.head? == some 48 && !(l == [48]))
def numR (o : Option Nat) : Int := match o with
  | some m => if 100000 < m then -1 else m
  | none => -1

theorem numGo_big (l : List UInt8) : ∀ n i, 100000 < n → numR (numGo n i l) = -1 := by
  induction l with
  | nil => intro n i h; simp [numGo, numR, h]
  | cons c r ih =>
    intro n i h
    simp only [numGo]
    split
    · rfl
    · exact ih _ _ (by omega)
theorem numGo_prog (l : List UInt8) : ∀ n i, 1 ≤ i → 10 ^ (i - 1) ≤ n → n ≤ 100000 → numR (numGo n i l) = numP n l := by
  induction l with
  | nil => intro n i _ _ h; simp [numGo, numR, numP]; omega
  | cons c r ih =>
    intro n i hi hn hm
    simp only [numGo, numP]
    by_cases hc : c.toNat < 48 ∨ 57 < c.toNat
    · rw [if_pos (by omega), if_pos hc]; rfl
    · rw [if_neg hc]
      have hpos : 0 < 10 ^ (i - 1) := Nat.pow_pos (by omega)
      by_cases h5 : 5 < i
      · rw [if_pos (by omega)]
        have : 10 ^ 5 ≤ 10 ^ (i - 1) := Nat.pow_le_pow_right (by omega) (by omega)
        have e5 : (10 : Nat) ^ 5 = 100000 := rfl
        rw [if_pos (by omega)]
        rfl
      · rw [if_neg (by omega)]
        split
        · rename_i hb
          exact numGo_big r _ _ hb
        · rename_i hb
          refine ih _ _ (by omega) ?_ (by omega)
          have e : i + 1 - 1 = (i - 1) + 1 := by omega
          rw [e, Nat.pow_succ]
          omega
theorem numberI_prog (l : List UInt8) : numberI l = if badHead l then -1 else numP 0 l := by
  have e0 : numberI l = if l = [] then -1 else numR (numGo 0 0 l) := by
    unfold numberI numR
    by_cases h : l = []
    · subst h; simp [numGo]
    · simp only [h, false_or, if_false]
      cases numGo 0 0 l <;> rfl
  rw [e0]
  cases l with
  | nil => simp [badHead]
  | cons c r =>
    simp only [reduceCtorEq, if_false]
    by_cases hc : c.toNat < 48 ∨ 57 < c.toNat
    · have h1 : numGo 0 0 (c :: r) = none := by simp only [numGo]; rw [if_pos (by omega)]
      have h2 : numP 0 (c :: r) = -1 := by simp only [numP]; rw [if_pos hc]
      rw [h1, h2]
      simp [numR]
    · have h1 : numGo 0 0 (c :: r) = numGo (c.toNat - 48) 1 r := by
        simp only [numGo]
        rw [if_neg (by omega)]
        simp
      have h2 : numP 0 (c :: r) = numP (c.toNat - 48) r := by
        simp only [numP]
        rw [if_neg hc, if_neg (by omega)]
        simp
      rw [h1, h2]
      by_cases hz : c.toNat = 48
      · have ec : c = 48 := by apply UInt8.toNat.inj; exact hz
        subst ec
        cases r with
        | nil => simp [badHead, numGo, numR, numP]
        | cons d r =>
          have hb : badHead (48 :: d :: r) = true := by simp [badHead]
          rw [hb]
          have h3 : numGo (UInt8.toNat 48 - 48) 1 (d :: r) = none := by simp only [numGo]; rw [if_pos (by right; right; right; exact ⟨by decide, by omega⟩)]
          rw [h3]
          rfl
      · have hb : badHead (c :: r) = false := by
          have : c ≠ 48 := fun e => hz (by rw [e]; rfl)
          simp [badHead, this]
        rw [hb]
        exact numGo_prog r _ 1 (by omega) (by simp; omega) (by omega)
/-- A byte that is no sign of its own makes a rune beyond the digits. -/
theorem dec_hi (s : ByteArray) (pos : Nat) (h : pos < s.size) (hb : 128 ≤ s[pos].toNat) : 128 ≤ (Utf8.decode s pos).1 := by
  have e0 : s.get! (pos + 0) = s[pos] := get_at s pos h
  unfold Utf8.decode
  simp only [e0]
  rw [if_neg (by omega)]
  split
  · split
    · rename_i h5; exact h5
    · simp [Utf8.runeError]
  · split
    · split
      · rename_i h5
        simp only [Bool.and_eq_true, decide_eq_true_eq, ge_iff_le] at h5
        simp only; omega
      · simp [Utf8.runeError]
    · split
      · split
        · rename_i h5
          simp only [Bool.and_eq_true, decide_eq_true_eq, ge_iff_le] at h5
          simp only; omega
        · simp [Utf8.runeError]
      · simp [Utf8.runeError]

end Go.Proofs.YtlafddeoheambaaGreatDoor

/-
  A rune that is no blank has no blank among its bytes; words, cut out of a text.
-/
namespace Go.Proofs.YtlafddeoheambaaGreatDoor
open Go.RowKit

theorem dec_nb (s : ByteArray) (pos : Nat) (h : pos < s.size) (hr : (Utf8.decode s pos).1 ≠ 32) : 0 < (Utf8.decode s pos).2 ∧ pos + (Utf8.decode s pos).2 ≤ s.size ∧ ∀ j (hj : j < (Utf8.decode s pos).2) (hb : pos + j < s.size), s[pos + j].toNat ≠ 32 := by
  have e0 : s.get! (pos + 0) = s[pos] := get_at s pos h
  have first : s[pos].toNat ≠ 32 := by
    intro e
    rw [decode_ascii s pos h (by omega)] at hr
    exact hr e
  have one : ∀ j (hj : j < 1) (hb : pos + j < s.size), s[pos + j].toNat ≠ 32 := by
    intro j hj hb
    have : j = 0 := by omega
    subst this
    exact first
  unfold Utf8.decode
  simp only [e0]
  split
  · exact ⟨by simp, by simp only; omega, one⟩
  · split
    · rename_i h2
      simp only [Bool.and_eq_true, decide_eq_true_eq, beq_iff_eq] at h2
      split
      · refine ⟨by simp, by simp only; omega, fun j hj hb => ?_⟩
        have e1 := get_at s (pos + 1) (by omega)
        rw [e1] at h2
        have hj' : j = 0 ∨ j = 1 := by simp only at hj; omega
        rcases hj' with rfl | rfl
        · exact first
        · omega
      · exact ⟨by simp, by simp only; omega, one⟩
    · split
      · rename_i h2
        simp only [Bool.and_eq_true, decide_eq_true_eq, beq_iff_eq] at h2
        split
        · refine ⟨by simp, by simp only; omega, fun j hj hb => ?_⟩
          have e1 := get_at s (pos + 1) (by omega)
          have e2 := get_at s (pos + 2) (by omega)
          rw [e1, e2] at h2
          have hj' : j = 0 ∨ j = 1 ∨ j = 2 := by simp only at hj; omega
          rcases hj' with rfl | rfl | rfl
          · exact first
          · omega
          · omega
        · exact ⟨by simp, by simp only; omega, one⟩
      · split
        · rename_i h2
          simp only [Bool.and_eq_true, decide_eq_true_eq, beq_iff_eq] at h2
          split
          · refine ⟨by simp, by simp only; omega, fun j hj hb => ?_⟩
            have e1 := get_at s (pos + 1) (by omega)
            have e2 := get_at s (pos + 2) (by omega)
            have e3 := get_at s (pos + 3) (by omega)
            rw [e1, e2, e3] at h2
            have hj' : j = 0 ∨ j = 1 ∨ j = 2 ∨ j = 3 := by simp only at hj; omega
            rcases hj' with rfl | rfl | rfl | rfl
            · exact first
            · omega
            · omega
            · omega
          · exact ⟨by simp, by simp only; omega, one⟩
        · exact ⟨by simp, by simp only; omega, one⟩

/-- The words up to a place: those that are whole, and one that has begun at a place. -/
def SplitAt (s : ByteArray) (pos bg : Nat) (ws : List (List UInt8)) : Prop := bg ≤ pos ∧ splitB (s.data.toList.take pos) = ws ++ [(s.data.toList.take pos).drop bg]
theorem splitAt_start (s : ByteArray) : SplitAt s 0 0 [] := ⟨Nat.le_refl _, by simp [splitB]⟩
theorem splitAt_one {s : ByteArray} {pos bg : Nat} {ws : List (List UInt8)} (h : SplitAt s pos bg ws) (hp : pos < s.size) (hb : s[pos].toNat ≠ 32) : SplitAt s (pos + 1) bg ws := by
  obtain ⟨h1, h2⟩ := h
  refine ⟨by omega, ?_⟩
  have hne : s[pos] ≠ 32 := fun e => hb (by rw [e]; rfl)
  rw [take_snoc s pos hp, splitB_other _ _ hne ws _ h2, List.drop_append_of_le_length (by simp; omega)]
theorem splitAt_more {s : ByteArray} {pos bg : Nat} {ws : List (List UInt8)} (d : Nat) (h : SplitAt s pos bg ws) (hd : pos + d ≤ s.size) (hb : ∀ j (hj : j < d) (hs : pos + j < s.size), s[pos + j].toNat ≠ 32) : SplitAt s (pos + d) bg ws := by
  induction d with
  | zero => exact h
  | succ d ih =>
    have h3 := ih (by omega) (fun j hj hs => hb j (by omega) hs)
    have h4 : pos + d < s.size := by omega
    exact splitAt_one h3 h4 (hb d (by omega) h4)
theorem splitAt_blank {s : ByteArray} {pos bg : Nat} {ws : List (List UInt8)} (h : SplitAt s pos bg ws) (hp : pos < s.size) (hb : s[pos].toNat = 32) : SplitAt s (pos + 1) (pos + 1) (ws ++ [(s.data.toList.take pos).drop bg]) := by
  obtain ⟨h1, h2⟩ := h
  refine ⟨Nat.le_refl _, ?_⟩
  have e : s[pos] = 32 := by apply UInt8.toNat.inj; exact hb
  have hl : (s.data.toList.take pos ++ [32]).length = pos + 1 := by simp; omega
  have hd : (s.data.toList.take pos ++ [32]).drop (pos + 1) = [] := List.drop_of_length_le (by omega)
  rw [take_snoc s pos hp, e, splitB_blank, h2, hd]
theorem extract_word (s : ByteArray) (bg pos : Nat) : s.extract bg pos = bytesOf ((s.data.toList.take pos).drop bg) := by
  apply bytes_ext
  rw [Lib.extract_data, bytesOf_toList, List.drop_take]
theorem split_count {s : ByteArray} {pos bg : Nat} {ws : List (List UInt8)} (h : SplitAt s pos bg ws) : ws.length + 1 ≤ (splitB s.data.toList).length := by
  have key : ∀ (a b : List UInt8), (splitB a).length ≤ (splitB (a ++ b)).length := by
    intro a b
    induction a with
    | nil =>
      have := splitB_ne b
      cases h : splitB b with
      | nil => exact absurd h this
      | cons x t => simp [splitB, h]
    | cons c a ih =>
      simp only [List.cons_append, splitB]
      split
      · simpa using ih
      · cases h1 : splitB a with
        | nil => exact absurd h1 (splitB_ne a)
        | cons x t =>
          cases h2 : splitB (a ++ b) with
          | nil => exact absurd h2 (splitB_ne _)
          | cons y u => rw [h1, h2] at ih; simpa using ih
  have := key (s.data.toList.take pos) (s.data.toList.drop pos)
  rw [List.take_append_drop, h.2] at this
  simpa using this

end Go.Proofs.YtlafddeoheambaaGreatDoor

/-
  The function isName of the program's package orders: it says whether a word is a name.
-/
namespace Go.Proofs.YtlafddeoheambaaGreatDoor
open Go.RowKit


theorem hidOf2 {p : Prop} (h : p) : Hid p := h
set_option maxRecDepth 100000 in
set_option maxHeartbeats 2000000 in
theorem isName_any (s : ByteArray) (w : World) (hs : s.size ≤ 2000000) :
    Calls Tryz.prog 39 #[.string s] w fun e w' => e = .returned (.bool (nameB s.data.toList)) ∧ Below w.heap.size w w' := by
  go_enter Tryz.func39, Tryz.ntmps39
  go_wp2
  go_loopw [3] (fun c wr => ∃ n pos : Nat, c = .int .i64 n ∧ n ≤ 6 ∧ pos ≤ s.size ∧ wr.heap[w.heap.size]? = some (.stringIter s pos) ∧ Hid (Below w.heap.size w wr) ∧ Hid (runesGo s n pos)) (fun _ wr => s.size - wr.iterPos w.heap.size)
  case atStart => exact ⟨0, 0, rfl, by omega, Nat.zero_le _, World.iter_heap w s 0, (Below.refl _ _).alloc (Nat.le_refl _) _, runesGo_start s⟩
  case round =>
    obtain ⟨n, pos, rfl, hn, hpos, hit, hbw, hg⟩ := hrel
    have hpos0 := iterPos_of hit
    by_cases hp : pos < s.size
    · have hnx : ∀ ty, (Instr.next (.pointer (some ⟨w.heap.size, 0, none⟩)) true ty).run Tryz.prog wr = _ := fun ty => Lib.run_next_any_at wr w.heap.size s pos ty hit hp
      have hit2 := Lib.iterAt_heap wr w.heap.size s pos (pos + (Utf8.decode s pos).2) hit
      have hbw2 := hidOf2 (Lib.below_iterAt hbw.out (k := w.heap.size) (Nat.le_refl _) s (pos + (Utf8.decode s pos).2))
      obtain ⟨W1, hW1⟩ : ∃ W1, W1 = wr.iterAt w.heap.size s (pos + (Utf8.decode s pos).2) := ⟨_, rfl⟩
      rw [← hW1] at hnx hit2 hbw2
      have hp1 := iterPos_of hit2
      clear hW1 hit hbw
      by_cases h6 : 6 < n + 1
      · have G := hidOf2 (name_over hg.out hp h6)
        have h6' : (6 : Int) < (n : Int) + 1 := by omega
        clear hg
        go_wp2
        go_ret
        exact ⟨ret_bool G.out.symm, hbw2.out⟩
      · have h6' : (n : Int) + 1 ≤ 6 := by omega
        rcases name_step hg.out hp with ⟨e1, e2, e3, e4⟩ | ⟨e1, e2⟩
        · have E2 := hidOf2 e2
          clear hg e2
          go_wp2_with (go_at_call 81; refine (letter_any _ _).mono ?_; rintro e w' ⟨rfl, h⟩; rw [h, e1]; clear h w')
          exact ⟨⟨n + 1, pos + (Utf8.decode s pos).2, by go_num, by omega, e3, hit2, hbw2, E2⟩, by rw [hp1, hpos0]; omega⟩
        · have G := hidOf2 e2
          clear hg e2
          go_wp2_with (go_at_call 81; refine (letter_any _ _).mono ?_; rintro e w' ⟨rfl, h⟩; rw [h, e1]; clear h w')
          go_ret
          exact ⟨ret_bool G.out.symm, hbw2.out⟩
    · have hnx : ∀ ty, (Instr.next (.pointer (some ⟨w.heap.size, 0, none⟩)) true ty).run Tryz.prog wr = _ := fun ty => Lib.run_next_end_at wr w.heap.size s pos ty hit hp
      have G : Hid (nameB s.data.toList = decide (0 < n)) := by
        unfold Hid nameB
        rw [runesGo_end hg.out (by omega), if_pos hn]
      go_wp2
      go_ret
      exact ⟨ret_bool G.out.symm, hbw.out⟩
end Go.Proofs.YtlafddeoheambaaGreatDoor
