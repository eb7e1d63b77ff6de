/-
  The function Balance of package hazekeep: the walk.
-/
import Derived.Test.YtlafddeoheambaaGreatDoorT40
import Derived.Deep.RegionHeld3
import Derived.BigQuiet
import Derived.Deep.DeepCutAuto
import Derived.Test.YtlafddeoheambaaGreatDoorT33
import Derived.Test.YtlafddeoheambaaGreatDoorRows
import Derived.ProofKit
import Derived.Deep.Slices
import Derived.Deep.Strs
import Derived.ChangeSlices
import Derived.Lib.SmallJoins
set_option linter.unusedVariables false
namespace Go.Proofs.YtlafddeoheambaaGreatDoor
open Go.RowKit

theorem bal_newB : newB 5 5 4 (oreOf (5 - 1)) ((cornersOf (5 - 1)).take 2) = true := by decide
theorem tdivk_bd (a k : Int) (hk : 0 < k) (h1 : -9223372036854775808 ≤ a) (h2 : a ≤ 9223372036854775807) : -9223372036854775808 ≤ a.tdiv k ∧ a.tdiv k ≤ 9223372036854775807 := by
  have pos : ∀ c : Int, 0 ≤ c → 0 ≤ c.tdiv k ∧ c.tdiv k ≤ c := by
    intro c hc
    rw [Int.tdiv_eq_ediv_of_nonneg hc]
    exact ⟨Int.ediv_nonneg hc (by omega), Int.ediv_le_self k hc⟩
  rcases Int.le_total 0 a with h | h
  · have := pos a h
    omega
  · have e : a.tdiv k = -((-a).tdiv k) := by rw [Int.neg_tdiv]; omega
    rw [e]
    have := pos (-a) (by omega)
    omega
theorem bidk_size (m : Int) (h : 0 ≤ m ∧ m < 200) : (bidP ++ itoaB m).size ≤ 2000000 ∧ bidP.size + (itoaB m).size ≤ 9223372036854775807 := by
  have := itoaB_size m (by omega)
  have e : bidP.size = 8 := rfl
  rw [ByteArray.size_append]
  omega

set_option maxRecDepth 100000 in
set_option maxHeartbeats 8000000 in
theorem balance_any (w : World) (v0 v1 : Value) (ds : List ActD) (zs : List Int) (h0 : ActsIn w v0 ds) (o0 : ∀ d ∈ ds, d.ok) (h1 : IntsIn w v1 zs) (hz : ∀ z ∈ zs, -9223372036854775808 ≤ z ∧ z ≤ 9223372036854775807) (ht : Tab w) :
    Calls Tryz.prog 7 #[v0, v1] w fun e w' => e = .returned (.bool true) ∧ Below w.heap.size w w' := by
  obtain ⟨p0, c0, rfl, n0, r0⟩ := h0
  obtain ⟨p1, c1, rfl, n1, r1⟩ := h1
  have HT := hidOf ht
  have R0 := hidOf r0
  have R1 := hidOf r1
  have O0 := hidOf o0
  have OZ := hidOf hz
  have HA := hidOf (begun_inL w 5 4 2 (by omega) (by omega) bal_newB)
  clear r0 r1 o0 hz ht
  go_enter Tryz.func7, Tryz.ntmps7
  go_wp2_with fail
  refine HA.out.mono ?_
  rintro e w1 ⟨X0, rfl, K0, hS0⟩
  obtain ⟨bx, hbx⟩ : ∃ bx, bx = X0.b := ⟨_, rfl⟩
  rw [← hbx]
  have HB0 : Hid (BalK w w1 bx X0 0 0) := ⟨K0, hbx.symm, by rw [hS0]; exact Bal.first, by rw [hS0]; rfl⟩
  have HL0 : Hid (X0.S.lots = []) := by unfold Hid; rw [hS0]; rfl
  clear K0 hS0 HA hbx
  go_wp2_with fail
  go_loopw [6, 7, 8, 9, 10, 11, 12, 13] (fun pd i _ _ _ _ _ _ w' => ∃ (j : Nat) (paid : Int) (X : XW), j ≤ 80 ∧ i = .int .i64 j ∧ pd = .int .i64 paid ∧ Hid (BalK w w' bx X j paid) ∧ Hid (j = 0 → X.S.lots = [])) (fun _ i _ _ _ _ _ _ _ => 81 - (intOf i).toNat)
  case atStart => exact ⟨0, 0, X0, by omega, rfl, rfl, HB0, fun _ => HL0.out⟩
  case round =>
    obtain ⟨j, paid, X, hj, rfl, rfl, K, HL⟩ := hrel
    clear HB0 HL0
    by_cases hbig : ds.length = 9223372036854775807
    · have hwr : IntKind.i64.wrap ((ds.length : Int) + 1) = -9223372036854775808 := by rw [IntKind.wrap_i64, hbig]; omega
      have hlt : decide ((j : Int) < -9223372036854775808) = false := decide_eq_false (by omega)
      have HBl := hidOf K.out.k.b
      clear K HL hbig n0 R0 O0 R1 OZ n1
      go_wp2
      go_ret
      exact ⟨rfl, HBl.out⟩
    · have hwr : IntKind.i64.wrap ((ds.length : Int) + 1) = (ds.length : Int) + 1 := by rw [IntKind.wrap_i64]; omega
      by_cases hl1 : j < ds.length + 1
      · have hl1' : decide ((j : Int) < (ds.length : Int) + 1) = true := decide_eq_true (by omega)
        by_cases hl2 : j < 80
        · have hl2' : decide ((j : Int) < 80) = true := decide_eq_true (by omega)
          go_upto_if 31 with fail
          go_cut [] (fun wc => ∃ XA, Hid (BalK w wc bx XA j paid) ∧ Hid (j = 0 → XA.S.lots = []))
          case first =>
            by_cases hl : j < ds.length
            · have hl' : (j : Int) < (ds.length : Int) := by omega
              obtain ⟨b, off, rfl, hb, hc⟩ := R0.out (by omega)
              obtain ⟨a, ha⟩ : ∃ a, a = ds[j] := ⟨_, rfl⟩
              have aok := hidOf (O0.out ds[j] (List.getElem_mem hl))
              have HCells : Hid (∀ wx, Below w.heap.size w wx → wx.cell? ⟨b, off + j * 3, none⟩ = some (.int .i64 a.who) ∧ wx.cell? ⟨b, off + j * 3 + 1, none⟩ = some (.int .i64 a.what) ∧ wx.cell? ⟨b, off + j * 3 + 2, none⟩ = some (.int .i64 a.name)) := fun wx h => by rw [ha]; exact acts_cell hb h hc j hl
              rw [← ha] at aok
              have hq := tdivk_bd a.who 5 (by omega) aok.out.who.1 aok.out.who.2
              have HP : Hid (∀ wx, Calls Tryz.prog 12 #[.int .i64 (IntKind.i64.wrap (a.who.tdiv 5)), .int .i64 2] wx fun e w' => e = .returned (.int .i64 (pickI (a.who.tdiv 5) 2)) ∧ w' = wx) := fun wx => by
                have e : IntKind.i64.wrap (a.who.tdiv 5) = a.who.tdiv 5 := by rw [IntKind.wrap_i64]; omega
                rw [e]
                exact kpick_any (a.who.tdiv 5) 2 wx hq.1 hq.2 (by omega) (by omega)
              obtain ⟨q, hqe⟩ : ∃ q, q = pickI (a.who.tdiv 5) 2 := ⟨_, rfl⟩
              rw [← hqe] at HP
              have HTx : Hid (∀ wx : World, Calls Tryz.prog 13 #[.agg #[.int .i64 a.who, .int .i64 a.what, .int .i64 a.name]] wx fun e w' => e = .returned (.string a.text) ∧ Below wx.heap.size wx w') := fun wx => ktext_any a aok.out wx
              have hts : a.text.size ≤ 2000000 := by have := textOf_size (pickI a.who 5) (pickI a.what 10) (pickI a.name 5); show (textOf _ _ _).size ≤ _; omega
              obtain ⟨tx, htx⟩ : ∃ tx, tx = a.text := ⟨_, rfl⟩
              rw [← htx] at HTx hts
              have HOr : Hid (∀ wx, Hid (BalK w wx bx X j paid) → Calls Tryz.prog 10 #[.pointer (some ⟨bx, 0, none⟩), .int .i64 q, .string tx] wx fun e w' => ∃ c X', e = .returned (.int .i64 c) ∧ Hid (BalK w w' bx X' j paid) ∧ Hid (X'.S.lots = X.S.lots) ∧ Below w.heap.size w w') := fun wx h => (h.out.order q tx hts).mono (by
                rintro e w' ⟨c, X', rfl, k1, k2⟩
                exact ⟨c, X', rfl, k1, k2, k1.k.b⟩)
              have BY : Hid (∀ wx wy, Hid (BalK w wx bx X j paid) → Below wx.heap.size wx wy → Hid (BalK w wy bx X j paid)) := fun wx wy h h' => h.out.below h'
              have HS : Hid (∀ wx, Hid (BalK w wx bx X j paid) → wx.cell? ⟨b, off + j * 3, none⟩ = some (.int .i64 a.who) ∧ wx.cell? ⟨b, off + j * 3 + 1, none⟩ = some (.int .i64 a.what) ∧ wx.cell? ⟨b, off + j * 3 + 2, none⟩ = some (.int .i64 a.name)) := fun wx h => HCells.out wx h.out.k.b
              have BD : Hid (BalK w wr.drew bx X j paid) := K.out.below (Below.refl _ _).drew
              have S5 := HS.out _ BD
              clear ha hc hqe htx K hq
              go_wp2_with fail
              go_region_held3 (fun w' => w'.cell? ⟨b, off + j * 3, none⟩ = some (.int .i64 a.who) ∧ w'.cell? ⟨b, off + j * 3 + 1, none⟩ = some (.int .i64 a.what) ∧ w'.cell? ⟨b, off + j * 3 + 2, none⟩ = some (.int .i64 a.name)) (first | with_reducible assumption | with_reducible exact S5) (first
                | (go_at_call 12; with_reducible refine (HP.out _).mono ?_; rintro e w' ⟨rfl, h⟩; rw [h]; clear h w')
                | (go_at_call 13; with_reducible refine (HTx.out _).mono ?_; rintro e t1 ⟨rfl, hb1⟩; have K1 := BY.out _ _ (by assumption) hb1; have S1 := HS.out _ K1; clear hb1)
                | (go_at_call 10; with_reducible refine (HOr.out _ (by assumption)).mono ?_; rintro e t2 ⟨c, X', rfl, K2, L2, hb2⟩; have S2 := HCells.out _ hb2; clear hb2))
              all_goals
                go_wp2_with fail
                go_meet
                exact ⟨X', K2, fun h => by rw [L2.out]; exact HL.out h⟩
            · have hl' : decide ((j : Int) < (ds.length : Int)) = false := decide_eq_false (by omega)
              go_wp2_with fail
              go_meet
              exact ⟨X, K, HL⟩
          case rest =>
            obtain ⟨XA, KA, HLA⟩ := hcut
            have hls : 0 ≤ (j : Int) * 7 % 60 ∧ (j : Int) * 7 % 60 ≤ 100000 := by omega
            have CO := KA.out.offer _ hls
            obtain ⟨co, hco⟩ : ∃ co : Int, co = (if XA.S.lots = [] then 0 else 4) := ⟨_, rfl⟩
            have hc04 : co = 0 ∨ (co = 4 ∧ j ≠ 0) := by
              rw [hco]
              split
              · exact .inl rfl
              · rename_i hne
                exact .inr ⟨rfl, fun h => hne (HLA.out h)⟩
            rw [← hco] at CO
            have HCO := hidOf CO
            clear K HL R0 O0 hwr hl1' CO hco KA HLA hls
            go_wp2_with fail
            refine HCO.out.mono ?_
            rintro e w2 ⟨rfl, XB, kb⟩
            have KB := hidOf kb
            clear kb HCO
            go_upto_region 11 with fail
            go_cut [64] (fun v64 wc => v64 = .bool false ∧ Hid (BalK w wc bx XB j paid))
            case first =>
              rcases hc04 with rfl | ⟨rfl, hj0⟩
              · cases hj0 : ((j : Int) == 0)
                all_goals
                  go_wp2_with fail
                  go_meet
                  exact ⟨rfl, KB⟩
              · have hj0' : ((j : Int) == 0) = false := by rw [beq_eq_false_iff_ne]; omega
                go_wp2_with fail
                go_meet
                exact ⟨rfl, KB⟩
            case rest =>
              obtain ⟨rfl, KC⟩ := hcut
              clear KB hc04
              go_upto_if 68 with fail
              go_cut [] (fun wc => ∃ XD, Hid (BalK w wc bx XD j paid))
              case first =>
                by_cases hl : j < zs.length
                · have hl' : (j : Int) < (zs.length : Int) := by omega
                  obtain ⟨b, off, rfl, hb, hc⟩ := R1.out (by omega)
                  obtain ⟨a, ha⟩ : ∃ a, a = zs[j] := ⟨_, rfl⟩
                  have aok := OZ.out zs[j] (List.getElem_mem hl)
                  have HCells : Hid (∀ wx, Below w.heap.size w wx → wx.cell? ⟨b, off + j, none⟩ = some (.int .i64 a)) := fun wx h => by rw [ha]; exact (h.cell (p := ⟨b, off + j, none⟩) hb).trans (hc j _ (by simp [hl]))
                  rw [← ha] at aok
                  have hq := tdivk_bd a 200 (by omega) aok.1 aok.2
                  have HP : Hid (∀ wx, Calls Tryz.prog 12 #[.int .i64 (IntKind.i64.wrap (a.tdiv 200)), .int .i64 2] wx fun e w' => e = .returned (.int .i64 (pickI (a.tdiv 200) 2)) ∧ w' = wx) := fun wx => by
                    have e : IntKind.i64.wrap (a.tdiv 200) = a.tdiv 200 := by rw [IntKind.wrap_i64]; omega
                    rw [e]
                    exact kpick_any (a.tdiv 200) 2 wx hq.1 hq.2 (by omega) (by omega)
                  obtain ⟨q, hqe⟩ : ∃ q, q = pickI (a.tdiv 200) 2 := ⟨_, rfl⟩
                  rw [← hqe] at HP
                  have HP2 : Hid (∀ wx, Calls Tryz.prog 12 #[.int .i64 a, .int .i64 200] wx fun e w' => e = .returned (.int .i64 (pickI a 200)) ∧ w' = wx) := fun wx => kpick_any a 200 wx aok.1 aok.2 (by omega) (by omega)
                  have mb := pickI_bd a 200 (by omega)
                  obtain ⟨m, hme⟩ : ∃ m, m = pickI a 200 := ⟨_, rfl⟩
                  rw [← hme] at HP2 mb
                  obtain ⟨zm, ym⟩ := bidk_size m mb
                  have cm : ∀ w, (Op.stringOp .add bidP (itoaB m)).run Tryz.prog w = .ok (.string (bidP ++ itoaB m)) w := fun w => run_string_add_sum w _ _ ym
                  unfold bidP at cm
                  have HI : Hid (∀ wx, Hid (BalK w wx bx XB j paid) → Calls Tryz.prog 20 #[.int .i64 m] wx fun e w' => e = .returned (.string (itoaB m)) ∧ Below wx.heap.size wx w') := fun wx h => itoa_any m (by omega) wx (HT.out.below h.out.k.b HT.out.lt)
                  have HOr : Hid (∀ wx, Hid (BalK w wx bx XB j paid) → Calls Tryz.prog 10 #[.pointer (some ⟨bx, 0, none⟩), .int .i64 q, .string ((⟨#[98, 105, 100, 32, 108, 111, 116, 32]⟩ : ByteArray) ++ itoaB m)] wx fun e w' => ∃ c X', e = .returned (.int .i64 c) ∧ Hid (BalK w w' bx X' j paid) ∧ Below w.heap.size w w') := fun wx h => (h.out.order q (bidP ++ itoaB m) zm).mono (by
                    rintro e w' ⟨c, X', rfl, k1, k2⟩
                    exact ⟨c, X', rfl, k1, k1.k.b⟩)
                  have BY : Hid (∀ wx wy, Hid (BalK w wx bx XB j paid) → Below wx.heap.size wx wy → Hid (BalK w wy bx XB j paid)) := fun wx wy h h' => h.out.below h'
                  have HS : Hid (∀ wx, Hid (BalK w wx bx XB j paid) → wx.cell? ⟨b, off + j, none⟩ = some (.int .i64 a)) := fun wx h => HCells.out wx h.out.k.b
                  have BD : Hid (BalK w wc.drew bx XB j paid) := KC.out.below (Below.refl _ _).drew
                  have S5 := HS.out _ BD
                  clear ha hc hqe hme KC hq zm
                  go_wp2_with fail
                  go_region_held3 (fun w' => w'.cell? ⟨b, off + j, none⟩ = some (.int .i64 a)) (first | with_reducible assumption | with_reducible exact S5) (first
                    | (go_at_call 12; with_reducible refine (HP.out _).mono ?_; rintro e w' ⟨rfl, h⟩; rw [h]; clear h w')
                    | (go_at_call 12; with_reducible refine (HP2.out _).mono ?_; rintro e w' ⟨rfl, h⟩; rw [h]; clear h w')
                    | (go_at_call 20; with_reducible refine (HI.out _ (by assumption)).mono ?_; rintro e t1 ⟨rfl, hb1⟩; have K1 := BY.out _ _ (by assumption) hb1; have S1 := HS.out _ K1; clear hb1)
                    | (go_at_call 10; with_reducible refine (HOr.out _ (by assumption)).mono ?_; rintro e t2 ⟨c, X', rfl, K2, hb2⟩; have S2 := HCells.out _ hb2; clear hb2))
                  all_goals
                    go_wp2_with fail
                    go_meet
                    exact ⟨X', K2⟩
                · have hl' : decide ((j : Int) < (zs.length : Int)) = false := decide_eq_false (by omega)
                  go_wp2_with fail
                  go_meet
                  exact ⟨XB, KC⟩
              case rest =>
                obtain ⟨XD, KD⟩ := hcut
                have CT := hidOf (KD.out.tick (by omega))
                clear KC R1 OZ KD
                go_wp2_with fail
                refine CT.out.mono ?_
                rintro e w3 ⟨rfl, XE, ke, nw⟩
                obtain ⟨z, m0, m1, hL, hzp⟩ := ke.look nw
                rw [← hzp] at hL
                have HSn := hidOf (hL.seen w3 (Below.refl _ _) HT.out)
                obtain ⟨zu1, zu2⟩ := hL.u
                obtain ⟨zc1, zc2⟩ := hL.c
                obtain ⟨zo1, zo2⟩ := hL.o
                have zp1 := hL.p
                obtain ⟨ma1, ma2⟩ := hL.a
                obtain ⟨mb1, mb2⟩ := hL.b
                have hsum := hL.s
                have HM0 : Hid (∀ wy, Below w3.heap.size w3 wy → Calls Tryz.prog 14 #[.pointer (some ⟨bx, 0, none⟩), .int .i64 0] wy fun e w' => e = .returned (.tuple #[.int .i64 m0, .int .i64 0]) ∧ w' = wy) := fun wy h => hL.money0 wy h
                have HM1 : Hid (∀ wy, Below w3.heap.size w3 wy → Calls Tryz.prog 14 #[.pointer (some ⟨bx, 0, none⟩), .int .i64 1] wy fun e w' => e = .returned (.tuple #[.int .i64 m1, .int .i64 0]) ∧ w' = wy) := fun wy h => hL.money1 wy h
                obtain ⟨pd, hpd⟩ : ∃ pd, pd = paid + z.p := ⟨_, rfl⟩
                rw [← hpd] at hL hsum
                have HKE := hidOf hL.k
                obtain ⟨zu, hu⟩ : ∃ zu, zu = z.u := ⟨_, rfl⟩
                obtain ⟨zc, hc⟩ : ∃ zc, zc = z.c := ⟨_, rfl⟩
                obtain ⟨zo, ho⟩ : ∃ zo, zo = z.o := ⟨_, rfl⟩
                obtain ⟨zp, hp⟩ : ∃ zp, zp = z.p := ⟨_, rfl⟩
                rw [← hu, ← hc, ← ho, ← hp] at HSn
                rw [← hu] at zu1 zu2
                rw [← hc] at zc1 zc2
                rw [← ho] at zo1 zo2
                rw [← hp] at zp1 hpd
                rw [← hu, ← hc, ← ho] at hsum
                obtain ⟨r3, h3⟩ : ∃ r, r = 113 - zo := ⟨_, rfl⟩
                have e3 : IntKind.i64.wrap (113 - zo) = r3 := by rw [IntKind.wrap_i64]; omega
                obtain ⟨r4, h4⟩ : ∃ r, r = r3 - zc := ⟨_, rfl⟩
                have e4 : IntKind.i64.wrap (r3 - zc) = r4 := by rw [IntKind.wrap_i64]; omega
                obtain ⟨r5, h5⟩ : ∃ r, r = 10 * r4 := ⟨_, rfl⟩
                have e5 : IntKind.i64.wrap (10 * r4) = r5 := by rw [IntKind.wrap_i64]; omega
                obtain ⟨r6, h6⟩ : ∃ r, r = 200 + r5 := ⟨_, rfl⟩
                have e6 : IntKind.i64.wrap (200 + r5) = r6 := by rw [IntKind.wrap_i64]; omega
                obtain ⟨r7, h7⟩ : ∃ r, r = zu - 2 := ⟨_, rfl⟩
                have e7 : IntKind.i64.wrap (zu - 2) = r7 := by rw [IntKind.wrap_i64]; omega
                obtain ⟨r8, h8⟩ : ∃ r, r = 50 * r7 := ⟨_, rfl⟩
                have e8 : IntKind.i64.wrap (50 * r7) = r8 := by rw [IntKind.wrap_i64]; omega
                obtain ⟨r9, h9⟩ : ∃ r, r = r6 - r8 := ⟨_, rfl⟩
                have e9 : IntKind.i64.wrap (r6 - r8) = r9 := by rw [IntKind.wrap_i64]; omega
                obtain ⟨r10, h10⟩ : ∃ r, r = r9 - pd := ⟨_, rfl⟩
                have e10 : IntKind.i64.wrap (r9 - pd) = r10 := by rw [IntKind.wrap_i64]; omega
                have e2 : IntKind.i64.wrap (m0 + m1) = r10 := by rw [IntKind.wrap_i64]; omega
                have e1 : IntKind.i64.wrap (paid + zp) = pd := by rw [IntKind.wrap_i64]; omega
                have d1 : decide (zu < 2) = false := decide_eq_false (by omega)
                have d2 : decide (m0 < 0) = false := decide_eq_false (by omega)
                have d3 : decide (m1 < 0) = false := decide_eq_false (by omega)
                clear CT ke nw hL hzp hu hc ho hp h3 h4 h5 h6 h7 h8 h9 h10 hsum hpd zu1 zu2 zc1 zc2 zo1 zo2 zp1 ma1 ma2 mb1 mb2
                go_wp2_with fail
                refine HSn.out.mono ?_
                rintro e w4 ⟨rfl, hb4⟩
                have HB5 := hidOf (hb4.alloc hb4.size (.cells #[.int .i64 zu, .int .i64 zc, .int .i64 zo, .int .i64 zp] 47))
                have HA0 := hidOf (HM0.out _ HB5.out)
                have HA1 := hidOf (HM1.out _ HB5.out)
                clear hb4 HSn
                go_wp2_with fail
                refine HA0.out.mono ?_
                rintro e w' ⟨rfl, h⟩
                rw [h]
                clear h w'
                go_wp2_with fail
                refine HA1.out.mono ?_
                rintro e w' ⟨rfl, h⟩
                rw [h]
                clear h w'
                have HKF : Hid (BalK w (w4.alloc (.cells #[.int .i64 zu, .int .i64 zc, .int .i64 zo, .int .i64 zp] 47)) bx XE ((j + 1 : Nat) : Int) pd) := by
                  have e : ((j + 1 : Nat) : Int) = (j : Int) + 1 := by omega
                  unfold Hid
                  rw [e]
                  exact HKE.out.below HB5.out
                go_wp2_with fail
                exact ⟨⟨j + 1, pd, XE, by omega, by go_num, rfl, HKF, fun h => by omega⟩, by simp [intOf]; omega⟩
        · have hl2' : decide ((j : Int) < 80) = false := decide_eq_false (by omega)
          have HBl := hidOf K.out.k.b
          clear K HL n0 R0 O0 R1 OZ n1
          go_wp2
          go_ret
          exact ⟨rfl, HBl.out⟩
      · have hl1' : decide ((j : Int) < (ds.length : Int) + 1) = false := decide_eq_false (by omega)
        have HBl := hidOf K.out.k.b
        clear K HL n0 R0 O0 R1 OZ n1
        go_wp2
        go_ret
        exact ⟨rfl, HBl.out⟩
end Go.Proofs.YtlafddeoheambaaGreatDoor

/-
  Numbers that are handed in, opened.
-/
namespace Go.Proofs.YtlafddeoheambaaGreatDoor
open Go.RowKit Go.Deep Go.ChangeShapes

theorem Tryz.cellsInt : Tryz.prog.cellsOf 3 = 1 := by kernel_rfl
theorem wf64 {n : Int} (h : (Lit.int .i64 n).wf = true) : -9223372036854775808 ≤ n ∧ n ≤ 9223372036854775807 := by
  simpa [Lit.wf, IntKind.min, IntKind.max, IntKind.signed, IntKind.bits] using h
theorem ints_open {H : Type} {enc : TypeId × Value → H} {w : World} {base : Nat} {spare : Nat → Bool} {held : Bool} {fuel : Nat} {cs : List Value} {x : DataW H × List MemPlace} (h : DataW.trod enc Tryz.prog w base spare held fuel 42 cs = some x) :
    ∃ v zs, cs = [v] ∧ IntsIn w v zs ∧ ∀ z ∈ zs, -9223372036854775808 ≤ z ∧ z ≤ 9223372036854775807 := by
  rcases open_ints Tryz.underlying42 Tryz.underlying3 Tryz.cellsInt h with ⟨rfl, rfl⟩ | ⟨a, len, cap, zs, rfl, hb, hlc, hcm, hlen, _, hc, hwf⟩
  · exact ⟨_, [], rfl, ⟨none, 0, rfl, by simp, fun h => absurd h (by simp)⟩, by simp⟩
  · unfold maxLen at hcm
    have hl : len ≤ zs.length := by rw [hlen]; split <;> omega
    have hll : (zs.take len).length = len := by simp [hl]
    refine ⟨_, zs.take len, rfl, ⟨some a, cap, by rw [hll], by rw [hll]; omega, fun hpos => ?_⟩, fun z hz => wf64 (hwf z (List.mem_of_mem_take hz))⟩
    rw [hll] at hpos
    have h00 := hc 0 (by omega)
    obtain ⟨b, off, spot⟩ := a
    have hspot : spot = none := by simpa [Addr.add] using World.cell?_spot h00
    subst hspot
    refine ⟨b, off, rfl, ?_, fun j z hz => ?_⟩
    · have := block_lt_of_cell h00
      simpa [Addr.add] using this
    · have hj := (at_some hz).1
      rw [hll] at hj
      have := hc j (by omega)
      rw [Go.WideShapes.add_plain] at this
      rw [this]
      rw [List.getElem?_take_of_lt hj] at hz
      rw [List.getD_eq_getElem?_getD, hz]
      rfl
end Go.Proofs.YtlafddeoheambaaGreatDoor

/-
  Acts that are handed in, opened.
-/
namespace Go.Proofs.YtlafddeoheambaaGreatDoor
open Go.RowKit Go.Deep Go.ChangeShapes

theorem Tryz.cellsAct : Tryz.prog.cellsOf 33 = 3 := by kernel_rfl
theorem alist3 {α : Type} {l : List α} (h : l.length = 3) : ∃ a0 a1 a2, l = [a0, a1, a2] := by
  match l, h with
  | [a0, a1, a2], _ => exact ⟨a0, a1, a2, rfl⟩
theorem flat_cells3 {α : Type} (cells : α → List Value) (sz : Nat) (hsz : ∀ a, (cells a).length = sz) (hpos : 0 < sz) (l : List α) (w : World) (b off : Nat) (h : ∀ i (hi : i < l.length) r, r < sz → w.cell? ⟨b, off + (i * sz + r), none⟩ = (cells l[i])[r]?) :
    ∀ (j : Nat) u, (l.flatMap cells)[j]? = some u → w.cell? ⟨b, off + j, none⟩ = some u := by
  intro j u hu
  have hj := (at_some hu).1
  rw [flat_length cells sz hsz] at hj
  have e : j / sz * sz + j % sz = j := by rw [Nat.mul_comm]; exact Nat.div_add_mod j sz
  have hr := Nat.mod_lt j hpos
  have hi : j / sz < l.length := (Nat.div_lt_iff_lt_mul hpos).2 hj
  have f := flat_at cells sz hsz l (j / sz) (j % sz) hi hr
  rw [e, hu] at f
  have := h (j / sz) hi (j % sz) hr
  rw [e] at this
  rw [this, ← f]
section
variable {H : Type} {enc : TypeId × Value → H} {w : World} {base : Nat} {spare : Nat → Bool} {held : Bool}
theorem act_open {fuel : Nat} {cs : List Value} {x : DataW H × List MemPlace} (h : DataW.trod enc Tryz.prog w base spare held fuel 33 cs = some x) : ∃ a : ActD, cs = actCells a ∧ a.ok := by
  obtain ⟨y0, y1, y2, n, _, hl, h0, h1, h2⟩ := trod_struct3 Tryz.underlying33 h
  rw [Tryz.cellsAct] at hl
  obtain ⟨c0, c1, c2, rfl⟩ := alist3 hl
  simp only [Tryz.cellsInt] at h0 h1 h2
  obtain ⟨a, e0, _, wa⟩ := DataW.trod_int Tryz.underlying3 h0
  obtain ⟨b, e1, _, wb⟩ := DataW.trod_int Tryz.underlying3 h1
  obtain ⟨c, e2, _, wc⟩ := DataW.trod_int Tryz.underlying3 h2
  simp at e0 e1 e2
  subst e0 e1 e2
  exact ⟨⟨a, b, c⟩, rfl, wf64 wa, wf64 wb, wf64 wc⟩
theorem acts_open {fuel : Nat} {cs : List Value} {x : DataW H × List MemPlace} (h : DataW.trod enc Tryz.prog w base spare held fuel 25 cs = some x) : ∃ v ds, cs = [v] ∧ ActsIn w v ds ∧ ∀ d ∈ ds, d.ok := by
  rcases open_slice Tryz.underlying25 h with ⟨rfl, rfl⟩ | ⟨a, len, cap, m, n, D, Pl, rfl, hb, hlc, hcm, hm, rfl, hel⟩
  · exact ⟨_, [], rfl, ⟨none, 0, rfl, by simp, fun h => absurd h (by simp)⟩, by intro d hd; simp at hd⟩
  · unfold maxLen at hcm
    have hlm : len ≤ m := by rw [hm]; split <;> omega
    have ex : ∀ i, ∃ d : ActD, i < len → (w.cells? base (a.add (i * 3)) 3 = some (actCells d) ∧ d.ok) := by
      intro i
      by_cases hi : i < len
      · obtain ⟨cs', h1, h2⟩ := hel i (by omega)
        rw [Tryz.cellsAct] at h1
        obtain ⟨d, rfl, h3⟩ := act_open h2
        exact ⟨d, fun _ => ⟨h1, h3⟩⟩
      · exact ⟨⟨0, 0, 0⟩, fun h => absurd h hi⟩
    obtain ⟨f, hf⟩ := Classical.axiomOfChoice ex
    have hll : ((List.range len).map f).length = len := by simp
    refine ⟨_, (List.range len).map f, rfl, ⟨some a, cap, by rw [hll], by rw [hll]; omega, fun hpos => ?_⟩, ?_⟩
    · rw [hll] at hpos
      obtain ⟨c0, _⟩ := hf 0 hpos
      obtain ⟨hb0, _, hc0⟩ := World.cells?_some c0
      have h00 := hc0 0 (by omega)
      obtain ⟨b, off, spot⟩ := a
      have hspot : spot = none := by simpa [Addr.add] using World.cell?_spot (h00.trans rfl)
      subst hspot
      refine ⟨b, off, rfl, ?_, ?_⟩
      · have := block_lt_of_cell (h00.trans rfl)
        simpa [Addr.add] using this
      · refine flat_cells3 actCells 3 (fun _ => rfl) (by omega) _ w b off (fun i hi r hr => ?_)
        have hi' : i < len := by simpa using hi
        obtain ⟨ci, _⟩ := hf i hi'
        obtain ⟨_, _, hci⟩ := World.cells?_some ci
        have := hci r hr
        rw [Addr.add_add, Go.WideShapes.add_plain] at this
        simpa using this
    · intro d hd
      simp only [List.mem_map, List.mem_range] at hd
      obtain ⟨i, hi, rfl⟩ := hd
      exact (hf i hi).2
end
end Go.Proofs.YtlafddeoheambaaGreatDoor
