/-
  The function Turns of package hazekeep.
-/
import Derived.Test.YtlafddeoheambaaDoorT16
set_option linter.unusedVariables false
namespace Go.Proofs.YtlafddeoheambaaDoor
open Go.RowKit

theorem turn_newB : newB 7 7 1 (oreOf (7 - 1)) ((cornersOf (7 - 1)).take 2) = true := by decide
theorem itoa100 : itoaB 100 = ⟨#[49, 48, 48]⟩ := by decide +kernel
theorem itoa0 : itoaB 0 = ⟨#[48]⟩ := by decide +kernel
theorem cut_front (s : ByteArray) (r : List UInt8) : (bytesOf (s.data.toList ++ r)).extract 0 s.size = s ∧ s.size ≤ (bytesOf (s.data.toList ++ r)).size := by
  constructor
  · apply ByteArray.ext
    rw [ByteArray.data_extract]
    apply Array.toList_inj.1
    have : s.size = s.data.toList.length := by rw [Array.length_toList]; rfl
    rw [this]
    simp [bytesOf]
  · have e : (bytesOf (s.data.toList ++ r)).size = (s.data.toList ++ r).length := bytesOf_size _
    have : s.size = s.data.toList.length := by rw [Array.length_toList]; rfl
    rw [e, List.length_append]
    omega
theorem want_is (j x y h : Int) :
    ((((((((⟨#[116, 105, 99, 107, 32]⟩ : ByteArray) ++ itoaB j) ++ ⟨#[32, 109, 111, 110, 101, 121, 32, 49, 48, 48, 10, 117, 110, 105, 116, 32, 97, 32]⟩) ++ itoaB x) ++ ⟨#[32]⟩) ++ itoaB y) ++ ⟨#[32]⟩) ++ letterB h ++ ⟨#[32, 99, 97, 114, 103, 111, 32, 48, 10]⟩).data.toList = tickL j 100 ++ unitL (turnU x y h emptyB) := by
  simp only [tickL, unitL, lineL, turnU, itoa100, itoa0, whereB, Lib.join, List.map_cons, List.map_nil, ByteArray.data_append, Array.toList_append, wTick, wMoney, wUnit, wCargo, blankB, firstU.bytesA]
  simp [List.append_assoc]
theorem cat_name {P : Program} (a b : ByteArray) (m n : Nat) (ha : a.size ≤ m) (hb : b.size ≤ n) (hmn : m + n ≤ 1000000000000) : ∃ s : ByteArray, s = a ++ b ∧ s.size ≤ m + n ∧ ∀ w, (Op.stringOp .add a b).run P w = .ok (.string s) w :=
  ⟨_, rfl, by rw [ByteArray.size_append]; omega, fun w => run_string_add_sum w a b (by omega)⟩
theorem letter_cut {h : Int} (h4 : 0 ≤ h ∧ h < 4) : letterB h = (⟨#[101, 110, 119, 115]⟩ : ByteArray).extract h.toNat (h + 1).toNat := by
  obtain rfl | rfl | rfl | rfl : h = 0 ∨ h = 1 ∨ h = 2 ∨ h = 3 := by omega
  all_goals decide +kernel
structure TurnIn (w wx : World) (b : Nat) (X : XW) (j : Nat) (x y h : Int) : Prop where
  k : KIn w wx X
  b : X.b = b
  s : X.S = turnS j x y h emptyB
theorem TurnIn.below {w wx w' : World} {b : Nat} {X : XW} {j : Nat} {x y h : Int} (T : TurnIn w wx b X j x y h) (hb : Below wx.heap.size wx w') : TurnIn w w' b X j x y h := ⟨T.k.below hb, T.b, T.s⟩
/-- Where the first unit stands behind its k-th turn. -/
def spotT (k : Nat) (x y h : Int) : Int × Int × Int := if k = 0 then (if roomB (x + dxI h) (y + dyI h) then (x + dxI h, y + dyI h, h) else (x, y, h)) else (x, y, (h + k) % 4)
theorem spot_go {x y h a c : Int} (hr : 0 ≤ a ∧ a < 7 ∧ 0 ≤ c ∧ c < 7 ∧ (a ≠ 6 ∨ c ≠ 6)) (ha : a = x + dxI h) (hc : c = y + dyI h) : spotT 0 x y h = (a, c, h) := by
  subst ha hc
  have : roomB (x + dxI h) (y + dyI h) = true := by
    unfold roomB
    simp only [Bool.and_eq_true, Bool.or_eq_true, decide_eq_true_eq]
    omega
  unfold spotT
  rw [if_pos rfl, if_pos this]
theorem spot_stay {x y h : Int} (d e : Int) (hd : dxI h = d) (he : dyI h = e) (hr : ¬ (0 ≤ x + d ∧ x + d < 7 ∧ 0 ≤ y + e ∧ y + e < 7 ∧ (x + d ≠ 6 ∨ y + e ≠ 6))) : spotT 0 x y h = (x, y, h) := by
  have : ¬ roomB (x + dxI h) (y + dyI h) = true := by
    unfold roomB
    simp only [Bool.and_eq_true, Bool.or_eq_true, decide_eq_true_eq]
    omega
  unfold spotT
  rw [if_pos rfl, if_neg this]
theorem TurnIn.order {w wx : World} {b : Nat} {X : XW} {j : Nat} {x y h : Int} (T : TurnIn w wx b X j x y h) (k : Nat) (hk : k < 4) (t : ByteArray) (ht : t.data.toList = [97, 32] ++ turnW k) (w1 : World) (hb : Below wx.heap.size wx w1) :
    Calls Tryd.prog 9 #[.pointer (some ⟨b, 0, none⟩), .int .i64 0, .string t] w1 fun e w' => e = .returned (.int .i64 0) ∧ ∃ X', KIn w w' X' ∧ X'.b = b ∧ X'.S = turnS j x y h (bytesOf (turnW k)) := by
  have hz : t.size ≤ 2000000 := by
    have e : t.data.toList.length = t.size := by rw [Array.length_toList]; rfl
    rw [ht] at e
    have : (turnW k).length ≤ 5 := by unfold turnW; repeat' split
                                      all_goals decide
    simp only [List.length_append, List.length_cons, List.length_nil] at e
    omega
  rw [← T.b]
  refine ((T.k.below hb).order 0 t hz).mono ?_
  rintro e w' ⟨rfl, X', K, hb', hS⟩
  rw [T.s, ht, turn_order _ _ _ _ k hk] at hS
  refine ⟨by rw [T.s, ht, turn_order _ _ _ _ k hk], X', K, hb', hS⟩
theorem turn_ticked {w w1 : World} {b : Nat} {X : XW} {j : Nat} {x y h : Int} {k : Nat} (K : KIn w w1 X) (hb : X.b = b) (hS : X.S = turnS j x y h (bytesOf (turnW k))) (hk : k < 4) (h0 : 0 ≤ h ∧ h < 4) (hj : j < 900) :
    Calls Tryd.prog 10 #[.pointer (some ⟨b, 0, none⟩)] w1 fun e w' => e = .returned (.int .i64 0) ∧ ∃ X', TurnIn w w' b X' (j + 1) (spotT k x y h).1 (spotT k x y h).2.1 (spotT k x y h).2.2 := by
  have hn : ¬ X.S.now = 1000 := by rw [hS]; show ¬ (j : Int) = 1000; omega
  rw [← hb]
  refine K.tick.mono ?_
  rintro e w' ⟨rfl, X', K', hb', hS'⟩
  refine ⟨by unfold tickC; rw [if_neg hn], X', K', hb', ?_⟩
  unfold tickN at hS'
  rw [if_neg hn, hS, turn_tick _ _ _ _ k hk h0] at hS'
  rw [hS']
  unfold spotT
  split
  · split <;> rfl
  · rfl

set_option maxRecDepth 100000 in
set_option maxHeartbeats 8000000 in
theorem turns_any (w : World) (v : Value) (zs : List Int) (hv : IntsIn w v zs) (hz : ∀ z ∈ zs, -9223372036854775808 ≤ z ∧ z ≤ 9223372036854775807) (ht : Tab w) :
    Calls Tryd.prog 3 #[v] w fun e w' => e = .returned (.bool true) ∧ Below w.heap.size w w' := by
  obtain ⟨ao, cap, rfl, hlen, hsrc⟩ := hv
  have HB := hidOf (begun_in w 7 1 2 (by omega) (by omega) turn_newB)
  have HT := hidOf ht
  have HZ := hidOf hz
  clear hz ht
  go_enter Tryd.func3, Tryd.ntmps3
  go_wp2_with fail
  refine HB.out.mono ?_
  rintro e w1 ⟨X0, rfl, K0, hS0⟩
  rw [turn_first] at hS0
  have T0 := hidOf (show TurnIn w w1 X0.b X0 0 0 0 0 from ⟨K0, rfl, hS0⟩)
  obtain ⟨b, hb⟩ : ∃ b, b = X0.b := ⟨_, rfl⟩
  rw [← hb] at T0 ⊢
  clear K0 hS0 hb HB
  go_wp2_with fail
  go_loopw [4, 5, 6, 7, 8, 9, 10, 11, 12] (fun x y h i _ _ _ _ _ w' => ∃ (j : Nat) (X : XW) (xx yy hh : Int), j ≤ zs.length ∧ j ≤ 900 ∧ x = .int .i64 xx ∧ y = .int .i64 yy ∧ h = .int .i64 hh ∧ i = .int .i64 j ∧ (0 ≤ xx ∧ xx < 7) ∧ (0 ≤ yy ∧ yy < 7) ∧ (0 ≤ hh ∧ hh < 4) ∧ Hid (TurnIn w w' b X j xx yy hh)) (fun _ _ _ i _ _ _ _ _ _ => 901 - (intOf i).toNat)
  case atStart => exact ⟨0, X0, 0, 0, 0, Nat.zero_le _, Nat.zero_le _, rfl, rfl, rfl, rfl, by omega, by omega, by omega, T0⟩
  case round =>
    clear T0
    obtain ⟨j, X, xx, yy, hh, hj1, hj2, rfl, rfl, rfl, rfl, hx, hy, hh4, T⟩ := hrel
    by_cases hlt : j < zs.length ∧ j < 900
    · obtain ⟨hl1, hl2⟩ := hlt
      obtain ⟨sb, so, rfl, hsb, hsc⟩ := hsrc (by omega)
      have c0 : wr.cell? ⟨sb, so + j, none⟩ = some (.int .i64 zs[j]) := (T.out.k.b.cell (p := ⟨sb, so + j, none⟩) hsb).trans (hsc j _ (by simp [hl1]))
      have zb := HZ.out zs[j] (List.getElem_mem hl1)
      obtain ⟨pk0, pk1⟩ := pickI_bd zs[j] 4 (by omega)
      obtain ⟨k, hpk⟩ := Int.eq_ofNat_of_zero_le pk0
      have hk4 : k < 4 := by omega
      have HP := hidOf (kpick_any zs[j] 4 wr zb.1 zb.2 (by omega) (by omega))
      rw [hpk] at HP
      have HO := hidOf (fun t ht => T.out.order k hk4 t ht)
      have HTi : Hid (∀ (w1 : World) (X1 : XW), KIn w w1 X1 → X1.b = b → X1.S = turnS j xx yy hh (bytesOf (turnW k)) → Calls Tryd.prog 10 #[.pointer (some ⟨b, 0, none⟩)] w1 fun e w' => e = .returned (.int .i64 0) ∧ ∃ X', TurnIn w w' b X' (j + 1) (spotT k xx yy hh).1 (spotT k xx yy hh).2.1 (spotT k xx yy hh).2.2) := fun w1 X1 K1 b1 s1 => turn_ticked K1 b1 s1 hk4 hh4 hl2
      clear hsc zb pk0 pk1 hpk T
      have HA : Hid (∀ o : Obj, Below wr.heap.size wr (wr.alloc o)) := fun o => (Below.refl _ wr).alloc (Nat.le_refl _) o
      obtain rfl | rfl | rfl | rfl : k = 0 ∨ k = 1 ∨ k = 2 ∨ k = 3 := by omega
      · go_wp2_with fail
        refine HP.out.mono ?_
        rintro e w' ⟨rfl, h⟩
        rw [h]
        clear h w'
        go_wp2_with fail
        refine (HO.out _ rfl _ (HA.out _)).mono ?_
        rintro e w2 ⟨rfl, X2, K2, b2, s2⟩
        have HTk := hidOf (HTi.out _ _ K2 b2 s2)
        clear K2 b2 s2
        go_wp2_with fail
        refine HTk.out.mono ?_
        rintro e w3 ⟨rfl, X3, T3⟩
        have HT3 := hidOf T3
        clear T3 HTk HP HO HTi HA
        have fin : Hid (∀ (xa ya : Int) (o1 o2 : Obj), spotT 0 xx yy hh = (xa, ya, hh) → Hid (TurnIn w ((w3.alloc o1).alloc o2) b X3 (j + 1) xa ya hh)) := by
          intro xa ya o1 o2 e
          have := HT3.out
          rw [e] at this
          exact this.below (((Below.refl _ w3).alloc (Nat.le_refl _) o1).alloc (by simp) o2)
        clear HT3
        obtain rfl | rfl | rfl | rfl : hh = 0 ∨ hh = 1 ∨ hh = 2 ∨ hh = 3 := by omega
        · by_cases q1 : xx = 6
          · have F : Hid (∀ o1 o2 : Obj, Hid (TurnIn w ((w3.alloc o1).alloc o2) b X3 (j + 1) xx yy 0)) := fun o1 o2 => fin.out xx yy o1 o2 (spot_stay 1 0 rfl rfl (by omega))
            clear fin
            subst q1
            go_wp2
            exact ⟨⟨j + 1, X3, _, _, _, by omega, by omega, rfl, rfl, rfl, by go_num, by omega, by omega, by omega, F.out _ _⟩, by simp [intOf]; omega⟩
          · by_cases q2 : xx = 5
            · by_cases q3 : yy = 6
              · have F : Hid (∀ o1 o2 : Obj, Hid (TurnIn w ((w3.alloc o1).alloc o2) b X3 (j + 1) xx yy 0)) := fun o1 o2 => fin.out xx yy o1 o2 (spot_stay 1 0 rfl rfl (by omega))
                clear fin
                subst q2 q3
                go_wp2
                exact ⟨⟨j + 1, X3, _, _, _, by omega, by omega, rfl, rfl, rfl, by go_num, by omega, by omega, by omega, F.out _ _⟩, by simp [intOf]; omega⟩
              · go_wp2
                exact ⟨⟨j + 1, X3, _, _, _, by omega, by omega, rfl, rfl, rfl, by go_num, by omega, by omega, by omega, fin.out _ _ _ _ (spot_go (by omega) (by simp [dxI] <;> omega) (by simp [dyI] <;> omega))⟩, by simp [intOf]; omega⟩
            · go_wp2
              exact ⟨⟨j + 1, X3, _, _, _, by omega, by omega, rfl, rfl, rfl, by go_num, by omega, by omega, by omega, fin.out _ _ _ _ (spot_go (by omega) (by simp [dxI] <;> omega) (by simp [dyI] <;> omega))⟩, by simp [intOf]; omega⟩
        · by_cases q1 : yy = 6
          · have F : Hid (∀ o1 o2 : Obj, Hid (TurnIn w ((w3.alloc o1).alloc o2) b X3 (j + 1) xx yy 1)) := fun o1 o2 => fin.out xx yy o1 o2 (spot_stay 0 1 rfl rfl (by omega))
            clear fin
            subst q1
            go_wp2
            exact ⟨⟨j + 1, X3, _, _, _, by omega, by omega, rfl, rfl, rfl, by go_num, by omega, by omega, by omega, F.out _ _⟩, by simp [intOf]; omega⟩
          · by_cases q2 : xx = 6
            · by_cases q3 : yy = 5
              · have F : Hid (∀ o1 o2 : Obj, Hid (TurnIn w ((w3.alloc o1).alloc o2) b X3 (j + 1) xx yy 1)) := fun o1 o2 => fin.out xx yy o1 o2 (spot_stay 0 1 rfl rfl (by omega))
                clear fin
                subst q2 q3
                go_wp2
                exact ⟨⟨j + 1, X3, _, _, _, by omega, by omega, rfl, rfl, rfl, by go_num, by omega, by omega, by omega, F.out _ _⟩, by simp [intOf]; omega⟩
              · go_wp2
                exact ⟨⟨j + 1, X3, _, _, _, by omega, by omega, rfl, rfl, rfl, by go_num, by omega, by omega, by omega, fin.out _ _ _ _ (spot_go (by omega) (by simp [dxI] <;> omega) (by simp [dyI] <;> omega))⟩, by simp [intOf]; omega⟩
            · go_wp2
              exact ⟨⟨j + 1, X3, _, _, _, by omega, by omega, rfl, rfl, rfl, by go_num, by omega, by omega, by omega, fin.out _ _ _ _ (spot_go (by omega) (by simp [dxI] <;> omega) (by simp [dyI] <;> omega))⟩, by simp [intOf]; omega⟩
        · by_cases q1 : xx = 0
          · have F : Hid (∀ o1 o2 : Obj, Hid (TurnIn w ((w3.alloc o1).alloc o2) b X3 (j + 1) xx yy 2)) := fun o1 o2 => fin.out xx yy o1 o2 (spot_stay (-1) 0 rfl rfl (by omega))
            clear fin
            subst q1
            go_wp2
            exact ⟨⟨j + 1, X3, _, _, _, by omega, by omega, rfl, rfl, rfl, by go_num, by omega, by omega, by omega, F.out _ _⟩, by simp [intOf]; omega⟩
          · go_wp2
            exact ⟨⟨j + 1, X3, _, _, _, by omega, by omega, rfl, rfl, rfl, by go_num, by omega, by omega, by omega, fin.out _ _ _ _ (spot_go (by omega) (by simp [dxI] <;> omega) (by simp [dyI] <;> omega))⟩, by simp [intOf]; omega⟩
        · by_cases q1 : yy = 0
          · have F : Hid (∀ o1 o2 : Obj, Hid (TurnIn w ((w3.alloc o1).alloc o2) b X3 (j + 1) xx yy 3)) := fun o1 o2 => fin.out xx yy o1 o2 (spot_stay 0 (-1) rfl rfl (by omega))
            clear fin
            subst q1
            go_wp2
            exact ⟨⟨j + 1, X3, _, _, _, by omega, by omega, rfl, rfl, rfl, by go_num, by omega, by omega, by omega, F.out _ _⟩, by simp [intOf]; omega⟩
          · by_cases q2 : xx = 6
            · go_wp2
              exact ⟨⟨j + 1, X3, _, _, _, by omega, by omega, rfl, rfl, rfl, by go_num, by omega, by omega, by omega, fin.out _ _ _ _ (spot_go (by omega) (by simp [dxI] <;> omega) (by simp [dyI] <;> omega))⟩, by simp [intOf]; omega⟩
            · go_wp2
              exact ⟨⟨j + 1, X3, _, _, _, by omega, by omega, rfl, rfl, rfl, by go_num, by omega, by omega, by omega, fin.out _ _ _ _ (spot_go (by omega) (by simp [dxI] <;> omega) (by simp [dyI] <;> omega))⟩, by simp [intOf]; omega⟩
      all_goals
        go_wp2_with fail
        refine HP.out.mono ?_
        rintro e w' ⟨rfl, h⟩
        rw [h]
        clear h w'
        go_wp2_with fail
        refine (HO.out _ rfl _ (HA.out _)).mono ?_
        rintro e w2 ⟨rfl, X2, K2, b2, s2⟩
        have HTk := hidOf (HTi.out _ _ K2 b2 s2)
        clear K2 b2 s2
        go_wp2_with fail
        refine HTk.out.mono ?_
        rintro e w3 ⟨rfl, X3, T3⟩
        have HT3 := hidOf T3
        clear T3 HTk HP HO
        go_wp2
        refine ⟨⟨j + 1, X3, _, _, _, by omega, by omega, rfl, rfl, rfl, by go_num, hx, hy, ?_, ?_⟩, by simp [intOf]; omega⟩
        · omega
        · unfold Hid
          have := HT3.out
          simp only [spotT] at this
          exact this
    · have hm : min (zs.length : Int) 900 = (j : Int) := by omega
      have HI : Hid (∀ (m : Int) (wx : World), 0 ≤ m ∧ m ≤ 1000000000000 → Hid (TurnIn w wx b X j xx yy hh) → Calls Tryd.prog 11 #[.int .i64 m] wx fun e w' => e = .returned (.string (itoaB m)) ∧ Hid (TurnIn w w' b X j xx yy hh)) := by
        intro m wx hm' Tx
        refine (itoa_any m hm' wx (HT.out.below Tx.out.k.b HT.out.lt)).mono ?_
        rintro e w' ⟨rfl, hb'⟩
        exact ⟨rfl, Tx.out.below hb'⟩
      have zj := itoaB_size j (by omega)
      have zx := itoaB_size xx (by omega)
      have zy := itoaB_size yy (by omega)
      obtain ⟨s1, e1, z1, a1⟩ := cat_name (P := Tryd.prog) ⟨#[116, 105, 99, 107, 32]⟩ (itoaB j) 5 21 (by decide) zj (by omega)
      obtain ⟨s2, e2, z2, a2⟩ := cat_name (P := Tryd.prog) s1 ⟨#[32, 109, 111, 110, 101, 121, 32, 49, 48, 48, 10, 117, 110, 105, 116, 32, 97, 32]⟩ 26 18 z1 (by decide) (by omega)
      obtain ⟨s3, e3, z3, a3⟩ := cat_name (P := Tryd.prog) s2 (itoaB xx) 44 21 z2 zx (by omega)
      obtain ⟨s4, e4, z4, a4⟩ := cat_name (P := Tryd.prog) s3 ⟨#[32]⟩ 65 1 z3 (by decide) (by omega)
      obtain ⟨s5, e5, z5, a5⟩ := cat_name (P := Tryd.prog) s4 (itoaB yy) 66 21 z4 zy (by omega)
      obtain ⟨s6, e6, z6, a6⟩ := cat_name (P := Tryd.prog) s5 ⟨#[32]⟩ 87 1 z5 (by decide) (by omega)
      obtain ⟨s7, e7, z7, a7⟩ := cat_name (P := Tryd.prog) s6 (letterB hh) 88 1 z6 (letterB_size hh) (by omega)
      obtain ⟨s8, e8, z8, a8⟩ := cat_name (P := Tryd.prog) s7 ⟨#[32, 99, 97, 114, 103, 111, 32, 48, 10]⟩ 89 9 z7 (by decide) (by omega)
      have hE := hidOf (And.intro e1 (And.intro e2 (And.intro e3 (And.intro e4 (And.intro e5 (And.intro e6 (And.intro e7 e8)))))))
      clear e1 e2 e3 e4 e5 e6 e7 e8 zj zx zy z1 z2 z3 z4 z5 z6 z7
      have hV : Hid (s8.size ≤ (viewS X.S 0).1.size ∧ (viewS X.S 0).1.extract 0 s8.size = s8) := by
        obtain ⟨e1, e2, e3, e4, e5, e6, e7, e8⟩ := hE.out
        have es : s8.data.toList = tickL j 100 ++ unitL (turnU xx yy hh emptyB) := by rw [e8, e7, e6, e5, e4, e3, e2, e1]; exact want_is j xx yy hh
        obtain ⟨r, hr⟩ := turn_view j xx yy hh
        unfold Hid
        rw [T.out.s, hr, ← es]
        exact ⟨(cut_front s8 r).2, (cut_front s8 r).1⟩
      obtain ⟨sv, hsv⟩ : ∃ sv, sv = (viewS X.S 0).1 := ⟨_, rfl⟩
      rw [← hsv] at hV
      have HVw : Hid (∀ wx : World, Hid (TurnIn w wx b X j xx yy hh) → Calls Tryd.prog 12 #[.pointer (some ⟨b, 0, none⟩), .int .i64 0] wx fun e w' => e = .returned (.string sv) ∧ Below w.heap.size w w') := by
        intro wx Tx
        rw [← Tx.out.b, hsv]
        refine (Tx.out.k.view 0 HT.out).mono ?_
        rintro e w' ⟨rfl, K⟩
        exact ⟨rfl, K.b⟩
      clear hE hsv
      by_cases hl : j < zs.length
      · have hj9 : ¬ j < 900 := by omega
        go_wp2_with fail
        refine (HI.out _ _ (by omega) T).mono ?_
        rintro e w4 ⟨rfl, T4⟩
        clear T hsrc HZ
        go_wp2_with fail
        go_cut [14] (fun s wc => s = .string s8 ∧ Hid (TurnIn w wc b X j xx yy hh))
        case first =>
          have T4d : Hid (TurnIn w w4.drew b X j xx yy hh) := T4.out.below (Below.refl _ w4).drew
          clear T4 hV HVw
          have hb0 : (0 : Int) ≤ hh := hh4.1
          have hb1 : hh + 1 ≤ ((⟨#[101, 110, 119, 115]⟩ : ByteArray).size : Int) := by
            have : (⟨#[101, 110, 119, 115]⟩ : ByteArray).size = 4 := rfl
            omega
          have hwr : IntKind.i64.wrap (hh + 1) = hh + 1 := by rw [IntKind.wrap_i64]; omega
          have hle : hh ≤ hh + 1 := by omega
          have hb2 : hh + 1 ≤ (4 : Int) := by omega
          have hb3 : hh ≤ (3 : Int) := by omega
          have hb4 : hh < (4 : Int) := by omega
          have hb5 : (0 : Int) ≤ hh + 1 := by omega
          rw [letter_cut hh4] at a7
          go_region_held3 (fun _ => True) (first | trivial) (first | (go_at_call 11; refine (HI.out _ _ (by omega) (by assumption)).mono ?_; rintro e w5 ⟨rfl, T5⟩))
          all_goals
            go_wp2_with fail
            go_meet
            exact ⟨rfl, by assumption⟩
        case rest =>
          obtain ⟨rfl, Tc⟩ := hcut
          clear T4 a1 a2 a3 a4 a5 a6 a7 a8 HI
          go_wp2_with fail
          refine (HVw.out _ Tc).mono ?_
          rintro e w6 ⟨rfl, hb6⟩
          obtain ⟨v1, v2⟩ := hV.out
          clear HVw Tc
          go_wp2
          go_ret
          exact ⟨rfl, hb6⟩
      · go_wp2_with fail
        refine (HI.out _ _ (by omega) T).mono ?_
        rintro e w4 ⟨rfl, T4⟩
        clear T hsrc HZ
        go_wp2_with fail
        go_cut [14] (fun s wc => s = .string s8 ∧ Hid (TurnIn w wc b X j xx yy hh))
        case first =>
          have T4d : Hid (TurnIn w w4.drew b X j xx yy hh) := T4.out.below (Below.refl _ w4).drew
          clear T4 hV HVw
          have hb0 : (0 : Int) ≤ hh := hh4.1
          have hb1 : hh + 1 ≤ ((⟨#[101, 110, 119, 115]⟩ : ByteArray).size : Int) := by
            have : (⟨#[101, 110, 119, 115]⟩ : ByteArray).size = 4 := rfl
            omega
          have hwr : IntKind.i64.wrap (hh + 1) = hh + 1 := by rw [IntKind.wrap_i64]; omega
          have hle : hh ≤ hh + 1 := by omega
          have hb2 : hh + 1 ≤ (4 : Int) := by omega
          have hb3 : hh ≤ (3 : Int) := by omega
          have hb4 : hh < (4 : Int) := by omega
          have hb5 : (0 : Int) ≤ hh + 1 := by omega
          rw [letter_cut hh4] at a7
          go_region_held3 (fun _ => True) (first | trivial) (first | (go_at_call 11; refine (HI.out _ _ (by omega) (by assumption)).mono ?_; rintro e w5 ⟨rfl, T5⟩))
          all_goals
            go_wp2_with fail
            go_meet
            exact ⟨rfl, by assumption⟩
        case rest =>
          obtain ⟨rfl, Tc⟩ := hcut
          clear T4 a1 a2 a3 a4 a5 a6 a7 a8 HI
          go_wp2_with fail
          refine (HVw.out _ Tc).mono ?_
          rintro e w6 ⟨rfl, hb6⟩
          obtain ⟨v1, v2⟩ := hV.out
          clear HVw Tc
          go_wp2
          go_ret
          exact ⟨rfl, hb6⟩
end Go.Proofs.YtlafddeoheambaaDoor
