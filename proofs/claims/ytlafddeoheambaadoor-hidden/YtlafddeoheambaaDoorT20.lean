/-
  The function Hidden of package hazekeep: the walk.
-/
import Derived.Test.YtlafddeoheambaaDoorT19
import Derived.Test.YtlafddeoheambaaDoorT16
import Derived.Lib.SmallJoins
set_option linter.unusedVariables false
namespace Go.Proofs.YtlafddeoheambaaDoor
open Go.RowKit

section
variable {w wx : World} {X Z : XW} {b : Nat}
theorem dig_first (h : Two w wx X Z) (hb : X.b = b) (hS : X.S = hidS 0 emptyB 0 9) :
    Calls Tryd.prog 9 #[.pointer (some ⟨b, 0, none⟩), .int .i64 0, .string ⟨#[97, 32, 100, 105, 103]⟩] wx fun e w' => e = .returned (.int .i64 0) ∧ ∃ X', Two w w' X' Z ∧ X'.b = b ∧ X'.S = hidS 0 (bytesOf [100, 105, 103]) 0 9 := by
  refine (h.orderL hb 0 ⟨#[97, 32, 100, 105, 103]⟩ (by decide)).mono ?_
  rintro e w' ⟨rfl, X', T, hb', hS'⟩
  have e := hid_order
  unfold digText at e
  rw [hS] at hS' ⊢
  refine ⟨?_, X', T, hb', ?_⟩
  · show Ending.returned (.int .i64 (orderS (hidS 0 emptyB 0 9) 0 [97, 32, 100, 105, 103]).1) = _
    rw [e]
  · rw [hS']
    show (orderS (hidS 0 emptyB 0 9) 0 [97, 32, 100, 105, 103]).2 = _
    rw [e]
theorem tick_first (h : Two w wx X Z) (hb : X.b = b) (hS : X.S = hidS 0 (bytesOf [100, 105, 103]) 0 9) :
    Calls Tryd.prog 10 #[.pointer (some ⟨b, 0, none⟩)] wx fun e w' => e = .returned (.int .i64 0) ∧ ∃ X', Two w w' X' Z ∧ X'.b = b ∧ X'.S = hidS 1 emptyB 1 8 := by
  refine (h.tickL hb).mono ?_
  rintro e w' ⟨rfl, X', T, hb', hS'⟩
  rw [hS] at hS' ⊢
  refine ⟨rfl, X', T, hb', ?_⟩
  rw [hS']
  show tickS _ = _
  exact hid_tick
theorem view_first (h : Two w wx X Z) (hb : X.b = b) (hS : X.S = hidS 1 emptyB 1 8) (ht : Tab w) :
    Calls Tryd.prog 12 #[.pointer (some ⟨b, 0, none⟩), .int .i64 0] wx fun e w' => e = .returned (.string firstView) ∧ Two w w' X Z := by
  refine (h.viewL hb 0 ht).mono ?_
  rintro e w' ⟨rfl, T⟩
  rw [hS, hid_view]
  exact ⟨rfl, T⟩
end

theorem bytes_ne {s : ByteArray} (h : 0 < s.size) : s.toList.isEmpty = false := by
  rw [Lib.toList_data]
  have e : s.data.toList.length = s.size := by rw [Array.length_toList]; rfl
  cases hh : s.data.toList with
  | nil => rw [hh] at e; simp at e; omega
  | cons a r => rfl
theorem three_new (w : World) (o : Obj) : (((w.alloc o).alloc o).alloc o).heap[w.heap.size]? = some o ∧ (((w.alloc o).alloc o).alloc o).heap[w.heap.size + 1]? = some o ∧ (((w.alloc o).alloc o).alloc o).heap[w.heap.size + 1 + 1]? = some o ∧ Below w.heap.size w (((w.alloc o).alloc o).alloc o) := by
  have s1 : (w.alloc o).heap.size = w.heap.size + 1 := by simp
  have s2 : ((w.alloc o).alloc o).heap.size = w.heap.size + 1 + 1 := by simp
  have h1 := Go.heap_alloc_new w o
  have h2 := Go.heap_alloc_new (w.alloc o) o
  have h3 := Go.heap_alloc_new ((w.alloc o).alloc o) o
  rw [s1] at h2
  rw [s2] at h3
  refine ⟨?_, ?_, h3, (((Below.refl _ w).alloc (Nat.le_refl _) o).alloc (by omega) o).alloc (by omega) o⟩
  · rw [Below.heap_alloc _ _ _ (by omega), Below.heap_alloc _ _ _ (by omega), h1]
  · rw [Below.heap_alloc _ _ _ (by omega), h2]
theorem hid_start {w wx : World} {X Z : XW} {bx bz : Nat} (h : Two w wx X Z) (hx : X.b = bx) (hz : Z.b = bz) (sx : X.S = hidS 1 emptyB 1 8) (sz : Z.S = hidS 1 emptyB 1 8) :
    HidK w (((wx.alloc (.cells #[.int .i64 0, .int .i64 0] 36)).alloc (.cells #[.int .i64 0, .int .i64 0] 36)).alloc (.cells #[.int .i64 0, .int .i64 0] 36)) bx bz wx.heap.size (wx.heap.size + 1) (wx.heap.size + 1 + 1) 0 0 0 0 0 0 0 X Z := by
  obtain ⟨h1, h2, h3, hb⟩ := three_new wx (.cells #[.int .i64 0, .int .i64 0] 36)
  have hs := h.x.b.size
  have nx : ∀ r, wx.heap.size ≤ r → r ∉ X.foot := fun r hr hm => by have := h.x.rep.lt r hm; omega
  have nz : ∀ r, wx.heap.size ≤ r → r ∉ Z.foot := fun r hr hm => by have := h.z.rep.lt r hm; omega
  exact ⟨⟨h.below hb, h1, h2, h3, ⟨hs, by omega, by omega⟩, ⟨by omega, by omega, by omega⟩, ⟨nx _ (by omega), nx _ (by omega), nx _ (by omega)⟩, ⟨nz _ (by omega), nz _ (by omega), nz _ (by omega)⟩⟩, hx, hz, by rw [sx, sz]; exact HidR.first⟩

set_option maxRecDepth 100000 in
set_option maxHeartbeats 8000000 in
theorem hidden_any (w : World) (v0 v1 v2 : Value) (d0 d1 d2 : List ActD) (h0 : ActsIn w v0 d0) (h1 : ActsIn w v1 d1) (h2 : ActsIn w v2 d2) (o0 : ∀ d ∈ d0, d.ok) (o1 : ∀ d ∈ d1, d.ok) (o2 : ∀ d ∈ d2, d.ok) (ht : Tab w) :
    Calls Tryd.prog 4 #[v0, v1, v2] w fun e w' => e = .returned (.bool true) ∧ Below w.heap.size w w' := by
  obtain ⟨p0, c0, rfl, n0, r0⟩ := h0
  obtain ⟨p1, c1, rfl, n1, r1⟩ := h1
  obtain ⟨p2, c2, rfl, n2, r2⟩ := h2
  have HB := hidOf (fun wx => begun_in wx 10 2 2 (by omega) (by omega) hid_newB)
  have HT := hidOf ht
  have R0 := hidOf r0
  have R1 := hidOf r1
  have R2 := hidOf r2
  have O0 := hidOf o0
  have O1 := hidOf o1
  have O2 := hidOf o2
  clear r0 r1 r2 o0 o1 o2 ht
  go_enter Tryd.func4, Tryd.ntmps4
  go_wp2_with fail
  refine (HB.out _).mono ?_
  rintro e w1 ⟨X0, rfl, K0, hS0⟩
  have HK0 := hidOf K0
  have HS0 := hidOf hS0
  clear K0 hS0
  go_wp2_with fail
  refine (HB.out _).mono ?_
  rintro e w2 ⟨Z0, rfl, K1, hS1⟩
  have T2 := hidOf (two_first HK0.out K1)
  have SX : Hid (X0.S = hidS 0 emptyB 0 9) := HS0.out.trans hid_first
  have SZ : Hid (Z0.S = hidS 0 emptyB 0 9) := hS1.trans hid_first
  obtain ⟨bx, hbx⟩ : ∃ bx, bx = X0.b := ⟨_, rfl⟩
  obtain ⟨bz, hbz⟩ : ∃ bz, bz = Z0.b := ⟨_, rfl⟩
  rw [← hbz]
  have BX := hidOf hbx.symm
  have BZ := hidOf hbz.symm
  rw [← hbx]
  clear K1 hS1 HK0 HS0 HB hbx hbz
  have C3 := hidOf (dig_first T2.out BX.out SX.out)
  go_wp2_with fail
  refine C3.out.mono ?_
  rintro e w3 ⟨rfl, X3, T3, b3, s3⟩
  have C4 := hidOf (dig_first T3.swap BZ.out SZ.out)
  have B3 := hidOf b3
  have S3 := hidOf s3
  clear C3 T2 BX SX T3 b3 s3 BZ SZ
  go_wp2_with fail
  refine C4.out.mono ?_
  rintro e w4 ⟨rfl, Z4, T4, b4, s4⟩
  have C5 := hidOf (tick_first T4.swap B3.out S3.out)
  have B4 := hidOf b4
  have S4 := hidOf s4
  clear C4 T4 b4 s4 B3 S3
  go_wp2_with fail
  refine C5.out.mono ?_
  rintro e w5 ⟨rfl, X5, T5, b5, s5⟩
  have C6 := hidOf (tick_first T5.swap B4.out S4.out)
  have B5 := hidOf b5
  have S5 := hidOf s5
  clear C5 T5 b5 s5 B4 S4
  go_wp2_with fail
  refine C6.out.mono ?_
  rintro e w6 ⟨rfl, Z6, T6, b6, s6⟩
  have C7 := hidOf (view_first T6.swap B5.out S5.out HT.out)
  have B6 := hidOf b6
  have S6 := hidOf s6
  clear C6 T6 b6 s6
  go_wp2_with fail
  refine C7.out.mono ?_
  rintro e w7 ⟨rfl, T7⟩
  have HT7 := hidOf T7
  clear C7 T7
  unfold firstView
  go_wp2_with fail
  have K0 := hidOf (hid_start HT7.out B5.out B6.out S5.out S6.out)
  clear HT7 B5 B6 S5 S6
  go_loopw [9, 10, 11, 12, 17, 18, 19, 20] (fun _ _ _ _ i _ _ _ w' => ∃ (j : Nat) (X Z : XW) (g0 b0 g1 b1 g2 b2 : Int), j ≤ d0.length ∧ j ≤ 60 ∧ i = .int .i64 j ∧ Hid ((0 ≤ g0 ∧ g0 ≤ j) ∧ (0 ≤ b0 ∧ b0 ≤ j) ∧ (0 ≤ g1 ∧ g1 ≤ j) ∧ (0 ≤ b1 ∧ b1 ≤ j) ∧ (0 ≤ g2 ∧ g2 ≤ j) ∧ (0 ≤ b2 ∧ b2 ≤ j)) ∧ Hid (HidK w w' bx bz w7.heap.size (w7.heap.size + 1) (w7.heap.size + 1 + 1) j g0 b0 g1 b1 g2 b2 X Z)) (fun _ _ _ _ i _ _ _ _ => 61 - (intOf i).toNat)
  case atStart => exact ⟨0, X5, Z6, 0, 0, 0, 0, 0, 0, Nat.zero_le _, Nat.zero_le _, rfl, by unfold Hid; omega, K0⟩
  case round =>
    clear K0
    obtain ⟨j, X, Z, g0, b0, g1, b1, g2, b2, hj1, hj2, rfl, G, K⟩ := hrel
    by_cases hlt : j < d0.length ∧ j < 60
    · obtain ⟨hl1, hl2⟩ := hlt
      obtain ⟨sb, so, rfl, hsb, hsc⟩ := R0.out (by omega)
      obtain ⟨q0, q1, q2⟩ := acts_cell hsb K.out.m.t.x.b hsc j hl1
      have A0 := O0.out d0[j] (List.getElem_mem hl1)
      obtain ⟨a, hae⟩ : ∃ a, a = d0[j] := ⟨_, rfl⟩
      rw [← hae] at q0 q1 q2 A0
      have D1 := hidOf (K.out.stepA a A0 (by have := G.out; omega) (by have := G.out; omega))
      clear hsc hae A0
      go_wp2_with fail
      refine D1.out.mono ?_
      rintro e w8 ⟨rfl, m8⟩
      have Gb := G.out
      have zt : (nextT a g0 b0).size ≤ 2000000 := by have := nextT_size a g0 b0; omega
      obtain ⟨cq, R8⟩ := K.out.r.order0 a (by omega) (by omega)
      obtain ⟨t, hte⟩ : ∃ t, t = nextT a g0 b0 := ⟨_, rfl⟩
      rw [← hte] at cq R8 zt ⊢
      clear hte
      obtain ⟨cd, hcd⟩ : ∃ cd, cd = (orderS X.S 0 t.data.toList).1 := ⟨_, rfl⟩
      have D2 := hid_orderX m8 K.out.x 0 t zt
      rw [← hcd] at D2 cq
      have HD2 := hidOf D2
      have HKz := hidOf K.out.z
      have HR8 := hidOf R8
      have HCQ := hidOf cq
      clear D1 D2 m8 K R8 cq hcd q0 q1 q2
      go_wp2_with fail
      refine HD2.out.mono ?_
      rintro e w9 ⟨rfl, X9, m9, b9, s9⟩
      have D3 := hid_orderZ m9 HKz.out 0 t zt
      rw [← HCQ.out] at D3
      have HD3 := hidOf D3
      have B9 := hidOf b9
      have S9 := hidOf s9
      clear D3 m9 b9 s9 HD2 HKz
      go_wp2_with fail
      refine HD3.out.mono ?_
      rintro e w10 ⟨rfl, Z10, m10, b10, s10⟩
      have K10 : Hid (HidK w w10 bx bz w7.heap.size (w7.heap.size + 1) (w7.heap.size + 1 + 1) j (nextG a g0) (nextB a b0) g1 b1 g2 b2 X9 Z10) := ⟨m10, B9.out, b10, by rw [S9.out, s10]; exact HR8.out⟩
      have G10 : Hid ((0 ≤ nextG a g0 ∧ nextG a g0 ≤ j + 1) ∧ (0 ≤ nextB a b0 ∧ nextB a b0 ≤ j + 1)) := by
        unfold Hid nextG nextB
        refine ⟨?_, ?_⟩ <;> split <;> omega
      obtain ⟨h0, hh0⟩ : ∃ h0, h0 = nextG a g0 := ⟨_, rfl⟩
      obtain ⟨i0, hi0⟩ : ∃ i0, i0 = nextB a b0 := ⟨_, rfl⟩
      rw [← hh0, ← hi0] at K10 G10
      clear HD3 m10 b10 s10 HR8 B9 S9 HCQ hh0 hi0
      by_cases hd1 : j < d1.length
      · obtain ⟨sb1, so1, rfl, hsb1, hsc1⟩ := R1.out (by omega)
        obtain ⟨q3, q4, q5⟩ := acts_cell hsb1 K10.out.m.t.x.b hsc1 j hd1
        have A1 := O1.out d1[j] (List.getElem_mem hd1)
        obtain ⟨a1, ha1⟩ : ∃ a, a = d1[j] := ⟨_, rfl⟩
        rw [← ha1] at q3 q4 q5 A1
        have F1 := hidOf (K10.out.stepB a1 A1 (by have := G.out; omega) (by have := G.out; omega))
        have z1 : (nextT a1 g1 b1).size ≤ 2000000 := by have := nextT_size a1 g1 b1; omega
        have HR1 := hidOf (K10.out.r.order1 a1 (by have := G.out; omega) (by have := G.out; omega))
        have KX1 := hidOf K10.out.x
        have KZ1 := hidOf K10.out.z
        clear hsc1 ha1 A1 K10
        go_wp2_with fail
        refine F1.out.mono ?_
        rintro e x1 ⟨rfl, mz⟩
        have F2 := hidOf (hid_orderX mz KX1.out 1 _ z1)
        clear mz F1 q3 q4 q5 KX1
        go_wp2_with fail
        refine F2.out.mono ?_
        rintro e x2 ⟨rfl, Xx, mx, bx', sx⟩
        have Kx : Hid (HidK w x2 bx bz w7.heap.size (w7.heap.size + 1) (w7.heap.size + 1 + 1) j h0 i0 (nextG a1 g1) (nextB a1 b1) g2 b2 Xx Z10) := ⟨mx, bx', KZ1.out, by rw [sx]; exact HR1.out⟩
        have Gx : Hid ((0 ≤ nextG a1 g1 ∧ nextG a1 g1 ≤ j + 1) ∧ (0 ≤ nextB a1 b1 ∧ nextB a1 b1 ≤ j + 1)) := by
          have := G.out
          unfold Hid nextG nextB
          refine ⟨?_, ?_⟩ <;> split <;> omega
        clear mx bx' sx HR1 KZ1 F2
        by_cases hd2 : j < d2.length
        · obtain ⟨sb2, so2, rfl, hsb2, hsc2⟩ := R2.out (by omega)
          obtain ⟨q6, q7, q8⟩ := acts_cell hsb2 Kx.out.m.t.x.b hsc2 j hd2
          have A2 := O2.out d2[j] (List.getElem_mem hd2)
          obtain ⟨a2, ha2⟩ : ∃ a, a = d2[j] := ⟨_, rfl⟩
          rw [← ha2] at q6 q7 q8 A2
          have F1 := hidOf (Kx.out.stepC a2 A2 (by have := G.out; omega) (by have := G.out; omega))
          have z2 : (nextT a2 g2 b2).size ≤ 2000000 := by have := nextT_size a2 g2 b2; omega
          have HR2 := hidOf (Kx.out.r.order2 a2 (by have := G.out; omega) (by have := G.out; omega))
          have KX2 := hidOf Kx.out.x
          have KZ2 := hidOf Kx.out.z
          clear hsc2 ha2 A2 Kx
          go_wp2_with fail
          refine F1.out.mono ?_
          rintro e y1 ⟨rfl, mz⟩
          have F2 := hidOf (hid_orderZ mz KZ2.out 1 _ z2)
          clear mz F1 q6 q7 q8 KZ2
          go_wp2_with fail
          refine F2.out.mono ?_
          rintro e y2 ⟨rfl, Zy, my, by', sy⟩
          have Ky : Hid (HidK w y2 bx bz w7.heap.size (w7.heap.size + 1) (w7.heap.size + 1 + 1) j h0 i0 (nextG a1 g1) (nextB a1 b1) (nextG a2 g2) (nextB a2 b2) Xx Zy) := ⟨my, KX2.out, by', by rw [sy]; exact HR2.out⟩
          have Gy : Hid ((0 ≤ nextG a2 g2 ∧ nextG a2 g2 ≤ j + 1) ∧ (0 ≤ nextB a2 b2 ∧ nextB a2 b2 ≤ j + 1)) := by
            have := G.out
            unfold Hid nextG nextB
            refine ⟨?_, ?_⟩ <;> split <;> omega
          clear my by' sy HR2 KX2 F2
          obtain ⟨t1, t2, t3, t4⟩ := Ky.out.r.codes (by omega)
          have E1 := hid_tickX Ky.out.m Ky.out.x
          rw [t1, t2] at E1
          have HE1 := hidOf E1
          have KZ := hidOf Ky.out.z
          have HT3 := hidOf t3
          have HT4 := hidOf t4
          have HRt := hidOf Ky.out.r.tick
          clear E1 Ky t1 t2 t3 t4
          go_wp2_with fail
          refine HE1.out.mono ?_
          rintro e v1 ⟨rfl, Xa, ma, ba, sa⟩
          have E2 := hid_tickZ ma KZ.out
          rw [HT3.out, HT4.out] at E2
          have HE2 := hidOf E2
          have BA := hidOf ba
          have SA := hidOf sa
          clear E2 ma ba sa HE1 HT3 HT4 KZ
          go_wp2_with fail
          refine HE2.out.mono ?_
          rintro e v2 ⟨rfl, Za, mb, bb, sb'⟩
          have HRf : Hid (HidR Xa.S Za.S (j + 1) h0 i0 (nextG a1 g1) (nextB a1 b1) (nextG a2 g2) (nextB a2 b2)) := by unfold Hid; rw [SA.out, sb']; exact HRt.out
          have BB := hidOf bb
          have E3 := hid_viewX mb BA.out 0 HT.out
          obtain ⟨vq, vn⟩ := HRf.out.view
          obtain ⟨sv, hsv⟩ : ∃ sv, sv = (viewS Xa.S 0).1 := ⟨_, rfl⟩
          rw [← hsv] at E3 vq vn
          have HE3 := hidOf E3
          have HVQ := hidOf vq
          have sne := bytes_ne vn
          clear E3 mb bb sb' SA HRt HE2 vq hsv
          go_wp2_with fail
          refine HE3.out.mono ?_
          rintro e v3 ⟨rfl, mc⟩
          have E4 := hid_viewZ mc BB.out 0 HT.out
          rw [← HVQ.out] at E4
          have HE4 := hidOf E4
          clear E4 mc HE3 HVQ
          go_wp2_with fail
          refine HE4.out.mono ?_
          rintro e v4 ⟨rfl, md⟩
          have KF : Hid (HidK w v4 bx bz w7.heap.size (w7.heap.size + 1) (w7.heap.size + 1 + 1) (j + 1) h0 i0 (nextG a1 g1) (nextB a1 b1) (nextG a2 g2) (nextB a2 b2) Xa Za) := ⟨md, BA.out, BB.out, HRf.out⟩
          clear md HE4 BA BB HRf
          go_wp2
          exact ⟨⟨j + 1, Xa, Za, h0, i0, (nextG a1 g1), (nextB a1 b1), (nextG a2 g2), (nextB a2 b2), by omega, by omega, by go_num, by unfold Hid; have := G10.out; have := G.out; have := Gx.out; have := Gy.out; push_cast; omega, KF⟩, by simp [intOf]; omega⟩
        · obtain ⟨t1, t2, t3, t4⟩ := Kx.out.r.codes (by omega)
          have E1 := hid_tickX Kx.out.m Kx.out.x
          rw [t1, t2] at E1
          have HE1 := hidOf E1
          have KZ := hidOf Kx.out.z
          have HT3 := hidOf t3
          have HT4 := hidOf t4
          have HRt := hidOf Kx.out.r.tick
          clear E1 Kx t1 t2 t3 t4
          go_wp2_with fail
          refine HE1.out.mono ?_
          rintro e v1 ⟨rfl, Xa, ma, ba, sa⟩
          have E2 := hid_tickZ ma KZ.out
          rw [HT3.out, HT4.out] at E2
          have HE2 := hidOf E2
          have BA := hidOf ba
          have SA := hidOf sa
          clear E2 ma ba sa HE1 HT3 HT4 KZ
          go_wp2_with fail
          refine HE2.out.mono ?_
          rintro e v2 ⟨rfl, Za, mb, bb, sb'⟩
          have HRf : Hid (HidR Xa.S Za.S (j + 1) h0 i0 (nextG a1 g1) (nextB a1 b1) g2 b2) := by unfold Hid; rw [SA.out, sb']; exact HRt.out
          have BB := hidOf bb
          have E3 := hid_viewX mb BA.out 0 HT.out
          obtain ⟨vq, vn⟩ := HRf.out.view
          obtain ⟨sv, hsv⟩ : ∃ sv, sv = (viewS Xa.S 0).1 := ⟨_, rfl⟩
          rw [← hsv] at E3 vq vn
          have HE3 := hidOf E3
          have HVQ := hidOf vq
          have sne := bytes_ne vn
          clear E3 mb bb sb' SA HRt HE2 vq hsv
          go_wp2_with fail
          refine HE3.out.mono ?_
          rintro e v3 ⟨rfl, mc⟩
          have E4 := hid_viewZ mc BB.out 0 HT.out
          rw [← HVQ.out] at E4
          have HE4 := hidOf E4
          clear E4 mc HE3 HVQ
          go_wp2_with fail
          refine HE4.out.mono ?_
          rintro e v4 ⟨rfl, md⟩
          have KF : Hid (HidK w v4 bx bz w7.heap.size (w7.heap.size + 1) (w7.heap.size + 1 + 1) (j + 1) h0 i0 (nextG a1 g1) (nextB a1 b1) g2 b2 Xa Za) := ⟨md, BA.out, BB.out, HRf.out⟩
          clear md HE4 BA BB HRf
          go_wp2
          exact ⟨⟨j + 1, Xa, Za, h0, i0, (nextG a1 g1), (nextB a1 b1), g2, b2, by omega, by omega, by go_num, by unfold Hid; have := G10.out; have := G.out; have := Gx.out; push_cast; omega, KF⟩, by simp [intOf]; omega⟩
      · by_cases hd2 : j < d2.length
        · obtain ⟨sb2, so2, rfl, hsb2, hsc2⟩ := R2.out (by omega)
          obtain ⟨q6, q7, q8⟩ := acts_cell hsb2 K10.out.m.t.x.b hsc2 j hd2
          have A2 := O2.out d2[j] (List.getElem_mem hd2)
          obtain ⟨a2, ha2⟩ : ∃ a, a = d2[j] := ⟨_, rfl⟩
          rw [← ha2] at q6 q7 q8 A2
          have F1 := hidOf (K10.out.stepC a2 A2 (by have := G.out; omega) (by have := G.out; omega))
          have z2 : (nextT a2 g2 b2).size ≤ 2000000 := by have := nextT_size a2 g2 b2; omega
          have HR2 := hidOf (K10.out.r.order2 a2 (by have := G.out; omega) (by have := G.out; omega))
          have KX2 := hidOf K10.out.x
          have KZ2 := hidOf K10.out.z
          clear hsc2 ha2 A2 K10
          go_wp2_with fail
          refine F1.out.mono ?_
          rintro e y1 ⟨rfl, mz⟩
          have F2 := hidOf (hid_orderZ mz KZ2.out 1 _ z2)
          clear mz F1 q6 q7 q8 KZ2
          go_wp2_with fail
          refine F2.out.mono ?_
          rintro e y2 ⟨rfl, Zy, my, by', sy⟩
          have Ky : Hid (HidK w y2 bx bz w7.heap.size (w7.heap.size + 1) (w7.heap.size + 1 + 1) j h0 i0 g1 b1 (nextG a2 g2) (nextB a2 b2) X9 Zy) := ⟨my, KX2.out, by', by rw [sy]; exact HR2.out⟩
          have Gy : Hid ((0 ≤ nextG a2 g2 ∧ nextG a2 g2 ≤ j + 1) ∧ (0 ≤ nextB a2 b2 ∧ nextB a2 b2 ≤ j + 1)) := by
            have := G.out
            unfold Hid nextG nextB
            refine ⟨?_, ?_⟩ <;> split <;> omega
          clear my by' sy HR2 KX2 F2
          obtain ⟨t1, t2, t3, t4⟩ := Ky.out.r.codes (by omega)
          have E1 := hid_tickX Ky.out.m Ky.out.x
          rw [t1, t2] at E1
          have HE1 := hidOf E1
          have KZ := hidOf Ky.out.z
          have HT3 := hidOf t3
          have HT4 := hidOf t4
          have HRt := hidOf Ky.out.r.tick
          clear E1 Ky t1 t2 t3 t4
          go_wp2_with fail
          refine HE1.out.mono ?_
          rintro e v1 ⟨rfl, Xa, ma, ba, sa⟩
          have E2 := hid_tickZ ma KZ.out
          rw [HT3.out, HT4.out] at E2
          have HE2 := hidOf E2
          have BA := hidOf ba
          have SA := hidOf sa
          clear E2 ma ba sa HE1 HT3 HT4 KZ
          go_wp2_with fail
          refine HE2.out.mono ?_
          rintro e v2 ⟨rfl, Za, mb, bb, sb'⟩
          have HRf : Hid (HidR Xa.S Za.S (j + 1) h0 i0 g1 b1 (nextG a2 g2) (nextB a2 b2)) := by unfold Hid; rw [SA.out, sb']; exact HRt.out
          have BB := hidOf bb
          have E3 := hid_viewX mb BA.out 0 HT.out
          obtain ⟨vq, vn⟩ := HRf.out.view
          obtain ⟨sv, hsv⟩ : ∃ sv, sv = (viewS Xa.S 0).1 := ⟨_, rfl⟩
          rw [← hsv] at E3 vq vn
          have HE3 := hidOf E3
          have HVQ := hidOf vq
          have sne := bytes_ne vn
          clear E3 mb bb sb' SA HRt HE2 vq hsv
          go_wp2_with fail
          refine HE3.out.mono ?_
          rintro e v3 ⟨rfl, mc⟩
          have E4 := hid_viewZ mc BB.out 0 HT.out
          rw [← HVQ.out] at E4
          have HE4 := hidOf E4
          clear E4 mc HE3 HVQ
          go_wp2_with fail
          refine HE4.out.mono ?_
          rintro e v4 ⟨rfl, md⟩
          have KF : Hid (HidK w v4 bx bz w7.heap.size (w7.heap.size + 1) (w7.heap.size + 1 + 1) (j + 1) h0 i0 g1 b1 (nextG a2 g2) (nextB a2 b2) Xa Za) := ⟨md, BA.out, BB.out, HRf.out⟩
          clear md HE4 BA BB HRf
          go_wp2
          exact ⟨⟨j + 1, Xa, Za, h0, i0, g1, b1, (nextG a2 g2), (nextB a2 b2), by omega, by omega, by go_num, by unfold Hid; have := G10.out; have := G.out; have := Gy.out; push_cast; omega, KF⟩, by simp [intOf]; omega⟩
        · obtain ⟨t1, t2, t3, t4⟩ := K10.out.r.codes (by omega)
          have E1 := hid_tickX K10.out.m K10.out.x
          rw [t1, t2] at E1
          have HE1 := hidOf E1
          have KZ := hidOf K10.out.z
          have HT3 := hidOf t3
          have HT4 := hidOf t4
          have HRt := hidOf K10.out.r.tick
          clear E1 K10 t1 t2 t3 t4
          go_wp2_with fail
          refine HE1.out.mono ?_
          rintro e v1 ⟨rfl, Xa, ma, ba, sa⟩
          have E2 := hid_tickZ ma KZ.out
          rw [HT3.out, HT4.out] at E2
          have HE2 := hidOf E2
          have BA := hidOf ba
          have SA := hidOf sa
          clear E2 ma ba sa HE1 HT3 HT4 KZ
          go_wp2_with fail
          refine HE2.out.mono ?_
          rintro e v2 ⟨rfl, Za, mb, bb, sb'⟩
          have HRf : Hid (HidR Xa.S Za.S (j + 1) h0 i0 g1 b1 g2 b2) := by unfold Hid; rw [SA.out, sb']; exact HRt.out
          have BB := hidOf bb
          have E3 := hid_viewX mb BA.out 0 HT.out
          obtain ⟨vq, vn⟩ := HRf.out.view
          obtain ⟨sv, hsv⟩ : ∃ sv, sv = (viewS Xa.S 0).1 := ⟨_, rfl⟩
          rw [← hsv] at E3 vq vn
          have HE3 := hidOf E3
          have HVQ := hidOf vq
          have sne := bytes_ne vn
          clear E3 mb bb sb' SA HRt HE2 vq hsv
          go_wp2_with fail
          refine HE3.out.mono ?_
          rintro e v3 ⟨rfl, mc⟩
          have E4 := hid_viewZ mc BB.out 0 HT.out
          rw [← HVQ.out] at E4
          have HE4 := hidOf E4
          clear E4 mc HE3 HVQ
          go_wp2_with fail
          refine HE4.out.mono ?_
          rintro e v4 ⟨rfl, md⟩
          have KF : Hid (HidK w v4 bx bz w7.heap.size (w7.heap.size + 1) (w7.heap.size + 1 + 1) (j + 1) h0 i0 g1 b1 g2 b2 Xa Za) := ⟨md, BA.out, BB.out, HRf.out⟩
          clear md HE4 BA BB HRf
          go_wp2
          exact ⟨⟨j + 1, Xa, Za, h0, i0, g1, b1, g2, b2, by omega, by omega, by go_num, by unfold Hid; have := G10.out; have := G.out; push_cast; omega, KF⟩, by simp [intOf]; omega⟩
    · by_cases hl : j < d0.length
      · have hj6 : ¬ j < 60 := by omega
        have HBl := hidOf K.out.m.t.x.b
        clear K
        go_wp2
        go_ret
        exact ⟨rfl, HBl.out⟩
      · have HBl := hidOf K.out.m.t.x.b
        clear K
        go_wp2
        go_ret
        exact ⟨rfl, HBl.out⟩
end Go.Proofs.YtlafddeoheambaaDoor

/-
  Acts that are handed in, opened.
-/
namespace Go.Proofs.YtlafddeoheambaaDoor
open Go.RowKit Go.Deep Go.ChangeShapes

theorem Tryd.cellsAct : Tryd.prog.cellsOf 39 = 3 := by kernel_rfl
theorem alist3 {α : Type} {l : List α} (h : l.length = 3) : ∃ a0 a1 a2, l = [a0, a1, a2] := by
  match l, h with
  | [a0, a1, a2], _ => exact ⟨a0, a1, a2, rfl⟩
theorem flat_cells3 {α : Type} (cells : α → List Value) (sz : Nat) (hsz : ∀ a, (cells a).length = sz) (hpos : 0 < sz) (l : List α) (w : World) (b off : Nat) (h : ∀ i (hi : i < l.length) r, r < sz → w.cell? ⟨b, off + (i * sz + r), none⟩ = (cells l[i])[r]?) :
    ∀ (j : Nat) u, (l.flatMap cells)[j]? = some u → w.cell? ⟨b, off + j, none⟩ = some u := by
  intro j u hu
  have hj := (at_some hu).1
  rw [flat_length cells sz hsz] at hj
  have e : j / sz * sz + j % sz = j := by rw [Nat.mul_comm]; exact Nat.div_add_mod j sz
  have hr := Nat.mod_lt j hpos
  have hi : j / sz < l.length := (Nat.div_lt_iff_lt_mul hpos).2 hj
  have f := flat_at cells sz hsz l (j / sz) (j % sz) hi hr
  rw [e, hu] at f
  have := h (j / sz) hi (j % sz) hr
  rw [e] at this
  rw [this, ← f]
section
variable {H : Type} {enc : TypeId × Value → H} {w : World} {base : Nat} {spare : Nat → Bool} {held : Bool}
theorem act_open {fuel : Nat} {cs : List Value} {x : DataW H × List MemPlace} (h : DataW.trod enc Tryd.prog w base spare held fuel 39 cs = some x) : ∃ a : ActD, cs = actCells a ∧ a.ok := by
  obtain ⟨y0, y1, y2, n, _, hl, h0, h1, h2⟩ := trod_struct3 Tryd.underlying39 h
  rw [Tryd.cellsAct] at hl
  obtain ⟨c0, c1, c2, rfl⟩ := alist3 hl
  simp only [Tryd.cellsInt] at h0 h1 h2
  obtain ⟨a, e0, _, wa⟩ := DataW.trod_int Tryd.underlying3 h0
  obtain ⟨b, e1, _, wb⟩ := DataW.trod_int Tryd.underlying3 h1
  obtain ⟨c, e2, _, wc⟩ := DataW.trod_int Tryd.underlying3 h2
  simp at e0 e1 e2
  subst e0 e1 e2
  exact ⟨⟨a, b, c⟩, rfl, wf64 wa, wf64 wb, wf64 wc⟩
theorem acts_open {fuel : Nat} {cs : List Value} {x : DataW H × List MemPlace} (h : DataW.trod enc Tryd.prog w base spare held fuel 33 cs = some x) : ∃ v ds, cs = [v] ∧ ActsIn w v ds ∧ ∀ d ∈ ds, d.ok := by
  rcases open_slice Tryd.underlying33 h with ⟨rfl, rfl⟩ | ⟨a, len, cap, m, n, D, Pl, rfl, hb, hlc, hcm, hm, rfl, hel⟩
  · exact ⟨_, [], rfl, ⟨none, 0, rfl, by simp, fun h => absurd h (by simp)⟩, by intro d hd; simp at hd⟩
  · unfold maxLen at hcm
    have hlm : len ≤ m := by rw [hm]; split <;> omega
    have ex : ∀ i, ∃ d : ActD, i < len → (w.cells? base (a.add (i * 3)) 3 = some (actCells d) ∧ d.ok) := by
      intro i
      by_cases hi : i < len
      · obtain ⟨cs', h1, h2⟩ := hel i (by omega)
        rw [Tryd.cellsAct] at h1
        obtain ⟨d, rfl, h3⟩ := act_open h2
        exact ⟨d, fun _ => ⟨h1, h3⟩⟩
      · exact ⟨⟨0, 0, 0⟩, fun h => absurd h hi⟩
    obtain ⟨f, hf⟩ := Classical.axiomOfChoice ex
    have hll : ((List.range len).map f).length = len := by simp
    refine ⟨_, (List.range len).map f, rfl, ⟨some a, cap, by rw [hll], by rw [hll]; omega, fun hpos => ?_⟩, ?_⟩
    · rw [hll] at hpos
      obtain ⟨c0, _⟩ := hf 0 hpos
      obtain ⟨hb0, _, hc0⟩ := World.cells?_some c0
      have h00 := hc0 0 (by omega)
      obtain ⟨b, off, spot⟩ := a
      have hspot : spot = none := by simpa [Addr.add] using World.cell?_spot (h00.trans rfl)
      subst hspot
      refine ⟨b, off, rfl, ?_, ?_⟩
      · have := block_lt_of_cell (h00.trans rfl)
        simpa [Addr.add] using this
      · refine flat_cells3 actCells 3 (fun _ => rfl) (by omega) _ w b off (fun i hi r hr => ?_)
        have hi' : i < len := by simpa using hi
        obtain ⟨ci, _⟩ := hf i hi'
        obtain ⟨_, _, hci⟩ := World.cells?_some ci
        have := hci r hr
        rw [Addr.add_add, Go.WideShapes.add_plain] at this
        simpa using this
    · intro d hd
      simp only [List.mem_map, List.mem_range] at hd
      obtain ⟨i, hi, rfl⟩ := hd
      exact (hf i hi).2
end
end Go.Proofs.YtlafddeoheambaaDoor
