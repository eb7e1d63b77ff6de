/-
  The functions decimal, far, sees and at of package hazeref.
-/
import Derived.Test.YtlafddeoheambaaGreatDoorT26
import Derived.Test.YtlafddeoheambaaGreatDoorT03
import Derived.Test.YtlafddeoheambaaGreatDoorT05
import Derived.Lib.ItoaMem
import Derived.Test.YtlafddeoheambaaGreatDoorT27
import Derived.Test.YtlafddeoheambaaGreatDoorT02
import Derived.Test.YtlafddeoheambaaGreatDoorT07
import Derived.Deep.QuietTactic
import Derived.BigQuiet
import Derived.Deep.AppendLies
import Derived.Deep.DeepCutAuto
set_option linter.unusedVariables false
namespace Go.Proofs.YtlafddeoheambaaGreatDoor
open Go.RowKit

theorem cat_any {P : Program} (a b : ByteArray) (w : World) (ha : a.size ≤ 1000000000000) (hb : b.size ≤ 1000000000000) : (Op.stringOp .add a b).run P w = .ok (.string (a ++ b)) w := run_string_add_sum w a b (by omega)
theorem ret_str {a b : ByteArray} (h : a = b) : Ending.returned (.string a) = .returned (.string b) := by rw [h]
def digitB (d : Nat) : ByteArray := ⟨#[UInt8.ofNat (48 + d)]⟩
theorem digit_ext (d : Nat) (h : d < 10) : (⟨#[48, 49, 50, 51, 52, 53, 54, 55, 56, 57]⟩ : ByteArray).extract d (d + 1) = digitB d := by
  rcases (show d = 0 ∨ d = 1 ∨ d = 2 ∨ d = 3 ∨ d = 4 ∨ d = 5 ∨ d = 6 ∨ d = 7 ∨ d = 8 ∨ d = 9 by omega) with rfl | rfl | rfl | rfl | rfl | rfl | rfl | rfl | rfl | rfl <;> decide +kernel
theorem dec_small (u : Nat) (h : u < 10) : itoaB (u : Int) = digitB u := by
  unfold itoaB digitB
  rw [Lib.itoa_nonneg, Lib.decDigits_one h]
theorem dec_great (u : Nat) (h : ¬ u < 10) : itoaB (u : Int) = itoaB ((u / 10 : Nat) : Int) ++ digitB (u % 10) := by
  unfold itoaB digitB
  rw [Lib.itoa_nonneg, Lib.itoa_nonneg, Lib.decDigits, dif_neg h]
  rw [ByteArray.mk_append_mk]

set_option maxRecDepth 100000 in
set_option maxHeartbeats 2000000 in
theorem decimal_nat (u : Nat) : u ≤ 1000000000000 → ∀ w, Calls Tryz.prog 101 #[.int .i64 (u : Int)] w fun e w' => e = .returned (.string (itoaB (u : Int))) ∧ w' = w := by
  induction u using Nat.strongRecOn with
  | ind u ih =>
    intro hu w
    have hneg : decide ((u : Int) < 0) = false := decide_eq_false (by omega)
    have hd := Nat.mod_lt u (show 0 < 10 by omega)
    have hext := digit_ext (u % 10) hd
    by_cases h10 : u < 10
    · have h10' : (u : Int) < 10 := by omega
      have HE := hidOf (dec_small u h10)
      have em : u % 10 = u := Nat.mod_eq_of_lt h10
      rw [em] at hext
      clear ih em hd
      go_enter Tryz.func101, Tryz.ntmps101
      go_wp2
      go_ret
      refine ⟨?_, rfl⟩
      rw [HE.out]
      have em : u % 10 = u := Nat.mod_eq_of_lt h10
      exact ret_str (by rw [em]; exact hext)
    · have h10' : decide ((u : Int) < 10) = false := decide_eq_false (by omega)
      have HE := hidOf (dec_great u h10)
      have HX := hidOf hext
      have HI := hidOf (fun w => ih (u / 10) (by omega) (by omega) w)
      have eq : ((u / 10 : Nat) : Int) = (u : Int) / 10 := by omega
      rw [eq] at HI HE
      have z1 := itoaB_size ((u : Int) / 10) (by omega)
      have z2 : ((⟨#[48, 49, 50, 51, 52, 53, 54, 55, 56, 57]⟩ : ByteArray).extract (u % 10) (u % 10 + 1)).size = 1 := by rw [hext]; rfl
      have c1 : ∀ w, (Op.stringOp .add (itoaB ((u : Int) / 10)) ((⟨#[48, 49, 50, 51, 52, 53, 54, 55, 56, 57]⟩ : ByteArray).extract (u % 10) (u % 10 + 1))).run Tryz.prog w = .ok (.string (itoaB ((u : Int) / 10) ++ (⟨#[48, 49, 50, 51, 52, 53, 54, 55, 56, 57]⟩ : ByteArray).extract (u % 10) (u % 10 + 1))) w := fun w => cat_any _ _ w (by omega) (by omega)
      clear ih hd hext eq z1 z2
      go_enter Tryz.func101, Tryz.ntmps101
      go_wp2_with (first | (go_at_call 101; refine (HI.out _).mono ?_; rintro e w' ⟨rfl, h⟩; rw [h]; clear h w') | (simp only []))
      go_ret
      refine ⟨?_, rfl⟩
      rw [HE.out]
      exact ret_str (by rw [HX.out])
theorem decimal_any (n : Int) (h : 0 ≤ n ∧ n ≤ 1000000000000) (w : World) : Calls Tryz.prog 101 #[.int .i64 n] w fun e w' => e = .returned (.string (itoaB n)) ∧ w' = w := by
  obtain ⟨u, rfl⟩ := Int.eq_ofNat_of_zero_le h.1
  exact decimal_nat u (by omega) w

set_option maxRecDepth 100000 in
set_option maxHeartbeats 2000000 in
theorem rfar_any (a b x y : Int) (w : World) (ha : 0 ≤ a ∧ a ≤ 100) (hb : 0 ≤ b ∧ b ≤ 100) (hx : 0 ≤ x ∧ x ≤ 100) (hy : 0 ≤ y ∧ y ≤ 100) : Calls Tryz.prog 128 #[.int .i64 a, .int .i64 b, .int .i64 x, .int .i64 y] w fun e w' => e = .returned (.int .i64 (farI a b x y)) ∧ w' = w := by
  obtain ⟨r, hr⟩ : ∃ r, r = farI a b x y := ⟨_, rfl⟩
  rw [← hr]
  have HR := hidOf hr
  clear hr
  go_enter Tryz.func128, Tryz.ntmps128
  go_wp2
  all_goals
    go_ret
    refine ⟨ret_int ?_, rfl⟩
    rw [HR.out]
    unfold farI absI
    (repeat' split) <;> omega

set_option maxRecDepth 100000 in
set_option maxHeartbeats 4000000 in
theorem rsees_any (w : World) (Y : YW) (n : Nat) (p : SPlayer) (v : PV) (x y : Int) (hr : RepY w Y) (hq : Y.pls[n]? = some (p, v)) (h4 : 2 ≤ Y.pls.length ∧ Y.pls.length ≤ 4) (hun : 1 ≤ p.units.length) (hub : ∀ u ∈ p.units, (0 ≤ u.x ∧ u.x ≤ 9) ∧ (0 ≤ u.y ∧ u.y ≤ 9)) (hx : 0 ≤ x ∧ x ≤ 9) (hy : 0 ≤ y ∧ y ≤ 9) :
    Calls Tryz.prog 102 #[.pointer (some ⟨Y.b, 0, none⟩), .int .i64 n, .int .i64 x, .int .i64 y] w fun e w' => e = .returned (.bool (seesB p.units Y.sight x y)) ∧ Below w.heap.size w w' := by
  obtain ⟨hn, _⟩ := at_some hq
  have hn2 : (n : Int) < Y.pls.length := by omega
  rcases own_form hr.pl with ⟨_, h0, _⟩ | ⟨pb, pcap, hvp, hpc, hpm, hpb⟩
  · omega
  unfold maxLen at hpm
  rcases own_form (hr.eachAt hq).units with ⟨_, h0, _⟩ | ⟨ub, ucap, hvu, huc, hum, hubk⟩
  · simp only at h0; omega
  simp only at hvu huc
  unfold maxLen at hum
  have HC : Hid (∀ wx, Below w.heap.size w wx → wx.cell? ⟨Y.b, 5, none⟩ = some (.slice (some ⟨pb, 0, none⟩) Y.pls.length pcap) ∧ wx.cell? ⟨Y.b, 2, none⟩ = some (.int .i64 Y.sight) ∧ wx.cell? ⟨pb, n * 4 + 1, none⟩ = some (.slice (some ⟨ub, 0, none⟩) p.units.length ucap)) := fun wx h => by
    have r := hr.below h
    exact ⟨by rw [← hvp]; exact r.cellTop rfl, r.cellTop rfl, by rw [← hvu]; exact (r.plCell hq hvp).2.1⟩
  have HU : Hid (∀ wx, Below w.heap.size w wx → ∀ (k : Nat) u, p.units[k]? = some u → wx.cell? ⟨ub, k * 7, none⟩ = some (.string u.name) ∧ wx.cell? ⟨ub, k * 7 + 1, none⟩ = some (.int .i64 u.x) ∧ wx.cell? ⟨ub, k * 7 + 2, none⟩ = some (.int .i64 u.y) ∧ wx.cell? ⟨ub, k * 7 + 3, none⟩ = some (.int .i64 u.head) ∧
    wx.cell? ⟨ub, k * 7 + 4, none⟩ = some (.int .i64 u.cargo) ∧ wx.cell? ⟨ub, k * 7 + 5, none⟩ = some (.string u.what) ∧ wx.cell? ⟨ub, k * 7 + 6, none⟩ = some (.string u.arg)) := fun wx h k u hu => ((hr.below h).eachAt hq).uCell hu hvu
  have HUb := hidOf hub
  clear hr hq hvp hvu hub hpb hubk
  go_enter Tryz.func102, Tryz.ntmps102
  go_wp2_with fail
  go_loopw [9, 10, 11] (fun i _ _ w' => ∃ k : Nat, k ≤ p.units.length ∧ i = .int .i64 k ∧ Hid (Below w.heap.size w w') ∧ Hid (noneTo (fun u => decide (farI u.x u.y x y ≤ Y.sight)) p.units k)) (fun i _ _ _ => p.units.length + 1 - (intOf i).toNat)
  case atStart => exact ⟨0, Nat.zero_le _, rfl, Below.refl _ _, noneTo_zero _ _⟩
  case round =>
    obtain ⟨k, hk, rfl, hb, hnn⟩ := hrel
    obtain ⟨c5, c2, cu⟩ := HC.out wr hb.out
    by_cases hlt : k < p.units.length
    · have hlt' : (k : Int) < (p.units.length : Int) := by omega
      have hu : p.units[k]? = some p.units[k] := by simp [hlt]
      obtain ⟨d0, d1, d2, d3, d4, d5, d6⟩ := HU.out wr hb.out k _ hu
      obtain ⟨bx, bY⟩ := HUb.out p.units[k] (List.getElem_mem hlt)
      obtain ⟨u, hue⟩ : ∃ u, u = p.units[k] := ⟨_, rfl⟩
      rw [← hue] at d0 d1 d2 d3 d4 d5 d6 bx bY
      have HFa := hidOf (fun wx => rfar_any u.x u.y x y wx (by omega) (by omega) (by omega) (by omega))
      have hb1 : Below w.heap.size w (wr.alloc (.cells #[.string u.name, .int .i64 u.x, .int .i64 u.y, .int .i64 u.head, .int .i64 u.cargo, .string u.what, .string u.arg] 158)) := hb.out.alloc hb.out.size _
      obtain ⟨e5, e2, _⟩ := HC.out _ hb1
      have HB1 := hidOf hb1
      obtain ⟨d, hd⟩ : ∃ d, d = farI u.x u.y x y := ⟨_, rfl⟩
      rw [← hd] at HFa
      by_cases he : d ≤ Y.sight
      · have G : Hid (seesB p.units Y.sight x y = true) := any_hit (fun u : SUnit => decide (farI u.x u.y x y ≤ Y.sight)) p.units k hlt (decide_eq_true (by rw [← hue, ← hd]; exact he))
        clear hd hnn hb1 hue hb
        go_wp2_with (go_at_call 128; refine (HFa.out _).mono ?_; rintro e w' ⟨rfl, h⟩; rw [h]; clear h w')
        go_ret
        exact ⟨ret_bool G.out.symm, HB1.out⟩
      · have hn' : Hid _ := noneTo_succ hnn.out hlt (decide_eq_false (by rw [← hue, ← hd]; exact he))
        have he' : decide (d ≤ Y.sight) = false := decide_eq_false he
        clear hd hnn hb1 hue hb
        go_wp2_with (go_at_call 128; refine (HFa.out _).mono ?_; rintro e w' ⟨rfl, h⟩; rw [h]; clear h w')
        exact ⟨⟨k + 1, by omega, by go_num, HB1, hn'⟩, by simp [intOf]; omega⟩
    · have hlt' : decide ((k : Int) < (p.units.length : Int)) = false := decide_eq_false (by omega)
      have G : Hid (seesB p.units Y.sight x y = false) := any_miss (fun u : SUnit => decide (farI u.x u.y x y ≤ Y.sight)) p.units (noneTo_all hnn.out (by omega))
      go_wp2
      go_ret
      exact ⟨ret_bool G.out.symm, hb.out⟩
end Go.Proofs.YtlafddeoheambaaGreatDoor

/-
  The function at of package hazeref.
-/
namespace Go.Proofs.YtlafddeoheambaaGreatDoor
open Go.RowKit

theorem lit_size (a : Array UInt8) : (ByteArray.mk a).size = a.size := rfl
def oreLine (x y a : Int) : List UInt8 := lineL [wOre, whereB x y, itoaB a]
def oreF (x y : Int) (s : SSpot) : List UInt8 := if hitB x y s then oreLine x y s.amount else []
theorem oreF_all {o : List SSpot} (hd : oreD o) (x y : Int) : o.flatMap (oreF x y) = oreL o x y := by
  induction o with
  | nil => rfl
  | cons s o ih =>
    have h1 := List.pairwise_cons.1 hd
    have ih := ih h1.2
    simp only [List.flatMap_cons]
    unfold oreL
    rw [oreAt_cons, ih]
    cases hs : hitB x y s
    · simp only [oreF, hs, Bool.false_eq_true, if_false, List.nil_append]
      rfl
    · have hh : s.x = x ∧ s.y = y := by simp [hitB] at hs; exact hs.1
      have ho : oreAt o x y = none := oreAt_far (fun t ht e' => h1.1 t ht ⟨by omega, by omega⟩)
      simp only [oreF, hs, if_true]
      unfold oreL
      rw [ho]
      simp [oreLine]
theorem line3 (a b c : ByteArray) : lineL [a, b, c] = a.data.toList ++ 32 :: (b.data.toList ++ 32 :: (c.data.toList ++ [10])) := by simp [lineL, Lib.join_cons, Lib.joinTail]
theorem spot_text (l : List UInt8) (w : ByteArray) (x y a : Int) (ws : ByteArray) (hw : ws = w ++ ⟨#[32]⟩) : bytesOf l ++ ws ++ (itoaB x ++ ⟨#[32]⟩ ++ itoaB y ++ ⟨#[32]⟩) ++ itoaB a ++ ⟨#[10]⟩ = bytesOf (l ++ lineL [w, whereB x y, itoaB a]) := by
  subst hw
  apply bytes_ext
  rw [line3, bytesOf_toList]
  simp [ByteArray.data_append, whereB, blankB, bytesOf]
theorem oreF_len (x y : Int) (s : SSpot) (hx : 0 ≤ x ∧ x ≤ 9) (hy : 0 ≤ y ∧ y ≤ 9) (hs : 0 ≤ s.amount ∧ s.amount ≤ 99) : (oreF x y s).length ≤ 1000 := by
  unfold oreF
  split
  · have := line_len [wOre, whereB x y, itoaB s.amount] 50 (fun z hz => by
      simp at hz
      rcases hz with rfl | rfl | rfl
      · decide
      · exact whereB_size x y hx hy
      · have := itoaB_size s.amount (by omega); omega)
    simp at this
    unfold oreLine
    omega
  · simp

set_option maxRecDepth 100000 in
set_option maxHeartbeats 8000000 in
theorem rat_any (w : World) (Y : YW) (n : Nat) (x y : Int) (hr : RepY w Y) (hf : Full Y) (h4 : Y.pls.length ≤ 4) (hd : oreD Y.ore) (hor : ∀ s ∈ Y.ore, 0 ≤ s.amount ∧ s.amount ≤ 99) (hol : Y.ore.length ≤ 6) (hx : 0 ≤ x ∧ x ≤ 9) (hy : 0 ≤ y ∧ y ≤ 9) :
    Calls Tryz.prog 103 #[.pointer (some ⟨Y.b, 0, none⟩), .int .i64 n, .int .i64 x, .int .i64 y] w fun e w' => e = .returned (.string (bytesOf (spotL Y.S n x y))) ∧ Below w.heap.size w w' := by
  obtain ⟨ao, g, cap, hv, hcap, hmax, rd⟩ := own_rd hr.ore
  unfold maxLen at hmax
  have c4 : w.cell? ⟨Y.b, 4, none⟩ = some (.slice ao Y.ore.length cap) := by rw [← hv]; exact hr.cellTop rfl
  have HD := hidOf (fun (m : Int) (hm : 0 ≤ m ∧ m ≤ 1000000000000) wx => decimal_any m hm wx)
  have HH := hidOf (holder_any w Y x y hr hf)
  have hbd := holder_bd (Y.pls.map (·.1)) x y
  rw [List.length_map] at hbd
  obtain ⟨hd', hhd⟩ : ∃ h, h = holderI (Y.pls.map (·.1)) x y := ⟨_, rfl⟩
  rw [← hhd] at HH hbd
  have HHd := hidOf hhd
  have zx := itoaB_size x (by omega)
  have zy := itoaB_size y (by omega)
  have HO := hidOf hor
  have HDi := hidOf hd
  obtain ⟨pl, hpl⟩ : ∃ pl, pl = itoaB x ++ (⟨#[32]⟩ : ByteArray) ++ itoaB y ++ (⟨#[32]⟩ : ByteArray) := ⟨_, rfl⟩
  have zp : pl.size ≤ 50 := by rw [hpl]; simp only [ByteArray.size_append, lit_size, List.size_toArray, List.length_cons, List.length_nil]; omega
  have HPl := hidOf hpl
  clear hr hv hor hd hhd
  go_enter Tryz.func103, Tryz.ntmps103
  go_wp2_with (first | (go_at_call 101; refine (HD.out _ (by omega) _).mono ?_; rintro e w' ⟨rfl, h⟩; rw [h]; clear h w') | (rw [cat_any]; rotate_left 1; (simp only [ByteArray.size_append, lit_size, List.size_toArray, List.length_cons, List.length_nil]; omega); (simp only [ByteArray.size_append, lit_size, List.size_toArray, List.length_cons, List.length_nil]; omega)))
  rw [← hpl]
  clear hpl
  go_loop [9, 11] (fun s i => ∃ k : Nat, k ≤ Y.ore.length ∧ i = .int .i64 k ∧ s = .string (bytesOf ((Y.ore.take k).flatMap (oreF x y)))) (fun _ i => Y.ore.length + 1 - (intOf i).toNat)
  case atStart => exact ⟨0, Nat.zero_le _, rfl, rfl⟩
  case round =>
    obtain ⟨k, hk, rfl, rfl⟩ := hrel
    have hfb := flat_len (oreF x y) (Y.ore.take k) 1000 (fun s hs => oreF_len x y s hx hy (HO.out s (List.mem_of_mem_take hs)))
    have htk : (Y.ore.take k).length ≤ 6 := by rw [List.length_take]; omega
    have zs : (bytesOf ((Y.ore.take k).flatMap (oreF x y))).size ≤ 6000 := by rw [bytesOf_size]; omega
    by_cases hlt : k < Y.ore.length
    · obtain rfl := rd.base (by omega)
      have f := fun j (hj : j < 3) => flat_at spotCells 3 (fun _ => rfl) Y.ore k j hlt hj
      have d0 : w.cell? ⟨g, k * 3, none⟩ = some (.int .i64 Y.ore[k].x) := rd.cell _ _ (f 0 (by omega))
      have d1 : w.cell? ⟨g, k * 3 + 1, none⟩ = some (.int .i64 Y.ore[k].y) := rd.cell _ _ (f 1 (by omega))
      have d2 : w.cell? ⟨g, k * 3 + 2, none⟩ = some (.int .i64 Y.ore[k].amount) := rd.cell _ _ (f 2 (by omega))
      have ha := HO.out Y.ore[k] (List.getElem_mem hlt)
      have hfl := flat_take (oreF x y) Y.ore k hlt
      obtain ⟨s, hse⟩ : ∃ s, s = Y.ore[k] := ⟨_, rfl⟩
      rw [← hse] at d0 d1 d2 ha hfl
      obtain ⟨lk, hlk⟩ : ∃ lk, lk = (Y.ore.take k).flatMap (oreF x y) := ⟨_, rfl⟩
      rw [← hlk] at hfl zs ⊢
      have HFl := hidOf hfl
      clear hse hlk hfl hfb htk f
      have miss : hitB x y s = false → Hid (bytesOf ((Y.ore.take (k + 1)).flatMap (oreF x y)) = bytesOf lk) := fun h => by unfold Hid; rw [HFl.out, oreF, h]; simp
      by_cases e1 : s.x = x
      · have e1' : (s.x == x) = true := by simpa using e1
        by_cases e2 : s.y = y
        · have e2' : (s.y == y) = true := by simpa using e2
          by_cases e3 : 0 < s.amount
          · have hit : hitB x y s = true := by simp [hitB, e1, e2, e3]
            have za := itoaB_size s.amount (by omega)
            have HN : Hid (bytesOf ((Y.ore.take (k + 1)).flatMap (oreF x y)) = bytesOf lk ++ ⟨#[111, 114, 101, 32]⟩ ++ pl ++ itoaB s.amount ++ ⟨#[10]⟩) := by
              unfold Hid
              rw [HFl.out, oreF, hit, if_pos rfl, HPl.out]
              exact (spot_text lk wOre x y s.amount ⟨#[111, 114, 101, 32]⟩ rfl).symm
            clear e1 e2 hit
            go_wp2_with (first | (go_at_call 101; refine (HD.out _ (by omega) _).mono ?_; rintro e w' ⟨rfl, h⟩; rw [h]; clear h w') | (rw [cat_any]; rotate_left 1; (simp only [ByteArray.size_append, lit_size, List.size_toArray, List.length_cons, List.length_nil]; omega); (simp only [ByteArray.size_append, lit_size, List.size_toArray, List.length_cons, List.length_nil]; omega)))
            exact ⟨⟨k + 1, by omega, by go_num, by rw [HN.out]⟩, by simp [intOf]; omega⟩
          · have HN := miss (by simp [hitB, e3])
            have e3' : decide (0 < s.amount) = false := decide_eq_false e3
            clear e1 e2 e3 miss
            go_wp2
            exact ⟨⟨k + 1, by omega, by go_num, by rw [HN.out]⟩, by simp [intOf]; omega⟩
        · have HN := miss (by simp [hitB, e2])
          have e2' : (s.y == y) = false := by simpa using e2
          clear e1 e2 miss
          go_wp2
          exact ⟨⟨k + 1, by omega, by go_num, by rw [HN.out]⟩, by simp [intOf]; omega⟩
      · have HN := miss (by simp [hitB, e1])
        have e1' : (s.x == x) = false := by simpa using e1
        clear e1 miss
        go_wp2
        exact ⟨⟨k + 1, by omega, by go_num, by rw [HN.out]⟩, by simp [intOf]; omega⟩
    · have hkl : k = Y.ore.length := by omega
      have eO : (Y.ore.take k).flatMap (oreF x y) = oreL Y.ore x y := by rw [hkl, List.take_of_length_le (Nat.le_refl _)]; exact oreF_all HDi.out x y
      rw [eO] at zs ⊢
      have hlt' : decide ((k : Int) < (Y.ore.length : Int)) = false := decide_eq_false (by omega)
      have HSp : Hid (spotL Y.S n x y = oreL Y.ore x y ++ otherL (Y.pls.map (·.1)) n x y) := rfl
      clear hkl eO hfb htk
      by_cases h0 : 0 ≤ hd'
      · have h0' : decide (0 ≤ hd') = true := decide_eq_true h0
        by_cases h1 : hd' = n
        · have h1' : (hd' == (n : Int)) = true := by simpa using h1
          have HE : Hid (bytesOf (spotL Y.S n x y) = bytesOf (oreL Y.ore x y)) := by
            unfold Hid
            rw [HSp.out, otherL, ← HHd.out, if_neg (fun h => h.2 h1), List.append_nil]
          clear h1
          go_wp2_with (go_at_call 129; refine HH.out.mono ?_; rintro e w1 ⟨rfl, hb1⟩)
          go_ret
          exact ⟨ret_str HE.out.symm, hb1⟩
        · have h1' : (hd' == (n : Int)) = false := by simpa using h1
          have zh := itoaB_size hd' (by omega)
          have HE : Hid (bytesOf (spotL Y.S n x y) = bytesOf (oreL Y.ore x y) ++ ⟨#[111, 116, 104, 101, 114, 32]⟩ ++ pl ++ itoaB hd' ++ ⟨#[10]⟩) := by
            unfold Hid
            rw [HSp.out, otherL, ← HHd.out, if_pos ⟨h0, h1⟩, HPl.out]
            exact (spot_text (oreL Y.ore x y) wOther x y hd' ⟨#[111, 116, 104, 101, 114, 32]⟩ rfl).symm
          clear h1
          go_wp2_with (first | (go_at_call 129; refine HH.out.mono ?_; rintro e w1 ⟨rfl, hb1⟩) | (go_at_call 101; refine (HD.out _ (by omega) _).mono ?_; rintro e w' ⟨rfl, h⟩; rw [h]; clear h w') | (rw [cat_any]; rotate_left 1; (simp only [ByteArray.size_append, lit_size, List.size_toArray, List.length_cons, List.length_nil]; omega); (simp only [ByteArray.size_append, lit_size, List.size_toArray, List.length_cons, List.length_nil]; omega)))
          go_ret
          exact ⟨ret_str HE.out.symm, hb1⟩
      · have h0' : decide (0 ≤ hd') = false := decide_eq_false h0
        have HE : Hid (bytesOf (spotL Y.S n x y) = bytesOf (oreL Y.ore x y)) := by
          unfold Hid
          rw [HSp.out, otherL, ← HHd.out, if_neg (fun h => h0 h.1), List.append_nil]
        go_wp2_with (go_at_call 129; refine HH.out.mono ?_; rintro e w1 ⟨rfl, hb1⟩)
        go_ret
        exact ⟨ret_str HE.out.symm, hb1⟩
end Go.Proofs.YtlafddeoheambaaGreatDoor

/-
  The next lot in the order of names, said plainly.
-/
namespace Go.Proofs.YtlafddeoheambaaGreatDoor
open Go.RowKit

theorem gtr_str (t : TypeId) (a b : ByteArray) : binOp .gtr t (.string a) (.string b) = pure (.bool (ltB b a)) := by
  have e : (!(Op.bytesLess a.toList b.toList || a.toList == b.toList)) = ltB b a := by
    unfold ltB
    cases h1 : Op.bytesLess a.toList b.toList
    · cases h2 : Op.bytesLess b.toList a.toList
      · have := bl_tri _ _ h1 h2
        simp [this]
      · have : a.toList ≠ b.toList := fun e => by rw [e, bl_irrefl] at h2; cases h2
        simp [this]
    · simp [bl_asymm _ _ h1]
  rw [← e]
  simp [binOp, Op.stringOp]
theorem lt_empty {a : ByteArray} (h : a ≠ emptyB) : ltB emptyB a = true := by
  refine ltB_gt h ?_
  unfold ltB
  have e : emptyB.toList = [] := by rw [Lib.toList_data]; rfl
  rw [e]
  cases h' : a.toList <;> rfl
/-- The name behind which the next one is looked for. -/
def lastN (s : List SLot) (j : Nat) : ByteArray := match j with
  | 0 => emptyB
  | j + 1 => match s[j]? with
    | none => emptyB
    | some l => l.name
/-- Of the first i lots the best one behind a name. -/
structure BestTo (ls : List SLot) (last : ByteArray) (i : Nat) (best : Int) : Prop where
  no : best < 0 → best = -1 ∧ ∀ t l, t < i → ls[t]? = some l → ltB last l.name = false
  is : 0 ≤ best → ∃ l, ls[best.toNat]? = some l ∧ best.toNat < i ∧ ltB last l.name = true ∧ ∀ t l', t < i → ls[t]? = some l' → ltB last l'.name = true → ltB l'.name l.name = false
theorem BestTo.zero (ls : List SLot) (last : ByteArray) : BestTo ls last 0 (-1) := ⟨fun _ => ⟨rfl, fun t l h => absurd h (Nat.not_lt_zero _)⟩, fun h => by omega⟩
theorem BestTo.skip {ls : List SLot} {last : ByteArray} {i : Nat} {best : Int} (h : BestTo ls last i best) {l : SLot} (hl : ls[i]? = some l) (hs : ltB last l.name = false ∨ ∃ m, 0 ≤ best ∧ ls[best.toNat]? = some m ∧ ltB l.name m.name = false) : BestTo ls last (i + 1) best := by
  refine ⟨fun h0 => ?_, fun h0 => ?_⟩
  · obtain ⟨e, h1⟩ := h.no h0
    refine ⟨e, fun t l' ht hl' => ?_⟩
    by_cases e' : t = i
    · subst e'
      rw [hl] at hl'
      injection hl' with hl'
      subst hl'
      rcases hs with hs | ⟨m, hb, _⟩
      · exact hs
      · omega
    · exact h1 t l' (by omega) hl'
  · obtain ⟨m, h1, h2, h3, h4⟩ := h.is h0
    refine ⟨m, h1, by omega, h3, fun t l' ht hl' hlt => ?_⟩
    by_cases e' : t = i
    · subst e'
      rw [hl] at hl'
      injection hl' with hl'
      subst hl'
      rcases hs with hs | ⟨m', _, hm', hs⟩
      · rw [hs] at hlt; cases hlt
      · rw [h1] at hm'
        injection hm' with hm'
        subst hm'
        exact hs
    · exact h4 t l' (by omega) hl' hlt
theorem BestTo.take {ls : List SLot} {last : ByteArray} {i : Nat} {best : Int} (h : BestTo ls last i best) {l : SLot} (hl : ls[i]? = some l) (hs : ltB last l.name = true) (hb : best < 0 ∨ ∃ m, ls[best.toNat]? = some m ∧ ltB l.name m.name = true) : BestTo ls last (i + 1) i := by
  refine ⟨fun h0 => by omega, fun _ => ⟨l, by simpa using hl, by simp, hs, fun t l' ht hl' hlt => ?_⟩⟩
  by_cases e' : t = i
  · subst e'
    rw [hl] at hl'
    injection hl' with hl'
    subst hl'
    exact ltB_irrefl _
  · by_cases h0 : best < 0
    · rw [(h.no h0).2 t l' (by omega) hl'] at hlt
      cases hlt
    · obtain ⟨m, h1, h2, h3, h4⟩ := h.is (by omega)
      rcases hb with hb | ⟨m', hm', hb⟩
      · exact absurd hb h0
      · rw [h1] at hm'
        injection hm' with hm'
        subst hm'
        have h5 := h4 t l' (by omega) hl' hlt
        cases h6 : ltB l'.name l.name
        · rfl
        · rw [ltB_trans h6 hb] at h5
          cases h5
/-- What the search ends with. -/
theorem best_none {ls : List SLot} {j : Nat} (ha : Apart ls) (hn : ∀ l ∈ ls, l.name ≠ emptyB) (hj : j ≤ (sortL ls).length) {best : Int} (h : BestTo ls (lastN (sortL ls) j) ls.length best) (h0 : best < 0) : j = (sortL ls).length := by
  by_cases hlt : j < (sortL ls).length
  · exfalso
    have hm := (sortL_mem ls (sortL ls)[j]).1 (List.getElem_mem hlt)
    obtain ⟨t, ht⟩ := List.getElem?_of_mem hm
    have h1 := (h.no h0).2 t _ (at_some ht).1 ht
    have h2 : ltB (lastN (sortL ls) j) (sortL ls)[j].name = true := by
      cases j with
      | zero => exact lt_empty (hn _ hm)
      | succ j =>
        have e : (sortL ls)[j]? = some ((sortL ls)[j]'(by omega)) := by simp [show j < (sortL ls).length by omega]
        simp only [lastN, e]
        exact List.pairwise_iff_getElem.1 (sortL_asc ha) j (j + 1) (by omega) hlt (by omega)
    rw [h2] at h1
    cases h1
  · omega
theorem apart_eq {ls : List SLot} (ha : Apart ls) {a b : SLot} (h1 : a ∈ ls) (h2 : b ∈ ls) (h : a.name = b.name) : a = b := by
  obtain ⟨i, hi, rfl⟩ := List.mem_iff_getElem.1 h1
  obtain ⟨k, hk, rfl⟩ := List.mem_iff_getElem.1 h2
  have hp := List.pairwise_iff_getElem.1 ha
  rcases Nat.lt_trichotomy i k with h' | h' | h'
  · exact absurd h (hp i k hi hk h')
  · subst h'; rfl
  · exact absurd h.symm (hp k i hk hi h')
theorem best_next {ls : List SLot} {j : Nat} (ha : Apart ls) (hn : ∀ l ∈ ls, l.name ≠ emptyB) (hj : j ≤ (sortL ls).length) {best : Int} (h : BestTo ls (lastN (sortL ls) j) ls.length best) (h0 : 0 ≤ best) : ∃ l, ls[best.toNat]? = some l ∧ (sortL ls)[j]? = some l := by
  obtain ⟨l, h1, h2, h3, h4⟩ := h.is h0
  refine ⟨l, h1, ?_⟩
  have hasc := sortL_asc ha
  have hml := List.mem_of_getElem? h1
  obtain ⟨k, hk⟩ := List.getElem?_of_mem ((sortL_mem ls l).2 hml)
  obtain ⟨hkl, ek⟩ := at_some hk
  have hp := List.pairwise_iff_getElem.1 hasc
  -- it stands at j or behind
  have hjk : j ≤ k := by
    cases j with
    | zero => omega
    | succ j =>
      have e : (sortL ls)[j]? = some ((sortL ls)[j]'(by omega)) := by simp [show j < (sortL ls).length by omega]
      simp only [lastN, e] at h3
      rcases Nat.lt_trichotomy k j with h' | h' | h'
      · have := hp k j hkl (by omega) h'
        rw [ek] at this
        rw [ltB_asymm this] at h3
        cases h3
      · subst h'
        rw [ek, ltB_irrefl] at h3
        cases h3
      · omega
  by_cases hlt : j < k
  · exfalso
    have hjl : j < (sortL ls).length := by omega
    have hm := (sortL_mem ls (sortL ls)[j]).1 (List.getElem_mem hjl)
    obtain ⟨t, ht⟩ := List.getElem?_of_mem hm
    have h5 := h4 t _ (at_some ht).1 ht (by
      cases j with
      | zero => exact lt_empty (hn _ hm)
      | succ j =>
        have e : (sortL ls)[j]? = some ((sortL ls)[j]'(by omega)) := by simp [show j < (sortL ls).length by omega]
        simp only [lastN, e]
        exact hp j (j + 1) (by omega) hjl (by omega))
    have h6 := hp j k hjl hkl hlt
    rw [ek] at h6
    rw [h6] at h5
    cases h5
  · have e : j = k := by omega
    rw [e]
    exact hk
end Go.Proofs.YtlafddeoheambaaGreatDoor

/-
  The function ordered of package hazeref: the open lots in the order of their names.
-/
namespace Go.Proofs.YtlafddeoheambaaGreatDoor
open Go.RowKit

theorem gtr_val (a b : ByteArray) : (!(Op.bytesLess a.toList b.toList || a.toList == b.toList)) = ltB b a := by
  unfold ltB
  cases h1 : Op.bytesLess a.toList b.toList
  · cases h2 : Op.bytesLess b.toList a.toList
    · have := bl_tri _ _ h1 h2
      simp [this]
    · have : a.toList ≠ b.toList := fun e => by rw [e, bl_irrefl] at h2; cases h2
      simp [this]
  · simp [bl_asymm _ _ h1]
theorem Tryz.infoRLot : (Tryz.prog.info? 168).map (fun i => (i.zero, i.size, i.bytes)) = some (some (.agg #[.string ⟨#[]⟩, .int .i64 0, .int .i64 0]), 3, 32) := by kernel_rfl
/-- The same memory; draws may have been made. -/
structure SameW (w w' : World) : Prop where
  h : w'.heap = w.heap
  os : w'.os = w.os
  tape : w'.tape = w.tape
  output : w'.output = w.output
theorem SameW.refl (w : World) : SameW w w := ⟨rfl, rfl, rfl, rfl⟩
theorem SameW.drewN {w w' : World} (h : SameW w w') (n : Nat) : SameW w (w'.drewN n) := ⟨h.h, h.os, h.tape, h.output⟩
theorem SameW.below {w w' : World} (h : SameW w w') (B : Nat) : Below B w w' := ⟨h.os, h.tape, h.output, by rw [h.h]; exact Nat.le_refl _, fun k _ => by rw [h.h]⟩
theorem SameW.cell {w w' : World} (h : SameW w w') (a : Addr) : w'.cell? a = w.cell? a := World.cell?_of_block (w := w) (a := a) (by rw [h.h])
def lenOf : Value → Nat
  | .slice _ n _ => n
  | _ => 0
theorem lot_cells {w : World} {ls : List SLot} {ao : Option Addr} {g : Nat} (rd : Rd w 3 ao g ls.length (ls.flatMap lotCells)) {k : Nat} {l : SLot} (hl : ls[k]? = some l) : w.cell? ⟨g, k * 3, none⟩ = some (.string l.name) ∧ w.cell? ⟨g, k * 3 + 1, none⟩ = some (.int .i64 l.least) ∧ w.cell? ⟨g, k * 3 + 2, none⟩ = some (.int .i64 l.ends) := by
  obtain ⟨hk, rfl⟩ := at_some hl
  have f := fun j (hj : j < 3) => flat_at lotCells 3 (fun _ => rfl) ls k j hk hj
  exact ⟨rd.cell _ _ (f 0 (by omega)), rd.cell _ _ (f 1 (by omega)), rd.cell _ _ (f 2 (by omega))⟩
theorem own_nil {w : World} (base : Nat) (e : TypeId) (size : Nat) : w.ownsRow base e size (.slice none 0 0) 0 [] := World.ownsRow_nil _ _ _ _

set_option maxRecDepth 100000 in
set_option maxHeartbeats 8000000 in
theorem ordered_any (w : World) (b : Nat) (ls : List SLot) (vL : Value) (hc : w.cell? ⟨b, 6, none⟩ = some vL) (hu : w.ownsRow 0 168 3 vL ls.length (ls.flatMap lotCells)) (ha : Apart ls) (hn : ∀ l ∈ ls, l.name ≠ emptyB) (hl : ls.length ≤ 4) :
    Calls Tryz.prog 99 #[.pointer (some ⟨b, 0, none⟩)] w fun e w' => ∃ v, e = .returned v ∧ Below w.heap.size w w' ∧ w'.ownsRow w.heap.size 168 3 v (sortL ls).length ((sortL ls).flatMap lotCells) := by
  obtain ⟨ao, g, cap, rfl, hcap, hmax, rd⟩ := own_rd hu
  unfold maxLen at hmax
  have hgl : 0 < ls.length → g < w.heap.size := fun h => by
    have e := rd.base h
    exact own_lt hu g (by rw [e]; simp [blk_slice])
  have hbl := block_lt_of_cell hc
  have HRd := hidOf rd
  have HG := hidOf hgl
  have HA := hidOf ha
  have HN := hidOf hn
  have hsl : (sortL ls).length = ls.length := sortL_length ls
  obtain ⟨L, hL⟩ : ∃ L, L = sortL ls := ⟨_, rfl⟩
  have HL := hidOf hL
  rw [← hL] at hsl ⊢
  clear hL
  obtain ⟨i0, hi0, hz0, hz1, hz2⟩ := info_parts Tryz.infoRLot
  have HC : Hid (∀ wx, Below w.heap.size w wx → wx.cell? ⟨b, 6, none⟩ = some (.slice ao ls.length cap)) := fun wx h => (h.cell hbl).trans hc
  have HLs : Hid (∀ wx, Below w.heap.size w wx → ∀ (k : Nat) l, ls[k]? = some l → ao = some ⟨g, 0, none⟩ ∧ wx.cell? ⟨g, k * 3, none⟩ = some (.string l.name) ∧ wx.cell? ⟨g, k * 3 + 1, none⟩ = some (.int .i64 l.least) ∧ wx.cell? ⟨g, k * 3 + 2, none⟩ = some (.int .i64 l.ends)) := fun wx h k l hl => by
    have hk := (at_some hl).1
    have hg := HG.out (by omega)
    obtain ⟨c0, c1, c2⟩ := lot_cells HRd.out hl
    exact ⟨HRd.out.base (by omega), (h.cell (p := ⟨g, k * 3, none⟩) hg).trans c0, (h.cell (p := ⟨g, k * 3 + 1, none⟩) hg).trans c1, (h.cell (p := ⟨g, k * 3 + 2, none⟩) hg).trans c2⟩
  clear hu ha hn rd hgl hc
  go_enter Tryz.func99, Tryz.ntmps99
  go_wp2_with fail
  go_loopw [3, 4, 5, 6] (fun s3 s4 _ _ w' => ∃ (j c : Nat) (a : Option Addr), j ≤ L.length ∧ s3 = .slice a j c ∧ s4 = .string (lastN L j) ∧ Hid (Below w.heap.size w w') ∧ Hid (w'.ownsRow w.heap.size 168 3 (.slice a j c) j ((L.take j).flatMap lotCells))) (fun s3 _ _ _ _ => 5 - lenOf s3)
  case atStart => exact ⟨0, 0, none, Nat.zero_le _, rfl, rfl, Below.refl _ _, own_nil _ _ _⟩
  case round =>
    obtain ⟨j, c, a, hj, rfl, rfl, hB, hO⟩ := hrel
    have c6 := HC.out wr hB.out
    obtain ⟨last, hlast⟩ : ∃ x, x = lastN L j := ⟨_, rfl⟩
    rw [← hlast]
    have HLa := hidOf hlast
    clear hlast
    go_wp2_with fail
    go_loopw [5, 6] (fun bs i w' => ∃ (k : Nat) (best : Int), k ≤ ls.length ∧ i = .int .i64 k ∧ bs = .int .i64 best ∧ -1 ≤ best ∧ best < 4 ∧ Hid (BestTo ls last k best) ∧ Hid (SameW wr w')) (fun _ i _ => ls.length + 1 - (intOf i).toNat)
    case atStart => exact ⟨0, -1, Nat.zero_le _, rfl, rfl, by omega, by omega, BestTo.zero ls last, SameW.refl _⟩
    case round =>
      clear c6
      obtain ⟨k, best, hk, rfl, rfl, hb0, hb4, hBt, hSw⟩ := hrel
      have HB1 := hidOf (hB.out.trans (hSw.out.below _))
      have c6 := HC.out wr HB1.out
      by_cases hlt : k < ls.length
      · have hlt' : (k : Int) < (ls.length : Int) := by omega
        have hlk : ls[k]? = some ls[k] := by simp [hlt]
        obtain ⟨rfl, d0, d1, d2⟩ := HLs.out wr HB1.out k _ hlk
        obtain ⟨l, hle⟩ : ∃ l, l = ls[k] := ⟨_, rfl⟩
        rw [← hle] at d0 d1 d2 hlk
        have HLk := hidOf hlk
        clear hle hlk
        have stay : ∀ nq, Hid (BestTo ls last (k + 1) best) → Hid (∃ (k' : Nat) (best' : Int), k' ≤ ls.length ∧ (Value.int .i64 ((k : Int) + 1)) = .int .i64 k' ∧ Value.int .i64 best = .int .i64 best' ∧ -1 ≤ best' ∧ best' < 4 ∧ Hid (BestTo ls last k' best') ∧ Hid (SameW _ (wr.drewN nq))) := fun nq h => ⟨k + 1, best, by omega, by go_num, rfl, hb0, hb4, h, hSw.out.drewN nq⟩
        have hgt : (!Op.bytesLess l.name.toList last.toList && !l.name.toList == last.toList) = ltB last l.name := by
          have := gtr_val l.name last
          simpa using this
        cases h1 : ltB last l.name
        · rw [h1] at hgt
          have hN := hidOf (hBt.out.skip HLk.out (.inl h1))
          clear hBt
          go_wp2_with fail
          go_quiet (fail)
          go_wp2
          exact ⟨(stay _ hN).out, by simp [intOf]; omega⟩
        · rw [h1] at hgt
          by_cases hbn : best < 0
          · have hN := hidOf (hBt.out.take HLk.out h1 (.inl hbn))
            have hbn' : decide (best < 0) = true := decide_eq_true hbn
            clear hBt
            go_wp2_with fail
            go_quiet (fail)
            go_wp2
            exact ⟨⟨k + 1, k, by omega, by go_num, rfl, by omega, by omega, hN, hSw.out.drewN _⟩, by simp [intOf]; omega⟩
          · obtain ⟨bn, rfl⟩ := Int.eq_ofNat_of_zero_le (show 0 ≤ best by omega)
            obtain ⟨m, hm, hml, _, _⟩ := hBt.out.is (by omega)
            rw [Int.toNat_natCast] at hm hml
            obtain ⟨_, e0, e1, e2⟩ := HLs.out wr HB1.out bn _ hm
            have hbnl : (bn : Int) < (ls.length : Int) := by omega
            cases h3 : ltB l.name m.name
            · have hN := hidOf (hBt.out.skip HLk.out (.inr ⟨m, by omega, by rw [Int.toNat_natCast]; exact hm, h3⟩))
              have h3' : Op.bytesLess l.name.toList m.name.toList = false := h3
              have hbn' : decide ((bn : Int) < 0) = false := decide_eq_false (by omega)
              clear hBt h3 hm
              go_wp2_with fail
              go_quiet (fail)
              go_wp2
              exact ⟨(stay _ hN).out, by simp [intOf]; omega⟩
            · have hN := hidOf (hBt.out.take HLk.out h1 (.inr ⟨m, by rw [Int.toNat_natCast]; exact hm, h3⟩))
              have h3' : Op.bytesLess l.name.toList m.name.toList = true := h3
              have hbn' : decide ((bn : Int) < 0) = false := decide_eq_false (by omega)
              clear hBt h3 hm
              go_wp2_with fail
              go_quiet (fail)
              go_wp2
              exact ⟨⟨k + 1, k, by omega, by go_num, rfl, by omega, by omega, hN, hSw.out.drewN _⟩, by simp [intOf]; omega⟩
      · have hkl : k = ls.length := by omega
        rw [hkl] at hBt
        have hlt' : decide ((k : Int) < (ls.length : Int)) = false := decide_eq_false (by omega)
        clear hkl
        have hO1 : Hid (wr.ownsRow w.heap.size 168 3 (.slice a j c) j ((L.take j).flatMap lotCells)) := hO.out.kept (row := none) ⟨hSw.out.os, hSw.out.tape, hSw.out.output, by rw [hSw.out.h]; exact Nat.le_refl _, fun k _ _ => by rw [hSw.out.h]⟩ (by cases hv : (Value.slice a j c).ownBlock with | none => exact .inl rfl | some r => exact .inr (by simp))
        have hBt2 : Hid (BestTo ls (lastN (sortL ls) j) ls.length best) := by unfold Hid; rw [← HL.out, ← HLa.out]; exact hBt.out
        have hjs : Hid (j ≤ (sortL ls).length) := by unfold Hid; rw [← HL.out]; exact hj
        by_cases hbn : best < 0
        · have hbn' : decide (best < 0) = true := decide_eq_true hbn
          have hjl := best_none HA.out HN.out hjs.out hBt2.out hbn
          rw [← HL.out] at hjl
          have hOz : Hid (wr.ownsRow w.heap.size 168 3 (.slice a j c) L.length (L.flatMap lotCells)) := by
            unfold Hid
            have := hO1.out
            rw [hjl, List.take_of_length_le (Nat.le_refl _)] at this
            rw [hjl]
            exact this
          clear hjl hO hO1 hBt hBt2
          go_wp2
          go_ret
          exact ⟨_, rfl, HB1.out, hOz.out⟩
        · obtain ⟨bn, rfl⟩ := Int.eq_ofNat_of_zero_le (show 0 ≤ best by omega)
          have hbn' : decide ((bn : Int) < 0) = false := decide_eq_false (by omega)
          obtain ⟨m, hm, hmj⟩ := best_next HA.out HN.out hjs.out hBt2.out (by omega)
          rw [Int.toNat_natCast] at hm
          rw [← HL.out] at hmj
          obtain ⟨rfl, e0, e1, e2⟩ := HLs.out wr HB1.out bn _ hm
          have hbnl : (bn : Int) < (ls.length : Int) := by have := (at_some hm).1; omega
          obtain ⟨hjl, emj⟩ := at_some hmj
          have hc3 : j ≤ c ∧ c ≤ maxLen := by
            rcases own_form (own_any hO1.out) with ⟨h, h0, _⟩ | ⟨g', c', h, h1, h2, _⟩
            · injection h with _ _ h
              exact ⟨by omega, by unfold maxLen; omega⟩
            · injection h with _ _ h
              exact ⟨by omega, by unfold maxLen at *; omega⟩
          obtain ⟨hc3a, hc3b⟩ := hc3
          unfold maxLen at hc3b
          have HO2 : Hid (∀ o, (wr.alloc o).ownsRow w.heap.size 168 3 (.slice a j c) j ((L.take j).flatMap lotCells)) := fun o => ownsRow_alloc hO1.out o
          have HTk : Hid ((L.take (j + 1)).flatMap lotCells = (L.take j).flatMap lotCells ++ [.string m.name, .int .i64 m.least, .int .i64 m.ends]) := by
            unfold Hid
            rw [List.take_succ_eq_append_getElem hjl, List.flatMap_append, List.flatMap_singleton, emj]
            rfl
          have HLn : Hid (lastN L (j + 1) = m.name) := by unfold Hid lastN; simp only [hmj]
          have HBs := hidOf HB1.out.size
          have hbw : b < wr.heap.size := Nat.lt_of_lt_of_le hbl HB1.out.size
          have hgw : g < wr.heap.size := Nat.lt_of_lt_of_le (HG.out (by omega)) HB1.out.size
          have HMm := hidOf hm
          have HB9 : Hid (∀ (o : Obj) (wx : World), (wr.alloc o).grownBy wx (Value.slice a j c).ownBlock → Hid (Below w.heap.size w wx)) := fun o wx hg => by
            refine (HB1.out.alloc HB1.out.size _).grown hg (by have := HB1.out.size; simp; omega) (fun r hr => ?_)
            exact (hO1.out.lt r hr).1
          clear hO hO1 hBt hBt2 hm hmj emj
          go_wp2_with (at_builtin; refine wpList_append_lies _ rfl _ _ _ rfl w.heap.size 168 i0 _ 3 32 Tryz.underlying154 hi0 hz0 hz1 hz2 rfl (by omega) (.slice a j c) j ((L.take j).flatMap lotCells) rfl (by exact HO2.out _) ⟨wr.heap.size, 0, none⟩ 1 1 [.string m.name, .int .i64 m.least, .int .i64 m.ends] rfl rfl (by exact World.news_of_block (Go.heap_alloc_new wr _)) (by intro u hu; simp at hu; rcases hu with rfl | rfl | rfl <;> rfl) (by omega) (by unfold maxLen; omega) (by omega) (by have := HBs.out; simp; omega) (wr.heap.size + 1) (by simp) ?_; intro g9 cap9 w9 hown9 hgrow hat hlt9; have B9 := HB9.out _ _ hgrow; have c9 := HC.out _ B9.out; obtain ⟨_, e90, e91, e92⟩ := HLs.out _ B9.out bn _ HMm.out)
          have hO9 : Hid (w9.ownsRow w.heap.size 168 3 (.slice (some ⟨g9, 0, none⟩) (j + 1) cap9) (j + 1) ((L.take (j + 1)).flatMap lotCells)) := by unfold Hid; rw [HTk.out]; exact hown9
          exact ⟨⟨j + 1, cap9, some ⟨g9, 0, none⟩, by omega, rfl, by rw [HLn.out], B9, hO9⟩, by simp [lenOf]; omega⟩
end Go.Proofs.YtlafddeoheambaaGreatDoor

/-
  The function View of package hazeref.
-/
namespace Go.Proofs.YtlafddeoheambaaGreatDoor
open Go.RowKit

theorem tick_text (now money : Int) : (⟨#[116, 105, 99, 107, 32]⟩ : ByteArray) ++ itoaB now ++ ⟨#[32, 109, 111, 110, 101, 121, 32]⟩ ++ itoaB money ++ ⟨#[10]⟩ = bytesOf (tickL now money) := by
  apply bytes_ext
  unfold tickL
  rw [line4, bytesOf_toList]
  simp [ByteArray.data_append, wTick, wMoney]
theorem head_ext (h : Nat) (hh : h ≤ 3) : (⟨#[101, 110, 119, 115]⟩ : ByteArray).extract h (h + 1) = letterB h := by
  rcases (show h = 0 ∨ h = 1 ∨ h = 2 ∨ h = 3 by omega) with rfl | rfl | rfl | rfl <;> decide +kernel
theorem line6 (a b c d e f : ByteArray) : lineL [a, b, c, d, e, f] = a.data.toList ++ 32 :: (b.data.toList ++ 32 :: (c.data.toList ++ 32 :: (d.data.toList ++ 32 :: (e.data.toList ++ 32 :: (f.data.toList ++ [10]))))) := by simp [lineL, Lib.join_cons, Lib.joinTail]
theorem line8 (a b c d e f g h : ByteArray) : lineL [a, b, c, d, e, f, g, h] = a.data.toList ++ 32 :: (b.data.toList ++ 32 :: (c.data.toList ++ 32 :: (d.data.toList ++ 32 :: (e.data.toList ++ 32 :: (f.data.toList ++ 32 :: (g.data.toList ++ 32 :: (h.data.toList ++ [10]))))))) := by simp [lineL, Lib.join_cons, Lib.joinTail]
theorem unit_text (l : List UInt8) (u : SUnit) (h : Nat) (hh : u.head = h) (h3 : h ≤ 3) :
    bytesOf l ++ ⟨#[117, 110, 105, 116, 32]⟩ ++ u.name ++ ⟨#[32]⟩ ++ itoaB u.x ++ ⟨#[32]⟩ ++ itoaB u.y ++ ⟨#[32]⟩ ++ (⟨#[101, 110, 119, 115]⟩ : ByteArray).extract h (h + 1) ++ ⟨#[32, 99, 97, 114, 103, 111, 32]⟩ ++ itoaB u.cargo ++ ⟨#[10]⟩ = bytesOf (l ++ unitL u) := by
  rw [head_ext h h3]
  apply bytes_ext
  unfold unitL
  rw [line6, bytesOf_toList, hh]
  simp [ByteArray.data_append, wUnit, wCargo, whereB, blankB, bytesOf]
theorem lot_text (l : List UInt8) (s : SLot) (bid : Int) (hb : 0 < bid) :
    bytesOf l ++ ⟨#[108, 111, 116, 32]⟩ ++ s.name ++ ⟨#[32, 117, 110, 116, 105, 108, 32]⟩ ++ itoaB s.ends ++ ⟨#[32, 108, 101, 97, 115, 116, 32]⟩ ++ itoaB s.least ++ ⟨#[32, 98, 105, 100, 32]⟩ ++ itoaB bid ++ ⟨#[10]⟩ = bytesOf (l ++ lineL (lotWs bid s)) := by
  unfold lotWs
  rw [if_pos hb]
  apply bytes_ext
  show _ = (bytesOf (l ++ lineL [wLot, s.name, wUntil, itoaB s.ends, wLeast, itoaB s.least, wBid, itoaB bid])).data.toList
  rw [line8, bytesOf_toList]
  simp [ByteArray.data_append, wLot, wUntil, wLeast, wBid, bytesOf]
theorem lot_text0 (l : List UInt8) (s : SLot) (bid : Int) (hb : ¬ 0 < bid) :
    bytesOf l ++ ⟨#[108, 111, 116, 32]⟩ ++ s.name ++ ⟨#[32, 117, 110, 116, 105, 108, 32]⟩ ++ itoaB s.ends ++ ⟨#[32, 108, 101, 97, 115, 116, 32]⟩ ++ itoaB s.least ++ ⟨#[10]⟩ = bytesOf (l ++ lineL (lotWs bid s)) := by
  unfold lotWs
  rw [if_neg hb]
  apply bytes_ext
  show _ = (bytesOf (l ++ lineL [wLot, s.name, wUntil, itoaB s.ends, wLeast, itoaB s.least])).data.toList
  rw [line6, bytesOf_toList]
  simp [ByteArray.data_append, wLot, wUntil, wLeast, bytesOf]
theorem app_text (l : List UInt8) (b : ByteArray) : bytesOf l ++ b = bytesOf (l ++ b.data.toList) := by
  apply bytes_ext
  simp [ByteArray.data_append, bytesOf]
theorem app_bytes (l m : List UInt8) : bytesOf l ++ bytesOf m = bytesOf (l ++ m) := by
  apply bytes_ext
  simp [ByteArray.data_append, bytesOf]
/-- What is told of lots is short. -/
def NwP (p : SPlayer) : Prop := p.news.length ≤ 4 ∧ ∀ m ∈ p.news, m.size ≤ 3000000

set_option maxRecDepth 100000 in
set_option maxHeartbeats 16000000 in
theorem rview_is (w : World) (Y : YW) (M : Int) (n : Nat) (p : SPlayer) (v : PV) (hr : RepY w Y) (hf : WFS Y.S M) (hM : M ≤ 100000000000) (hnow : 0 ≤ Y.now ∧ Y.now ≤ 1000) (hlw : LotWF Y.lots (Y.pls.map (·.1.bids)) Y.now) (hd : oreD Y.ore) (hnm : NmS Y.S) (hnw : NwP p) (hq : Y.pls[n]? = some (p, v)) :
    Calls Tryz.prog 55 #[.pointer (some ⟨Y.b, 0, none⟩), .int .i64 n] w fun e w' => e = .returned (.tuple #[.string (bytesOf (viewL Y.S n p)), .int .i64 0]) ∧ Below w.heap.size w w' := by
  have hpl : Y.S.players.length = Y.pls.length := by simp [YW.S]
  have h4 := hf.pl
  rw [hpl] at h4
  obtain ⟨hn, _⟩ := at_some hq
  have hn2 : (n : Int) < Y.pls.length := by omega
  rcases own_form hr.pl with ⟨_, h0, _⟩ | ⟨pb, pcap, hvp, hpc, hpm, hpb⟩
  · omega
  unfold maxLen at hpm
  have pmem : p ∈ Y.S.players := List.mem_of_getElem? (S_at hq)
  have pk := hf.each p pmem
  have hfull : Full Y := ⟨by omega, fun q hq => by
    have := hf.each q.1 (by simp only [YW.S]; exact List.mem_map_of_mem hq)
    exact this.un.1⟩
  have hwd : Y.S.width = Y.width := rfl
  have hht : Y.S.height = Y.height := rfl
  have bw := hf.wd
  have bh := hf.ht
  rw [hwd] at bw
  rw [hht] at bh
  have hub : ∀ u ∈ p.units, (0 ≤ u.x ∧ u.x ≤ 9) ∧ (0 ≤ u.y ∧ u.y ≤ 9) := fun u hu => by
    have uk := pk.each u hu
    have ux := uk.x
    have uy := uk.y
    rw [hwd] at ux
    rw [hht] at uy
    omega
  rcases own_form (hr.eachAt hq).units with ⟨_, h0, _⟩ | ⟨ub, ucap, hvu, huc, hum, hubk⟩
  · have := pk.un.1; simp only at h0; omega
  simp only at hvu huc
  unfold maxLen at hum
  have c5 : w.cell? ⟨Y.b, 5, none⟩ = some (.slice (some ⟨pb, 0, none⟩) Y.pls.length pcap) := by rw [← hvp]; exact hr.cellTop rfl
  have c3 : w.cell? ⟨Y.b, 3, none⟩ = some (.int .i64 Y.now) := hr.cellTop rfl
  have m0 : w.cell? ⟨pb, n * 4, none⟩ = some (.int .i64 p.money) := (hr.plCell hq hvp).1
  obtain ⟨mo0, mo1⟩ := pk.mo
  obtain ⟨W, hW⟩ : ∃ W : Nat, Y.width = W := ⟨Y.width.toNat, by omega⟩
  obtain ⟨H, hH⟩ : ∃ H : Nat, Y.height = H := ⟨Y.height.toNat, by omega⟩
  have HR : Hid (∀ wx, Below w.heap.size w wx → RepY wx Y) := fun wx h => hr.below h
  have HC : Hid (∀ wx, Hid (Below w.heap.size w wx) → wx.cell? ⟨Y.b, 0, none⟩ = some (.int .i64 W) ∧ wx.cell? ⟨Y.b, 1, none⟩ = some (.int .i64 H) ∧ wx.cell? ⟨pb, n * 4 + 1, none⟩ = some (.slice (some ⟨ub, 0, none⟩) p.units.length ucap) ∧ wx.cell? ⟨pb, n * 4 + 2, none⟩ = some v.b ∧ wx.cell? ⟨pb, n * 4 + 3, none⟩ = some v.n) := fun wx h => by
    have r := HR.out wx h.out
    obtain ⟨q0, q1, q2, q3⟩ := r.plCell hq hvp
    exact ⟨by rw [← hW]; exact r.cellTop rfl, by rw [← hH]; exact r.cellTop rfl, by rw [← hvu]; exact q1, q2, q3⟩
  have HU : Hid (∀ wx, Hid (Below w.heap.size w wx) → ∀ (k : Nat) u, p.units[k]? = some u → wx.cell? ⟨ub, k * 7, none⟩ = some (.string u.name) ∧ wx.cell? ⟨ub, k * 7 + 1, none⟩ = some (.int .i64 u.x) ∧ wx.cell? ⟨ub, k * 7 + 2, none⟩ = some (.int .i64 u.y) ∧ wx.cell? ⟨ub, k * 7 + 3, none⟩ = some (.int .i64 u.head) ∧
    wx.cell? ⟨ub, k * 7 + 4, none⟩ = some (.int .i64 u.cargo) ∧ wx.cell? ⟨ub, k * 7 + 5, none⟩ = some (.string u.what) ∧ wx.cell? ⟨ub, k * 7 + 6, none⟩ = some (.string u.arg)) := fun wx h k u hu => ((HR.out wx h.out).eachAt hq).uCell hu hvu
  have HD := hidOf (fun (m : Int) (hm : 0 ≤ m ∧ m ≤ 1000000000000) wx => decimal_any m hm wx)
  have HSe : Hid (∀ wx, Hid (Below w.heap.size w wx) → ∀ (x y : Int), (0 ≤ x ∧ x ≤ 9) → (0 ≤ y ∧ y ≤ 9) → Calls Tryz.prog 102 #[.pointer (some ⟨Y.b, 0, none⟩), .int .i64 n, .int .i64 x, .int .i64 y] wx fun e w' => e = .returned (.bool (seesB p.units Y.sight x y)) ∧ Hid (Below w.heap.size w w')) := fun wx h x y hx hy => by
    refine (rsees_any wx Y n p v x y (HR.out wx h.out) hq h4 pk.un.1 hub hx hy).mono ?_
    rintro e w' ⟨rfl, hb⟩
    exact ⟨rfl, h.out.trans (hb.mono h.out.size)⟩
  have HAt : Hid (∀ wx, Hid (Below w.heap.size w wx) → ∀ (x y : Int), (0 ≤ x ∧ x ≤ 9) → (0 ≤ y ∧ y ≤ 9) → Calls Tryz.prog 103 #[.pointer (some ⟨Y.b, 0, none⟩), .int .i64 n, .int .i64 x, .int .i64 y] wx fun e w' => e = .returned (.string (bytesOf (spotL Y.S n x y))) ∧ Hid (Below w.heap.size w w')) := fun wx h x y hx hy => by
    refine (rat_any wx Y n x y (HR.out wx h.out) hfull h4.2 hd hf.ora hf.orn hx hy).mono ?_
    rintro e w' ⟨rfl, hb⟩
    exact ⟨rfl, h.out.trans (hb.mono h.out.size)⟩
  have HOr : Hid (∀ wx, Hid (Below w.heap.size w wx) → Calls Tryz.prog 99 #[.pointer (some ⟨Y.b, 0, none⟩)] wx fun e w' => ∃ vo, e = .returned vo ∧ Hid (Below w.heap.size w w') ∧ Hid (w'.ownsRow 0 168 3 vo (sortL Y.lots).length ((sortL Y.lots).flatMap lotCells)) ∧ Hid (∀ r ∈ blk vo, w.heap.size ≤ r)) := fun wx h => by
    have r := HR.out wx h.out
    refine (ordered_any wx Y.b Y.lots Y.vLots (r.cellTop rfl) r.lots hlw.apart hlw.nm hlw.len).mono ?_
    rintro e w' ⟨vo, rfl, hb, hown⟩
    refine ⟨vo, rfl, h.out.trans (hb.mono h.out.size), own_any hown, fun r hr => ?_⟩
    have := (hown.lt r (by simpa [blk] using hr)).1
    have := h.out.size
    omega
  have HBi : Hid (∀ wx, Hid (Below w.heap.size w wx) → ∀ nm, Calls Tryz.prog 104 #[.pointer (some ⟨pb, n * 4, none⟩), .string nm] wx fun e w' => e = .returned (.int .i64 (bidI p.bids nm)) ∧ w' = wx) := fun wx h nm => by
    have r := HR.out wx h.out
    obtain ⟨q0, q1, q2, q3⟩ := r.plCell hq hvp
    exact bid_any pb (n * 4) p.bids v.b nm wx q2 (r.eachAt hq).bids
  have HNw : Hid (∀ wx, Hid (Below w.heap.size w wx) → wx.ownsRow 0 9 1 v.n p.news.length (p.news.map Value.string)) := fun wx h => ((HR.out wx h.out).eachAt hq).news
  have HSl : Hid (sortL Y.S.lots = sortL Y.lots) := rfl
  have hls : ∀ l ∈ sortL Y.lots, l.name.size ≤ 2000000 ∧ (0 ≤ l.ends ∧ l.ends ≤ 10000) ∧ (0 ≤ l.least ∧ l.least ≤ 100000) := fun l hl => by
    have hm := (sortL_mem Y.lots l).1 hl
    have h1 := hlw.ends l hm
    exact ⟨hnm.l l hm, by omega, hlw.lst l hm⟩
  have hbs : ∀ nm, 0 ≤ bidI p.bids nm ∧ bidI p.bids nm ≤ 100000 := fun nm => by
    have hb := hlw.bids p.bids (List.mem_map.2 ⟨(p, v), List.mem_of_getElem? hq, rfl⟩)
    have key : ∀ bs : List SBid, (∀ x ∈ bs, 0 < x.n ∧ x.n ≤ 100000) → 0 ≤ bidI bs nm ∧ bidI bs nm ≤ 100000 := by
      intro bs hb
      induction bs with
      | nil => simp [bidI]
      | cons x bs ih =>
        simp only [bidI]
        split
        · have := hb x (by simp); omega
        · exact ih (fun y hy => hb y (by simp [hy]))
    exact key p.bids hb.pos
  have hsl4 : (sortL Y.lots).length ≤ 4 := by rw [sortL_length]; exact hlw.len
  obtain ⟨sl, hsle⟩ : ∃ sl, sl = sortL Y.lots := ⟨_, rfl⟩
  rw [← hsle] at HOr HSl hls hsl4
  have HLs := hidOf hls
  have HBs := hidOf hbs
  have HNm := hidOf (fun u hu => (hnm.u p pmem u hu).1)
  have HPk := hidOf pk
  have HUb := hidOf hub
  have HNz := hidOf hnw
  have hun := pk.un
  have z1 := itoaB_size Y.now (by omega)
  have z2 := itoaB_size p.money (by omega)
  have HW := hidOf (fun wx => within_any (n : Int) 0 ((Y.pls.length : Int) - 1) wx)
  rw [show inB (n : Int) 0 ((Y.pls.length : Int) - 1) = true by simp [inB]; omega] at HW
  have HRl : Hid (∀ (k : Nat), k ≤ 10 → (rowsTo Y.S n p.units k).length ≤ 200000) := fun k hk => rowsTo_len Y.S n p.units k hk (by rw [hwd]; omega) hf.ora (by rw [hpl]; exact h4.2)
  have HRo : Hid (∀ (y : Int) (k : Nat), k ≤ 10 → (0 ≤ y ∧ y ≤ 9) → (rowTo Y.S n p.units y k).length ≤ 20000) := fun y k hk hy => rowTo_len Y.S n p.units y k hk hy hf.ora (by rw [hpl]; exact h4.2)
  have HWt : Hid (Y.S.width.toNat = W) := by unfold Hid; rw [hwd, hW]; simp
  have HHt : Hid (Y.S.height.toNat = H) := by unfold Hid; rw [hht, hH]; simp
  have bW : 3 ≤ W ∧ W ≤ 10 := by omega
  have bH : 3 ≤ H ∧ H ≤ 10 := by omega
  have HVl : Hid (viewL Y.S n p = ((tickL Y.now p.money ++ p.units.flatMap unitL) ++ rowsTo Y.S n p.units H) ++ sl.flatMap (fun l => lineL (lotWs (bidI p.bids l.name) l)) ++ p.news.flatMap (fun m => m.data.toList ++ [10])) := by
    unfold Hid viewL ownL lotsL newsL
    rw [HSl.out, HHt.out]
    rfl
  have hlt1 := tickL_len Y.now p.money (by omega) (by omega)
  have ht := tick_text Y.now p.money
  obtain ⟨vw, hvw⟩ : ∃ vw, vw = bytesOf (viewL Y.S n p) := ⟨_, rfl⟩
  rw [← hvw]
  have HVw := hidOf hvw
  clear hr hf hlw hd hnm hnw hq pk hfull hub hls hbs hsle hvp hvu hpl hwd hht hW hH bw bh hvw hpb hubk pmem
  go_enter Tryz.func55, Tryz.ntmps55
  go_upto_region 4 with (go_at_call 88; refine (HW.out _).mono ?_; rintro e w' ⟨rfl, h⟩; rw [h]; clear h w')
  go_quiet ((go_at_call 101; exact Calls.quiet_of_same (HD.out _ (by omega) _)))
  have B0 : Hid (Below w.heap.size w (w.drewN nq)) := ⟨rfl, rfl, rfl, Nat.le_refl _, fun _ _ => rfl⟩
  clear ht c5 c3 m0 z1 z2 HW
  obtain ⟨e0, e1, e2, e3, e4⟩ := HC.out _ B0
  go_wp2_with fail
  go_loopw [7, 8, 9] (fun s i _ w' => ∃ j : Nat, j ≤ p.units.length ∧ i = .int .i64 j ∧ s = .string (bytesOf (tickL Y.now p.money ++ (p.units.take j).flatMap unitL)) ∧ Hid (Below w.heap.size w w')) (fun _ i _ _ => p.units.length + 1 - (intOf i).toNat)
  case atStart => exact ⟨0, Nat.zero_le _, rfl, by simp, B0⟩
  case round =>
    clear e0 e1 e2 e3 e4 B0
    obtain ⟨j, hj, rfl, rfl, B⟩ := hrel
    obtain ⟨e0, e1, e2, e3, e4⟩ := HC.out _ B
    have hfb := flat_len unitL (p.units.take j) 20000000 (fun u hu => by
      have hu' := List.mem_of_mem_take hu
      obtain ⟨b1, b2⟩ := HUb.out u hu'
      exact unitL_len u (HNm.out u hu') b1 b2 (HPk.out.each u hu').cargo)
    have htk : (p.units.take j).length ≤ 5 := by rw [List.length_take]; omega
    have zs : (bytesOf (tickL Y.now p.money ++ (p.units.take j).flatMap unitL)).size ≤ 200000000 := by rw [bytesOf_size, List.length_append]; omega
    by_cases hlt : j < p.units.length
    · have hlt' : (j : Int) < (p.units.length : Int) := by omega
      have hu : p.units[j]? = some p.units[j] := by simp [hlt]
      obtain ⟨d0, d1, d2, d3, d4, d5, d6⟩ := HU.out _ B j _ hu
      have nmk := HNm.out p.units[j] (List.getElem_mem hlt)
      obtain ⟨b1, b2⟩ := HUb.out p.units[j] (List.getElem_mem hlt)
      have uk := HPk.out.each p.units[j] (List.getElem_mem hlt)
      have ucg := uk.cargo
      have uhd := uk.head
      have hfl := flat_take unitL p.units j hlt
      obtain ⟨u, hue⟩ : ∃ u, u = p.units[j] := ⟨_, rfl⟩
      rw [← hue] at d0 d1 d2 d3 d4 d5 d6 nmk b1 b2 ucg uhd hfl
      obtain ⟨lk, hlk⟩ : ∃ lk, lk = tickL Y.now p.money ++ (p.units.take j).flatMap unitL := ⟨_, rfl⟩
      have HF : Hid (tickL Y.now p.money ++ (p.units.take (j + 1)).flatMap unitL = lk ++ unitL u) := by unfold Hid; rw [hfl, hlk, List.append_assoc]
      rw [← hlk] at zs ⊢
      obtain ⟨hn0, hhd⟩ : ∃ hn0 : Nat, u.head = hn0 := ⟨u.head.toNat, by omega⟩
      have hh3 : hn0 ≤ 3 := by omega
      have HT := hidOf (unit_text lk u hn0 hhd hh3)
      rw [hhd] at d3
      have zh : ((⟨#[101, 110, 119, 115]⟩ : ByteArray).extract hn0 (hn0 + 1)).size ≤ 1 := by rw [head_ext hn0 hh3]; exact letterB_size _
      have zx := itoaB_size u.x (by omega)
      have zy := itoaB_size u.y (by omega)
      have zc := itoaB_size u.cargo (by omega)
      have B1 : Hid (Below w.heap.size w (wr.alloc (.cells #[.string u.name, .int .i64 u.x, .int .i64 u.y, .int .i64 hn0, .int .i64 u.cargo, .string u.what, .string u.arg] 158))) := B.out.alloc B.out.size _
      have k1 := Go.heap_alloc_new wr (.cells #[.string u.name, .int .i64 u.x, .int .i64 u.y, .int .i64 hn0, .int .i64 u.cargo, .string u.what, .string u.arg] 158)
      clear hue hlk hfl hfb htk uk hhd B
      go_upto_region 9 with fail
      obtain ⟨w1, hw1⟩ : ∃ w1, w1 = wr.alloc (.cells #[.string u.name, .int .i64 u.x, .int .i64 u.y, .int .i64 hn0, .int .i64 u.cargo, .string u.what, .string u.arg] 158) := ⟨_, rfl⟩
      rw [← hw1] at B1 k1 ⊢
      clear hw1 d0 d1 d2 d3 d4 d5 d6 e0 e1 e2 e3 e4
      have x0 : w1.cell? ⟨wr.heap.size, 0, none⟩ = some (.string u.name) := by rw [cell_of_row _ _ _ _ _ _ k1]; rfl
      have x1 : w1.cell? ⟨wr.heap.size, 1, none⟩ = some (.int .i64 u.x) := by rw [cell_of_row _ _ _ _ _ _ k1]; rfl
      have x2 : w1.cell? ⟨wr.heap.size, 2, none⟩ = some (.int .i64 u.y) := by rw [cell_of_row _ _ _ _ _ _ k1]; rfl
      have x3 : w1.cell? ⟨wr.heap.size, 3, none⟩ = some (.int .i64 hn0) := by rw [cell_of_row _ _ _ _ _ _ k1]; rfl
      have x4 : w1.cell? ⟨wr.heap.size, 4, none⟩ = some (.int .i64 u.cargo) := by rw [cell_of_row _ _ _ _ _ _ k1]; rfl
      clear k1
      go_quiet ((go_at_call 101; exact Calls.quiet_of_same (HD.out _ (by omega) _)))
      rw [HT.out]
      go_wp2
      exact ⟨⟨j + 1, by omega, by go_num, by rw [HF.out], B1.out.trans ⟨rfl, rfl, rfl, Nat.le_refl _, fun _ _ => rfl⟩⟩, by simp [intOf]; omega⟩
    · have hlt' : decide ((j : Int) < (p.units.length : Int)) = false := decide_eq_false (by omega)
      have hjl : j = p.units.length := by omega
      rw [hjl, List.take_of_length_le (Nat.le_refl _)] at zs ⊢
      obtain ⟨l1, hl1⟩ : ∃ l1, l1 = tickL Y.now p.money ++ p.units.flatMap unitL := ⟨_, rfl⟩
      rw [← hl1] at zs HVl ⊢
      clear hjl hl1 hfb htk
      have hl1 : l1.length ≤ 200000000 := by rw [bytesOf_size] at zs; exact zs
      go_wp2_with fail
      go_loopw [7, 10, 11, 12] (fun s y _ _ w' => ∃ j : Nat, j ≤ H ∧ y = .int .i64 j ∧ s = .string (bytesOf (l1 ++ rowsTo Y.S n p.units j)) ∧ Hid (Below w.heap.size w w')) (fun _ y _ _ _ => H + 1 - (intOf y).toNat)
      case atStart => exact ⟨0, Nat.zero_le _, rfl, by simp [rowsTo], B⟩
      case round =>
        clear e0 e1 e2 e3 e4 B zs hlt hlt' hj
        obtain ⟨j, hj, rfl, rfl, B⟩ := hrel
        obtain ⟨e0, e1, e2, e3, e4⟩ := HC.out _ B
        have hrl := HRl.out j (by omega)
        by_cases hlt : j < H
        · have hlt' : (j : Int) < (H : Int) := by omega
          obtain ⟨lk, hlk⟩ : ∃ lk, lk = l1 ++ rowsTo Y.S n p.units j := ⟨_, rfl⟩
          have HF : Hid (l1 ++ rowsTo Y.S n p.units (j + 1) = lk ++ rowTo Y.S n p.units j W) := by unfold Hid; rw [rowsTo_succ, HWt.out, hlk, List.append_assoc]
          have hlkb : lk.length ≤ 300000000 := by rw [hlk, List.length_append]; omega
          rw [← hlk]
          clear hlk hrl
          go_wp2_with fail
          go_loopw [7, 11, 12] (fun s x _ w' => ∃ i : Nat, i ≤ W ∧ x = .int .i64 i ∧ s = .string (bytesOf (lk ++ rowTo Y.S n p.units j i)) ∧ Hid (Below w.heap.size w w')) (fun _ x _ _ => W + 1 - (intOf x).toNat)
          case atStart => exact ⟨0, Nat.zero_le _, rfl, by simp [rowTo], B⟩
          case round =>
            clear e0 e1 e2 e3 e4 B
            obtain ⟨i, hi, rfl, rfl, B⟩ := hrel
            obtain ⟨e0, e1, e2, e3, e4⟩ := HC.out _ B
            have hro := HRo.out j i (by omega) (by omega)
            have zs : (bytesOf (lk ++ rowTo Y.S n p.units j i)).size ≤ 400000000 := by rw [bytesOf_size, List.length_append]; omega
            by_cases hit : i < W
            · have hit' : (i : Int) < (W : Int) := by omega
              have bx : (0 : Int) ≤ (i : Int) ∧ (i : Int) ≤ 9 := by omega
              have bY : (0 : Int) ≤ (j : Int) ∧ (j : Int) ≤ 9 := by omega
              obtain ⟨li, hli⟩ : ∃ li, li = lk ++ rowTo Y.S n p.units j i := ⟨_, rfl⟩
              have HFi : Hid (lk ++ rowTo Y.S n p.units j (i + 1) = li ++ seenL Y.S n p.units i j) := by unfold Hid; rw [rowTo_succ, hli, List.append_assoc]
              have hro1 := HRo.out j (i + 1) (by omega) bY
              rw [rowTo_succ, List.length_append] at hro1
              rw [← hli] at zs ⊢
              have HSj := hidOf (HSe.out wr B (i : Int) (j : Int) bx bY)
              have HSn : Hid (seenL Y.S n p.units i j = if seesB p.units Y.sight i j then spotL Y.S n i j else []) := rfl
              clear hli hro
              cases hs : seesB p.units Y.sight (i : Int) (j : Int)
              · rw [hs] at HSj HSn
                have HZ : Hid (lk ++ rowTo Y.S n p.units j (i + 1) = li) := by unfold Hid; rw [HFi.out, HSn.out]; simp
                clear hs HFi HSn
                go_wp2_with (go_at_call 102; refine HSj.out.mono ?_; rintro e w1 ⟨rfl, B1⟩)
                exact ⟨⟨i + 1, by omega, by go_num, by rw [HZ.out], B1⟩, by simp [intOf]; omega⟩
              · rw [hs] at HSj HSn
                have e5 : (spotL Y.S n i j).length ≤ 20000 := by
                  have : (seenL Y.S n p.units i j).length ≤ 20000 := by omega
                  rw [HSn.out] at this
                  simpa using this
                have za : (bytesOf (spotL Y.S n i j)).size ≤ 20000 := by rw [bytesOf_size]; exact e5
                have HZ : Hid (bytesOf (lk ++ rowTo Y.S n p.units j (i + 1)) = bytesOf li ++ bytesOf (spotL Y.S n i j)) := by unfold Hid; rw [HFi.out, HSn.out, app_bytes]; simp
                clear hs HFi HSn e5
                go_wp2_with (first | (go_at_call 102; refine HSj.out.mono ?_; rintro e w1 ⟨rfl, B1⟩) | (go_at_call 103; refine (HAt.out _ B1 (i : Int) (j : Int) bx bY).mono ?_; rintro e w2 ⟨rfl, B2⟩) | (rw [cat_any]; rotate_left 1; (omega); (omega)))
                exact ⟨⟨i + 1, by omega, by go_num, by rw [HZ.out], B2⟩, by simp [intOf]; omega⟩
            · have hit' : decide ((i : Int) < (W : Int)) = false := decide_eq_false (by omega)
              have hiw : i = W := by omega
              have HZ : Hid (bytesOf (l1 ++ rowsTo Y.S n p.units (j + 1)) = bytesOf (lk ++ rowTo Y.S n p.units j i)) := by unfold Hid; rw [HF.out, hiw]
              clear hiw hro
              go_wp2
              exact ⟨⟨j + 1, by omega, by go_num, by rw [HZ.out], B⟩, by simp [intOf]; omega⟩
        · have hlt' : decide ((j : Int) < (H : Int)) = false := decide_eq_false (by omega)
          have hjh : j = H := by omega
          rw [hjh] at hrl ⊢
          obtain ⟨l2, hl2⟩ : ∃ l2, l2 = l1 ++ rowsTo Y.S n p.units H := ⟨_, rfl⟩
          have hl2b : l2.length ≤ 300000000 := by rw [hl2, List.length_append]; omega
          rw [← hl2] at HVl ⊢
          clear hjh hl2 hrl
          go_wp2_with fail
          refine (HOr.out _ B).mono ?_
          rintro e w3 ⟨vo, rfl, B3, O3, F3⟩
          obtain ⟨ao3, g3, cap3, rfl, hc3, hm3, rd3⟩ := own_rd O3.out
          unfold maxLen at hm3
          have HRd := hidOf rd3
          clear e0 e1 e2 e3 e4 B rd3 O3
          obtain ⟨e0, e1, e2, e3, e4⟩ := HC.out _ B3
          go_wp2_with fail
          go_loopw [7, 14, 15] (fun s i _ w' => ∃ j : Nat, j ≤ sl.length ∧ i = .int .i64 j ∧ s = .string (bytesOf (l2 ++ (sl.take j).flatMap (fun l => lineL (lotWs (bidI p.bids l.name) l)))) ∧ Hid (SameW w3 w')) (fun _ i _ _ => sl.length + 1 - (intOf i).toNat)
          case atStart => exact ⟨0, Nat.zero_le _, rfl, by simp, SameW.refl _⟩
          case round =>
            clear e0 e1 e2 e3 e4 hlt hlt' hj
            obtain ⟨j, hj, rfl, rfl, hSw⟩ := hrel
            have Bw : Hid (Below w.heap.size w wr) := B3.out.trans (hSw.out.below _)
            obtain ⟨e0, e1, e2, e3, e4⟩ := HC.out _ Bw
            have hfb := flat_len (fun l => lineL (lotWs (bidI p.bids l.name) l)) (sl.take j) 20000000 (fun l hl => by
              obtain ⟨q1, q2, q3⟩ := HLs.out l (List.mem_of_mem_take hl)
              exact lotL_len 0 ⟨l.name, l.ends, l.least, fun _ => bidI p.bids l.name⟩ ⟨q1, q2, q3, HBs.out _⟩)
            have htk : (sl.take j).length ≤ 4 := by rw [List.length_take]; omega
            have zs : (bytesOf (l2 ++ (sl.take j).flatMap (fun l => lineL (lotWs (bidI p.bids l.name) l)))).size ≤ 400000000 := by rw [bytesOf_size, List.length_append]; omega
            by_cases hlt : j < sl.length
            · have hlt' : (j : Int) < (sl.length : Int) := by omega
              have hls : sl[j]? = some sl[j] := by simp [hlt]
              obtain rfl := HRd.out.base (by omega)
              obtain ⟨d0, d1, d2⟩ := lot_cells HRd.out hls
              rw [← hSw.out.cell] at d0 d1 d2
              obtain ⟨q1, q2, q3⟩ := HLs.out sl[j] (List.getElem_mem hlt)
              have hfl := flat_take (fun l => lineL (lotWs (bidI p.bids l.name) l)) sl j hlt
              obtain ⟨s, hse⟩ : ∃ s, s = sl[j] := ⟨_, rfl⟩
              rw [← hse] at d0 d1 d2 q1 q2 q3 hfl
              obtain ⟨lk, hlk⟩ : ∃ lk, lk = l2 ++ (sl.take j).flatMap (fun l => lineL (lotWs (bidI p.bids l.name) l)) := ⟨_, rfl⟩
              have HF : Hid (l2 ++ (sl.take (j + 1)).flatMap (fun l => lineL (lotWs (bidI p.bids l.name) l)) = lk ++ lineL (lotWs (bidI p.bids s.name) s)) := by unfold Hid; rw [hfl, hlk, List.append_assoc]
              rw [← hlk] at zs ⊢
              have hbb := HBs.out s.name
              have HBj := hidOf (fun nq => HBi.out (wr.drewN nq) (Bw.out.trans ⟨rfl, rfl, rfl, Nat.le_refl _, fun _ _ => rfl⟩) s.name)
              obtain ⟨bd, hbd⟩ : ∃ bd, bd = bidI p.bids s.name := ⟨_, rfl⟩
              rw [← hbd] at HBj HF hbb
              have ze := itoaB_size s.ends (by omega)
              have zl := itoaB_size s.least (by omega)
              have zb := itoaB_size bd (by omega)
              clear hse hlk hfl hfb htk hbd hls
              by_cases hp : 0 < bd
              · have HT := hidOf (lot_text lk s bd hp)
                have hp' : decide (0 < bd) = true := decide_eq_true hp
                go_wp2_with fail
                go_quiet ((go_at_call 101; exact Calls.quiet_of_same (HD.out _ (by omega) _)))
                go_wp2_with (first | (go_at_call 104; refine (HBj.out _).mono ?_; rintro e w' ⟨rfl, h⟩; rw [h]; clear h w') | (go_at_call 101; refine (HD.out _ (by omega) _).mono ?_; rintro e w' ⟨rfl, h⟩; rw [h]; clear h w') | (rw [cat_any]; rotate_left 1; (simp only [ByteArray.size_append, lit_size, List.size_toArray, List.length_cons, List.length_nil]; omega); (simp only [ByteArray.size_append, lit_size, List.size_toArray, List.length_cons, List.length_nil]; omega)))
                exact ⟨⟨j + 1, by omega, by go_num, by rw [HF.out, ← HT.out], hSw.out.drewN _⟩, by simp [intOf]; omega⟩
              · have HT := hidOf (lot_text0 lk s bd hp)
                have hp' : decide (0 < bd) = false := decide_eq_false hp
                go_wp2_with fail
                go_quiet ((go_at_call 101; exact Calls.quiet_of_same (HD.out _ (by omega) _)))
                go_wp2_with (first | (go_at_call 104; refine (HBj.out _).mono ?_; rintro e w' ⟨rfl, h⟩; rw [h]; clear h w') | (go_at_call 101; refine (HD.out _ (by omega) _).mono ?_; rintro e w' ⟨rfl, h⟩; rw [h]; clear h w') | (rw [cat_any]; rotate_left 1; (simp only [ByteArray.size_append, lit_size, List.size_toArray, List.length_cons, List.length_nil]; omega); (simp only [ByteArray.size_append, lit_size, List.size_toArray, List.length_cons, List.length_nil]; omega)))
                exact ⟨⟨j + 1, by omega, by go_num, by rw [HF.out, ← HT.out], hSw.out.drewN _⟩, by simp [intOf]; omega⟩
            · have hlt' : decide ((j : Int) < (sl.length : Int)) = false := decide_eq_false (by omega)
              have hjl : j = sl.length := by omega
              rw [hjl, List.take_of_length_le (Nat.le_refl _)] at zs ⊢
              obtain ⟨l3, hl3⟩ : ∃ l3, l3 = l2 ++ sl.flatMap (fun l => lineL (lotWs (bidI p.bids l.name) l)) := ⟨_, rfl⟩
              rw [← hl3] at zs HVl ⊢
              have hl3b : l3.length ≤ 400000000 := by rw [bytesOf_size] at zs; exact zs
              clear hjl hl3 hfb htk
              obtain ⟨an, gn, capn, hvn, hcn, hmn, rdn⟩ := own_rd (HNw.out _ Bw)
              unfold maxLen at hmn
              rw [hvn] at e4
              have HRn := hidOf rdn
              have hnl := HNz.out.1
              clear rdn hvn zs
              go_wp2_with fail
              go_loop [7, 16] (fun s i => ∃ j : Nat, j ≤ p.news.length ∧ i = .int .i64 j ∧ s = .string (bytesOf (l3 ++ (p.news.take j).flatMap (fun m => m.data.toList ++ [10])))) (fun _ i => p.news.length + 1 - (intOf i).toNat)
              case atStart => exact ⟨0, Nat.zero_le _, rfl, by simp⟩
              case round =>
                clear hlt hlt' hj
                obtain ⟨j, hj, rfl, rfl⟩ := hrel
                have hfb := flat_len (fun m : ByteArray => m.data.toList ++ [10]) (p.news.take j) 3000001 (fun m hm => by
                  have := HNz.out.2 m (List.mem_of_mem_take hm)
                  rw [List.length_append]
                  have e : m.data.toList.length = m.size := by simp
                  simp only [List.length_cons, List.length_nil]
                  omega)
                have htk : (p.news.take j).length ≤ 4 := by rw [List.length_take]; omega
                have zs : (bytesOf (l3 ++ (p.news.take j).flatMap (fun m => m.data.toList ++ [10]))).size ≤ 500000000 := by rw [bytesOf_size, List.length_append]; omega
                by_cases hlt : j < p.news.length
                · have hlt' : (j : Int) < (p.news.length : Int) := by omega
                  obtain rfl := HRn.out.base (by omega)
                  have d0 : wr.cell? ⟨gn, j, none⟩ = some (.string p.news[j]) := HRn.out.cell j _ (by simp [hlt])
                  have zm := HNz.out.2 p.news[j] (List.getElem_mem hlt)
                  have hfl := flat_take (fun m : ByteArray => m.data.toList ++ [10]) p.news j hlt
                  obtain ⟨m, hme⟩ : ∃ m, m = p.news[j] := ⟨_, rfl⟩
                  rw [← hme] at d0 zm hfl
                  obtain ⟨lk, hlk⟩ : ∃ lk, lk = l3 ++ (p.news.take j).flatMap (fun m => m.data.toList ++ [10]) := ⟨_, rfl⟩
                  have HF : Hid (bytesOf (l3 ++ (p.news.take (j + 1)).flatMap (fun m => m.data.toList ++ [10])) = bytesOf lk ++ m ++ ⟨#[10]⟩) := by
                    unfold Hid
                    rw [hfl, hlk]
                    apply bytes_ext
                    simp [ByteArray.data_append, bytesOf]
                  rw [← hlk] at zs ⊢
                  clear hme hlk hfl hfb htk
                  go_wp2_with (rw [cat_any]; rotate_left 1; (simp only [ByteArray.size_append, lit_size, List.size_toArray, List.length_cons, List.length_nil]; omega); (simp only [ByteArray.size_append, lit_size, List.size_toArray, List.length_cons, List.length_nil]; omega))
                  exact ⟨⟨j + 1, by omega, by go_num, by rw [HF.out]⟩, by simp [intOf]; omega⟩
                · have hlt' : decide ((j : Int) < (p.news.length : Int)) = false := decide_eq_false (by omega)
                  have hjl : j = p.news.length := by omega
                  rw [hjl, List.take_of_length_le (Nat.le_refl _), ← HVl.out, ← HVw.out]
                  clear hjl hfb htk zs
                  go_wp2
                  go_ret2
                  exact ⟨rfl, Bw.out⟩

set_option maxRecDepth 100000 in
set_option maxHeartbeats 1000000 in
theorem rview_no (w : World) (Y : YW) (n : Int) (hr : RepY w Y) (h2 : 2 ≤ Y.pls.length) (hn : ¬ (0 ≤ n ∧ n < Y.pls.length)) :
    Calls Tryz.prog 55 #[.pointer (some ⟨Y.b, 0, none⟩), .int .i64 n] w fun e w' => e = .returned (.tuple #[.string ⟨#[]⟩, .int .i64 1]) ∧ Below w.heap.size w w' := by
  rcases own_form hr.pl with ⟨_, h0, _⟩ | ⟨pb, pcap, hvp, hpc, hpm, hpb⟩
  · omega
  unfold maxLen at hpm
  have c5 : w.cell? ⟨Y.b, 5, none⟩ = some (.slice (some ⟨pb, 0, none⟩) Y.pls.length pcap) := by rw [← hvp]; exact hr.cellTop rfl
  have HW := hidOf (fun wx => within_any n 0 ((Y.pls.length : Int) - 1) wx)
  rw [show inB n 0 ((Y.pls.length : Int) - 1) = false by simp [inB]; omega] at HW
  clear hr hvp hn hpb
  go_enter Tryz.func55, Tryz.ntmps55
  go_wp2_with (go_at_call 88; refine (HW.out _).mono ?_; rintro e w' ⟨rfl, h⟩; rw [h]; clear h w')
  go_ret2
  exact ⟨rfl, Below.refl _ _⟩
end Go.Proofs.YtlafddeoheambaaGreatDoor

/-
  Both worlds of a pair turn alike.
-/
namespace Go.Proofs.YtlafddeoheambaaGreatDoor
open Go.RowKit

def tickC (s : SWorld) : Int := if s.now = 1000 then 6 else 0
def tickN (s : SWorld) : SWorld := if s.now = 1000 then s else tickS s
theorem GoodS.tickN {s : SWorld} (h : GoodS s) : GoodS (tickN s) := by
  unfold Proofs.YtlafddeoheambaaGreatDoor.tickN
  split
  · exact h
  · exact h.tick (by have := h.now.2; omega)
theorem GoodS.allX {X : XW} (h : GoodS X.S) (ho : OkX X) : AllX X (100 + 1800 * X.S.now) := ⟨h.wf, ho, by have := h.lw; simpa [XW.S, Function.comp_def] using this⟩
theorem xtick_c (w : World) (X : XW) (hr : RepX w X) (ho : OkX X) (hg : GoodS X.S) (hN : NewsOK X) (hsl : SaleOK X.sales) :
    Calls Tryz.prog 11 #[.pointer (some ⟨X.b, 0, none⟩)] w fun e w' => e = .returned (.int .i64 (tickC X.S)) ∧ ∃ X', TurnX w X w' X' ∧ OkX X' ∧ X'.S = tickN X.S ∧ NewsOK X' ∧ SaleOK X'.sales := by
  unfold tickC tickN
  have hn := hg.now
  have e : X.S.now = X.now := rfl
  by_cases h : X.S.now = 1000
  · rw [if_pos h, if_pos h]
    refine (xtick_full w X hr h).mono ?_
    rintro e w' ⟨rfl, rfl⟩
    exact ⟨rfl, X, TurnX.refl hr, ho, rfl, hN, hsl⟩
  · rw [if_neg h, if_neg h]
    refine (xtick_with w X _ hr (hg.allX ho) (by omega) (by omega) (closeDone_nil ((tickTo_len X.S _).2.2.trans hg.lo))).mono ?_
    rintro e w' ⟨rfl, X', T, O, S, N⟩
    refine ⟨rfl, X', T, O, S, N, ?_⟩
    have h1 : 1 ≤ X'.pls.length := by
      have e1 : X'.S.players.length = X'.pls.length := by simp [XW.S]
      have e2 : (tickS X.S).players.length = X.S.players.length := by rw [tickS_nil hg.lo]; exact (tickTo_len X.S _).1
      have := hg.wf.pl
      rw [← e1, S, e2]
      omega
    rw [sale_nil N h1 (by rw [S, tickS_nil hg.lo]; exact tickTo_all X.S)]
    exact SaleOK.nil
theorem rtick_c (w : World) (Y : YW) (hr : RepY w Y) (hg : GoodS Y.S) :
    Calls Tryz.prog 53 #[.pointer (some ⟨Y.b, 0, none⟩)] w fun e w' => e = .returned (.int .i64 (tickC Y.S)) ∧ ∃ Y', Turn w Y w' Y' ∧ Y'.S = tickN Y.S := by
  unfold tickC tickN
  have hn := hg.now
  have e : Y.S.now = Y.now := rfl
  by_cases h : Y.S.now = 1000
  · rw [if_pos h, if_pos h]
    refine (rtick_full w Y hr h).mono ?_
    rintro e w' ⟨rfl, rfl⟩
    exact ⟨rfl, Y, Turn.refl hr, rfl⟩
  · rw [if_neg h, if_neg h]
    exact rtick_any w Y _ hr hg.wf (by omega) hg.lo (by omega)
theorem xorder_c (w : World) (X : XW) (n : Int) (t : ByteArray) (hr : RepX w X) (ho : OkX X) (hg : GoodS X.S) (hN : NewsOK X) (hsl : SaleOK X.sales) (hs : t.size ≤ 2000000) :
    Calls Tryz.prog 10 #[.pointer (some ⟨X.b, 0, none⟩), .int .i64 n, .string t] w fun e w' => e = .returned (.int .i64 (orderS X.S n t.data.toList).1) ∧ ∃ X', TurnX w X w' X' ∧ OkX X' ∧ X'.S = (orderS X.S n t.data.toList).2 ∧ NewsOK X' ∧ SaleOK X'.sales := by
  refine (xorder_any w X _ n t hr (hg.allX ho) (by have := hg.now.2; omega) hs).mono ?_
  rintro e w' ⟨rfl, X', T, O, S, L⟩
  exact ⟨rfl, X', T, O, S, hN.of (by rw [S]; exact order_news X.S n t.data.toList) L, by rw [L]; exact hsl⟩
theorem rorder_c (w : World) (Y : YW) (n : Int) (t : ByteArray) (hr : RepY w Y) (hg : GoodS Y.S) (hs : t.size ≤ 2000000) :
    Calls Tryz.prog 52 #[.pointer (some ⟨Y.b, 0, none⟩), .int .i64 n, .string t] w fun e w' => e = .returned (.int .i64 (orderS Y.S n t.data.toList).1) ∧ ∃ Y', Turn w Y w' Y' ∧ Y'.S = (orderS Y.S n t.data.toList).2 :=
  rorder_any w Y _ n t hr hg.wf hg.lo hs

theorem xview_c (w : World) (X : XW) (n : Int) (hr : RepX w X) (ht : Tab w) (ho : OkX X) (hg : GoodS X.S) (hN : NewsOK X) (hsl : SaleOK X.sales) :
    Calls Tryz.prog 38 #[.pointer (some ⟨X.b, 0, none⟩), .int .i64 n] w fun e w' => e = .returned (.tuple #[.string (viewS X.S n).1, .int .i64 (viewS X.S n).2]) ∧ Below w.heap.size w w' :=
  xview_any w X _ n hr ht (hg.allX ho) (by have := hg.now.2; omega) hg.now hg.nm hN hsl
theorem news_short {X : XW} (hN : NewsOK X) (hsl : SaleOK X.sales) : ∀ p ∈ X.S.players, NwP p := by
  intro p hp
  obtain ⟨i, hi⟩ := List.getElem?_of_mem hp
  simp only [XW.S, List.getElem?_map, Option.map_eq_some_iff] at hi
  obtain ⟨q, hq, rfl⟩ := hi
  have e := hN i q hq
  unfold NwP
  rw [e]
  refine ⟨by rw [List.length_map]; exact hsl.len, fun m hm => ?_⟩
  obtain ⟨s, hs, rfl⟩ := List.mem_map.1 hm
  have := hsl.each s hs
  exact newsB_size _ _ _ _ this.2.2.2.2 ⟨this.2.2.1, this.2.2.2.1⟩
theorem rview_c (w : World) (Y : YW) (n : Int) (hr : RepY w Y) (hg : GoodS Y.S) (hd : oreD Y.ore) (hnw : ∀ p ∈ Y.S.players, NwP p) :
    Calls Tryz.prog 55 #[.pointer (some ⟨Y.b, 0, none⟩), .int .i64 n] w fun e w' => e = .returned (.tuple #[.string (viewS Y.S n).1, .int .i64 (viewS Y.S n).2]) ∧ Below w.heap.size w w' := by
  have hpl : Y.S.players.length = Y.pls.length := by simp [YW.S]
  by_cases hn : 0 ≤ n ∧ n < Y.pls.length
  · obtain ⟨hn0, hn1⟩ := hn
    obtain ⟨k, rfl⟩ := Int.eq_ofNat_of_zero_le hn0
    have hk : k < Y.pls.length := by omega
    obtain ⟨p, v, hq⟩ : ∃ p v, Y.pls[k]? = some (p, v) := ⟨Y.pls[k].1, Y.pls[k].2, by simp [hk]⟩
    have e : viewS Y.S k = (bytesOf (viewL Y.S k p), 0) := by
      unfold viewS
      rw [if_pos (by rw [hpl]; omega), Int.toNat_natCast, S_at hq]
    rw [e]
    have hlw := hg.lw
    have e2 : Y.S.players.map (·.bids) = Y.pls.map (·.1.bids) := by simp [YW.S, Function.comp_def]
    rw [e2] at hlw
    exact rview_is w Y _ k p v hr hg.wf (by have := hg.now.2; omega) hg.now hlw hd hg.nm (hnw p (List.mem_of_getElem? (S_at hq))) hq
  · have e : viewS Y.S n = (⟨#[]⟩, 1) := by
      unfold viewS
      rw [if_neg (by rw [hpl]; exact hn)]
    rw [e]
    exact rview_no w Y n hr (by rw [← hpl]; exact hg.wf.pl.1) hn

/-- One pair turns, both worlds alike. -/
theorem pairTurn {w w1 w2 : World} {L : LW} {i : Nat} {X X' : XW} {Y Y' : YW} (h : LRep w L) (hS : Sync L.ps) (hq : L.ps[i]? = some (X, Y)) (T : TurnX w X w1 X') (O : OkX X') (U : Turn w1 Y w2 Y') (hE : X'.S = Y'.S) (hG : GoodS Y'.S) (hN : NewsOK X' ∧ SaleOK X'.sales) :
    ∃ L', LTurn w L w2 L' ∧ Sync L'.ps ∧ L'.ps.length = L.ps.length := by
  have t1 := h.turnX hq T
  have hi := (at_some hq).1
  have hq1 : (L.setX w.heap.size i X' Y).ps[i]? = some (X', Y) := by simp [LW.setX, hi]
  have t2 := t1.rep.turnY hq1 U
  refine ⟨_, t1.trans t2, ⟨?_, ?_, ?_, ?_, ?_⟩, by simp [LW.setY, LW.setX]⟩
  all_goals
    intro q hq'
    have hq2 : q ∈ L.ps ∨ q = (X', Y') := by
      simp only [LW.setY, LW.setX, List.set_set] at hq'
      exact List.mem_or_eq_of_mem_set hq'
    rcases hq2 with h' | rfl
  · exact hS.s q h'
  · exact hE
  · exact hS.o q h'
  · exact O
  · exact hS.g q h'
  · exact hG
  · exact hS.n q h'
  · exact hN.1
  · exact hS.sl q h'
  · exact hN.2
end Go.Proofs.YtlafddeoheambaaGreatDoor
