/-
  The function New of package hazeref, whatever it is given: the world that it makes, or none.
-/
import Derived.Test.YtdpmadoccimgcaaT13
import Derived.Test.YtdpmadoccimgcaaT01
import Derived.Laws.RangeString
import Derived.Lib.OthersKept
import Derived.WalkSmall
import Derived.Test.YtdpmadoccimgcaaT04
set_option linter.unusedVariables false
namespace Go.Proofs.Ytdpmadoccimgcaa
open Go.RowKit

theorem rnew_any (w : World) (W H S : Int) (vo vs : Value) (ore starts : List SSpot) (ho : SpIn w vo ore) (hs : SpIn w vs starts) (hl : starts.length ≤ 2000000) (hlo : ore.length ≤ 2000000) :
    Calls Try.prog 11 #[.agg #[.int .i64 W, .int .i64 H, .int .i64 S, vo, vs]] w fun e w' => NewOut w w' e W H S ore starts := by
  cases h1 : (inB W 3 10 && inB H 3 10 && inB S 1 4 && inB starts.length 2 4 && decide (ore.length ≤ 6))
  · exact rnew_numbers w W H S vo vs ore starts ho hs hl hlo h1
  · simp only [Bool.and_eq_true, decide_eq_true_eq] at h1
    obtain ⟨⟨⟨⟨a, b⟩, c⟩, d⟩, e⟩ := h1
    cases h2 : (apartB ore W H && apartB starts W H)
    · exact rnew_spots w W H S vo vs ore starts ho hs a b c d e h2
    · simp only [Bool.and_eq_true] at h2
      exact rnew_rest w W H S vo vs ore starts ho hs a b c d e h2.1 h2.2

end Go.Proofs.Ytdpmadoccimgcaa

/-
  Small functions of the program's package orders: isSmallLetter, plainKind, namingKind, between.
-/
namespace Go.Proofs.Ytdpmadoccimgcaa
open Go.RowKit

/-- A rune that is a small letter. -/
def letterR (r : Int) : Bool := (decide (97 ≤ r) && decide (r ≤ 122)) || (decide (945 ≤ r) && decide (r ≤ 969))

set_option maxHeartbeats 400000 in
theorem letter_any (r : Int) (w : World) :
    Calls Try.prog 74 #[.int .i32 r] w fun e w' => e = .returned (.bool (letterR r)) ∧ w' = w := by
  unfold letterR
  by_cases h1 : 97 ≤ r
  · by_cases h2 : r ≤ 122
    · go_enter Try.func74, Try.ntmps74
      go_wp2
      go_ret
      exact ⟨ret_bool (by simp [h1, h2]), rfl⟩
    · by_cases h3 : 945 ≤ r
      all_goals
        go_enter Try.func74, Try.ntmps74
        go_wp2
        go_ret
        exact ⟨ret_bool (by simp; omega), rfl⟩
  · go_enter Try.func74, Try.ntmps74
    go_wp2
    go_ret
    exact ⟨ret_bool (by simp; omega), rfl⟩

/-- The kind of an order of two words. -/
def kindP (b : List UInt8) : Int :=
  if b == [103, 111] then 1 else if b == [108, 101, 102, 116] then 2 else if b == [114, 105, 103, 104, 116] then 3 else if b == [98, 97, 99, 107] then 4 else if b == [100, 105, 103] then 5 else if b == [115, 101, 108, 108] then 6 else 0
def kindN (b : List UInt8) : Int := if b == [98, 117, 105, 108, 100] then 7 else if b == [99, 97, 108, 108] then 8 else 0

set_option maxHeartbeats 1000000 in
theorem plain_any (s : ByteArray) (w : World) :
    Calls Try.prog 56 #[.string s] w fun e w' => e = .returned (.int .i64 (kindP s.toList)) ∧ w' = w := by
  unfold kindP
  cases h1 : (s.toList == [103, 111])
  · cases h2 : (s.toList == [108, 101, 102, 116])
    · cases h3 : (s.toList == [114, 105, 103, 104, 116])
      · cases h4 : (s.toList == [98, 97, 99, 107])
        · cases h5 : (s.toList == [100, 105, 103])
          · cases h6 : (s.toList == [115, 101, 108, 108])
            all_goals
              go_enter Try.func56, Try.ntmps56
              go_wp2
              go_ret
              exact ⟨rfl, rfl⟩
          · go_enter Try.func56, Try.ntmps56
            go_wp2
            go_ret
            exact ⟨rfl, rfl⟩
        · go_enter Try.func56, Try.ntmps56
          go_wp2
          go_ret
          exact ⟨rfl, rfl⟩
      · go_enter Try.func56, Try.ntmps56
        go_wp2
        go_ret
        exact ⟨rfl, rfl⟩
    · go_enter Try.func56, Try.ntmps56
      go_wp2
      go_ret
      exact ⟨rfl, rfl⟩
  · go_enter Try.func56, Try.ntmps56
    go_wp2
    go_ret
    exact ⟨rfl, rfl⟩
set_option maxHeartbeats 1000000 in
theorem naming_any (s : ByteArray) (w : World) :
    Calls Try.prog 59 #[.string s] w fun e w' => e = .returned (.int .i64 (kindN s.toList)) ∧ w' = w := by
  unfold kindN
  cases h1 : (s.toList == [98, 117, 105, 108, 100])
  · cases h2 : (s.toList == [99, 97, 108, 108])
    all_goals
      go_enter Try.func59, Try.ntmps59
      go_wp2
      go_ret
      exact ⟨rfl, rfl⟩
  · go_enter Try.func59, Try.ntmps59
    go_wp2
    go_ret
    exact ⟨rfl, rfl⟩
end Go.Proofs.Ytdpmadoccimgcaa

/-
  What a rune read from a text has to do with its bytes: the letters of names.
-/
namespace Go.Proofs.Ytdpmadoccimgcaa
open Go.RowKit

theorem get_at (s : ByteArray) (pos : Nat) (h : pos < s.size) : s.get! pos = s[pos] := by
  simp [ByteArray.get!, getElem!_pos, h]
  rfl
theorem dec_low (s : ByteArray) (pos : Nat) (h : pos < s.size) (hl : lowB s[pos].toNat = true) : Utf8.decode s pos = (s[pos].toNat, 1) := by
  simp [lowB] at hl
  exact decode_ascii s pos h (by omega)
theorem dec_two (s : ByteArray) (pos : Nat) (h : pos + 1 < s.size) (h0 : s[pos].toNat = 206 ∨ s[pos].toNat = 207) (h1 : 128 ≤ s[pos + 1].toNat ∧ s[pos + 1].toNat ≤ 191) :
    Utf8.decode s pos = ((s[pos].toNat - 192) * 64 + (s[pos + 1].toNat - 128), 2) := by
  have e0 : s.get! (pos + 0) = s[pos] := get_at s pos (by omega)
  have e1 : s.get! (pos + 1) = s[pos + 1] := get_at s (pos + 1) h
  unfold Utf8.decode
  simp only [e0, e1, h]
  have a1 : ¬ s[pos].toNat < 128 := by omega
  have a2 : (s[pos].toNat / 32 == 6) = true := by simp; omega
  have a3 : (s[pos + 1].toNat / 64 == 2) = true := by simp; omega
  have a4 : s[pos].toNat % 32 = s[pos].toNat - 192 := by omega
  have a5 : s[pos + 1].toNat % 64 = s[pos + 1].toNat - 128 := by omega
  simp only [a1, a2, a3, a4, a5, if_false, decide_true, Bool.and_self, if_true]
  rw [if_pos (by omega)]
theorem dec_grk (s : ByteArray) (pos : Nat) (h : pos + 1 < s.size) (hg : grkB s[pos].toNat s[pos + 1].toNat = true) : (Utf8.decode s pos).2 = 2 ∧ letterR (Utf8.decode s pos).1 = true := by
  simp [grkB] at hg
  rw [dec_two s pos h (by omega) (by omega)]
  refine ⟨rfl, ?_⟩
  simp [letterR]
  omega
theorem dec_no (s : ByteArray) (pos : Nat) (h : pos < s.size) (hl : lowB s[pos].toNat = false) (hg : ∀ h' : pos + 1 < s.size, grkB s[pos].toNat s[pos + 1].toNat = false) : letterR (Utf8.decode s pos).1 = false := by
  have e0 : s.get! (pos + 0) = s[pos] := get_at s pos h
  simp [lowB] at hl
  unfold Utf8.decode
  simp only [e0]
  split
  · simp [letterR]; omega
  · split
    · rename_i h1 h2
      simp only [Bool.and_eq_true, decide_eq_true_eq, beq_iff_eq] at h2
      obtain ⟨h2, h3, h4⟩ := h2
      have e1 : s.get! (pos + 1) = s[pos + 1] := get_at s (pos + 1) h3
      rw [e1] at h4 ⊢
      have hg' := hg h3
      simp [grkB] at hg'
      split
      · simp [letterR]; omega
      · simp [letterR, Utf8.runeError]
    · split
      · split
        · rename_i h5
          simp only [Bool.and_eq_true, decide_eq_true_eq, ge_iff_le] at h5
          simp [letterR]; omega
        · simp [letterR, Utf8.runeError]
      · split
        · split
          · rename_i h5
            simp only [Bool.and_eq_true, decide_eq_true_eq, ge_iff_le] at h5
            simp [letterR]; omega
          · simp [letterR, Utf8.runeError]
        · simp [letterR, Utf8.runeError]
theorem runesGo_over {s : ByteArray} {n k : Nat} (hg : runesGo s n k) (hn : 6 < n) : nameB s.data.toList = false := by
  unfold runesGo at hg
  unfold nameB runesN
  rw [hg]
  cases runesL (s.data.toList.drop k) with
  | none => simp
  | some m => simp; omega
theorem name_step {s : ByteArray} {n pos : Nat} (hg : runesGo s n pos) (hp : pos < s.size) :
    (letterR (Utf8.decode s pos).1 = true ∧ runesGo s (n + 1) (pos + (Utf8.decode s pos).2) ∧ pos + (Utf8.decode s pos).2 ≤ s.size ∧ 0 < (Utf8.decode s pos).2) ∨ (letterR (Utf8.decode s pos).1 = false ∧ nameB s.data.toList = false) := by
  cases hl : lowB s[pos].toNat
  · by_cases hp2 : pos + 1 < s.size
    · cases hk : grkB s[pos].toNat s[pos + 1].toNat
      · right
        refine ⟨dec_no s pos hp hl (fun _ => hk), ?_⟩
        unfold nameB
        rw [runesGo_no hg hp hl (fun _ => hk)]
        rfl
      · left
        obtain ⟨h1, h2⟩ := dec_grk s pos hp2 hk
        rw [h1]
        exact ⟨h2, runesGo_grk hg hp2 hl hk, by omega, by omega⟩
    · right
      refine ⟨dec_no s pos hp hl (fun h => absurd h hp2), ?_⟩
      unfold nameB
      rw [runesGo_no hg hp hl (fun h => absurd h hp2)]
      rfl
  · left
    rw [dec_low s pos hp hl]
    refine ⟨?_, runesGo_low hg hp hl, by simp only; omega, by simp⟩
    simp [lowB] at hl
    simp [letterR]
    omega
theorem name_over {s : ByteArray} {n pos : Nat} (hg : runesGo s n pos) (hp : pos < s.size) (hn : 6 < n + 1) : nameB s.data.toList = false := by
  rcases name_step hg hp with ⟨_, h, _⟩ | ⟨_, h⟩
  · exact runesGo_over h hn
  · exact h

end Go.Proofs.Ytdpmadoccimgcaa

/-
  The function isName of the program's package orders: it says whether a word is a name.
-/
namespace Go.Proofs.Ytdpmadoccimgcaa
open Go.RowKit


theorem hidOf2 {p : Prop} (h : p) : Hid p := h
set_option maxRecDepth 100000 in
set_option maxHeartbeats 2000000 in
theorem isName_any (s : ByteArray) (w : World) (hs : s.size ≤ 2000000) :
    Calls Try.prog 58 #[.string s] w fun e w' => e = .returned (.bool (nameB s.data.toList)) ∧ Below w.heap.size w w' := by
  go_enter Try.func58, Try.ntmps58
  go_wp2
  go_loopw [3] (fun c wr => ∃ n pos : Nat, c = .int .i64 n ∧ n ≤ 6 ∧ pos ≤ s.size ∧ wr.heap[w.heap.size]? = some (.stringIter s pos) ∧ Hid (Below w.heap.size w wr) ∧ Hid (runesGo s n pos)) (fun _ wr => s.size - wr.iterPos w.heap.size)
  case atStart => exact ⟨0, 0, rfl, by omega, Nat.zero_le _, World.iter_heap w s 0, (Below.refl _ _).alloc (Nat.le_refl _) _, runesGo_start s⟩
  case round =>
    obtain ⟨n, pos, rfl, hn, hpos, hit, hbw, hg⟩ := hrel
    have hpos0 := iterPos_of hit
    by_cases hp : pos < s.size
    · have hnx : ∀ ty, (Instr.next (.pointer (some ⟨w.heap.size, 0, none⟩)) true ty).run Try.prog wr = _ := fun ty => Lib.run_next_any_at wr w.heap.size s pos ty hit hp
      have hit2 := Lib.iterAt_heap wr w.heap.size s pos (pos + (Utf8.decode s pos).2) hit
      have hbw2 := hidOf2 (Lib.below_iterAt hbw.out (k := w.heap.size) (Nat.le_refl _) s (pos + (Utf8.decode s pos).2))
      obtain ⟨W1, hW1⟩ : ∃ W1, W1 = wr.iterAt w.heap.size s (pos + (Utf8.decode s pos).2) := ⟨_, rfl⟩
      rw [← hW1] at hnx hit2 hbw2
      have hp1 := iterPos_of hit2
      clear hW1 hit hbw
      by_cases h6 : 6 < n + 1
      · have G := hidOf2 (name_over hg.out hp h6)
        have h6' : (6 : Int) < (n : Int) + 1 := by omega
        clear hg
        go_wp2
        go_ret
        exact ⟨ret_bool G.out.symm, hbw2.out⟩
      · have h6' : (n : Int) + 1 ≤ 6 := by omega
        rcases name_step hg.out hp with ⟨e1, e2, e3, e4⟩ | ⟨e1, e2⟩
        · have E2 := hidOf2 e2
          clear hg e2
          go_wp2_with (go_at_call 74; refine (letter_any _ _).mono ?_; rintro e w' ⟨rfl, h⟩; rw [h, e1]; clear h w')
          exact ⟨⟨n + 1, pos + (Utf8.decode s pos).2, by go_num, by omega, e3, hit2, hbw2, E2⟩, by rw [hp1, hpos0]; omega⟩
        · have G := hidOf2 e2
          clear hg e2
          go_wp2_with (go_at_call 74; refine (letter_any _ _).mono ?_; rintro e w' ⟨rfl, h⟩; rw [h, e1]; clear h w')
          go_ret
          exact ⟨ret_bool G.out.symm, hbw2.out⟩
    · have hnx : ∀ ty, (Instr.next (.pointer (some ⟨w.heap.size, 0, none⟩)) true ty).run Try.prog wr = _ := fun ty => Lib.run_next_end_at wr w.heap.size s pos ty hit hp
      have G : Hid (nameB s.data.toList = decide (0 < n)) := by
        unfold Hid nameB
        rw [runesGo_end hg.out (by omega), if_pos hn]
      go_wp2
      go_ret
      exact ⟨ret_bool G.out.symm, hbw.out⟩
end Go.Proofs.Ytdpmadoccimgcaa

/-
  Whole numbers as floats: how they stand to nought and to a world's side.
-/
namespace Go.Proofs.Ytdpmadoccimgcaa
open Go.RowKit Ieee

/-- A whole number as a float of 64 bits. -/
def flI (n : Int) : Nat := floatOfInt .f64 n

set_option maxHeartbeats 100000 in
theorem cut_bd (mag drop : Nat) (hm : 0 < mag) (hd : drop ≤ mag.log2) : mag / 2 ^ drop ≤ Toward.even.cut false mag drop ∧ Toward.even.cut false mag drop ≤ mag / 2 ^ drop + 1 := by
  unfold Toward.cut
  have e : min drop (mag.log2 + 2) = drop := by omega
  simp only [e, Nat.one_shiftLeft]
  constructor
  · omega
  · have : ∀ b : Bool, b.toNat ≤ 1 := fun b => by cases b <;> decide
    have := this (decide (2 ^ drop < 2 * (mag % 2 ^ drop)) || 2 ^ drop == 2 * (mag % 2 ^ drop) && mag / 2 ^ drop % 2 == 1)
    omega

theorem lp_double : double.leastPlace = -1074 := by kernel_rfl
theorem bin_double : double.binade = 4503599627370496 := by kernel_rfl
theorem inf_double : double.infRung = 9218868437227405312 := by kernel_rfl
theorem sw_double : double.signWeight = 9223372036854775808 := by kernel_rfl

/-- What is kept of a whole number of L + 1 digits. -/
def keptOf (mag L : Nat) : Nat := Toward.even.cut false (mag * 2 ^ (52 - L)) (L - 52)
set_option maxHeartbeats 100000 in
theorem kept_bd (mag L : Nat) (hL : mag.log2 = L) (hm : 0 < mag) : 4503599627370496 ≤ keptOf mag L ∧ keptOf mag L ≤ 9007199254740992 := by
  have lo : 2 ^ L ≤ mag := by rw [← hL]; exact Nat.log2_self_le (by omega)
  have hi : mag < 2 ^ (L + 1) := by rw [← hL]; exact Nat.lt_log2_self
  have n52 : (2 : Nat) ^ 52 = 4503599627370496 := by kernel_rfl
  have n53 : (2 : Nat) ^ 53 = 9007199254740992 := by kernel_rfl
  rw [← n52, ← n53]
  unfold keptOf
  by_cases h : L ≤ 52
  · have e1 : L - 52 = 0 := by omega
    rw [e1]
    have b := cut_bd (mag * 2 ^ (52 - L)) 0 (Nat.mul_pos hm (Nat.two_pow_pos _)) (Nat.zero_le _)
    simp only [Nat.pow_zero, Nat.div_one] at b
    have p1 : 2 ^ L * 2 ^ (52 - L) = 2 ^ 52 := by rw [← Nat.pow_add, show L + (52 - L) = 52 by omega]
    have p2 : 2 ^ (L + 1) * 2 ^ (52 - L) = 2 ^ 53 := by rw [← Nat.pow_add, show L + 1 + (52 - L) = 53 by omega]
    have q1 : 2 ^ L * 2 ^ (52 - L) ≤ mag * 2 ^ (52 - L) := Nat.mul_le_mul_right _ lo
    have q2 : mag * 2 ^ (52 - L) < 2 ^ (L + 1) * 2 ^ (52 - L) := Nat.mul_lt_mul_of_pos_right hi (Nat.two_pow_pos _)
    rw [p1] at q1
    rw [p2] at q2
    exact ⟨Nat.le_trans q1 b.1, Nat.le_trans b.2 q2⟩
  · have e1 : 52 - L = 0 := by omega
    rw [e1, Nat.pow_zero, Nat.mul_one]
    have b := cut_bd mag (L - 52) hm (by omega)
    have p1 : 2 ^ L = 2 ^ 52 * 2 ^ (L - 52) := by rw [← Nat.pow_add, show 52 + (L - 52) = L by omega]
    have p2 : 2 ^ (L + 1) = 2 ^ 53 * 2 ^ (L - 52) := by rw [← Nat.pow_add, show 53 + (L - 52) = L + 1 by omega]
    have q1 : 2 ^ 52 ≤ mag / 2 ^ (L - 52) := (Nat.le_div_iff_mul_le (Nat.two_pow_pos _)).2 (by rw [← p1]; exact lo)
    have q2 : mag / 2 ^ (L - 52) < 2 ^ 53 := (Nat.div_lt_iff_lt_mul (Nat.two_pow_pos _)).2 (by rw [← p2]; exact hi)
    exact ⟨Nat.le_trans q1 b.1, Nat.le_trans b.2 q2⟩
set_option maxHeartbeats 100000 in
theorem near_eq (neg : Bool) (mag L : Nat) (hL : mag.log2 = L) (hm : 0 < mag) (h63 : L ≤ 63) (hk : Toward.even.cut neg (mag * 2 ^ (52 - L)) (L - 52) = keptOf mag L) : double.nearest neg mag 0 = double.word neg ((L + 1022) * 4503599627370496 + keptOf mag L) := by
  have kb := kept_bd mag L hL hm
  unfold Format.nearest
  rw [if_neg (by omega)]
  simp only [lp_double, bin_double, inf_double, hL]
  have e1 : max ((0 : Int) + (L : Int) - (double.fractionBits : Int)) (-1074) = (L : Int) - 52 := by
    show max ((0 : Int) + (L : Int) - (52 : Int)) (-1074) = _
    omega
  rw [e1]
  have e2 : ((0 : Int) - ((L : Int) - 52)).toNat = 52 - L := by omega
  have e3 : (((L : Int) - 52) - 0).toNat = L - 52 := by omega
  have e4 : (((L : Int) - 52) - (-1074)).toNat = L + 1022 := by omega
  rw [e2, e3, e4, Nat.shiftLeft_eq, hk]
  rw [Nat.min_eq_left (by omega)]
theorem cut_neg (neg : Bool) (a b : Nat) : Toward.even.cut neg a b = Toward.even.cut false a b := rfl

end Go.Proofs.Ytdpmadoccimgcaa

/-
  Whole numbers as floats, read again: how they stand to nought and to a world's side.
-/
namespace Go.Proofs.Ytdpmadoccimgcaa
open Go.RowKit Ieee

set_option maxHeartbeats 200000 in
theorem read_word (neg : Bool) (r : Nat) (h1 : 4503599627370496 ≤ r) (h2 : r < 9218868437227405312) :
    double.read (double.word neg r) = .number neg (4503599627370496 + r % 4503599627370496) (-1074 + ((r / 4503599627370496 - 1 : Nat) : Int)) := by
  unfold Format.read Format.word
  simp only [sw_double, bin_double, inf_double, lp_double]
  cases neg
  · simp only [Bool.false_eq_true, if_false]
    have a : r / 9223372036854775808 = 0 := by omega
    have b : r % 9223372036854775808 = r := by omega
    rw [a, b, if_neg (by omega), if_pos h2]
    rfl
  · simp only [if_true]
    have a : (9223372036854775808 + r) / 9223372036854775808 = 1 := by omega
    have b : (9223372036854775808 + r) % 9223372036854775808 = r := by omega
    rw [a, b, if_neg (by omega), if_pos h2]
    rfl

set_option maxHeartbeats 200000 in
/-- A whole number of at least one, read again. -/
theorem read_near (neg : Bool) (mag : Nat) (h : 0 < mag) (h2 : mag ≤ 9223372036854775808) :
    ∃ m p, double.read (double.nearest neg mag 0) = .number neg m p ∧ 4503599627370496 ≤ m ∧ (mag.log2 : Int) - 52 ≤ p := by
  have hL2 : mag.log2 ≤ 63 := by
    have : mag.log2 < 64 := by rw [Nat.log2_lt (by omega)]; omega
    omega
  have kb := kept_bd mag mag.log2 rfl h
  rw [near_eq neg mag mag.log2 rfl h hL2 rfl]
  generalize keptOf mag mag.log2 = kept at kb
  generalize mag.log2 = L at *
  rw [read_word neg _ (by omega) (by omega)]
  exact ⟨_, _, rfl, by omega, by omega⟩

theorem ord_pos (m : Nat) (p : Int) (hm : 0 < m) : Datum.order (.number false 0 (-1074)) (.number false m p) = some .lt := by
  have : 0 < m <<< (p - min (-1074) p).toNat := by rw [Nat.shiftLeft_eq]; exact Nat.mul_pos hm (Nat.two_pow_pos _)
  simp only [Datum.order, signed, Nat.zero_shiftLeft, Bool.false_eq_true, if_false]
  congr 1
  rw [compare, instOrdInt]
  simp only [compareOfLessAndEq]
  rw [if_pos (by omega)]
theorem ord_neg (m : Nat) (p : Int) (hm : 0 < m) : Datum.order (.number false 0 (-1074)) (.number true m p) = some .gt := by
  have : 0 < m <<< (p - min (-1074) p).toNat := by rw [Nat.shiftLeft_eq]; exact Nat.mul_pos hm (Nat.two_pow_pos _)
  simp only [Datum.order, signed, Nat.zero_shiftLeft, Bool.false_eq_true, if_false, if_true]
  congr 1
  rw [compare, instOrdInt]
  simp only [compareOfLessAndEq]
  rw [if_neg (by omega), if_neg (by omega)]
theorem ord_big (m mW : Nat) (p pW : Int) (hm : 4503599627370496 ≤ m) (hp : -48 ≤ p) (hW : mW < 9007199254740992) (hpW : pW ≤ -49) : Datum.order (.number false m p) (.number false mW pW) = some .gt := by
  have e1 : min p pW = pW := by omega
  obtain ⟨d, hd⟩ : ∃ d : Nat, (p - pW).toNat = d + 1 := ⟨(p - pW).toNat - 1, by omega⟩
  have e2 : (pW - pW).toNat = 0 := by omega
  simp only [Datum.order, signed, Bool.false_eq_true, if_false, e1, hd, e2]
  have b1 : m * 2 ≤ m <<< (d + 1) := by
    rw [Nat.shiftLeft_eq, Nat.pow_succ]
    have := Nat.two_pow_pos d
    have : 2 ≤ 2 ^ d * 2 := by omega
    exact Nat.mul_le_mul_left _ this
  have b2 : mW <<< 0 = mW := rfl
  rw [b2]
  congr 1
  rw [compare, instOrdInt]
  simp only [compareOfLessAndEq]
  rw [if_neg (by omega), if_neg (by omega)]

end Go.Proofs.Ytdpmadoccimgcaa

/-
  A spot lies in the world, asked of floats, just where it lies there by its whole numbers; headings as complex numbers.
-/
namespace Go.Proofs.Ytdpmadoccimgcaa
open Go.RowKit Ieee

theorem small_ord : ∀ n : Fin 16, ∀ W : Fin 11, 3 ≤ W.val → (double.order (flI (n.val : Int)) (flI (W.val : Int)) == some .lt) = decide (n.val < W.val) := by decide +kernel
theorem side_read : ∀ W : Fin 11, 3 ≤ W.val → ∃ m p, double.read (flI (W.val : Int)) = .number false m p ∧ m < 9007199254740992 ∧ p ≤ -49 := by
  intro W hW
  have key : ∀ W : Fin 11, 3 ≤ W.val → (match double.read (flI (W.val : Int)) with | .number s m p => s == false && decide (m < 9007199254740992) && decide (p ≤ -49) | _ => false) = true := by decide +kernel
  have := key W hW
  split at this
  · rename_i s m p he
    simp only [Bool.and_eq_true, beq_iff_eq, decide_eq_true_eq] at this
    exact ⟨m, p, by rw [he, this.1.1], this.1.2, this.2⟩
  · cases this
theorem zero_read : double.read 0 = .number false 0 (-1074) := by kernel_rfl
theorem zero_self : double.order 0 (flI 0) = some .eq := by kernel_rfl
theorem fl_read (n : Int) (h0 : n ≠ 0) (h1 : -9223372036854775808 ≤ n) (h2 : n ≤ 9223372036854775807) : ∃ m p, double.read (flI n) = .number (decide (n < 0)) m p ∧ 4503599627370496 ≤ m ∧ (n.natAbs.log2 : Int) - 52 ≤ p :=
  read_near (decide (n < 0)) n.natAbs (by omega) (by omega)

/-- Nought against a whole number. -/
theorem hold_lo (n : Int) (h1 : -9223372036854775808 ≤ n) (h2 : n ≤ 9223372036854775807) : (double.order 0 (flI n) == some .lt || double.order 0 (flI n) == some .eq) = decide (0 ≤ n) := by
  by_cases h0 : n = 0
  · subst h0
    rw [zero_self]
    decide
  · obtain ⟨m, p, he, hm, _⟩ := fl_read n h0 h1 h2
    unfold Format.order
    rw [he, zero_read]
    by_cases hn : n < 0
    · rw [decide_eq_true hn, ord_neg m p (by omega), decide_eq_false (by omega)]
      decide
    · rw [decide_eq_false hn, ord_pos m p (by omega), decide_eq_true (by omega)]
      decide
/-- A whole number that is not below nought against a side. -/
theorem hold_hi (n W : Int) (h1 : 0 ≤ n) (h2 : n ≤ 9223372036854775807) (hW : 3 ≤ W) (hW2 : W ≤ 10) : (double.order (flI n) (flI W) == some .lt) = decide (n < W) := by
  obtain ⟨k, rfl⟩ := Int.eq_ofNat_of_zero_le (show 0 ≤ W by omega)
  by_cases h16 : n < 16
  · obtain ⟨j, rfl⟩ := Int.eq_ofNat_of_zero_le h1
    have := small_ord ⟨j, by omega⟩ ⟨k, by omega⟩ (by simp only; omega)
    simp only at this
    rw [this]
    exact decide_eq_decide.2 (by omega)
  · obtain ⟨m, p, he, hm, hp⟩ := fl_read n (by omega) (by omega) h2
    obtain ⟨mW, pW, heW, hmW, hpW⟩ := side_read ⟨k, by omega⟩ (by simp only; omega)
    simp only at heW
    have hL : 4 ≤ n.natAbs.log2 := by rw [Nat.le_log2 (by omega)]; omega
    unfold Format.order
    rw [he, heW, decide_eq_false (show ¬ n < 0 by omega), ord_big m mW p pW hm (by omega) hmW hpW, decide_eq_false (by omega)]
    decide

end Go.Proofs.Ytdpmadoccimgcaa

/-
  The functions of the program's package spots: spots and headings as complex numbers.
-/
namespace Go.Proofs.Ytdpmadoccimgcaa
open Go.RowKit

set_option maxRecDepth 100000 in
set_option maxHeartbeats 400000 in
theorem at_any (x y : Int) (w : World) :
    Calls Try.prog 27 #[.int .i64 x, .int .i64 y] w fun e w' => e = .returned (.complex .f64 (flI x) (flI y)) ∧ w' = w := by
  go_enter Try.func27, Try.ntmps27
  go_wp2
  go_ret
  exact ⟨rfl, rfl⟩

def ordF (a b : Nat) : Option Ordering := FloatKind.f64.format.order a b
theorem lo_iff (n : Int) (h : -9223372036854775808 ≤ n ∧ n ≤ 9223372036854775807) : (FloatKind.f64.format.order 0 (flI n) = some Ordering.lt ∨ FloatKind.f64.format.order 0 (flI n) = some Ordering.eq) ↔ 0 ≤ n := by
  have this : (FloatKind.f64.format.order 0 (flI n) == some Ordering.lt || FloatKind.f64.format.order 0 (flI n) == some Ordering.eq) = decide (0 ≤ n) := hold_lo n h.1 h.2
  rw [Bool.eq_iff_iff] at this
  simpa using this
theorem hi_iff (n W : Int) (h1 : 0 ≤ n) (h2 : n ≤ 9223372036854775807) (hW : 3 ≤ W ∧ W ≤ 10) : FloatKind.f64.format.order (flI n) (floatOfInt FloatKind.f64 W) = some Ordering.lt ↔ n < W := by
  have this : (FloatKind.f64.format.order (flI n) (floatOfInt FloatKind.f64 W) == some Ordering.lt) = decide (n < W) := hold_hi n W h1 h2 hW.1 hW.2
  rw [Bool.eq_iff_iff] at this
  simpa using this
theorem in_iff (n W : Int) : inB n 0 (W - 1) = decide (0 ≤ n ∧ n < W) := by
  simp only [inB]
  by_cases h : 0 ≤ n <;> by_cases h' : n < W <;> simp [h, h'] <;> omega

set_option maxRecDepth 100000 in
set_option maxHeartbeats 400000 in
theorem hold_any (W H x y : Int) (w : World) (hx : -9223372036854775808 ≤ x ∧ x ≤ 9223372036854775807) (hy : -9223372036854775808 ≤ y ∧ y ≤ 9223372036854775807) (hW : 3 ≤ W ∧ W ≤ 10) (hH : 3 ≤ H ∧ H ≤ 10) :
    Calls Try.prog 73 #[.agg #[.int .i64 W, .int .i64 H], .complex .f64 (flI x) (flI y)] w fun e w' => e = .returned (.bool (inB x 0 (W - 1) && inB y 0 (H - 1))) ∧ Below w.heap.size w w' := by
  go_enter Try.func73, Try.ntmps73
  go_wp2
  · rename_i h1 h2 h3
    go_ret
    refine ⟨ret_bool ?_, (Below.refl _ _).alloc (Nat.le_refl _) _⟩
    have g1 := (lo_iff x hx).1 h1
    have g2 := (hi_iff x W g1 hx.2 hW).1 h2
    have g3 := (lo_iff y hy).1 h3
    rw [in_iff, in_iff, decide_eq_true (And.intro g1 g2), Bool.true_and, Bool.eq_iff_iff]
    simp [hi_iff y H g3 hy.2 hH, g3, h1, h3]
  · rename_i h1 h2 h3
    go_ret
    refine ⟨ret_bool ?_, (Below.refl _ _).alloc (Nat.le_refl _) _⟩
    rw [in_iff y, decide_eq_false (fun h => h3 ((lo_iff y hy).2 h.1)), Bool.and_false]
  · rename_i h1 h2
    go_ret
    refine ⟨ret_bool ?_, (Below.refl _ _).alloc (Nat.le_refl _) _⟩
    have g1 := (lo_iff x hx).1 h1
    rw [in_iff x, decide_eq_false (fun h => h2 ((hi_iff x W g1 hx.2 hW).2 h.2)), Bool.false_and]
  · rename_i h1
    go_ret
    refine ⟨ret_bool ?_, (Below.refl _ _).alloc (Nat.le_refl _) _⟩
    rw [in_iff x, decide_eq_false (fun h => h1 ((lo_iff x hx).2 h.1)), Bool.false_and]

/-- The bits of one, of minus one, of minus nought. -/
def oneF : Nat := 4607182418800017408
def mOneF : Nat := 13830554455654793216
def mZeroF : Nat := 9223372036854775808
/-- The complex numbers that are a heading (0 e, 1 n, 2 w, 3 s): the part that is nought may have a sign. -/
def HeadC (h : Int) (a b : Nat) : Prop :=
  (h = 0 ∧ a = oneF ∧ (b = 0 ∨ b = mZeroF)) ∨ (h = 1 ∧ b = oneF ∧ (a = 0 ∨ a = mZeroF)) ∨ (h = 2 ∧ a = mOneF ∧ (b = 0 ∨ b = mZeroF)) ∨ (h = 3 ∧ b = mOneF ∧ (a = 0 ∨ a = mZeroF))
theorem turnL (h : Int) (a b : Nat) (hh : HeadC h a b) : ∃ re im, cMulBits a b 0 oneF = some (re, im) ∧ HeadC ((h + 1) % 4) re im := by
  rcases hh with ⟨rfl, rfl, rfl | rfl⟩ | ⟨rfl, rfl, rfl | rfl⟩ | ⟨rfl, rfl, rfl | rfl⟩ | ⟨rfl, rfl, rfl | rfl⟩
  · exact ⟨0, oneF, by kernel_rfl, .inr (.inl ⟨by decide, rfl, .inl rfl⟩)⟩
  · exact ⟨0, oneF, by kernel_rfl, .inr (.inl ⟨by decide, rfl, .inl rfl⟩)⟩
  · exact ⟨mOneF, 0, by kernel_rfl, .inr (.inr (.inl ⟨by decide, rfl, .inl rfl⟩))⟩
  · exact ⟨mOneF, 0, by kernel_rfl, .inr (.inr (.inl ⟨by decide, rfl, .inl rfl⟩))⟩
  · exact ⟨mZeroF, mOneF, by kernel_rfl, .inr (.inr (.inr ⟨by decide, rfl, .inr rfl⟩))⟩
  · exact ⟨0, mOneF, by kernel_rfl, .inr (.inr (.inr ⟨by decide, rfl, .inl rfl⟩))⟩
  · exact ⟨oneF, 0, by kernel_rfl, .inl ⟨by decide, rfl, .inl rfl⟩⟩
  · exact ⟨oneF, mZeroF, by kernel_rfl, .inl ⟨by decide, rfl, .inr rfl⟩⟩
theorem turnR (h : Int) (a b : Nat) (hh : HeadC h a b) : ∃ re im, cMulBits a b 0 mOneF = some (re, im) ∧ HeadC ((h + 3) % 4) re im := by
  rcases hh with ⟨rfl, rfl, rfl | rfl⟩ | ⟨rfl, rfl, rfl | rfl⟩ | ⟨rfl, rfl, rfl | rfl⟩ | ⟨rfl, rfl, rfl | rfl⟩
  · exact ⟨0, mOneF, by kernel_rfl, .inr (.inr (.inr ⟨by decide, rfl, .inl rfl⟩))⟩
  · exact ⟨0, mOneF, by kernel_rfl, .inr (.inr (.inr ⟨by decide, rfl, .inl rfl⟩))⟩
  · exact ⟨oneF, 0, by kernel_rfl, .inl ⟨by decide, rfl, .inl rfl⟩⟩
  · exact ⟨oneF, 0, by kernel_rfl, .inl ⟨by decide, rfl, .inl rfl⟩⟩
  · exact ⟨0, oneF, by kernel_rfl, .inr (.inl ⟨by decide, rfl, .inl rfl⟩)⟩
  · exact ⟨mZeroF, oneF, by kernel_rfl, .inr (.inl ⟨by decide, rfl, .inr rfl⟩)⟩
  · exact ⟨mOneF, mZeroF, by kernel_rfl, .inr (.inr (.inl ⟨by decide, rfl, .inr rfl⟩))⟩
  · exact ⟨mOneF, 0, by kernel_rfl, .inr (.inr (.inl ⟨by decide, rfl, .inl rfl⟩))⟩
theorem turnB (h : Int) (a b : Nat) (hh : HeadC h a b) : ∃ re im, cMulBits a b mOneF 0 = some (re, im) ∧ HeadC ((h + 2) % 4) re im := by
  rcases hh with ⟨rfl, rfl, rfl | rfl⟩ | ⟨rfl, rfl, rfl | rfl⟩ | ⟨rfl, rfl, rfl | rfl⟩ | ⟨rfl, rfl, rfl | rfl⟩
  · exact ⟨mOneF, 0, by kernel_rfl, .inr (.inr (.inl ⟨by decide, rfl, .inl rfl⟩))⟩
  · exact ⟨mOneF, 0, by kernel_rfl, .inr (.inr (.inl ⟨by decide, rfl, .inl rfl⟩))⟩
  · exact ⟨mZeroF, mOneF, by kernel_rfl, .inr (.inr (.inr ⟨by decide, rfl, .inr rfl⟩))⟩
  · exact ⟨0, mOneF, by kernel_rfl, .inr (.inr (.inr ⟨by decide, rfl, .inl rfl⟩))⟩
  · exact ⟨oneF, mZeroF, by kernel_rfl, .inl ⟨by decide, rfl, .inr rfl⟩⟩
  · exact ⟨oneF, 0, by kernel_rfl, .inl ⟨by decide, rfl, .inl rfl⟩⟩
  · exact ⟨0, oneF, by kernel_rfl, .inr (.inl ⟨by decide, rfl, .inl rfl⟩)⟩
  · exact ⟨0, oneF, by kernel_rfl, .inr (.inl ⟨by decide, rfl, .inl rfl⟩)⟩

set_option maxRecDepth 100000 in
set_option maxHeartbeats 400000 in
theorem left_any (h : Int) (a b : Nat) (w : World) (hh : HeadC h a b) :
    Calls Try.prog 63 #[.complex .f64 a b] w fun e w' => ∃ re im, e = .returned (.complex .f64 re im) ∧ HeadC ((h + 1) % 4) re im ∧ w' = w := by
  obtain ⟨re, im, hm, ht⟩ := turnL h a b hh
  have hmul : ∀ w, (binOp .mul 82 (.complex .f64 a b) (.complex .f64 0 4607182418800017408)).run Try.prog w = .ok (.complex .f64 re im) w := fun w => run_complex_mul w 82 a b 0 oneF re im hm
  go_enter Try.func63, Try.ntmps63
  go_wp2
  go_ret
  exact ⟨re, im, rfl, ht, rfl⟩
set_option maxRecDepth 100000 in
set_option maxHeartbeats 400000 in
theorem right_any (h : Int) (a b : Nat) (w : World) (hh : HeadC h a b) :
    Calls Try.prog 64 #[.complex .f64 a b] w fun e w' => ∃ re im, e = .returned (.complex .f64 re im) ∧ HeadC ((h + 3) % 4) re im ∧ w' = w := by
  obtain ⟨re, im, hm, ht⟩ := turnR h a b hh
  have hmul : ∀ w, (binOp .mul 82 (.complex .f64 a b) (.complex .f64 0 13830554455654793216)).run Try.prog w = .ok (.complex .f64 re im) w := fun w => run_complex_mul w 82 a b 0 mOneF re im hm
  go_enter Try.func64, Try.ntmps64
  go_wp2
  go_ret
  exact ⟨re, im, rfl, ht, rfl⟩
set_option maxRecDepth 100000 in
set_option maxHeartbeats 400000 in
theorem back_any (h : Int) (a b : Nat) (w : World) (hh : HeadC h a b) :
    Calls Try.prog 65 #[.complex .f64 a b] w fun e w' => ∃ re im, e = .returned (.complex .f64 re im) ∧ HeadC ((h + 2) % 4) re im ∧ w' = w := by
  obtain ⟨re, im, hm, ht⟩ := turnB h a b hh
  have hmul : ∀ w, (binOp .mul 82 (.complex .f64 a b) (.complex .f64 13830554455654793216 0)).run Try.prog w = .ok (.complex .f64 re im) w := fun w => run_complex_mul w 82 a b mOneF 0 re im hm
  go_enter Try.func65, Try.ntmps65
  go_wp2
  go_ret
  exact ⟨re, im, rfl, ht, rfl⟩
end Go.Proofs.Ytdpmadoccimgcaa

/-
  The function Ahead of the program's package spots: the spot ahead, and whether there is one.
-/
namespace Go.Proofs.Ytdpmadoccimgcaa
open Go.RowKit

theorem hidOf4 {p : Prop} (h : p) : Hid p := h
theorem add_one : ∀ x : Fin 10, floatBits .add .f64 (flI (x.val : Int)) 4607182418800017408 = some (flI ((x.val : Int) + 1)) := by decide +kernel
theorem add_mone : ∀ x : Fin 10, floatBits .add .f64 (flI (x.val : Int)) 13830554455654793216 = some (flI ((x.val : Int) - 1)) := by decide +kernel
theorem add_zero : ∀ x : Fin 10, floatBits .add .f64 (flI (x.val : Int)) 0 = some (flI (x.val : Int)) := by decide +kernel
theorem add_mzero : ∀ x : Fin 10, floatBits .add .f64 (flI (x.val : Int)) 9223372036854775808 = some (flI (x.val : Int)) := by decide +kernel

theorem sum_head (h x y : Int) (a b : Nat) (hh : HeadC h a b) (hx : 0 ≤ x ∧ x ≤ 9) (hy : 0 ≤ y ∧ y ≤ 9) : cSumBits .add .f64 (flI x) (flI y) a b = some (flI (x + dxI h), flI (y + dyI h)) := by
  obtain ⟨i, rfl⟩ := Int.eq_ofNat_of_zero_le hx.1
  obtain ⟨j, rfl⟩ := Int.eq_ofNat_of_zero_le hy.1
  have p1 := add_one ⟨i, by omega⟩
  have p2 := add_mone ⟨i, by omega⟩
  have p3 := add_zero ⟨i, by omega⟩
  have p4 := add_mzero ⟨i, by omega⟩
  have q1 := add_one ⟨j, by omega⟩
  have q2 := add_mone ⟨j, by omega⟩
  have q3 := add_zero ⟨j, by omega⟩
  have q4 := add_mzero ⟨j, by omega⟩
  simp only at p1 p2 p3 p4 q1 q2 q3 q4
  unfold cSumBits
  rcases hh with ⟨rfl, rfl, rfl | rfl⟩ | ⟨rfl, rfl, rfl | rfl⟩ | ⟨rfl, rfl, rfl | rfl⟩ | ⟨rfl, rfl, rfl | rfl⟩
  all_goals
    simp only [oneF, mOneF, mZeroF, p1, p2, p3, p4, q1, q2, q3, q4, dxI, dyI]
    simp
  all_goals try (constructor <;> rfl)

set_option maxRecDepth 100000 in
set_option maxHeartbeats 1000000 in
theorem xahead_any (W H x y h : Int) (a b : Nat) (w : World) (hh : HeadC h a b) (hx : 0 ≤ x ∧ x ≤ 9) (hy : 0 ≤ y ∧ y ≤ 9) (hW : 3 ≤ W ∧ W ≤ 10) (hH : 3 ≤ H ∧ H ≤ 10) :
    Calls Try.prog 76 #[.agg #[.int .i64 W, .int .i64 H], .complex .f64 (flI x) (flI y), .complex .f64 a b] w fun e w' =>
      e = .returned (if inB (x + dxI h) 0 (W - 1) && inB (y + dyI h) 0 (H - 1) then .tuple #[.complex .f64 (flI (x + dxI h)) (flI (y + dyI h)), .bool true] else .tuple #[.complex .f64 0 0, .bool false]) ∧ Below w.heap.size w w' := by
  have hsum : ∀ w, (binOp .add 75 (.complex .f64 (flI x) (flI y)) (.complex .f64 a b)).run Try.prog w = .ok (.complex .f64 (flI (x + dxI h)) (flI (y + dyI h))) w := fun w => run_complex_sum w .add (.inl rfl) 75 .f64 _ _ _ _ _ _ (sum_head h x y a b hh hx hy)
  have bx : -1 ≤ x + dxI h ∧ x + dxI h ≤ 10 := by unfold dxI; split <;> (try split) <;> omega
  have bY : -1 ≤ y + dyI h ∧ y + dyI h ≤ 10 := by unfold dyI; split <;> (try split) <;> omega
  have HC := hidOf4 (hold_any W H (x + dxI h) (y + dyI h) (w.alloc (.cells #[.int .i64 W, .int .i64 H] 69)) (by omega) (by omega) hW hH)
  generalize hgx : x + dxI h = X at *
  generalize hgy : y + dyI h = Y at *
  clear hgx hgy bx bY hh
  cases hb : (inB X 0 (W - 1) && inB Y 0 (H - 1))
  all_goals
    rw [hb] at HC
    go_enter Try.func76, Try.ntmps76
    go_wp2_with fail
    refine HC.out.mono ?_
    rintro e w1 ⟨rfl, hb1⟩
    go_wp2
    go_ret2
    exact ⟨rfl, ((Below.refl _ _).alloc (Nat.le_refl _) _).trans (hb1.mono (by simp))⟩
end Go.Proofs.Ytdpmadoccimgcaa

/-
  Maps by spots (complex keys): what looking up, storing and deleting come to.
-/
namespace Go.Proofs.Ytdpmadoccimgcaa
open Go.RowKit

/-- An entry: a spot, a number, when it was laid. -/
structure CE where
  x : Int
  y : Int
  v : Int
  born : Nat
def CE.e (c : CE) : MapEntry := { key := .complex .f64 (flI c.x) (flI c.y), val := .int .i64 c.v, born := c.born }
def CE.ok (c : CE) : Prop := (0 ≤ c.x ∧ c.x ≤ 9) ∧ (0 ≤ c.y ∧ c.y ≤ 9)
/-- Where the entry of a spot stands, and what it holds. -/
def cfind (x y : Int) : List CE → Nat → Option (Nat × Int)
  | [], _ => none
  | c :: r, i => if x = c.x ∧ y = c.y then some (i, c.v) else cfind x y r (i + 1)

theorem fl_same : ∀ x : Fin 10, ∀ y : Fin 10, Op.floatEq .f64 (flI (x.val : Int)) (flI (y.val : Int)) = decide (x.val = y.val) := by decide +kernel
theorem fl_eq (x y : Int) (hx : 0 ≤ x ∧ x ≤ 9) (hy : 0 ≤ y ∧ y ≤ 9) : Op.floatEq .f64 (flI x) (flI y) = decide (x = y) := by
  obtain ⟨i, rfl⟩ := Int.eq_ofNat_of_zero_le hx.1
  obtain ⟨j, rfl⟩ := Int.eq_ofNat_of_zero_le hy.1
  have := fl_same ⟨i, by omega⟩ ⟨j, by omega⟩
  simp only at this
  rw [this]
  exact decide_eq_decide.2 (by omega)

theorem run_equalIn_c {P : Program} (w : World) (n : Nat) (t : TypeId) (a b c d : Nat) (h : P.underlying t = some (.complex .f64)) : (Op.equalIn (n + 1) t (.complex .f64 a b) (.complex .f64 c d)).run P w = .ok (Op.floatEq .f64 a c && Op.floatEq .f64 b d) w := by
  simp [Op.equalIn, run_underlying h]
theorem run_equal_c {P : Program} (w : World) (t : TypeId) (a b c d : Nat) (h : P.underlying t = some (.complex .f64)) : (Op.equal t (.complex .f64 a b) (.complex .f64 c d)).run P w = .ok (Op.floatEq .f64 a c && Op.floatEq .f64 b d) w := run_equalIn_c w 9999 t a b c d h

theorem run_asking {P : Program} (w : World) (t : TypeId) (x y : Int) (h : P.underlying t = some (.complex .f64)) (hx : 0 ≤ x ∧ x ≤ 9) (hy : 0 ≤ y ∧ y ≤ 9) : ∀ (l : List CE) (i : Nat), (∀ c ∈ l, c.ok) →
    (Instr.findAsking t (.complex .f64 (flI x) (flI y)) (l.map CE.e) i).run P w = .ok ((cfind x y l i).map (fun p => (p.1, .int .i64 p.2))) w := by
  intro l
  induction l with
  | nil => intro i _; simp [Instr.findAsking, cfind]
  | cons c l ih =>
    intro i hok
    have hc := hok c (by simp)
    simp only [List.map_cons, Instr.findAsking, cfind]
    rw [Sem.run_bind]
    show (Result.andThen ((Op.equal t (.complex .f64 (flI x) (flI y)) (.complex .f64 (flI c.x) (flI c.y))).run P w) _) = _
    rw [run_equal_c w t _ _ _ _ h, fl_eq x c.x hx hc.1, fl_eq y c.y hy hc.2, Result.andThen_ok]
    by_cases e : x = c.x ∧ y = c.y
    · rw [if_pos e]
      simp [e.1, e.2, CE.e]
    · rw [if_neg e]
      have : (decide (x = c.x) && decide (y = c.y)) = false := by simpa using e
      rw [this]
      simp only [Bool.false_eq_true, if_false]
      exact ih (i + 1) (fun d hd => hok d (by simp [hd]))

theorem run_find {P : Program} (w : World) (t : TypeId) (x y : Int) (h : P.underlying t = some (.complex .f64)) (hx : 0 ≤ x ∧ x ≤ 9) (hy : 0 ≤ y ∧ y ≤ 9) (l : List CE) (hok : ∀ c ∈ l, c.ok) :
    (Instr.findKey t (.complex .f64 (flI x) (flI y)) (l.map CE.e)).run P w = .ok ((cfind x y l 0).map (fun p => (p.1, .int .i64 p.2))) w := by
  have ha := run_asking w t x y h hx hy l 0 hok
  unfold Instr.findKey
  rw [Sem.run_bind, run_underlying h]
  simp only [Result.andThen_ok]
  cases l with
  | nil => simp [Instr.findNow, cfind]
  | cons c l =>
    have : Instr.findNow (.complex .f64) (.complex .f64 (flI x) (flI y)) ((c :: l).map CE.e) 0 = none := by simp [Instr.findNow, Instr.sameNow, CE.e]
    rw [this]
    exact ha

theorem run_checkKey_c {P : Program} (w : World) (b : Bool) (n : Nat) (t : TypeId) (a c : Nat) (h : P.underlying t = some (.complex .f64)) : (Instr.checkKey b (n + 1) t (.complex .f64 a c)).run P w = .ok () w := by
  simp [Instr.checkKey, run_underlying h]

/-- The map that lies in block r. -/
def MapIs (w : World) (r : Nat) (l : List CE) (clock : Nat) : Prop := w.heap[r]? = some (.map (l.map CE.e).toArray clock) ∧ ∀ c ∈ l, c.ok

theorem run_lookup_c {P : Program} {w : World} {r clock : Nat} {l : List CE} (hm : MapIs w r l clock) (mt t e : TypeId) (ok : Bool) (x y : Int) (hmt : P.underlying mt = some (.map t e)) (h : P.underlying t = some (.complex .f64)) (hz : (P.info? e).bind (·.zero) = some (.int .i64 0)) (hx : 0 ≤ x ∧ x ≤ 9) (hy : 0 ≤ y ∧ y ≤ 9) :
    (Instr.lookup mt (.map (some r)) (.complex .f64 (flI x) (flI y)) ok).run P w = .ok (if ok then .tuple #[.int .i64 (((cfind x y l 0).map (·.2)).getD 0), .bool (cfind x y l 0).isSome] else .int .i64 (((cfind x y l 0).map (·.2)).getD 0)) w := by
  have hf := run_find w t x y h hx hy l hm.2
  have hc := fun b => run_checkKey_c (P := P) w b 9999 t (flI x) (flI y) h
  cases hi : P.info? e with
  | none => rw [hi] at hz; cases hz
  | some i =>
    rw [hi] at hz
    simp only [Option.bind_some] at hz
    unfold Instr.lookup
    simp only [Sem.run_bind, run_underlying hmt, Result.andThen_ok, getObj, Sem.run, hm.1, hc, hf, Sem.run_pure]
    cases hcf : cfind x y l 0 with
    | none => simp [zeroValue, typeInfo, hi, hz]
    | some p => simp

/-- A block put in the place of another. -/
def World.putObj (w : World) (r : Nat) (o : Obj) : World := { w with heap := w.heap.setIfInBounds r o }
/-- What a map holds behind a store, behind a delete. -/
def cput (x y v : Int) (clock : Nat) : List CE → List CE
  | [] => [⟨x, y, v, clock⟩]
  | c :: r => if x = c.x ∧ y = c.y then { c with v := v } :: r else c :: cput x y v clock r
def cdel (x y : Int) : List CE → List CE
  | [] => []
  | c :: r => if x = c.x ∧ y = c.y then r else c :: cdel x y r
theorem cfind_up (x y : Int) (l : List CE) (i : Nat) : cfind x y l i = (cfind x y l 0).map (fun p => (p.1 + i, p.2)) := by
  induction l generalizing i with
  | nil => rfl
  | cons c l ih =>
    simp only [cfind]
    split
    · simp
    · rw [ih (i + 1), ih 1]
      cases cfind x y l 0 <;> simp; omega
theorem cput_hit {x y v : Int} {clock : Nat} {l : List CE} {i : Nat} {u : Int} (h : cfind x y l 0 = some (i, u)) : ∃ c, l[i]? = some c ∧ c.x = x ∧ c.y = y ∧ cput x y v clock l = l.set i { c with v := v } := by
  induction l generalizing i with
  | nil => simp [cfind] at h
  | cons c l ih =>
    simp only [cfind] at h
    split at h
    · rename_i e
      simp at h
      obtain ⟨rfl, rfl⟩ := h
      exact ⟨c, rfl, e.1.symm, e.2.symm, by simp [cput, e]⟩
    · rename_i e
      rw [cfind_up] at h
      cases hf : cfind x y l 0 with
      | none => rw [hf] at h; simp at h
      | some p =>
        rw [hf] at h
        simp at h
        obtain ⟨rfl, rfl⟩ := h
        obtain ⟨d, h1, h2, h3, h4⟩ := ih (i := p.1) (by rw [hf])
        exact ⟨d, by simpa using h1, h2, h3, by simp [cput, e, h4]⟩
theorem cput_miss {x y v : Int} {clock : Nat} {l : List CE} (h : cfind x y l 0 = none) : cput x y v clock l = l ++ [⟨x, y, v, clock⟩] := by
  induction l with
  | nil => rfl
  | cons c l ih =>
    simp only [cfind] at h
    split at h
    · cases h
    · rename_i e
      rw [cfind_up] at h
      have := ih (by cases hf : cfind x y l 0 with | none => rfl | some p => rw [hf] at h; simp at h)
      simp [cput, e, this]
theorem cdel_hit {x y : Int} {l : List CE} {i : Nat} {u : Int} (h : cfind x y l 0 = some (i, u)) : i < l.length ∧ cdel x y l = l.eraseIdx i := by
  induction l generalizing i with
  | nil => simp [cfind] at h
  | cons c l ih =>
    simp only [cfind] at h
    split at h
    · rename_i e
      simp at h
      obtain ⟨rfl, rfl⟩ := h
      simp [cdel, e]
    · rename_i e
      rw [cfind_up] at h
      cases hf : cfind x y l 0 with
      | none => rw [hf] at h; simp at h
      | some p =>
        rw [hf] at h
        simp at h
        obtain ⟨rfl, rfl⟩ := h
        obtain ⟨h1, h2⟩ := ih (i := p.1) (by rw [hf])
        exact ⟨by simpa using h1, by simp [cdel, e, h2]⟩
theorem cdel_miss {x y : Int} {l : List CE} (h : cfind x y l 0 = none) : cdel x y l = l := by
  induction l with
  | nil => rfl
  | cons c l ih =>
    simp only [cfind] at h
    split at h
    · cases h
    · rename_i e
      rw [cfind_up] at h
      have := ih (by cases hf : cfind x y l 0 with | none => rfl | some p => rw [hf] at h; simp at h)
      simp [cdel, e, this]

end Go.Proofs.Ytdpmadoccimgcaa

/-
  Maps by spots: a store and a delete, as the model runs them.
-/
namespace Go.Proofs.Ytdpmadoccimgcaa
open Go.RowKit

def cclock (x y : Int) (l : List CE) (clock : Nat) : Nat := if (cfind x y l 0).isSome then clock else clock + 1

theorem modify_e (l : List CE) (i : Nat) (c : CE) (x y v : Int) (hc : l[i]? = some c) (hx : c.x = x) (hy : c.y = y) :
    ((l.map CE.e).toArray.modify i fun e => { e with key := .complex .f64 (flI x) (flI y), val := .int .i64 v }) = ((l.set i { c with v := v }).map CE.e).toArray := by
  obtain ⟨hi, he⟩ := at_some hc
  apply Array.ext
  · simp
  · intro j h1 h2
    simp only [Array.getElem_modify, List.getElem_toArray, List.getElem_map, List.getElem_set]
    split
    · rename_i hij
      subst hij
      rw [he]
      simp [CE.e, hx, hy]
    · rfl

theorem run_update_c {P : Program} {w : World} {r clock : Nat} {l : List CE} (hm : MapIs w r l clock) (mt t e : TypeId) (x y v : Int) (hmt : P.underlying mt = some (.map t e)) (h : P.underlying t = some (.complex .f64)) (hx : 0 ≤ x ∧ x ≤ 9) (hy : 0 ≤ y ∧ y ≤ 9) :
    (Instr.mapUpdate mt (.map (some r)) (.complex .f64 (flI x) (flI y)) (.int .i64 v)).run P w = .ok () (World.putObj w r (.map ((cput x y v clock l).map CE.e).toArray (cclock x y l clock))) := by
  have hf := run_find w t x y h hx hy l hm.2
  have hc := fun b => run_checkKey_c (P := P) w b 9999 t (flI x) (flI y) h
  unfold Instr.mapUpdate
  simp only [Sem.run_bind, run_underlying hmt, Result.andThen_ok, getObj, Sem.run, hm.1, hc, hf]
  cases hcf : cfind x y l 0 with
  | none =>
    simp [setObj, Sem.run, hm.1, World.putObj, cclock, hcf, cput_miss hcf, CE.e]
  | some p =>
    obtain ⟨c, h1, h2, h3, h4⟩ := cput_hit (v := v) (clock := clock) hcf
    have hk : ((((l.map CE.e).toArray[p.1]?).map (·.key)).getD (.complex .f64 (flI x) (flI y))) = .complex .f64 (flI x) (flI y) := by
      simp [h1, CE.e, h2, h3]
    have hs : Instr.sameBits 10000 (.complex .f64 (flI x) (flI y)) (.complex .f64 (flI x) (flI y)) = true := by simp [Instr.sameBits]
    have hst : (Instr.keyThatStays (.complex .f64 (flI x) (flI y)) (.complex .f64 (flI x) (flI y))).run P w = .ok (.complex .f64 (flI x) (flI y)) w := by
      simp [Instr.keyThatStays, hs]
    simp only [Option.map_some, Sem.run_bind, hk, hst, Result.andThen_ok]
    rw [modify_e l p.1 c x y v h1 h2 h3]
    simp [setObj, Sem.run, hm.1, World.putObj, cclock, hcf, h4]

theorem erase_map {α β : Type} (f : α → β) (l : List α) (i : Nat) : (l.map f).eraseIdx i = (l.eraseIdx i).map f := by
  induction l generalizing i with
  | nil => simp
  | cons a l ih => cases i <;> simp [ih]

theorem run_delete_c {P : Program} {w : World} {r clock : Nat} {l : List CE} (hm : MapIs w r l clock) (mt t e kt ty : TypeId) (x y : Int) (hmt : P.underlying mt = some (.map t e)) (h : P.underlying t = some (.complex .f64)) (hx : 0 ≤ x ∧ x ≤ 9) (hy : 0 ≤ y ∧ y ≤ 9) :
    (Builtin.delete_ #[mt, kt] ty #[.map (some r), .complex .f64 (flI x) (flI y)]).run P w = .ok (.tuple #[]) (World.putObj w r (.map ((cdel x y l).map CE.e).toArray clock)) := by
  have hf := run_find w t x y h hx hy l hm.2
  have hc := fun b => run_checkKey_c (P := P) w b 9999 t (flI x) (flI y) h
  unfold Builtin.delete_
  simp only [List.getElem?_toArray, List.getElem?_cons_zero, List.getElem?_cons_succ, Sem.run_bind, run_underlying hmt, Result.andThen_ok, getObj, Sem.run, hm.1, hc, hf]
  cases hcf : cfind x y l 0 with
  | none => simp [setObj, Sem.run, hm.1, World.putObj, cdel_miss hcf]
  | some p =>
    obtain ⟨h1, h2⟩ := cdel_hit hcf
    have : (l.map CE.e).toArray.eraseIdxIfInBounds p.1 = ((cdel x y l).map CE.e).toArray := by
      rw [h2]
      simp [Array.eraseIdxIfInBounds, h1]
      exact erase_map CE.e l p.1
    simp [setObj, Sem.run, hm.1, World.putObj, this]

end Go.Proofs.Ytdpmadoccimgcaa

/-
  The numbers of orders, read as the program reads them.
-/
namespace Go.Proofs.Ytdpmadoccimgcaa
open Go.RowKit

/-- The number that digits make behind n; -1: it is none. -/
def numP : Nat → List UInt8 → Int
  | n, [] => n
  | n, c :: r => if c.toNat < 48 ∨ 57 < c.toNat then -1 else if 100000 < 10 * n + (c.toNat - 48) then -1 else numP (10 * n + (c.toNat - 48)) r
def badHead (l : List UInt8) : Bool := l == [] || (l.head? == some 48 && !(l == [48]))
def numR (o : Option Nat) : Int := match o with
  | some m => if 100000 < m then -1 else m
  | none => -1

theorem numGo_big (l : List UInt8) : ∀ n i, 100000 < n → numR (numGo n i l) = -1 := by
  induction l with
  | nil => intro n i h; simp [numGo, numR, h]
  | cons c r ih =>
    intro n i h
    simp only [numGo]
    split
    · rfl
    · exact ih _ _ (by omega)
theorem numGo_prog (l : List UInt8) : ∀ n i, 1 ≤ i → 10 ^ (i - 1) ≤ n → n ≤ 100000 → numR (numGo n i l) = numP n l := by
  induction l with
  | nil => intro n i _ _ h; simp [numGo, numR, numP]; omega
  | cons c r ih =>
    intro n i hi hn hm
    simp only [numGo, numP]
    by_cases hc : c.toNat < 48 ∨ 57 < c.toNat
    · rw [if_pos (by omega), if_pos hc]; rfl
    · rw [if_neg hc]
      have hpos : 0 < 10 ^ (i - 1) := Nat.pow_pos (by omega)
      by_cases h5 : 5 < i
      · rw [if_pos (by omega)]
        have : 10 ^ 5 ≤ 10 ^ (i - 1) := Nat.pow_le_pow_right (by omega) (by omega)
        have e5 : (10 : Nat) ^ 5 = 100000 := rfl
        rw [if_pos (by omega)]
        rfl
      · rw [if_neg (by omega)]
        split
        · rename_i hb
          exact numGo_big r _ _ hb
        · rename_i hb
          refine ih _ _ (by omega) ?_ (by omega)
          have e : i + 1 - 1 = (i - 1) + 1 := by omega
          rw [e, Nat.pow_succ]
          omega
theorem numberI_prog (l : List UInt8) : numberI l = if badHead l then -1 else numP 0 l := by
  have e0 : numberI l = if l = [] then -1 else numR (numGo 0 0 l) := by
    unfold numberI numR
    by_cases h : l = []
    · subst h; simp [numGo]
    · simp only [h, false_or, if_false]
      cases numGo 0 0 l <;> rfl
  rw [e0]
  cases l with
  | nil => simp [badHead]
  | cons c r =>
    simp only [reduceCtorEq, if_false]
    by_cases hc : c.toNat < 48 ∨ 57 < c.toNat
    · have h1 : numGo 0 0 (c :: r) = none := by simp only [numGo]; rw [if_pos (by omega)]
      have h2 : numP 0 (c :: r) = -1 := by simp only [numP]; rw [if_pos hc]
      rw [h1, h2]
      simp [numR]
    · have h1 : numGo 0 0 (c :: r) = numGo (c.toNat - 48) 1 r := by
        simp only [numGo]
        rw [if_neg (by omega)]
        simp
      have h2 : numP 0 (c :: r) = numP (c.toNat - 48) r := by
        simp only [numP]
        rw [if_neg hc, if_neg (by omega)]
        simp
      rw [h1, h2]
      by_cases hz : c.toNat = 48
      · have ec : c = 48 := by apply UInt8.toNat.inj; exact hz
        subst ec
        cases r with
        | nil => simp [badHead, numGo, numR, numP]
        | cons d r =>
          have hb : badHead (48 :: d :: r) = true := by simp [badHead]
          rw [hb]
          have h3 : numGo (UInt8.toNat 48 - 48) 1 (d :: r) = none := by simp only [numGo]; rw [if_pos (by right; right; right; exact ⟨by decide, by omega⟩)]
          rw [h3]
          rfl
      · have hb : badHead (c :: r) = false := by
          have : c ≠ 48 := fun e => hz (by rw [e]; rfl)
          simp [badHead, this]
        rw [hb]
        exact numGo_prog r _ 1 (by omega) (by simp; omega) (by omega)
/-- A byte that is no sign of its own makes a rune beyond the digits. -/
theorem dec_hi (s : ByteArray) (pos : Nat) (h : pos < s.size) (hb : 128 ≤ s[pos].toNat) : 128 ≤ (Utf8.decode s pos).1 := by
  have e0 : s.get! (pos + 0) = s[pos] := get_at s pos h
  unfold Utf8.decode
  simp only [e0]
  rw [if_neg (by omega)]
  split
  · split
    · rename_i h5; exact h5
    · simp [Utf8.runeError]
  · split
    · split
      · rename_i h5
        simp only [Bool.and_eq_true, decide_eq_true_eq, ge_iff_le] at h5
        simp only; omega
      · simp [Utf8.runeError]
    · split
      · split
        · rename_i h5
          simp only [Bool.and_eq_true, decide_eq_true_eq, ge_iff_le] at h5
          simp only; omega
        · simp [Utf8.runeError]
      · simp [Utf8.runeError]

end Go.Proofs.Ytdpmadoccimgcaa
