/-
  That the program reads an order as the document does.
-/
import Derived.Test.YtdpmadoccimgcaaT22
import Derived.Test.YtdpmadoccimgcaaT16
import Derived.Test.YtdpmadoccimgcaaT21
import Derived.Test.YtdpmadoccimgcaaT18
import Derived.Test.YtdpmadoccimgcaaT20
set_option linter.unusedVariables false
namespace Go.Proofs.Ytdpmadoccimgcaa
open Go.RowKit

theorem plain_kind (b : List UInt8) : plainB b = decide (kindP b ≠ 0) := by
  unfold plainB amongB plainW eqS kindP
  simp only [List.map_cons, List.map_nil, List.any_cons, List.any_nil, Lib.toList_data, bytesOf_toList, Bool.or_false]
  by_cases h1 : b = [103, 111]
  · subst h1; rfl
  by_cases h2 : b = [108, 101, 102, 116]
  · subst h2; rfl
  by_cases h3 : b = [114, 105, 103, 104, 116]
  · subst h3; rfl
  by_cases h4 : b = [98, 97, 99, 107]
  · subst h4; rfl
  by_cases h5 : b = [100, 105, 103]
  · subst h5; rfl
  by_cases h6 : b = [115, 101, 108, 108]
  · subst h6; rfl
  simp [h1, h2, h3, h4, h5, h6, Ne.symm h1, Ne.symm h2, Ne.symm h3, Ne.symm h4, Ne.symm h5, Ne.symm h6]
theorem naming_kind (b : List UInt8) : namingB b = decide (kindN b ≠ 0) := by
  unfold namingB kindN
  by_cases h1 : b = [98, 117, 105, 108, 100]
  · subst h1; rfl
  by_cases h2 : b = [99, 97, 108, 108]
  · subst h2; rfl
  simp [h1, h2]
theorem kindP_mem {b : List UInt8} (h : kindP b ≠ 0) : b ∈ whatW ∧ kindW b = kindP b ∧ kindP b ≠ 9 := by
  refine ⟨?_, ?_, ?_⟩
  · unfold kindP at h
    simp only [whatW, List.mem_cons]
    by_cases h1 : b = [103, 111]
    · simp [h1]
    by_cases h2 : b = [108, 101, 102, 116]
    · simp [h2]
    by_cases h3 : b = [114, 105, 103, 104, 116]
    · simp [h3]
    by_cases h4 : b = [98, 97, 99, 107]
    · simp [h4]
    by_cases h5 : b = [100, 105, 103]
    · simp [h5]
    by_cases h6 : b = [115, 101, 108, 108]
    · simp [h6]
    simp [h1, h2, h3, h4, h5, h6] at h
  · unfold kindW; rw [if_neg h]
  · unfold kindP
    repeat' split
    all_goals omega
theorem kindN_mem {b : List UInt8} (h : kindN b ≠ 0) : b ∈ whatW ∧ kindW b = kindN b ∧ kindN b ≠ 9 := by
  have hb : b = [98, 117, 105, 108, 100] ∨ b = [99, 97, 108, 108] := by
    unfold kindN at h
    by_cases h1 : b = [98, 117, 105, 108, 100]
    · exact .inl h1
    by_cases h2 : b = [99, 97, 108, 108]
    · exact .inr h2
    simp [h1, h2] at h
  rcases hb with rfl | rfl
  · exact ⟨by simp [whatW], by decide, by decide⟩
  · exact ⟨by simp [whatW], by decide, by decide⟩

theorem nameB_nil : nameB [] = false := by decide
/-- What comes of a text's words. -/
theorem parse_words (s : SWorld) (n : Nat) (p : SPlayer) (ws : List (List UInt8)) :
    (parseV ws = #[.agg zeroO, .bool false] ∧ wordsS s n p ws = (2, s)) ∨
    (∃ nm num, parseV ws = #[.agg (ordC 9 ⟨#[]⟩ nm num), .bool true] ∧ wordsS s n p ws = (3, s)) ∨
    (∃ a b c, parseV ws = #[.agg (ordC (kindW b) (bytesOf a) (bytesOf c) 0), .bool true] ∧ wordsS s n p ws = tellS s n p a b c ∧ kindW b ≠ 9 ∧ b ∈ whatW ∧ (c ∈ ws ∨ c = [])) := by
  match ws with
  | [] => exact .inl ⟨rfl, rfl⟩
  | [a] => exact .inl ⟨rfl, rfl⟩
  | [a, b] =>
    simp only [parseV, wordsS, checkV, bytesOf_toList, plain_kind]
    by_cases h : kindP b ≠ 0 ∧ nameB a = true
    · obtain ⟨m1, m2, m3⟩ := kindP_mem h.1
      refine .inr (.inr ⟨a, b, [], ?_, ?_, ?_, m1, .inr rfl⟩)
      · rw [if_pos h, m2]; rfl
      · simp [h.1, h.2]
      · rw [m2]; exact m3
    · refine .inl ⟨by rw [if_neg h], ?_⟩
      rw [if_neg]
      simp only [Bool.and_eq_true, decide_eq_true_eq]
      exact fun h' => h ⟨h'.2, h'.1⟩
  | [a, b, c] =>
    simp only [parseV, wordsS, checkV, bytesOf_toList, naming_kind]
    by_cases h : (decide (0 ≤ numberI c) && (a == bidW && nameB b)) = true
    · refine .inr (.inl ⟨bytesOf b, numV (numberI c), by rw [if_pos h], ?_⟩)
      rw [if_pos]
      simp only [Bool.and_eq_true] at h ⊢
      exact ⟨⟨h.2.1, h.2.2⟩, h.1⟩
    · have h' : ¬ (a == bidW && nameB b && decide (0 ≤ numberI c)) = true := by
        intro h'
        apply h
        simp only [Bool.and_eq_true] at h' ⊢
        exact ⟨h'.2, h'.1.1, h'.1.2⟩
      rw [if_neg h, if_neg h']
      by_cases hc : nameB c = true
      · rw [if_pos hc]
        by_cases hk : kindN b ≠ 0 ∧ nameB a = true
        · obtain ⟨m1, m2, m3⟩ := kindN_mem hk.1
          refine .inr (.inr ⟨a, b, c, ?_, ?_, ?_, m1, .inl (by simp)⟩)
          · rw [if_pos hk, m2]
          · simp [hk.1, hk.2, hc]
          · rw [m2]; exact m3
        · refine .inl ⟨by rw [if_neg hk], ?_⟩
          rw [if_neg]
          simp only [Bool.and_eq_true, decide_eq_true_eq]
          exact fun h'' => hk ⟨h''.2, h''.1.1⟩
      · refine .inl ⟨by rw [if_neg hc], ?_⟩
        rw [if_neg]
        simp only [Bool.and_eq_true]
        exact fun h'' => hc h''.1.2
  | a :: b :: c :: d :: r => exact .inl ⟨rfl, rfl⟩
end Go.Proofs.Ytdpmadoccimgcaa

/-
  The function Order of package haze, where no lot is open.
-/
namespace Go.Proofs.Ytdpmadoccimgcaa
open Go.RowKit

def toldW (w : World) (g : Nat) (kd : Int) (arg : ByteArray) : World := (((w.setCell ⟨g, 4, none⟩ (.int .i64 kd)).setCell ⟨g, 5, none⟩ (.string ⟨#[]⟩)).setCell ⟨g, 6, none⟩ (.string arg)).setCell ⟨g, 7, none⟩ (.int .i64 0)
theorem told_turn {w w1 : World} {X X1 : XW} (h : TurnX w X w1 X1) {i k : Nat} {p : SPlayer} {v : XV} {u : SUnit} {x : XU} (hq : X1.pls[i]? = some (p, v)) (hu : p.units[k]? = some u) (hx : v.us[k]? = some x) (what arg : ByteArray) (hw : what.toList ∈ whatW) :
    TurnX w X (toldW w1 x.g (kindW what.toList) arg) (X1.setQ i ({ p with units := p.units.set k { u with what := what, arg := arg } }, { v with us := v.us.set k x })) := by
  have hru := (h.rep.each i _ hq).unit k u x hu hx
  have far : ∀ r, r ≠ x.g → (toldW w1 x.g (kindW what.toList) arg).heap[r]? = w1.heap[r]? := fun r h => by
    unfold toldW
    rw [setCell_far _ _ _ _ r h, setCell_far _ _ _ _ r h, setCell_far _ _ _ _ r h, setCell_far _ _ _ _ r h]
  have e : (toldW w1 x.g (kindW what.toList) arg).heap[x.g]? = some (.cells (xuCells { u with what := what, arg := arg } x) 87 (0, 0)) := by
    unfold toldW
    rw [cells_set (cells_set (cells_set (cells_set hru.is)))]
    rfl
  have hr := h.rep.setU hq hu hx far { u with what := what, arg := arg } x rfl ⟨e, hru.head, hw⟩
  have hf := xfoot_setQ X1 i (p, v) ({ p with units := p.units.set k { u with what := what, arg := arg } }, { v with us := v.us.set k x }) hq (xvFoot_setU hx rfl)
  refine h.trans ⟨hr, ?_, fun r hr => .inl (by rw [hf] at hr; exact hr), rfl, RowsX.keep h.rep.rows_lt hr (fun j q0 hj => ?_)⟩
  · unfold toldW
    have hg := xfoot_u hq hx
    exact ((((Kept.refl _ _).setCell _ _ _ (.inl hg)).setCell _ _ _ (.inl hg)).setCell _ _ _ (.inl hg)).setCell _ _ _ (.inl hg)
  · by_cases e' : j = i
    · subst e'
      rw [hq] at hj
      injection hj with hj
      subst hj
      exact ⟨_, set_at hq, rfl, map_set_same (·.g) v.us k x x hx rfl⟩
    · exact ⟨q0, by simp [XW.setQ, Ne.symm e', hj], rfl, rfl⟩

set_option maxRecDepth 100000 in
set_option maxHeartbeats 1000000 in
theorem xorder_none (w : World) (X : XW) (n : Int) (text : ByteArray) (hr : RepX w X) (h2 : 2 ≤ X.pls.length) (hn : ¬ (0 ≤ n ∧ n < X.pls.length)) :
    Calls Try.prog 16 #[.pointer (some ⟨X.b, 0, none⟩), .int .i64 n, .string text] w fun e w' => e = .returned (.int .i64 1) ∧ w' = w := by
  obtain ⟨pb, pcap, hvp, hpc, hpm⟩ := hr.plForm h2
  have c5 : w.cell? ⟨X.b, 5, none⟩ = some (.slice (some ⟨pb, 0, none⟩) X.pls.length pcap) := by rw [← hvp]; exact hr.cellTop rfl
  have HH := hidOf (has_any X.b n X.pls.length pcap _ w c5)
  have hi : hasB n X.pls.length = false := by rw [hasB_pl]; exact decide_eq_false hn
  rw [hi] at HH
  clear hn
  go_enter Try.func16, Try.ntmps16
  go_wp2_with (go_at_call 31; refine HH.out.mono ?_; rintro e w' ⟨rfl, rfl⟩)
  go_ret
  exact ⟨rfl, rfl⟩

set_option maxRecDepth 100000 in
set_option maxHeartbeats 4000000 in
/-- A text that is no order, or a bid. -/
theorem xorder_no (w : World) (X : XW) (n : Nat) (text : ByteArray) (cs : Array Value) (k' m' : Int) (u' n' : ByteArray) (t : Bool) (code : Int) (hr : RepX w X) (h2 : 2 ≤ X.pls.length ∧ X.pls.length ≤ 4) (hn : n < X.pls.length) (hs : text.size ≤ 2000000)
    (hp : parseV (splitB text.data.toList) = #[.agg #[.int .i64 k', .string u', .string n', .int .i64 m'], .bool t]) (hc : (t = false ∧ code = 2) ∨ (t = true ∧ k' = 9 ∧ code = 3)) :
    Calls Try.prog 16 #[.pointer (some ⟨X.b, 0, none⟩), .int .i64 n, .string text] w fun e w' => e = .returned (.int .i64 code) ∧ ∃ X', TurnX w X w' X' ∧ X' = X := by
  obtain ⟨pb, pcap, hvp, hpc, hpm⟩ := hr.plForm h2.1
  have c5 : w.cell? ⟨X.b, 5, none⟩ = some (.slice (some ⟨pb, 0, none⟩) X.pls.length pcap) := by rw [← hvp]; exact hr.cellTop rfl
  have HH := hidOf (has_any X.b n X.pls.length pcap _ w c5)
  have hi : hasB (n : Int) X.pls.length = true := by rw [hasB_pl]; simp; omega
  rw [hi] at HH
  have HP := hidOf (xparse_any text w hs)
  rw [hp] at HP
  have HR := hidOf hr
  clear hp hr hvp
  rcases hc with ⟨rfl, rfl⟩ | ⟨rfl, rfl, rfl⟩
  · go_enter Try.func16, Try.ntmps16
    go_wp2_with (first | (go_at_call 31; refine HH.out.mono ?_; rintro e w' ⟨rfl, h⟩; rw [h]; clear h w') | (go_at_call 32; refine HP.out.mono ?_; rintro e w1 ⟨rfl, hb1⟩))
    go_ret
    exact ⟨rfl, X, (TurnX.refl HR.out).below (hb1.trans ((Below.refl _ w1).alloc hb1.size _)), rfl⟩
  · go_enter Try.func16, Try.ntmps16
    go_wp2_with (first | (go_at_call 31; refine HH.out.mono ?_; rintro e w' ⟨rfl, h⟩; rw [h]; clear h w') | (go_at_call 32; refine HP.out.mono ?_; rintro e w1 ⟨rfl, hb1⟩))
    go_ret
    exact ⟨rfl, X, (TurnX.refl HR.out).below (hb1.trans ((Below.refl _ w1).alloc hb1.size _)), rfl⟩
end Go.Proofs.Ytdpmadoccimgcaa

/-
  The function Order of package haze: a unit is told.
-/
namespace Go.Proofs.Ytdpmadoccimgcaa
open Go.RowKit

set_option maxRecDepth 100000 in
set_option maxHeartbeats 4000000 in
theorem xorder_nobody (w : World) (X : XW) (n : Nat) (p : SPlayer) (v : XV) (text : ByteArray) (k' : Int) (u' n' : ByteArray) (hr : RepX w X) (h2 : 2 ≤ X.pls.length ∧ X.pls.length ≤ 4) (hq : X.pls[n]? = some (p, v)) (hs : text.size ≤ 2000000)
    (hp : parseV (splitB text.data.toList) = #[.agg #[.int .i64 k', .string u', .string n', .int .i64 0], .bool true]) (hk : k' ≠ 9) (hf : unitIx p.units u' < 0) :
    Calls Try.prog 16 #[.pointer (some ⟨X.b, 0, none⟩), .int .i64 n, .string text] w fun e w' => e = .returned (.int .i64 3) ∧ TurnX w X w' X := by
  obtain ⟨hn, _⟩ := at_some hq
  obtain ⟨pb, pcap, hvp, hpc, hpm⟩ := hr.plForm h2.1
  unfold maxLen at hpm
  have hi2 : (n : Int) < X.pls.length := by omega
  have c5 : w.cell? ⟨X.b, 5, none⟩ = some (.slice (some ⟨pb, 0, none⟩) X.pls.length pcap) := by rw [← hvp]; exact hr.cellTop rfl
  have HH := hidOf (has_any X.b n X.pls.length pcap _ w c5)
  have hi : hasB (n : Int) X.pls.length = true := by rw [hasB_pl]; simp; omega
  rw [hi] at HH
  have HP := hidOf (xparse_any text w hs)
  rw [hp] at HP
  have HR := hidOf hr
  have HQ := hidOf hq
  have HVP := hidOf hvp
  have hk9 : (k' == 9) = false := beq_eq_false_iff_ne.2 hk
  have HF := hidOf hf
  clear hp hr hvp hk hf hq
  go_enter Try.func16, Try.ntmps16
  go_wp2_with (first | (go_at_call 31; refine HH.out.mono ?_; rintro e w' ⟨rfl, h⟩; rw [h]; clear h w') | (go_at_call 32; refine HP.out.mono ?_; rintro e w1 ⟨rfl, hb1⟩))
  have T2 := hidOf ((TurnX.refl HR.out).below (hb1.trans ((Below.refl _ w1).alloc hb1.size (.cells #[.int .i64 k', .string u', .string n', .int .i64 0] 85))))
  have kk := Go.heap_alloc_new w1 (.cells #[.int .i64 k', .string u', .string n', .int .i64 0] 85)
  obtain ⟨w2, hw2⟩ : ∃ w2, w2 = w1.alloc (.cells #[.int .i64 k', .string u', .string n', .int .i64 0] 85) := ⟨_, rfl⟩
  rw [← hw2] at T2 kk ⊢
  obtain ⟨⟨k0, k1, k2, _⟩, _⟩ := res4 kk
  clear hw2 c5 kk
  have c5 : w2.cell? ⟨X.b, 5, none⟩ = some (.slice (some ⟨pb, 0, none⟩) X.pls.length pcap) := by rw [← HVP.out]; exact T2.out.rep.cellTop rfl
  have HFd : Hid (∀ wx : World, wx.heap = w2.heap → Calls Try.prog 33 #[.pointer (some ⟨pb, n * 2, none⟩), .string u'] wx fun e w' => e = .returned (.pointer (findA p.units v.us u')) ∧ w' = wx) := fun wx hx =>
    find_any pb (n * 2) (p, v) u' wx (((T2.out.rep.heapEq hx).plCell HQ.out HVP.out).2) ((T2.out.rep.heapEq hx).each n _ HQ.out)
  rw [find_none HF.out] at HFd
  go_quiet ((go_at_call 33; exact Calls.quiet_of_same (HFd.out _ rfl)))
  go_wp2
  go_ret
  exact ⟨rfl, T2.out.drewN _⟩
set_option maxRecDepth 100000 in
set_option maxHeartbeats 4000000 in
theorem xorder_told (w : World) (X : XW) (n : Nat) (p : SPlayer) (v : XV) (text : ByteArray) (k' : Int) (u' n' : ByteArray) (hr : RepX w X) (h2 : 2 ≤ X.pls.length ∧ X.pls.length ≤ 4) (hq : X.pls[n]? = some (p, v)) (hs : text.size ≤ 2000000)
    (hp : parseV (splitB text.data.toList) = #[.agg #[.int .i64 k', .string u', .string n', .int .i64 0], .bool true]) (k : Nat) (u : SUnit) (x : XU) (what : ByteArray) (hwh : what.toList ∈ whatW) (hkw : k' = kindW what.toList) (hsn : n'.size ≤ 2000000) (hk : k' ≠ 9) (hf : findA p.units v.us u' = some ⟨x.g, 0, none⟩) (hu : p.units[k]? = some u) (hx : v.us[k]? = some x) :
    Calls Try.prog 16 #[.pointer (some ⟨X.b, 0, none⟩), .int .i64 n, .string text] w fun e w' => e = .returned (.int .i64 0) ∧ TurnX w X w' (X.setQ n ({ p with units := p.units.set k { u with what := what, arg := n' } }, { v with us := v.us.set k x })) := by
  obtain ⟨hn, _⟩ := at_some hq
  obtain ⟨pb, pcap, hvp, hpc, hpm⟩ := hr.plForm h2.1
  unfold maxLen at hpm
  have hi2 : (n : Int) < X.pls.length := by omega
  have c5 : w.cell? ⟨X.b, 5, none⟩ = some (.slice (some ⟨pb, 0, none⟩) X.pls.length pcap) := by rw [← hvp]; exact hr.cellTop rfl
  have HH := hidOf (has_any X.b n X.pls.length pcap _ w c5)
  have hi : hasB (n : Int) X.pls.length = true := by rw [hasB_pl]; simp; omega
  rw [hi] at HH
  have HP := hidOf (xparse_any text w hs)
  rw [hp] at HP
  have HR := hidOf hr
  have HQ := hidOf hq
  have HVP := hidOf hvp
  have hk9 : (k' == 9) = false := beq_eq_false_iff_ne.2 hk
  have HF := hidOf hf
  have HU := hidOf hu
  have HX := hidOf hx
  have HK := hidOf hkw
  clear hp hr hvp hk hf hq hu hx hkw
  go_enter Try.func16, Try.ntmps16
  go_wp2_with (first | (go_at_call 31; refine HH.out.mono ?_; rintro e w' ⟨rfl, h⟩; rw [h]; clear h w') | (go_at_call 32; refine HP.out.mono ?_; rintro e w1 ⟨rfl, hb1⟩))
  have T2 := hidOf ((TurnX.refl HR.out).below (hb1.trans ((Below.refl _ w1).alloc hb1.size (.cells #[.int .i64 k', .string u', .string n', .int .i64 0] 85))))
  have kk := Go.heap_alloc_new w1 (.cells #[.int .i64 k', .string u', .string n', .int .i64 0] 85)
  obtain ⟨w2, hw2⟩ : ∃ w2, w2 = w1.alloc (.cells #[.int .i64 k', .string u', .string n', .int .i64 0] 85) := ⟨_, rfl⟩
  rw [← hw2] at T2 kk ⊢
  obtain ⟨⟨k0, k1, k2, _⟩, _⟩ := res4 kk
  clear hw2 c5 kk
  have c5 : w2.cell? ⟨X.b, 5, none⟩ = some (.slice (some ⟨pb, 0, none⟩) X.pls.length pcap) := by rw [← HVP.out]; exact T2.out.rep.cellTop rfl
  have HFd : Hid (∀ wx : World, wx.heap = w2.heap → Calls Try.prog 33 #[.pointer (some ⟨pb, n * 2, none⟩), .string u'] wx fun e w' => e = .returned (.pointer (findA p.units v.us u')) ∧ w' = wx) := fun wx hx =>
    find_any pb (n * 2) (p, v) u' wx (((T2.out.rep.heapEq hx).plCell HQ.out HVP.out).2) ((T2.out.rep.heapEq hx).each n _ HQ.out)
  rw [HF.out] at HFd
  have HCl := hidOf (fun wx => clone_any n' wx hsn)
  go_quiet ((go_at_call 33; exact Calls.quiet_of_same (HFd.out _ rfl)))
  go_wp2_with fail
  have T3 := hidOf (T2.out.drewN nq)
  obtain ⟨w3, hw3⟩ : ∃ w3, w3 = w2.drewN nq := ⟨_, rfl⟩
  have l0 : w3.cell? ⟨w1.heap.size, 0, none⟩ = some (.int .i64 k') := by rw [hw3]; exact k0
  have l2 : w3.cell? ⟨w1.heap.size, 2, none⟩ = some (.string n') := by rw [hw3]; exact k2
  rw [← hw3] at T3 ⊢
  clear hw3 k0 k1 k2 c5 HFd
  go_region_with (go_at_call 34; refine (HCl.out w3.drew).mono ?_; rintro e w4 ⟨rfl, hb4⟩; have T4 := hidOf (T3.out.drew.below hb4); have j0 : w4.cell? ⟨w1.heap.size, 0, none⟩ = some (.int .i64 k') := (hb4.cell (block_lt_of_cell l0)).trans l0; have ru := hidOf ((T4.out.rep.each n _ HQ.out).unit k u x HU.out HX.out); have d4 : w4.cell? ⟨x.g, 4, none⟩ = some (.int .i64 (kindW u.what.toList)) := ru.out.cell rfl; have d5 : w4.cell? ⟨x.g, 5, none⟩ = some (.string ⟨#[]⟩) := ru.out.cell rfl; have d6 : w4.cell? ⟨x.g, 6, none⟩ = some (.string u.arg) := ru.out.cell rfl; have d7 : w4.cell? ⟨x.g, 7, none⟩ = some (.int .i64 0) := ru.out.cell rfl; have z4 : w4.frozen? ⟨x.g, 4, none⟩ = false := ru.out.frozen 4; have z5 : w4.frozen? ⟨x.g, 5, none⟩ = false := ru.out.frozen 5; have z6 : w4.frozen? ⟨x.g, 6, none⟩ = false := ru.out.frozen 6; have z7 : w4.frozen? ⟨x.g, 7, none⟩ = false := ru.out.frozen 7)
  all_goals
    go_wp2
    go_ret
    have T5 := told_turn T4.out HQ.out HU.out HX.out what n' hwh
    rw [← HK.out] at T5
    exact ⟨rfl, T5⟩
end Go.Proofs.Ytdpmadoccimgcaa

/-
  The function Order of package haze, whole.
-/
namespace Go.Proofs.Ytdpmadoccimgcaa
open Go.RowKit

theorem xorder_any (w : World) (X : XW) (M : Int) (n : Int) (text : ByteArray) (hr : RepX w X) (hA : AllX X M) (hs : text.size ≤ 2000000) :
    Calls Try.prog 16 #[.pointer (some ⟨X.b, 0, none⟩), .int .i64 n, .string text] w fun e w' => e = .returned (.int .i64 (orderS X.S n text.data.toList).1) ∧ ∃ X', TurnX w X w' X' ∧ OkX X' ∧ X'.S = (orderS X.S n text.data.toList).2 := by
  have hpl : X.S.players.length = X.pls.length := by simp [XW.S]
  have h4 := hA.wf.pl
  rw [hpl] at h4
  by_cases hn : 0 ≤ n ∧ n < X.pls.length
  · obtain ⟨hn0, hn1⟩ := hn
    obtain ⟨k, rfl⟩ := Int.eq_ofNat_of_zero_le hn0
    obtain ⟨p, v, hq⟩ := xat_of_lt (X := X) (n := k) (by omega)
    have e : orderS X.S k text.data.toList = wordsS X.S k p (splitB text.data.toList) := by
      unfold orderS
      rw [if_pos (by rw [hpl]; omega), Int.toNat_natCast, XS_at hq]
    rw [e]
    have hsz := splitB_sizes text.data.toList
    have hlen : text.data.toList.length = text.size := by simp
    rcases parse_words X.S k p (splitB text.data.toList) with ⟨h1, h2⟩ | ⟨nm, num, h1, h2⟩ | ⟨a, b, c, h1, h2, h3, h5, h6⟩
    · rw [h2]
      refine (xorder_no w X k text #[] 0 0 ⟨#[]⟩ ⟨#[]⟩ false 2 hr h4 (by omega) hs h1 (.inl ⟨rfl, rfl⟩)).mono ?_
      rintro e w' ⟨rfl, X', T, rfl⟩
      exact ⟨rfl, _, T, hA.ok, rfl⟩
    · rw [h2]
      refine (xorder_no w X k text #[] 9 num ⟨#[]⟩ nm true 3 hr h4 (by omega) hs h1 (.inr ⟨rfl, rfl, rfl⟩)).mono ?_
      rintro e w' ⟨rfl, X', T, rfl⟩
      exact ⟨rfl, _, T, hA.ok, rfl⟩
    · rw [h2]
      unfold tellS
      by_cases hu : unitIx p.units (bytesOf a) < 0
      · rw [if_pos hu]
        refine (xorder_nobody w X k p v text (kindW b) (bytesOf a) (bytesOf c) hr h4 hq hs h1 h3 hu).mono ?_
        rintro e w' ⟨rfl, T⟩
        exact ⟨rfl, _, T, hA.ok, rfl⟩
      · rw [if_neg hu]
        obtain ⟨j, x, hf, hj, hx, hjl⟩ := find_some (hr.each k _ hq).len hu
        simp only at hf hj hx hjl
        have hui : p.units[j]? = some p.units[j] := by simp [hjl]
        have ej : (unitIx p.units (bytesOf a)).toNat = j := by rw [hj]; simp
        have hb : (bytesOf b).toList = b := by rw [Lib.toList_data, bytesOf_toList]
        have hsc : (bytesOf c).size ≤ 2000000 := by
          rw [bytesOf_size]
          rcases h6 with h6 | h6
          · have := hsz c h6; omega
          · rw [h6]; simp
        refine (xorder_told w X k p v text (kindW b) (bytesOf a) (bytesOf c) hr h4 hq hs h1 j p.units[j] x (bytesOf b) (by rw [hb]; exact h5) (by rw [hb]) hsc h3 hf hui hx).mono ?_
        rintro e w' ⟨rfl, T⟩
        rw [ej]
        simp only [hui]
        refine ⟨trivial, _, T, ⟨st_same hA.ok.st hq hui _ _ { p.units[j] with what := bytesOf b, arg := bytesOf c } rfl rfl rfl, hA.ok.ore, hA.ok.dist⟩, ?_⟩
        rw [XS_setQ]
  · have e : orderS X.S n text.data.toList = (1, X.S) := by
      unfold orderS
      rw [if_neg (by rw [hpl]; exact hn)]
    rw [e]
    refine (xorder_none w X n text hr h4.1 hn).mono ?_
    rintro e w' ⟨rfl, rfl⟩
    exact ⟨rfl, X, TurnX.refl hr, hA.ok, rfl⟩
end Go.Proofs.Ytdpmadoccimgcaa
