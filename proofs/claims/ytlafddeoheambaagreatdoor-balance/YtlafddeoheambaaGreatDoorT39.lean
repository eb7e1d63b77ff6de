/-
  A world with lots that a keep holds; two of them side by side.
-/
import Derived.Test.YtlafddeoheambaaGreatDoorT38
import Derived.Test.YtlafddeoheambaaGreatDoorT33
import Derived.Test.YtlafddeoheambaaGreatDoorT07
import Derived.Deep.AppendLies
import Derived.Test.YtlafddeoheambaaGreatDoorT37
import Derived.Deep.RegionHeld3
set_option linter.unusedVariables false
namespace Go.Proofs.YtlafddeoheambaaGreatDoor
open Go.RowKit

structure KInL (w wx : World) (X : XW) : Prop where
  b : Below w.heap.size w wx
  rep : RepX wx X
  ok : OkX X
  g : GoodL X.S
  n : NewsOK X
  sl : SaleOK X.sales
  foot : ∀ r ∈ X.foot, w.heap.size ≤ r
theorem KInL.below {w wx w' : World} {X : XW} (h : KInL w wx X) (hb : Below wx.heap.size wx w') : KInL w w' X :=
  ⟨h.b.trans (hb.mono h.b.size), h.rep.below hb, h.ok, h.g, h.n, h.sl, h.foot⟩
theorem KInL.turn {w wx w' : World} {X X' : XW} (h : KInL w wx X) (T : TurnX wx X w' X') (ok : OkX X') (g : GoodL X'.S) (n : NewsOK X') (sl : SaleOK X'.sales) : KInL w w' X' := by
  refine ⟨⟨T.kept.os.trans h.b.os, T.kept.tape.trans h.b.tape, T.kept.output.trans h.b.output, Nat.le_trans h.b.size T.kept.size, fun k hk => ?_⟩, T.rep, ok, g, n, sl, fun r hr => ?_⟩
  · rw [T.kept.block k (Nat.lt_of_lt_of_le hk h.b.size) (fun hm => by have := h.foot k hm; omega), h.b.block k hk]
  · rcases T.ext r hr with h' | h'
    · exact h.foot r h'
    · have := h.b.size; omega
theorem KInL.kept {w wx w' : World} {X : XW} {F : List Nat} (h : KInL w wx X) (K : Kept F wx w') (hF : ∀ r ∈ F, r ∉ X.foot ∧ w.heap.size ≤ r) : KInL w w' X := by
  refine ⟨⟨K.os.trans h.b.os, K.tape.trans h.b.tape, K.output.trans h.b.output, Nat.le_trans h.b.size K.size, fun k hk => ?_⟩, h.rep.same (fun r hr => K.block r (h.rep.lt r hr) (fun hm => (hF r hm).1 hr)), h.ok, h.g, h.n, h.sl, h.foot⟩
  rw [K.block k (Nat.lt_of_lt_of_le hk h.b.size) (fun hm => by have := (hF k hm).2; omega), h.b.block k hk]
theorem KInL.order2 {w wx : World} {X : XW} (h : KInL w wx X) (n : Int) (t : ByteArray) (hs : t.size ≤ 2000000) :
    Calls Tryz.prog 10 #[.pointer (some ⟨X.b, 0, none⟩), .int .i64 n, .string t] wx fun e w' => e = .returned (.int .i64 (orderS X.S n t.data.toList).1) ∧ ∃ X', TurnX wx X w' X' ∧ KInL w w' X' ∧ X'.S = (orderS X.S n t.data.toList).2 := by
  refine (xorder_any wx X _ n t h.rep (h.g.allX h.ok) (by have := h.g.now.2; omega) hs).mono ?_
  rintro e w' ⟨rfl, X', T, O, S, L⟩
  exact ⟨rfl, X', T, h.turn T O (by rw [S]; exact h.g.order n t.data.toList (by rw [Array.length_toList]; exact hs)) (h.n.of (by rw [S]; exact order_news X.S n t.data.toList) L) (by rw [L]; exact h.sl), S⟩
theorem KInL.tick2 {w wx : World} {X : XW} (h : KInL w wx X) :
    Calls Tryz.prog 11 #[.pointer (some ⟨X.b, 0, none⟩)] wx fun e w' => e = .returned (.int .i64 (tickC X.S)) ∧ ∃ X', TurnX wx X w' X' ∧ KInL w w' X' ∧ X'.S = tickN X.S := by
  refine (xtick_l wx X h.rep h.ok h.g h.n h.sl).mono ?_
  rintro e w' ⟨rfl, X', T, ok, hS, n', sl⟩
  exact ⟨rfl, X', T, h.turn T ok (by rw [hS]; exact h.g.tickN) n' sl, hS⟩
theorem KInL.offer2 {w wx : World} {X : XW} (h : KInL w wx X) (nm : ByteArray) (least ticks : Int) (hs : nm.size ≤ 2000000) (hc : X.S.lots = [] ∨ openB X.S.lots nm = true) :
    Calls Tryz.prog 19 #[.pointer (some ⟨X.b, 0, none⟩), .string nm, .int .i64 least, .int .i64 ticks] wx fun e w' => e = .returned (.int .i64 (offerS X.S nm least ticks).1) ∧ ∃ X', TurnX wx X w' X' ∧ KInL w w' X' ∧ X'.S = (offerS X.S nm least ticks).2 := by
  refine (xoffer_any wx X nm least ticks h.rep h.ok h.g hs hc).mono ?_
  rintro e w' ⟨rfl, X', T, O, S, L, P⟩
  refine ⟨rfl, X', T, h.turn T O (by rw [S]; exact h.g.offer nm least ticks hs) (fun i q hq => ?_) (by rw [L]; exact h.sl), S⟩
  rw [L]
  rw [P] at hq
  exact h.n i q hq
set_option maxRecDepth 100000 in
set_option maxHeartbeats 1000000 in
theorem kview_l (w : World) (X : XW) (n : Int) (hr : RepX w X) (ht : Tab w) (ho : OkX X) (hg : GoodL X.S) (hN : NewsOK X) (hsl : SaleOK X.sales) :
    Calls Tryz.prog 17 #[.pointer (some ⟨X.b, 0, none⟩), .int .i64 n] w fun e w' => e = .returned (.string (viewS X.S n).1) ∧ Below w.heap.size w w' := by
  have HV := hidOf (xview_any w X _ n hr ht (hg.allX ho) (by have := hg.now.2; omega) hg.now hg.nm hN hsl)
  have h1 : (viewS X.S n).2 = 0 ∨ ((viewS X.S n).2 = 1 ∧ (viewS X.S n).1 = ⟨#[]⟩) := by
    unfold viewS
    repeat' split
    all_goals simp
  clear hr ht ho hg hN hsl
  go_enter Tryz.func17, Tryz.ntmps17
  go_wp2_with fail
  refine HV.out.mono ?_
  rintro e w1 ⟨rfl, hb⟩
  rcases h1 with h1 | ⟨h1, h2⟩
  · rw [h1]
    go_wp2
    go_ret
    exact ⟨rfl, hb⟩
  · rw [h1, h2]
    go_wp2
    go_ret
    exact ⟨by rw [h2]; rfl, hb⟩
theorem KInL.view2 {w wx : World} {X : XW} (h : KInL w wx X) (n : Int) (ht : Tab w) :
    Calls Tryz.prog 17 #[.pointer (some ⟨X.b, 0, none⟩), .int .i64 n] wx fun e w' => e = .returned (.string (viewS X.S n).1) ∧ Below wx.heap.size wx w' :=
  kview_l wx X n h.rep (ht.below h.b ht.lt) h.ok h.g h.n h.sl
theorem begun_inL (w : World) (side sight : Int) (k : Nat) (hs : 3 ≤ side ∧ side ≤ 10) (hk : 2 ≤ k ∧ k ≤ 4) (hN : newB side side sight (oreOf (side - 1)) ((cornersOf (side - 1)).take k) = true) :
    Calls Tryz.prog 18 #[.int .i64 side, .int .i64 sight, .int .i64 k] w fun e w' => ∃ X : XW, e = .returned (.pointer (some ⟨X.b, 0, none⟩)) ∧ KInL w w' X ∧ X.S = begunS side sight k := by
  refine (begun_any w side sight k hs hk hN).mono ?_
  rintro e w' ⟨hb, X, rfl, hr, ok, hS, hsl, hf⟩
  exact ⟨X, rfl, ⟨hb, hr, ok, by rw [hS]; exact GoodL.new hN, news_new hS hsl, by rw [hsl]; exact SaleOK.nil, hf⟩, hS⟩

/-- TwoL worlds apart from one another. -/
structure TwoL (w wx : World) (X Z : XW) : Prop where
  x : KInL w wx X
  z : KInL w wx Z
  d : ∀ r ∈ X.foot, r ∉ Z.foot
theorem TwoL.swap {w wx : World} {X Z : XW} (h : TwoL w wx X Z) : TwoL w wx Z X := ⟨h.z, h.x, fun r hr hm => h.d r hm hr⟩
theorem TwoL.below {w wx w' : World} {X Z : XW} (h : TwoL w wx X Z) (hb : Below wx.heap.size wx w') : TwoL w w' X Z := ⟨h.x.below hb, h.z.below hb, h.d⟩
theorem TwoL.turn {w wx w' : World} {X X' Z : XW} (h : TwoL w wx X Z) (T : TurnX wx X w' X') (K : KInL w w' X') : TwoL w w' X' Z := by
  refine ⟨K, h.z.kept T.kept (fun r hr => ⟨h.d r hr, h.x.foot r hr⟩), fun r hr hm => ?_⟩
  rcases T.ext r hr with h' | h'
  · exact h.d r h' hm
  · have := h.z.rep.lt r hm
    omega
theorem TwoL.kept {w wx w' : World} {X Z : XW} {F : List Nat} (h : TwoL w wx X Z) (K : Kept F wx w') (hF : ∀ r ∈ F, r ∉ X.foot ∧ r ∉ Z.foot ∧ w.heap.size ≤ r) : TwoL w w' X Z :=
  ⟨h.x.kept K (fun r hr => ⟨(hF r hr).1, (hF r hr).2.2⟩), h.z.kept K (fun r hr => ⟨(hF r hr).2.1, (hF r hr).2.2⟩), h.d⟩

theorem twoL_first {w w1 w2 : World} {X Z : XW} (K0 : KInL w w1 X) (K1 : KInL w1 w2 Z) : TwoL w w2 X Z := by
  refine ⟨K0.below K1.b, ⟨K0.b.trans (K1.b.mono K0.b.size), K1.rep, K1.ok, K1.g, K1.n, K1.sl, fun r hr => Nat.le_trans K0.b.size (K1.foot r hr)⟩, fun r hr hm => ?_⟩
  have := K0.rep.lt r hr
  have := K1.foot r hm
  omega
section
variable {w wx : World} {X Z : XW} {b : Nat}
theorem TwoL.orderL (h : TwoL w wx X Z) (hb : X.b = b) (n : Int) (t : ByteArray) (hs : t.size ≤ 2000000) :
    Calls Tryz.prog 10 #[.pointer (some ⟨b, 0, none⟩), .int .i64 n, .string t] wx fun e w' => e = .returned (.int .i64 (orderS X.S n t.data.toList).1) ∧ ∃ X', TwoL w w' X' Z ∧ X'.b = b ∧ X'.S = (orderS X.S n t.data.toList).2 := by
  subst hb
  refine (h.x.order2 n t hs).mono ?_
  rintro e w' ⟨rfl, X', T, K, hS⟩
  exact ⟨rfl, X', h.turn T K, T.b, hS⟩
theorem TwoL.orderR (h : TwoL w wx X Z) (hb : Z.b = b) (n : Int) (t : ByteArray) (hs : t.size ≤ 2000000) :
    Calls Tryz.prog 10 #[.pointer (some ⟨b, 0, none⟩), .int .i64 n, .string t] wx fun e w' => e = .returned (.int .i64 (orderS Z.S n t.data.toList).1) ∧ ∃ Z', TwoL w w' X Z' ∧ Z'.b = b ∧ Z'.S = (orderS Z.S n t.data.toList).2 := by
  refine (h.swap.orderL hb n t hs).mono ?_
  rintro e w' ⟨rfl, Z', T, hb', hS⟩
  exact ⟨rfl, Z', T.swap, hb', hS⟩
theorem TwoL.tickL (h : TwoL w wx X Z) (hb : X.b = b) :
    Calls Tryz.prog 11 #[.pointer (some ⟨b, 0, none⟩)] wx fun e w' => e = .returned (.int .i64 (tickC X.S)) ∧ ∃ X', TwoL w w' X' Z ∧ X'.b = b ∧ X'.S = tickN X.S := by
  subst hb
  refine h.x.tick2.mono ?_
  rintro e w' ⟨rfl, X', T, K, hS⟩
  exact ⟨rfl, X', h.turn T K, T.b, hS⟩
theorem TwoL.tickR (h : TwoL w wx X Z) (hb : Z.b = b) :
    Calls Tryz.prog 11 #[.pointer (some ⟨b, 0, none⟩)] wx fun e w' => e = .returned (.int .i64 (tickC Z.S)) ∧ ∃ Z', TwoL w w' X Z' ∧ Z'.b = b ∧ Z'.S = tickN Z.S := by
  refine (h.swap.tickL hb).mono ?_
  rintro e w' ⟨rfl, Z', T, hb', hS⟩
  exact ⟨rfl, Z', T.swap, hb', hS⟩
theorem TwoL.viewL (h : TwoL w wx X Z) (hb : X.b = b) (n : Int) (ht : Tab w) :
    Calls Tryz.prog 17 #[.pointer (some ⟨b, 0, none⟩), .int .i64 n] wx fun e w' => e = .returned (.string (viewS X.S n).1) ∧ TwoL w w' X Z := by
  subst hb
  refine (h.x.view2 n ht).mono ?_
  rintro e w' ⟨rfl, hb⟩
  exact ⟨rfl, h.below hb⟩
theorem TwoL.offerL (h : TwoL w wx X Z) (hb : X.b = b) (nm : ByteArray) (least ticks : Int) (hs : nm.size ≤ 2000000) (hc : X.S.lots = [] ∨ openB X.S.lots nm = true) :
    Calls Tryz.prog 19 #[.pointer (some ⟨b, 0, none⟩), .string nm, .int .i64 least, .int .i64 ticks] wx fun e w' => e = .returned (.int .i64 (offerS X.S nm least ticks).1) ∧ ∃ X', TwoL w w' X' Z ∧ X'.b = b ∧ X'.S = (offerS X.S nm least ticks).2 := by
  subst hb
  refine (h.x.offer2 nm least ticks hs hc).mono ?_
  rintro e w' ⟨rfl, X', T, K, hS⟩
  exact ⟨rfl, X', h.turn T K, T.b, hS⟩
end
end Go.Proofs.YtlafddeoheambaaGreatDoor

/-
  The functions lines and begins of package hazekeep.
-/
namespace Go.Proofs.YtlafddeoheambaaGreatDoor
open Go.RowKit

theorem piece_eq (s : ByteArray) (f k : Nat) : s.extract f k = bytesOf ((s.data.toList.take k).drop f) := by
  apply bytes_ext
  rw [Lib.extract_data, bytesOf_toList, List.drop_take]
theorem cut_end {s : ByteArray} {k : Nat} {ls : List (List UInt8)} {r : List UInt8} (h : k < s.size) (hc : cutL (s.data.toList.take k) = (ls, r)) (he : s[k] = 10) : cutL (s.data.toList.take (k + 1)) = (ls ++ [r], (s.data.toList.take (k + 1)).drop (k + 1)) := by
  have hl : (s.data.toList.take (k + 1)).drop (k + 1) = [] := by
    apply List.drop_eq_nil_of_le
    exact List.length_take_le _ _
  rw [hl, take_snoc s k h, cut_snoc, hc, he]
  rfl
theorem cut_on {s : ByteArray} {k f : Nat} {ls : List (List UInt8)} (h : k < s.size) (hf : f ≤ k) (hc : cutL (s.data.toList.take k) = (ls, (s.data.toList.take k).drop f)) (he : s[k] ≠ 10) : cutL (s.data.toList.take (k + 1)) = (ls, (s.data.toList.take (k + 1)).drop f) := by
  have hl : (s.data.toList.take k).length = k := by
    rw [List.length_take]
    have : s.data.toList.length = s.size := by rw [Array.length_toList]; rfl
    omega
  rw [take_snoc s k h, cut_snoc, hc, List.drop_append_of_le_length (by omega)]
  unfold cutStep
  rw [if_neg he]

set_option maxRecDepth 100000 in
set_option maxHeartbeats 4000000 in
theorem klines_any (s : ByteArray) (w : World) (hs : s.size ≤ 10000000000) :
    Calls Tryz.prog 35 #[.string s] w fun e w' => ∃ v, e = .returned v ∧ Below w.heap.size w w' ∧ w'.ownsRow w.heap.size 9 1 v (linesB s.data.toList).length (strs (linesB s.data.toList)) := by
  obtain ⟨i0, hi, hz0, hz1, hz2⟩ := info_parts Tryz.infoString
  go_enter Tryz.func35, Tryz.ntmps35
  go_wp2
  go_loopw [3, 4, 5] (fun l fr i w' => ∃ (k f c : Nat) (a : Option Addr) (ls : List (List UInt8)), k ≤ s.size ∧ f ≤ k ∧ i = .int .i64 k ∧ fr = .int .i64 f ∧ l = .slice a ls.length c ∧ Hid (Below w.heap.size w w') ∧ Hid (cutL (s.data.toList.take k) = (ls, (s.data.toList.take k).drop f)) ∧ ls.length ≤ k ∧
      Hid (w'.ownsRow w.heap.size 9 1 (.slice a ls.length c) ls.length (strs ls))) (fun _ _ i _ => s.size + 1 - (intOf i).toNat)
  case atStart => exact ⟨0, 0, 0, none, [], Nat.zero_le _, Nat.zero_le _, rfl, rfl, rfl, Below.refl _ _, by unfold Hid; simp [cutL], Nat.le_refl _, World.ownsRow_nil _ _ _ _⟩
  case round =>
    obtain ⟨k, f, c, a, ls, hk, hf, rfl, rfl, rfl, hb, hcut, hlk, hown⟩ := hrel
    by_cases hlt : k < s.size
    · by_cases hc : (s[k].toNat : Int) = 10
      · have he : s[k] = 10 := by apply UInt8.toNat.inj; show s[k].toNat = 10; omega
        have hs2 : Hid (cutL (s.data.toList.take (k + 1)) = (ls ++ [(s.data.toList.take k).drop f], (s.data.toList.take (k + 1)).drop (k + 1))) := cut_end hlt hcut.out he
        have hc' : ((s[k].toNat : Int) == 10) = true := by simpa using hc
        have hc3 : ls.length ≤ c ∧ c ≤ maxLen := by
          rcases own_form (own_any hown.out) with ⟨h, h0, _⟩ | ⟨g', c', h, h1, h2, _⟩
          · injection h with _ _ h
            exact ⟨by omega, by unfold maxLen; omega⟩
          · injection h with _ _ h
            exact ⟨by omega, by unfold maxLen at *; omega⟩
        obtain ⟨hc3a, hc3b⟩ := hc3
        unfold maxLen at hc3b
        have HP : Hid (Value.string (s.extract f k) = .string (bytesOf ((s.data.toList.take k).drop f))) := by unfold Hid; rw [piece_eq]
        have HB9 : Hid (∀ (o : Obj) (wx : World), (wr.alloc o).grownBy wx (Value.slice a ls.length c).ownBlock → Hid (Below w.heap.size w wx)) := fun o wx hg => by
          refine (hb.out.alloc hb.out.size _).grown hg (by have := hb.out.size; simp; omega) (fun r hr => ?_)
          exact (hown.out.lt r hr).1
        have HO2 : Hid (∀ o, (wr.alloc o).ownsRow w.heap.size 9 1 (.slice a ls.length c) ls.length (strs ls)) := fun o => ownsRow_alloc hown.out o
        have HBs := hidOf' hb.out.size
        have hfs : f ≤ s.size := by omega
        clear hc hb hown hcut he
        go_wp2_with (at_builtin; refine wpList_append_lies _ rfl _ _ _ rfl w.heap.size 9 i0 _ 1 16 Tryz.underlying93 hi hz0 hz1 hz2 rfl (by omega) (.slice a ls.length c) ls.length (strs ls) rfl (by exact HO2.out _) ⟨wr.heap.size, 0, none⟩ 1 1 [.string (s.extract f k)] rfl rfl (by exact World.news_of_block (Go.heap_alloc_new wr _)) (by intro u hu; simp at hu; subst hu; rfl) (by omega) (by unfold maxLen; omega) (by omega) (by have := HBs.out; simp; omega) (wr.heap.size + 1) (by simp) ?_; intro g' cap' w1 hown1 hgrow hat hlt')
        have hown2 : Hid (w1.ownsRow w.heap.size 9 1 (.slice (some ⟨g', 0, none⟩) (ls ++ [(s.data.toList.take k).drop f]).length cap') (ls ++ [(s.data.toList.take k).drop f]).length (strs (ls ++ [(s.data.toList.take k).drop f]))) := by
          unfold Hid
          have e : strs (ls ++ [(s.data.toList.take k).drop f]) = strs ls ++ [.string (s.extract f k)] := by rw [HP.out]; simp [strs]
          rw [e, List.length_append]
          exact hown1
        have hb2 := HB9.out _ _ hgrow
        exact ⟨⟨k + 1, k + 1, cap', _, ls ++ [(s.data.toList.take k).drop f], by omega, by omega, by go_num, by go_num, by rw [List.length_append]; rfl, hb2, hs2, by rw [List.length_append]; simp; omega, hown2⟩, by simp [intOf]; omega⟩
      · have he : s[k] ≠ 10 := fun e => hc (by rw [e]; rfl)
        have hs2 : Hid (cutL (s.data.toList.take (k + 1)) = (ls, (s.data.toList.take (k + 1)).drop f)) := cut_on hlt hf hcut.out he
        have hc' : ((s[k].toNat : Int) == 10) = false := by simpa using hc
        clear hc he hcut
        go_wp2
        exact ⟨⟨k + 1, f, c, a, ls, by omega, by omega, by go_num, rfl, rfl, hb, hs2, by omega, hown⟩, by simp [intOf]; omega⟩
    · have he : k = s.size := by omega
      have G : Hid (linesB s.data.toList = ls) := by
        unfold Hid linesB
        have := hcut.out
        rw [he, List.take_of_length_le (by simp)] at this
        rw [this]
      have HO := hown
      clear he hcut hown
      go_wp2
      go_ret
      rw [G.out]
      exact ⟨_, rfl, hb.out, HO.out⟩
set_option maxRecDepth 100000 in
set_option maxHeartbeats 1000000 in
theorem kbegins_any (s t : ByteArray) (w : World) :
    Calls Tryz.prog 36 #[.string s, .string t] w fun e w' => e = .returned (.bool (begB s.data.toList t.data.toList)) ∧ Below w.heap.size w w' := by
  have e1 : s.data.toList.length = s.size := by rw [Array.length_toList]; rfl
  have e2 : t.data.toList.length = t.size := by rw [Array.length_toList]; rfl
  by_cases h : t.size ≤ s.size
  · have hv : Hid (((s.extract 0 t.size).toList == t.toList) = begB s.data.toList t.data.toList) := by
      unfold Hid begB
      rw [Lib.toList_data, Lib.toList_data, Lib.extract_data, e1, e2, decide_eq_true h]
      simp
    obtain ⟨q, hq⟩ : ∃ q, q = ((s.extract 0 t.size).toList == t.toList) := ⟨_, rfl⟩
    rw [← hq] at hv
    have hq' := hq.symm
    clear hq e1 e2
    go_enter Tryz.func36, Tryz.ntmps36
    go_wp2
    go_ret
    exact ⟨ret_bool hv.out, Below.refl _ _⟩
  · have hv : Hid (begB s.data.toList t.data.toList = false) := by
      unfold Hid begB
      rw [e1, e2, decide_eq_false h]
      rfl
    clear e1 e2
    go_enter Tryz.func36, Tryz.ntmps36
    go_wp2
    go_ret
    exact ⟨ret_bool hv.out.symm, Below.refl _ _⟩
end Go.Proofs.YtlafddeoheambaaGreatDoor

/-
  The function seen of package hazekeep: what both views tell together.
-/
namespace Go.Proofs.YtlafddeoheambaaGreatDoor
open Go.RowKit

theorem cut_bds : ∀ (t : List UInt8) (z : List (List UInt8) × List UInt8) (n : Nat), (∀ l ∈ z.1, l.length ≤ n) → z.2.length ≤ n → z.1.length ≤ n → (∀ l ∈ (t.foldl cutStep z).1, l.length ≤ n + t.length) ∧ (t.foldl cutStep z).1.length ≤ n + t.length := by
  intro t
  induction t with
  | nil => intro z n h1 h2 h3; exact ⟨fun l hl => h1 l hl, h3⟩
  | cons c r ih =>
    intro z n h1 h2 h3
    rw [List.foldl_cons]
    have step : (∀ l ∈ (cutStep z c).1, l.length ≤ n + 1) ∧ (cutStep z c).2.length ≤ n + 1 ∧ (cutStep z c).1.length ≤ n + 1 := by
      unfold cutStep
      split
      · refine ⟨fun l hl => ?_, by simp, by simp; omega⟩
        rcases List.mem_append.1 hl with hl | hl
        · have := h1 l hl; omega
        · obtain rfl := List.mem_singleton.1 hl; omega
      · exact ⟨fun l hl => by have := h1 l hl; omega, by simp; omega, by show z.1.length ≤ _; omega⟩
    have := ih (cutStep z c) (n + 1) step.1 step.2.1 step.2.2
    have e : n + 1 + r.length = n + (c :: r).length := by simp; omega
    rw [e] at this
    exact this
theorem lines_bd (s : ByteArray) : (∀ l ∈ linesB s.data.toList, l.length ≤ s.size) ∧ (linesB s.data.toList).length ≤ s.size := by
  have := cut_bds s.data.toList ([], []) 0 (fun l hl => by simp at hl) (by simp) (by simp)
  have e : s.data.toList.length = s.size := by rw [Array.length_toList]; rfl
  rw [Nat.zero_add, e] at this
  exact this

/-- The sums so far, in a block of their own. -/
structure SumAt (w w' : World) (z : Sm) : Prop where
  b : Below w.heap.size w w'
  s : w'.heap[w.heap.size + 1]? = some (.cells #[.int .i64 z.u, .int .i64 z.c, .int .i64 z.o, .int .i64 z.p] 47 (0, 0))
  z : w'.heap[w.heap.size]? = some (.cells #[.int .i64 0, .int .i64 0, .int .i64 0, .int .i64 0] 47 (0, 0))
theorem SumAt.drew {w w' : World} {z : Sm} (h : SumAt w w' z) : SumAt w w'.drew z := ⟨⟨h.b.os, h.b.tape, h.b.output, h.b.size, h.b.block⟩, h.s, h.z⟩
theorem SumAt.lt {w w' : World} {z : Sm} (h : SumAt w w' z) : w.heap.size + 1 < w'.heap.size := lt_of_some h.s
theorem SumAt.below {w w' w'' : World} {z : Sm} (h : SumAt w w' z) (hb : Below w'.heap.size w' w'') : SumAt w w'' z :=
  ⟨h.b.trans (hb.mono h.b.size), (hb.block _ h.lt).trans h.s, (hb.block _ (by have := h.lt; omega)).trans h.z⟩
theorem SumAt.first (w : World) : SumAt w ((w.alloc (.cells #[.int .i64 0, .int .i64 0, .int .i64 0, .int .i64 0] 47)).alloc (.cells #[.int .i64 0, .int .i64 0, .int .i64 0, .int .i64 0] 47)) Sm.none := by
  have s1 : (w.alloc (.cells #[.int .i64 0, .int .i64 0, .int .i64 0, .int .i64 0] 47)).heap.size = w.heap.size + 1 := by simp
  have h1 := Go.heap_alloc_new w (.cells #[.int .i64 0, .int .i64 0, .int .i64 0, .int .i64 0] 47)
  have h2 := Go.heap_alloc_new (w.alloc (.cells #[.int .i64 0, .int .i64 0, .int .i64 0, .int .i64 0] 47)) (.cells #[.int .i64 0, .int .i64 0, .int .i64 0, .int .i64 0] 47)
  rw [s1] at h2
  exact ⟨((Below.refl _ w).alloc (Nat.le_refl _) _).alloc (by simp) _, h2, by rw [Below.heap_alloc _ _ _ (by simp), h1]⟩
theorem SumAt.cells {w w' : World} {z : Sm} (h : SumAt w w' z) : w'.cell? ⟨w.heap.size + 1, 0, none⟩ = some (.int .i64 z.u) ∧ w'.cell? ⟨w.heap.size + 1, 1, none⟩ = some (.int .i64 z.c) ∧ w'.cell? ⟨w.heap.size + 1, 2, none⟩ = some (.int .i64 z.o) ∧ w'.cell? ⟨w.heap.size + 1, 3, none⟩ = some (.int .i64 z.p) ∧ (∀ j, w'.frozen? ⟨w.heap.size + 1, j, none⟩ = false) ∧ (∀ j, w'.frozen? ⟨w.heap.size, j, none⟩ = false) ∧ w'.cell? ⟨w.heap.size, 0, none⟩ = some (.int .i64 0) ∧ w'.cell? ⟨w.heap.size, 1, none⟩ = some (.int .i64 0) ∧ w'.cell? ⟨w.heap.size, 2, none⟩ = some (.int .i64 0) ∧ w'.cell? ⟨w.heap.size, 3, none⟩ = some (.int .i64 0) :=
  ⟨by rw [cell_of_row _ _ _ _ _ _ h.s]; rfl, by rw [cell_of_row _ _ _ _ _ _ h.s]; rfl, by rw [cell_of_row _ _ _ _ _ _ h.s]; rfl, by rw [cell_of_row _ _ _ _ _ _ h.s]; rfl, fun j => by simp [World.frozen?, h.s], fun j => by simp [World.frozen?, h.z], by rw [cell_of_row _ _ _ _ _ _ h.z]; rfl, by rw [cell_of_row _ _ _ _ _ _ h.z]; rfl, by rw [cell_of_row _ _ _ _ _ _ h.z]; rfl, by rw [cell_of_row _ _ _ _ _ _ h.z]; rfl⟩
theorem SumAt.set {w w' : World} {z z' : Sm} (h : SumAt w w' z) (j : Nat) (n : Int) (e : #[Value.int .i64 z'.u, .int .i64 z'.c, .int .i64 z'.o, .int .i64 z'.p] = #[Value.int .i64 z.u, .int .i64 z.c, .int .i64 z.o, .int .i64 z.p].setIfInBounds j (.int .i64 n)) : SumAt w (w'.setCell ⟨w.heap.size + 1, j, none⟩ (.int .i64 n)) z' := by
  refine ⟨h.b.setCell (p := ⟨w.heap.size + 1, j, none⟩) (by show w.heap.size ≤ w.heap.size + 1; omega) _, ?_, ?_⟩
  · rw [cells_set h.s, e]
  · rw [setCell_far _ _ _ _ _ (by omega), h.z]
theorem Tryz.sizeSums : (Tryz.prog.info? 47).map (·.size) = some 4 := by kernel_rfl

theorem klast_line (x : List UInt8) (h : NumL x) (hl : x.length ≤ 10000000000) (w : World) : Calls Tryz.prog 44 #[.string (bytesOf x)] w fun e w' => e = .returned (.int .i64 (lastV x)) ∧ Below w.heap.size w w' := by
  obtain ⟨a, e, h0, h1⟩ := h.val
  exact klast_any (bytesOf x) a (lastV x) w (by rw [bytesOf_toList]; exact e) ⟨h0, h1⟩ (by rw [bytesOf_size]; exact hl)

set_option maxRecDepth 100000 in
set_option maxHeartbeats 8000000 in
theorem kseen_any (w0 w : World) (X : XW) (b : Nat) (hX : X.b = b) (K : KInL w0 w X) (ht : Tab w0) (L : Nat → List (List UInt8)) (hL : ∀ n : Nat, n < 2 → linesB (viewS X.S n).1.data.toList = L n) (hz : ∀ n : Nat, n < 2 → (viewS X.S n).1.size ≤ 10000000000) (hok : ∀ n : Nat, n < 2 → ∀ l ∈ L n, LineOK l) :
    Calls Tryz.prog 21 #[.pointer (some ⟨b, 0, none⟩)] w fun e w' => e = .returned (.agg #[.int .i64 (sumT (L 0) (L 1) 2).u, .int .i64 (sumT (L 0) (L 1) 2).c, .int .i64 (sumT (L 0) (L 1) 2).o, .int .i64 (sumT (L 0) (L 1) 2).p]) ∧ Below w.heap.size w w' := by
  have HF := hidOf (SumAt.first w)
  have HV : Hid (∀ (n : Nat), n < 2 → ∀ wx, Below w.heap.size w wx → Calls Tryz.prog 17 #[.pointer (some ⟨b, 0, none⟩), .int .i64 n] wx fun e w' => e = .returned (.string (viewS X.S n).1) ∧ Below wx.heap.size wx w') := fun n _ wx h => by
    have := (K.below h).view2 n ht
    rw [hX] at this
    exact this
  have HN : Hid (∀ (n : Nat), n < 2 → ∀ wx, Calls Tryz.prog 35 #[.string (viewS X.S n).1] wx fun e w' => ∃ v, e = .returned v ∧ Below wx.heap.size wx w' ∧ w'.ownsRow wx.heap.size 9 1 v (L n).length (strs (L n))) := fun n hn wx => by
    have := klines_any (viewS X.S n).1 wx (hz n hn)
    rw [hL n hn] at this
    exact this
  have HX : Hid (∀ (n : Nat), n < 2 → (L n).length ≤ 10000000000 ∧ ∀ l ∈ L n, LineOK l ∧ (NumL l → ∀ wx, Calls Tryz.prog 44 #[.string (bytesOf l)] wx fun e w' => e = .returned (.int .i64 (lastV l)) ∧ Below wx.heap.size wx w')) := fun n hn => by
    have h1 := lines_bd (viewS X.S n).1
    have h2 := hz n hn
    rw [hL n hn] at h1
    exact ⟨by omega, fun l hl => ⟨hok n hn l hl, fun h wx => klast_line l h (by have := h1.1 l hl; omega) wx⟩⟩
  have HB : Hid (∀ n : Nat, n < 2 → ∀ k, SmB (sumL (decide (n = 0)) (sumT (L 0) (L 1) n) ((L n).take k)) 30000000000000000) := fun n hn k => by
    have l0 := (HX.out 0 (by omega)).1
    have l1 := (HX.out n hn).1
    have b0 : SmB (sumT (L 0) (L 1) n) (0 + 1000000 * (L 0).length) := by
      have : n = 0 ∨ n = 1 := by omega
      rcases this with rfl | rfl
      · have := SmB.none
        exact ⟨⟨this.u.1, by have := this.u.2; show Sm.none.u ≤ _; omega⟩, ⟨this.c.1, by have := this.c.2; show Sm.none.c ≤ _; omega⟩, ⟨this.o.1, by have := this.o.2; show Sm.none.o ≤ _; omega⟩, ⟨this.p.1, by have := this.p.2; show Sm.none.p ≤ _; omega⟩⟩
      · exact SmB.none.sum (L 0) (fun l hl => hok 0 (by omega) l hl)
    have b1 := b0.sum (f := decide (n = 0)) ((L n).take k) (fun l hl => hok n hn l (List.mem_of_mem_take hl))
    have l2 : ((L n).take k).length ≤ (L n).length := List.length_take_le' _ _
    exact ⟨⟨b1.u.1, by have := b1.u.2; omega⟩, ⟨b1.c.1, by have := b1.c.2; omega⟩, ⟨b1.o.1, by have := b1.o.2; omega⟩, ⟨b1.p.1, by have := b1.p.2; omega⟩⟩
  clear K ht hL hz hok
  go_enter Tryz.func21, Tryz.ntmps21
  go_wp2_with fail
  go_loopw [4, 5, 6, 21, 40, 55] (fun p _ _ _ _ _ w' => ∃ m : Nat, m ≤ 2 ∧ p = .int .i64 m ∧ Hid (SumAt w w' (sumT (L 0) (L 1) m))) (fun p _ _ _ _ _ _ => 3 - (intOf p).toNat)
  case atStart => exact ⟨0, by omega, rfl, HF⟩
  case round =>
    obtain ⟨m, hm, rfl, hS⟩ := hrel
    clear HF
    by_cases hm2 : m < 2
    · have hm2' : (m : Int) < 2 := by omega
      have C1 := hidOf (HV.out m hm2 wr hS.out.b)
      go_wp2_with fail
      refine C1.out.mono ?_
      rintro e v1 ⟨rfl, hb1⟩
      have S1 := hidOf (hS.out.below hb1)
      have C2 := hidOf (HN.out m hm2 v1)
      clear hb1 C1 hS
      go_wp2_with fail
      refine C2.out.mono ?_
      rintro e v2 ⟨vl, rfl, hb2, ho2⟩
      have S2 := hidOf (S1.out.below hb2)
      obtain ⟨al, gl, cl, rfl, hcl, hml, rdl⟩ := own_rd (own_any ho2)
      unfold maxLen at hml
      obtain ⟨z0, hz0⟩ : ∃ z0, z0 = sumT (L 0) (L 1) m := ⟨_, rfl⟩
      have HZ0 := hidOf hz0
      rw [← hz0] at S2
      have HLs : Hid (∀ wx, Kept [w.heap.size + 1] v2 wx → ∀ (i : Nat) x, (L m)[i]? = some x → al = some ⟨gl, 0, none⟩ ∧ wx.cell? ⟨gl, i, none⟩ = some (.string (bytesOf x))) := fun wx h i x hx => by
        have hi := (at_some hx).1
        have e := rdl.base (by omega)
        have hg := ho2.lt gl (by rw [e]; rfl)
        have hs := S1.out.lt
        have hblk := h.block gl hg.2 (by simp; omega)
        refine ⟨e, ?_⟩
        have := rdl.cell i (.string (bytesOf x)) (by simp [strs, hx])
        unfold World.cell? at this ⊢
        rw [hblk]
        exact this
      obtain ⟨n, hn⟩ : ∃ n, n = (L m).length := ⟨_, rfl⟩
      have HNn := hidOf hn
      rw [← hn]
      rw [← hn] at hcl
      have hnl : n ≤ 10000000000 := by rw [hn]; exact (HX.out m hm2).1
      clear C2 hb2 ho2 rdl S1 hz0 hn
      go_wp2_with fail
      go_loopw [6, 21, 40, 55] (fun i _ _ _ w' => ∃ j : Nat, j ≤ n ∧ i = .int .i64 j ∧ Hid (SumAt w w' (sumL (decide (m = 0)) z0 ((L m).take j))) ∧ Hid (Kept [w.heap.size + 1] v2 w')) (fun i _ _ _ _ => n + 1 - (intOf i).toNat)
      case atStart => exact ⟨0, Nat.zero_le _, rfl, S2, Kept.refl _ _⟩
      case round =>
        obtain ⟨j, hj, rfl, hS, hK⟩ := hrel
        clear S2
        by_cases hjl : j < n
        · have hjl' : (j : Int) < (n : Int) := by omega
          obtain ⟨x, hx⟩ : ∃ x, (L m)[j]? = some x := ⟨(L m)[j]'(by rw [← HNn.out]; exact hjl), by simp [← HNn.out, hjl]⟩
          obtain ⟨rfl, cx⟩ := HLs.out _ hK.out j x hx
          obtain ⟨okx, HLa⟩ := (HX.out m hm2).2 x (List.mem_of_getElem? hx)
          have HSt := hidOf (sumL_take (decide (m = 0)) z0 (L m) j x hx)
          have HOk := hidOf okx
          have HLast := hidOf HLa
          have bz := HB.out m hm2 j
          rw [← HZ0.out] at bz
          obtain ⟨z, hz⟩ : ∃ z, z = sumL (decide (m = 0)) z0 ((L m).take j) := ⟨_, rfl⟩
          rw [← hz] at bz HSt hS
          have HU : Hid (∀ wx, Calls Tryz.prog 36 #[.string (bytesOf x), .string ⟨#[117, 110, 105, 116, 32]⟩] wx fun e w' => e = .returned (.bool (begB x unitP)) ∧ Below wx.heap.size wx w') := fun wx => by
            have := kbegins_any (bytesOf x) ⟨#[117, 110, 105, 116, 32]⟩ wx
            rw [bytesOf_toList] at this
            exact this
          have HW : Hid (∀ wx, Calls Tryz.prog 36 #[.string (bytesOf x), .string ⟨#[119, 111, 110, 32]⟩] wx fun e w' => e = .returned (.bool (begB x wonP)) ∧ Below wx.heap.size wx w') := fun wx => by
            have := kbegins_any (bytesOf x) ⟨#[119, 111, 110, 32]⟩ wx
            rw [bytesOf_toList] at this
            exact this
          have HO : Hid (∀ wx, Calls Tryz.prog 36 #[.string (bytesOf x), .string ⟨#[111, 114, 101, 32]⟩] wx fun e w' => e = .returned (.bool (begB x oreP)) ∧ Below wx.heap.size wx w') := fun wx => by
            have := kbegins_any (bytesOf x) ⟨#[111, 114, 101, 32]⟩ wx
            rw [bytesOf_toList] at this
            exact this
          obtain ⟨bu, bc, bo, bp⟩ := bz
          have HXx := hidOf hx
          clear hz hx okx HLa
          go_wp2_with fail
          refine (HU.out _).mono ?_
          rintro e v3 ⟨rfl, hb3⟩
          have S3 := hidOf (hS.out.below hb3)
          have K3 := hidOf (hK.out.below hb3)
          have cx3 := (HLs.out _ K3.out j x HXx.out).2
          clear hb3 HU hS hK cx
          cases hu : begB x unitP
          · have HSu : Hid (addL (decide (m = 0)) z x = if begB x wonP then ⟨z.u, z.c, z.o, z.p + lastV x⟩ else if begB x oreP && decide (m = 0) then ⟨z.u, z.c, z.o + lastV x, z.p⟩ else z) := by unfold Hid addL; rw [hu]; rfl
            go_wp2_with fail
            refine (HW.out _).mono ?_
            rintro e v4 ⟨rfl, hb4⟩
            have S4 := hidOf (S3.out.below hb4)
            have K4 := hidOf (K3.out.below hb4)
            clear hb4 HW S3 K3 cx3
            have cx3 := (HLs.out _ K4.out j x HXx.out).2
            cases hw : begB x wonP
            · rw [hw] at HSu
              go_wp2_with fail
              refine (HO.out _).mono ?_
              rintro e v6 ⟨rfl, hb6⟩
              have S6 := hidOf (S4.out.below hb6)
              have K6 := hidOf (K4.out.below hb6)
              clear hb6 HO S4 K4 cx3
              have cx3 := (HLs.out _ K6.out j x HXx.out).2
              cases ho : begB x oreP
              · rw [ho] at HSu
                have HA : Hid (addL (decide (m = 0)) z x = z) := HSu
                rw [HA.out] at HSt
                clear HA HSu HOk HLast
                go_wp2
                exact ⟨⟨j + 1, by omega, by go_num, by rw [HSt.out]; exact S6, K6⟩, by simp [intOf]; omega⟩
              · rw [ho] at HSu
                by_cases hm0 : m = 0
                · have hm0' : ((m : Int) == 0) = true := by rw [hm0]; rfl
                  have hnum := HOk.out (by rw [hu, hw, ho]; rfl)
                  have HA : Hid (addL (decide (m = 0)) z x = ⟨z.u, z.c, z.o + lastV x, z.p⟩) := by unfold Hid; rw [HSu.out, decide_eq_true hm0]; rfl
                  rw [HA.out] at HSt
                  clear hm0
                  have lv0 : 0 ≤ lastV x ∧ lastV x ≤ 1000000 := hnum.val.elim (fun _ h => h.2)
                  have HLst := hidOf (HLast.out hnum)
                  obtain ⟨lv, hlv⟩ : ∃ lv, lv = lastV x := ⟨_, rfl⟩
                  rw [← hlv] at lv0 HLst HSt
                  have hwc : IntKind.i64.wrap (z.o + lv) = z.o + lv := by rw [IntKind.wrap_i64]; omega
                  clear HLast HOk HA hlv hnum HSu hu hw ho cx3
                  go_wp2_with fail
                  obtain ⟨_, _, c2, _, sf, _⟩ := S6.out.cells
                  have sf2 := sf 2
                  have cx4 := (HLs.out _ K6.out j x HXx.out).2
                  clear sf
                  go_region_with (go_at_call 44; refine (HLst.out v6.drew).mono ?_; rintro e v5 ⟨rfl, hb5⟩; have S5 := hidOf (S6.out.drew.below hb5); have K5 := hidOf (K6.out.drew.below hb5); obtain ⟨_, _, t2, _, tf, _⟩ := S5.out.cells; have tf2 := tf 2; clear tf hb5)
                  all_goals
                    go_wp2
                    exact ⟨⟨j + 1, by omega, by go_num, by rw [HSt.out]; exact S5.out.set 2 _ rfl, K5.out.setCell _ _ _ (.inl (by simp))⟩, by simp [intOf]; omega⟩
                · have hm0' : ((m : Int) == 0) = false := by rw [beq_eq_false_iff_ne]; omega
                  have HA : Hid (addL (decide (m = 0)) z x = z) := by unfold Hid; rw [HSu.out, decide_eq_false hm0]; rfl
                  rw [HA.out] at HSt
                  clear HA HSu HOk HLast
                  go_wp2
                  exact ⟨⟨j + 1, by omega, by go_num, by rw [HSt.out]; exact S6, K6⟩, by simp [intOf]; omega⟩
            · have hnum := HOk.out (by rw [hu, hw]; rfl)
              have HA : Hid (addL (decide (m = 0)) z x = ⟨z.u, z.c, z.o, z.p + lastV x⟩) := by unfold Hid; rw [HSu.out, hw]; rfl
              rw [HA.out] at HSt
              have lv0 : 0 ≤ lastV x ∧ lastV x ≤ 1000000 := hnum.val.elim (fun _ h => h.2)
              have HLst := hidOf (HLast.out hnum)
              obtain ⟨lv, hlv⟩ : ∃ lv, lv = lastV x := ⟨_, rfl⟩
              rw [← hlv] at lv0 HLst HSt
              have hwc : IntKind.i64.wrap (z.p + lv) = z.p + lv := by rw [IntKind.wrap_i64]; omega
              clear HLast HOk HA hlv hnum HSu hu hw cx3
              go_wp2_with fail
              obtain ⟨_, _, _, c3, sf, _⟩ := S4.out.cells
              have sf3 := sf 3
              have cx4 := (HLs.out _ K4.out j x HXx.out).2
              clear sf
              go_region_with (go_at_call 44; refine (HLst.out v4.drew).mono ?_; rintro e v5 ⟨rfl, hb5⟩; have S5 := hidOf (S4.out.drew.below hb5); have K5 := hidOf (K4.out.drew.below hb5); obtain ⟨_, _, _, t3, tf, _⟩ := S5.out.cells; have tf3 := tf 3; clear tf hb5)
              all_goals
                go_wp2
                exact ⟨⟨j + 1, by omega, by go_num, by rw [HSt.out]; exact S5.out.set 3 _ rfl, K5.out.setCell _ _ _ (.inl (by simp))⟩, by simp [intOf]; omega⟩
          · have hnum := HOk.out (by rw [hu]; rfl)
            have HA : Hid (addL (decide (m = 0)) z x = ⟨z.u + 1, z.c + lastV x, z.o, z.p⟩) := by unfold Hid addL; rw [hu]; rfl
            rw [HA.out] at HSt
            obtain ⟨s0, _, _, _, sf, _⟩ := S3.out.cells
            have sf0 := sf 0
            have hwu : IntKind.i64.wrap (z.u + 1) = z.u + 1 := by rw [IntKind.wrap_i64]; omega
            have S4 := hidOf (S3.out.set (z' := ⟨z.u + 1, z.c, z.o, z.p⟩) 0 (z.u + 1) rfl)
            have K4 := hidOf (K3.out.setCell (w.heap.size + 1) 0 (.int .i64 (z.u + 1)) (.inl (by simp)))
            have lv0 : 0 ≤ lastV x ∧ lastV x ≤ 1000000 := hnum.val.elim (fun _ h => h.2)
            have HLst := hidOf (HLast.out hnum)
            obtain ⟨lv, hlv⟩ : ∃ lv, lv = lastV x := ⟨_, rfl⟩
            rw [← hlv] at lv0 HLst HSt
            have hwc : IntKind.i64.wrap (z.c + lv) = z.c + lv := by rw [IntKind.wrap_i64]; omega
            clear sf HLast HOk HA hlv hnum S3 K3 hu
            go_wp2_with fail
            obtain ⟨wq, hq⟩ : ∃ wq, wq = v3.setCell ⟨w.heap.size + 1, 0, none⟩ (.int .i64 (z.u + 1)) := ⟨_, rfl⟩
            rw [← hq] at S4 K4
            rw [← hq]
            clear hq s0 sf0 cx3
            obtain ⟨_, s1, _, _, sf, _⟩ := S4.out.cells
            have sf1 := sf 1
            have cx4 := (HLs.out _ K4.out j x HXx.out).2
            clear sf
            go_region_with (go_at_call 44; refine (HLst.out wq.drew).mono ?_; rintro e v5 ⟨rfl, hb5⟩; have S5 := hidOf (S4.out.drew.below hb5); have K5 := hidOf (K4.out.drew.below hb5); obtain ⟨_, t1, _, _, tf, _⟩ := S5.out.cells; have tf1 := tf 1; clear tf hb5)
            all_goals
              go_wp2
              exact ⟨⟨j + 1, by omega, by go_num, by rw [HSt.out]; exact S5.out.set 1 _ rfl, K5.out.setCell _ _ _ (.inl (by simp))⟩, by simp [intOf]; omega⟩
        · have hjl' : decide ((j : Int) < (n : Int)) = false := decide_eq_false (by omega)
          have HE : Hid (sumL (decide (m = 0)) z0 ((L m).take j) = sumT (L 0) (L 1) (m + 1)) := by
            unfold Hid
            rw [List.take_of_length_le (by rw [← HNn.out]; omega), HZ0.out]
            have : m = 0 ∨ m = 1 := by omega
            rcases this with rfl | rfl <;> rfl
          rw [HE.out] at hS
          clear hK HE
          go_wp2
          exact ⟨⟨m + 1, by omega, by go_num, hS⟩, by simp [intOf]; omega⟩
    · have hm2' : decide ((m : Int) < 2) = false := decide_eq_false (by omega)
      obtain rfl : m = 2 := by omega
      obtain ⟨z, hz⟩ : ∃ z, z = sumT (L 0) (L 1) 2 := ⟨_, rfl⟩
      rw [← hz] at hS
      have HZz := hidOf hz
      have HBl := hidOf hS.out.b
      obtain ⟨s0, s1, s2, s3, sf, zf, y0, y1, y2, y3⟩ := hS.out.cells
      have h3 : Hid (((((wr.setCell ⟨w.heap.size, 0, none⟩ (.int .i64 z.u)).setCell ⟨w.heap.size, 1, none⟩ (.int .i64 z.c)).setCell ⟨w.heap.size, 2, none⟩ (.int .i64 z.o)).setCell ⟨w.heap.size, 3, none⟩ (.int .i64 z.p)).heap[w.heap.size]? = some (.cells #[.int .i64 z.u, .int .i64 z.c, .int .i64 z.o, .int .i64 z.p] 47 (0, 0))) := by
        unfold Hid
        rw [cells_set (cells_set (cells_set (cells_set hS.out.z)))]
        rfl
      clear hz
      go_wp2
      refine bodyPost_ret (results_cell_row rfl _ _ w.heap.size 47 _ (0, 0) _ rfl h3.out Tryz.underlying47 rfl Tryz.sizeSums) rfl ?_
      refine ⟨by rw [← HZz.out], ?_⟩
      exact (((HBl.out.setCell (p := ⟨w.heap.size, 0, none⟩) (Nat.le_refl _) _).setCell (p := ⟨w.heap.size, 1, none⟩) (Nat.le_refl _) _).setCell (p := ⟨w.heap.size, 2, none⟩) (Nat.le_refl _) _).setCell (p := ⟨w.heap.size, 3, none⟩) (Nat.le_refl _) _
end Go.Proofs.YtlafddeoheambaaGreatDoor

/-
  A world in which nobody is told to do anything: a Tick closes lots alone; bids in words.
-/
namespace Go.Proofs.YtlafddeoheambaaGreatDoor
open Go.RowKit

/-- Nobody has an order; nobody is told anything. -/
def Idle (s : SWorld) : Prop := ∀ p ∈ s.players, p.news = [] ∧ ∀ u ∈ p.units, u.what = emptyB ∧ u.arg = emptyB
theorem set_same {α : Type} {l : List α} {k : Nat} {a : α} (h : l[k]? = some a) : l.set k a = l := by
  apply List.ext_getElem?
  intro i
  by_cases e : k = i
  · subst e
    rw [List.getElem?_set_self (at_some h).1, h]
  · rw [List.getElem?_set_ne e]
theorem setPl_same {s : SWorld} {n : Nat} {p : SPlayer} (h : s.players[n]? = some p) : s.setPl n p = s := by
  unfold SWorld.setPl
  rw [set_same h]
theorem Idle.does {s : SWorld} (h : Idle s) (n k : Nat) : doesS s n k = s := by
  unfold doesS
  cases hp : s.players[n]? with
  | none => rfl
  | some p =>
    simp only
    cases hu : p.units[k]? with
    | none => rfl
    | some u =>
      have hi := (h p (List.mem_of_getElem? hp)).2 u (List.mem_of_getElem? hu)
      have e1 : ({ u with what := emptyB, arg := emptyB } : SUnit) = u := by
        cases u
        simp only at hi
        obtain ⟨h1, h2⟩ := hi
        subst h1 h2
        rfl
      have e0 : emptyB.toList = [] := by rw [Lib.toList_data]; rfl
      simp only [e1, set_same hu]
      have e2 : ({ p with units := p.units } : SPlayer) = p := rfl
      rw [e2, setPl_same hp, hi.1]
      unfold actS
      simp only [e0]
      rfl
theorem Idle.units {s : SWorld} (h : Idle s) (n j : Nat) : unitsTo s n j = s := by
  induction j with
  | zero => rfl
  | succ j ih =>
    show doesS (unitsTo s n j) n j = s
    rw [ih, h.does]
theorem Idle.clear {s : SWorld} (h : Idle s) (n : Nat) : clearN s n = s := by
  unfold clearN
  cases hp : s.players[n]? with
  | none => rfl
  | some p =>
    have e : ({ p with news := [] } : SPlayer) = p := by rw [← (h p (List.mem_of_getElem? hp)).1]
    simp only [e]
    exact setPl_same hp
theorem Idle.tickTo {s : SWorld} (h : Idle s) (n : Nat) : tickTo s n = s := by
  induction n with
  | zero => rfl
  | succ n ih =>
    show playerS (Proofs.YtlafddeoheambaaGreatDoor.tickTo s n) n = s
    rw [ih]
    unfold playerS
    rw [h.clear, h.units]
theorem Idle.tick {s : SWorld} (h : Idle s) : tickS s = closeS { s with now := s.now + 1 } := by
  unfold tickS
  rw [h.tickTo]

def lotB : ByteArray := ⟨#[108, 111, 116]⟩
def bidP : ByteArray := ⟨#[98, 105, 100, 32, 108, 111, 116, 32]⟩
/-- A player in a corner that bids b. -/
def seP (s : SSpot) (b : Int) : SPlayer := { money := 100, units := [firstU s], bids := setB [] lotB b, news := [] }
theorem bid_words : ∀ m : Fin 101, splitB (bidP ++ itoaB (m.val : Int)).data.toList = [bidW, lotB.data.toList, Lib.itoa (m.val : Int)] ∧ numberI (Lib.itoa (m.val : Int)) = (m.val : Int) := by decide +kernel
theorem bid_order {s : SWorld} {n : Nat} {p : SSpot} {ends least : Int} {m : Int} (hm : 0 ≤ m ∧ m ≤ 100) (hp : s.players[n]? = some (seP p 0)) (hl : s.lots = [⟨lotB, least, ends⟩]) :
    orderS s n (bidP ++ itoaB m).data.toList = (0, s.setPl n (seP p m)) := by
  obtain ⟨k, rfl⟩ := Int.eq_ofNat_of_zero_le hm.1
  obtain ⟨h1, h2⟩ := bid_words ⟨k, by omega⟩
  simp only at h1 h2
  have hn := (at_some hp).1
  unfold orderS
  rw [if_pos (by omega), Int.toNat_natCast, hp]
  show wordsS s n (seP p 0) (splitB (bidP ++ itoaB (k : Int)).data.toList) = _
  rw [h1]
  unfold wordsS
  have e1 : (bidW == bidW && nameB lotB.data.toList && decide (0 ≤ numberI (Lib.itoa (k : Int)))) = true := by
    rw [h2]
    have : decide ((0 : Int) ≤ (k : Int)) = true := decide_eq_true (by omega)
    rw [this]
    decide
  simp only [e1, if_true]
  have e2 : bytesOf lotB.data.toList = lotB := bytesOf_data lotB
  rw [e2, h2]
  unfold bidS
  have e3 : openB s.lots lotB = true := by
    rw [hl]
    unfold openB
    simp [eqS]
  have e4 : (seP p 0).bids = [] := by unfold seP setB; simp
  rw [e3, if_pos rfl, e4]
  have e5 : ¬ (seP p 0).money < (k : Int) + stakedI [] lotB := by show ¬ (100 : Int) < (k : Int) + 0; omega
  rw [if_neg e5]
  rfl
theorem offer_first {s : SWorld} (hl : s.lots = []) {least ticks : Int} (h1 : 0 ≤ least ∧ least ≤ 100000) (h2 : 1 ≤ ticks ∧ ticks ≤ 1000) : offerS s lotB least ticks = (0, { s with lots := [⟨lotB, least, s.now + ticks⟩] }) := by
  unfold offerS
  have e1 : nameB lotB.data.toList = true := by decide
  have e2 : openB s.lots lotB = false := by rw [hl]; rfl
  have e3 : (inB least 0 100000 && inB ticks 1 1000) = true := by
    unfold inB
    simp only [Bool.and_eq_true, decide_eq_true_eq]
    omega
  rw [e1, if_pos rfl, e2, if_neg (by simp), e3, if_pos rfl, hl]
  rfl

/-- What a player sees does not hang on what the others bid. -/
theorem view_same {s t : SWorld} {p q q' : SPlayer} (hs : s.players = [p, q]) (ht : t.players = [p, q']) (hu : q'.units = q.units) (e1 : t.width = s.width) (e2 : t.height = s.height) (e3 : t.sight = s.sight) (e4 : t.now = s.now) (e5 : t.ore = s.ore) (e6 : t.lots = s.lots) : viewS s 0 = viewS t 0 := by
  have hh : ∀ x y, holderI s.players x y = holderI t.players x y := by
    intro x y
    rw [hs, ht]
    unfold holderI
    have : standsB x y q' = standsB x y q := by unfold standsB; rw [hu]
    simp only [ixOf, this]
    rfl
  have hseen : ∀ x y, seenL s 0 p.units x y = seenL t 0 p.units x y := by
    intro x y
    unfold seenL spotL otherL
    rw [e3, e5, hh]
  have hrow : ∀ k, rowsTo s 0 p.units k = rowsTo t 0 p.units k := by
    intro k
    unfold rowsTo rowTo
    simp only [hseen, e1]
  unfold viewS
  rw [hs, ht]
  simp only [List.length_cons, List.length_nil]
  rw [if_pos (by omega), if_pos (by omega)]
  show (bytesOf (viewL s 0 p), (0 : Int)) = (bytesOf (viewL t 0 p), 0)
  unfold viewL ownL lotsL
  rw [hrow, e2, e4, e6]
theorem view_some {s : SWorld} {p q : SPlayer} (hs : s.players = [p, q]) : (viewS s 0).1 = bytesOf (viewL s 0 p) ∧ 0 < (viewS s 0).1.size := by
  have e : (viewS s 0).1 = bytesOf (viewL s 0 p) := by
    unfold viewS
    rw [hs]
    simp only [List.length_cons, List.length_nil]
    rw [if_pos (by omega)]
    rfl
  refine ⟨e, ?_⟩
  rw [e, bytesOf_size]
  unfold viewL ownL tickL lineL
  simp only [List.length_append, List.length_cons, List.length_nil]
  omega

/-- What Sealed plays. -/
def seS (n m k i : Int) : SWorld := { width := 5, height := 5, sight := 4, now := i, ore := oreOf 4, players := [seP ⟨0, 0, 0⟩ m, seP ⟨4, 4, 0⟩ k], lots := [⟨lotB, 10, n⟩] }
theorem se_newB : newB 5 5 4 (oreOf (5 - 1)) ((cornersOf (5 - 1)).take 2) = true := by decide
theorem seP_first (s : SSpot) : firstP s = seP s 0 := by
  unfold firstP seP setB
  simp
theorem se_begun : (begunS 5 4 2).players = [seP ⟨0, 0, 0⟩ 0, seP ⟨4, 4, 0⟩ 0] := by
  show [firstP ⟨0, 0, 0⟩, firstP ⟨4, 4, 0⟩] = _
  rw [seP_first, seP_first]
theorem se_offer {n : Int} (h : 1 ≤ n ∧ n ≤ 1000) : offerS (begunS 5 4 2) lotB 10 n = (0, seS n 0 0 0) := by
  rw [offer_first rfl (by omega) h]
  have e := se_begun
  have e2 : ({ begunS 5 4 2 with lots := [⟨lotB, 10, (begunS 5 4 2).now + n⟩] } : SWorld) = { begunS 5 4 2 with players := (begunS 5 4 2).players, lots := [⟨lotB, 10, 0 + n⟩] } := rfl
  rw [e2, e, Int.zero_add]
  rfl
theorem se_bid0 {n m k : Int} (hm : 0 ≤ m ∧ m ≤ 100) : orderS (seS n 0 k 0) 0 (bidP ++ itoaB m).data.toList = (0, seS n m k 0) := by
  have := bid_order (s := seS n 0 k 0) (n := 0) (p := ⟨0, 0, 0⟩) (ends := n) (least := 10) hm rfl rfl
  exact this
theorem se_bid1 {n m k : Int} (hk : 0 ≤ k ∧ k ≤ 100) : orderS (seS n m 0 0) 1 (bidP ++ itoaB k).data.toList = (0, seS n m k 0) := by
  have := bid_order (s := seS n m 0 0) (n := 1) (p := ⟨4, 4, 0⟩) (ends := n) (least := 10) hk rfl rfl
  exact this
theorem se_idle (n m k i : Int) : Idle (seS n m k i) := by
  intro p hp
  simp only [seS, List.mem_cons, List.not_mem_nil, or_false] at hp
  rcases hp with rfl | rfl
  all_goals
    refine ⟨rfl, fun u hu => ?_⟩
    have : u = firstU _ := List.mem_singleton.1 hu
    subst this
    exact ⟨rfl, rfl⟩
theorem se_tick {n m k i : Int} (h : i + 1 < n) : tickS (seS n m k i) = seS n m k (i + 1) := by
  rw [(se_idle n m k i).tick]
  unfold closeS
  have hd : decide (n = i + 1) = false := decide_eq_false (by omega)
  have e1 : dueL [⟨lotB, 10, n⟩] (i + 1) = [] := by
    unfold dueL sortL
    simp [insL, hd]
  show ({ (dueL [⟨lotB, 10, n⟩] (i + 1)).foldl sellS { seS n m k i with now := i + 1 } with lots := [⟨lotB, 10, n⟩].filter (fun l => !decide (l.ends = i + 1)) } : SWorld) = _
  rw [e1]
  have e2 : [(⟨lotB, 10, n⟩ : SLot)].filter (fun l => !decide (l.ends = i + 1)) = [⟨lotB, 10, n⟩] := by simp [hd]
  rw [e2]
  rfl
/-- The lot closes. -/
theorem se_close {n m k i : Int} (h : i + 1 = n) : ∃ p q who pays, (tickS (seS n m k i)).players = [p, q] ∧ (tickS (seS n m k i)).lots = [] ∧ p.units = [firstU ⟨0, 0, 0⟩] ∧ p.news = [newsB lotB who pays 0] := by
  rw [(se_idle n m k i).tick]
  subst h
  have e1 : dueL [⟨lotB, 10, i + 1⟩] (i + 1) = [⟨lotB, 10, i + 1⟩] := by
    unfold dueL sortL
    simp [insL]
  have e3 : closeS { seS (i + 1) m k i with now := (seS (i + 1) m k i).now + 1 } = { (dueL [⟨lotB, 10, i + 1⟩] (i + 1)).foldl sellS { seS (i + 1) m k i with now := i + 1 } with lots := [⟨lotB, 10, i + 1⟩].filter (fun l => !decide (l.ends = i + 1)) } := rfl
  rw [e3, e1]
  have e2 : [(⟨lotB, 10, i + 1⟩ : SLot)].filter (fun l => !decide (l.ends = i + 1)) = [] := by simp
  rw [e2]
  exact ⟨_, _, _, _, rfl, rfl, rfl, rfl⟩
theorem newsB_no (who pays : Int) (i : Nat) : NoE (newsB lotB who pays i) := by
  unfold newsB
  repeat' split
  all_goals
    intro c hc
    simp only [ByteArray.data_append, Array.toList_append, List.mem_append] at hc
  · rcases hc with ((hc | hc) | hc) | hc
    · exact no_lit (l := wonW.data.toList) (by decide) c hc
    · exact no_lit (l := lotB.data.toList) (by decide) c hc
    · exact no_lit (l := forW.data.toList) (by decide) c hc
    · exact (itoaB_cln _ c hc).1
  · rcases hc with hc | hc
    · exact no_lit (l := passW.data.toList) (by decide) c hc
    · exact no_lit (l := lotB.data.toList) (by decide) c hc
  · rcases hc with hc | hc
    · exact no_lit (l := soldW.data.toList) (by decide) c hc
    · exact no_lit (l := lotB.data.toList) (by decide) c hc
/-- The last line of a view behind the closing. -/
theorem last_line {s : SWorld} {p : SPlayer} {x : ByteArray} {sp : SSpot} (hl : s.lots = []) (hu : p.units = [firstU sp]) (hn : p.news = [x]) (hx : NoE x) : ∃ ls, linesB (viewL s 0 p) = ls ++ [x.data.toList] := by
  refine ⟨[lineT [wTick, itoaB s.now, wMoney, itoaB p.money]] ++ p.units.flatMap (fun u => [unitT u]) ++ rowsLs s 0 p.units s.height.toNat ++ (sortL s.lots).flatMap (fun l => [lotT p l]), ?_⟩
  rw [(view_lns s 0 p (fun u h => ?_) (by rw [hl]; intro l h; simp [sortL] at h) (fun m h => ?_)).lines]
  · unfold viewLs
    rw [hn]
    rfl
  · rw [hu] at h
    have : u = firstU sp := List.mem_singleton.1 h
    subst this
    exact ClnL.cons (by decide) ClnL.nil
  · rw [hn] at h
    rw [List.mem_singleton.1 h]
    exact hx
def soldT : List UInt8 := [115, 111, 108, 100, 32, 108, 111, 116]
def passT : List UInt8 := [112, 97, 115, 115, 101, 100, 32, 108, 111, 116]
def wonT : List UInt8 := [119, 111, 110, 32, 108, 111, 116, 32, 102, 111, 114, 32]
theorem news_kinds (who pays : Int) (i : Nat) : (newsB lotB who pays i).data.toList = soldT ∨ (newsB lotB who pays i).data.toList = passT ∨ ∃ r, (newsB lotB who pays i).data.toList = wonT ++ r := by
  unfold newsB
  split
  · refine .inr (.inr ⟨(itoaB pays).data.toList, ?_⟩)
    simp only [ByteArray.data_append, Array.toList_append]
    rfl
  · split
    · exact .inr (.inl (by simp only [ByteArray.data_append, Array.toList_append]; rfl))
    · exact .inl (by simp only [ByteArray.data_append, Array.toList_append]; rfl)
end Go.Proofs.YtlafddeoheambaaGreatDoor

/-
  What all that players have is worth: no order, no Tick changes it, but for what winners pay.
-/
namespace Go.Proofs.YtlafddeoheambaaGreatDoor
open Go.RowKit

def sumI {α : Type} (f : α → Int) : List α → Int
  | [] => 0
  | a :: r => f a + sumI f r
theorem sumI_app {α : Type} (f : α → Int) (a b : List α) : sumI f (a ++ b) = sumI f a + sumI f b := by
  induction a with
  | nil => simp [sumI]
  | cons x r ih => simp only [List.cons_append, sumI, ih]; omega
theorem sumI_set {α : Type} (f : α → Int) {l : List α} {k : Nat} {a : α} (h : l[k]? = some a) (b : α) : sumI f (l.set k b) = sumI f l - f a + f b := by
  induction l generalizing k with
  | nil => simp at h
  | cons x r ih =>
    cases k with
    | zero =>
      simp at h
      subst h
      simp only [List.set_cons_zero, sumI]
      omega
    | succ k =>
      simp at h
      simp only [List.set_cons_succ, sumI, ih h]
      omega
theorem sumI_map {α β : Type} (f : β → Int) (g : α → β) (l : List α) : sumI f (l.map g) = sumI (fun a => f (g a)) l := by
  induction l with
  | nil => rfl
  | cons x r ih => simp only [List.map_cons, sumI, ih]
theorem sumI_congr {α : Type} {f g : α → Int} {l : List α} (h : ∀ a ∈ l, f a = g a) : sumI f l = sumI g l := by
  induction l with
  | nil => rfl
  | cons x r ih => simp only [sumI, h x (by simp), ih (fun a ha => h a (by simp [ha]))]
theorem sumI_idx {α : Type} (f : α → Int) (l : List α) : ∀ (g : Nat → α → α), (∀ i a, l[i]? = some a → f (g i a) = f a) → sumI f (l.mapIdx g) = sumI f l := by
  induction l with
  | nil => intro g _; rfl
  | cons x r ih =>
    intro g h
    rw [List.mapIdx_cons]
    simp only [sumI]
    rw [h 0 x (by simp), ih (fun i => g (i + 1)) (fun i a ha => h (i + 1) a (by simpa using ha))]

def worthP (p : SPlayer) : Int := p.money + 50 * p.units.length + 10 * sumI (·.cargo) p.units
def worthS (s : SWorld) : Int := sumI worthP s.players + 10 * sumI (·.amount) s.ore
def posO (o : List SSpot) : List (Int × Int) := o.map (fun a => (a.x, a.y))
/-- Another world, of the same worth. -/
structure Wth (s t : SWorld) : Prop where
  wd : t.width = s.width
  ht : t.height = s.height
  si : t.sight = s.sight
  po : posO t.ore = posO s.ore
  wo : worthS t = worthS s
  pl : t.players.length = s.players.length
theorem Wth.refl (s : SWorld) : Wth s s := ⟨rfl, rfl, rfl, rfl, rfl, rfl⟩
theorem Wth.trans {a b c : SWorld} (h : Wth a b) (k : Wth b c) : Wth a c := ⟨k.wd.trans h.wd, k.ht.trans h.ht, k.si.trans h.si, k.po.trans h.po, k.wo.trans h.wo, k.pl.trans h.pl⟩
theorem Wth.setPl {s : SWorld} {n : Nat} {p q : SPlayer} (hp : s.players[n]? = some p) (h : worthP q = worthP p) : Wth s (s.setPl n q) := by
  refine ⟨rfl, rfl, rfl, rfl, ?_, by simp [SWorld.setPl]⟩
  unfold worthS SWorld.setPl
  simp only
  rw [sumI_set worthP hp]
  omega
theorem worth_unit {p : SPlayer} {k : Nat} {u v : SUnit} (hu : p.units[k]? = some u) (m : Int) (h : m + 10 * v.cargo = p.money + 10 * u.cargo) : worthP { p with money := m, units := p.units.set k v } = worthP p := by
  unfold worthP
  simp only [List.length_set]
  rw [sumI_set _ hu]
  omega
theorem dig_sum : ∀ (o : List SSpot) (x y : Int), digB o x y = true → sumI (·.amount) (digL x y o) = sumI (·.amount) o - 1 := by
  intro o x y
  induction o with
  | nil => intro h; simp [digB] at h
  | cons a r ih =>
    intro h
    unfold digL
    cases hh : hitB x y a
    · have hr : digB r x y = true := by simpa [digB, hh] using h
      simp only [Bool.false_eq_true, if_false, sumI, ih hr]
      omega
    · simp only [if_true, sumI]
      omega
theorem dig_pos : ∀ (o : List SSpot) (x y : Int), posO (digL x y o) = posO o := by
  intro o x y
  induction o with
  | nil => rfl
  | cons a r ih =>
    unfold digL
    split
    · rfl
    · unfold posO at ih ⊢
      simp only [List.map_cons, ih]
theorem Wth.act {s : SWorld} {n k : Nat} {p : SPlayer} {u : SUnit} (hp : s.players[n]? = some p) (hu : p.units[k]? = some u) (what arg : ByteArray) : Wth s (actS s n k p u what arg) := by
  unfold actS
  simp only
  split
  · split
    · exact Wth.setPl hp (worth_unit hu p.money rfl)
    · exact Wth.refl s
  split
  · exact Wth.setPl hp (worth_unit hu p.money rfl)
  split
  · exact Wth.setPl hp (worth_unit hu p.money rfl)
  split
  · exact Wth.setPl hp (worth_unit hu p.money rfl)
  split
  · split
    · split
      · rename_i hd
        refine ⟨rfl, rfl, rfl, dig_pos _ _ _, ?_, by simp [SWorld.setPl]⟩
        unfold worthS SWorld.setPl
        simp only
        rw [sumI_set worthP hp, dig_sum _ _ _ hd]
        have : worthP { p with units := p.units.set k { u with cargo := u.cargo + 1 } } = worthP p + 10 := by
          unfold worthP
          simp only [List.length_set]
          rw [sumI_set _ hu]
          simp only
          omega
        omega
      · exact Wth.refl s
    · exact Wth.refl s
  split
  · exact Wth.setPl hp (worth_unit hu _ (by show p.money + 10 * u.cargo + 10 * 0 = _; omega))
  split
  · split
    · exact Wth.setPl hp (worth_unit hu p.money rfl)
    · exact Wth.refl s
  split
  · split
    · refine Wth.setPl hp ?_
      unfold worthP
      simp only [List.length_append, List.length_cons, List.length_nil]
      rw [sumI_app]
      simp only [sumI]
      omega
    · exact Wth.refl s
  · exact Wth.refl s
theorem Wth.does (s : SWorld) (n k : Nat) : Wth s (doesS s n k) := by
  unfold doesS
  split
  · exact Wth.refl s
  · rename_i p hp
    split
    · exact Wth.refl s
    · rename_i u hu
      have h1 : Wth s (s.setPl n { p with units := p.units.set k { u with what := emptyB, arg := emptyB } }) := Wth.setPl hp (worth_unit hu p.money rfl)
      refine h1.trans (Wth.act ?_ ?_ u.what u.arg)
      · simp [SWorld.setPl, (at_some hp).1]
      · simp [(at_some hu).1]
theorem Wth.unitsTo (s : SWorld) (n j : Nat) : Wth s (unitsTo s n j) := by
  induction j with
  | zero => exact Wth.refl s
  | succ j ih => exact ih.trans (Wth.does _ n j)
theorem Wth.clearN (s : SWorld) (n : Nat) : Wth s (clearN s n) := by
  unfold Proofs.YtlafddeoheambaaGreatDoor.clearN
  split
  · exact Wth.refl s
  · rename_i p hp
    exact Wth.setPl hp rfl
theorem Wth.tickTo (s : SWorld) (n : Nat) : Wth s (tickTo s n) := by
  induction n with
  | zero => exact Wth.refl s
  | succ n ih => exact (ih.trans (Wth.clearN _ n)).trans (Wth.unitsTo _ n _)
theorem Wth.tell {s : SWorld} (k : Nat) {p : SPlayer} (a b c : List UInt8) (hp : s.players[k]? = some p) : Wth s (tellS s k p a b c).2 := by
  unfold tellS
  split
  · exact Wth.refl s
  · split
    · exact Wth.refl s
    · rename_i u hu
      exact Wth.setPl hp (worth_unit hu p.money rfl)
theorem Wth.order (s : SWorld) (n : Int) (t : List UInt8) : Wth s (orderS s n t).2 ∧ (orderS s n t).2.lots = s.lots ∧ (orderS s n t).2.now = s.now := by
  have tl : ∀ (k : Nat) (p : SPlayer) (a b c : List UInt8), s.players[k]? = some p → Wth s (tellS s k p a b c).2 ∧ (tellS s k p a b c).2.lots = s.lots ∧ (tellS s k p a b c).2.now = s.now := fun k p a b c hp => ⟨Wth.tell k a b c hp, (tell_bn s k p a b c hp).2⟩
  have same : Wth s s ∧ s.lots = s.lots ∧ s.now = s.now := ⟨Wth.refl s, rfl, rfl⟩
  unfold orderS
  split
  · split
    · exact same
    · rename_i p hp
      have bid : ∀ nm k, Wth s (bidS s n.toNat p nm k).2 ∧ (bidS s n.toNat p nm k).2.lots = s.lots ∧ (bidS s n.toNat p nm k).2.now = s.now := by
        intro nm k
        unfold bidS
        repeat' split
        all_goals first
          | exact same
          | exact ⟨Wth.setPl hp rfl, rfl, rfl⟩
      unfold wordsS
      split
      · split
        · exact tl _ _ _ _ _ hp
        · exact same
      · split
        · exact bid _ _
        · split
          · exact tl _ _ _ _ _ hp
          · exact same
      · exact same
  · exact same

/-- What a player was told that it paid. -/
def paidM (m : ByteArray) : Int := if begB m.data.toList wonP then lastV m.data.toList else 0
def paidP (p : SPlayer) : Int := sumI paidM p.news
theorem won_form (pays : Int) (i : Nat) : newsB lotB i pays i = wonW ++ lotB ++ forW ++ itoaB pays := by
  unfold newsB
  rw [if_pos rfl]
theorem won_list (pays : Int) : (wonW ++ lotB ++ forW ++ itoaB pays).data.toList = [119, 111, 110, 32, 108, 111, 116, 32, 102, 111, 114] ++ 32 :: Lib.itoa pays := by
  simp only [ByteArray.data_append, Array.toList_append, itoaB]
  rfl
theorem paid_newsB (who pays : Int) (i : Nat) (h : (i : Int) = who → 0 ≤ pays) : paidM (newsB lotB who pays i) = if (i : Int) = who then pays else 0 := by
  unfold paidM
  split
  · rename_i hb
    by_cases hi : (i : Int) = who
    · subst hi
      rw [if_pos rfl, won_form, won_list, lastV_app _ _ (h rfl)]
    · rw [if_neg hi]
      unfold newsB at hb
      rw [if_neg hi] at hb
      split at hb
      · exact absurd hb (by decide)
      · exact absurd hb (by decide)
  · rename_i hb
    by_cases hi : (i : Int) = who
    · subst hi
      rw [won_form, won_list] at hb
      exact absurd (beg_app wonP _) hb
    · rw [if_neg hi]
/-- What a line of news may be. -/
structure NwOK (m : ByteArray) : Prop where
  no : NoE m
  u : begB m.data.toList unitP = false
  o : begB m.data.toList oreP = false
  n : begB m.data.toList wonP = true → NumL m.data.toList
theorem NwOK.newsB (who pays : Int) (i : Nat) (h : (i : Int) = who → 0 ≤ pays ∧ pays ≤ 1000000) : NwOK (newsB lotB who pays i) := by
  refine ⟨newsB_no who pays i, ?_, ?_, ?_⟩
  all_goals
    by_cases hi : (i : Int) = who
    · subst hi
      rw [won_form, won_list]
      first
        | exact beg_no (by decide)
        | exact fun _ => ⟨_, pays, rfl, (h rfl).1, (h rfl).2⟩
    · unfold Proofs.YtlafddeoheambaaGreatDoor.newsB
      rw [if_neg hi]
      split <;> first | decide | exact fun hb => absurd hb (by decide)
def NwS (s : SWorld) : Prop := ∀ p ∈ s.players, ∀ m ∈ p.news, NwOK m
def worthN (p : SPlayer) : Int := worthP p + paidP p
theorem sell_worth {t : SWorld} {M : Int} {names D : List ByteArray} (h : SellInv t M names D) (l : SLot) (hl : 0 ≤ l.least) (hn : l.name = lotB) (hw : NwS t) : NwS (sellS t l) ∧ sumI worthN (sellS t l).players = sumI worthN t.players := by
  have key : ∀ (i : Nat) (p : SPlayer), t.players[i]? = some p → (i : Int) = winI (bidsOf t.players l.name) l.least t.players.length → 0 ≤ paysI (bidsOf t.players l.name) l.least t.players.length ∧ paysI (bidsOf t.players l.name) l.least t.players.length ≤ 1000000 := by
    intro i p hp hi
    have h1 := pays_le hi.symm
    have e3 : bidsOf t.players l.name i = bidI p.bids l.name := by unfold bidsOf; rw [hp]
    have e2 := bidI_le (h.bo p (List.mem_of_getElem? hp)) l.name
    omega
  refine ⟨fun q hq m hm => ?_, ?_⟩
  · obtain ⟨i, p, hp, rfl⟩ := sell_mem hq
    have hm' : m ∈ p.news ++ [newsB l.name (winI (bidsOf t.players l.name) l.least t.players.length) (paysI (bidsOf t.players l.name) l.least t.players.length) i] := hm
    rcases List.mem_append.1 hm' with hm' | hm'
    · exact hw p (List.mem_of_getElem? hp) m hm'
    · obtain rfl := List.mem_singleton.1 hm'
      rw [hn]
      rw [hn] at key
      exact NwOK.newsB _ _ _ (key i p hp)
  · unfold sellS
    refine sumI_idx worthN t.players _ (fun i p hp => ?_)
    unfold worthN worthP paidP soldP
    simp only
    rw [sumI_app]
    simp only [sumI]
    rw [hn]
    rw [hn] at key
    rw [paid_newsB _ _ _ (fun hi => (key i p hp hi).1)]
    split <;> omega
theorem fold_worth {M : Int} {names : List ByteArray} (he : emptyB ∉ names) : ∀ (Q : List SLot) (D : List ByteArray) (t : SWorld), (∀ l ∈ Q, 0 ≤ l.least ∧ l.name ∈ names ∧ l.name = lotB) → SellInv t M names D → NwS t →
    NwS (Q.foldl sellS t) ∧ sumI worthN (Q.foldl sellS t).players = sumI worthN t.players ∧ (Q.foldl sellS t).ore = t.ore ∧ (Q.foldl sellS t).width = t.width ∧ (Q.foldl sellS t).height = t.height ∧ (Q.foldl sellS t).sight = t.sight ∧ (Q.foldl sellS t).players.length = t.players.length := by
  intro Q
  induction Q with
  | nil => intro D t _ _ h; exact ⟨h, rfl, rfl, rfl, rfl, rfl, rfl⟩
  | cons l r ih =>
    intro D t hq h hw
    rw [List.foldl_cons]
    have h1 := hq l (by simp)
    obtain ⟨a, b⟩ := sell_worth h l h1.1 h1.2.2 hw
    obtain ⟨c1, c2, c3, c4, c5, c6, c7⟩ := ih (l.name :: D) (sellS t l) (fun x hx => hq x (by simp [hx])) (h.sell he l h1.1 h1.2.1) a
    exact ⟨c1, c2.trans b, c3, c4, c5, c6, c7.trans (sell_len t l)⟩
/-- Balance's world. -/
structure Bal (s : SWorld) (paid : Int) : Prop where
  wd : s.width = 5
  ht : s.height = 5
  si : s.sight = 4
  po : posO s.ore = [(0, 0), (1, 0), (4, 4), (4, 3)]
  pl : s.players.length = 2
  wo : worthS s = 1430 - paid
  lt : ∀ l ∈ s.lots, l.name = lotB
  cl : ClnS s
theorem Bal.wth {s t : SWorld} {paid : Int} (h : Bal s paid) (k : Wth s t) (hl : t.lots = s.lots) (hc : ClnS t) : Bal t paid :=
  ⟨k.wd.trans h.wd, k.ht.trans h.ht, k.si.trans h.si, k.po.trans h.po, k.pl.trans h.pl, k.wo.trans h.wo, by rw [hl]; exact h.lt, hc⟩
theorem Bal.order {s : SWorld} {paid : Int} (h : Bal s paid) (n : Int) (t : List UInt8) : Bal (orderS s n t).2 paid :=
  h.wth (Wth.order s n t).1 (Wth.order s n t).2.1 (h.cl.order n t)
theorem Bal.offer {s : SWorld} {paid : Int} (h : Bal s paid) {least : Int} (hl : 0 ≤ least ∧ least ≤ 100000) :
    ((offerS s lotB least 3).1 = if s.lots = [] then 0 else 4) ∧ Bal (offerS s lotB least 3).2 paid ∧ (s.lots = [] ∨ openB s.lots lotB = true) ∧ (offerS s lotB least 3).2.now = s.now := by
  cases hs : s.lots with
  | nil =>
    rw [offer_first hs hl (by omega)]
    refine ⟨rfl, ⟨h.wd, h.ht, h.si, h.po, h.pl, h.wo, fun l hl' => ?_, h.cl⟩, .inl rfl, rfl⟩
    obtain rfl := List.mem_singleton.1 hl'
    rfl
  | cons l r =>
    have ho : openB s.lots lotB = true := by
      rw [hs]
      unfold openB
      rw [List.any_cons, eqS_iff.2 (h.lt l (by rw [hs]; simp))]
      rfl
    have e1 : nameB lotB.data.toList = true := by decide
    have e : offerS s lotB least 3 = (4, s) := by
      unfold offerS
      rw [e1, if_pos rfl, ho, if_pos rfl]
    rw [e, if_neg (by simp)]
    exact ⟨rfl, h, .inr (by rw [← hs]; exact ho), rfl⟩
theorem Bal.tick {s : SWorld} {paid : Int} (h : Bal s paid) (g : GoodL s) : NwS (tickS s) ∧ Bal (tickS s) (paid + sumI paidP (tickS s).players) := by
  have hm := g.mid
  have hlots : (midS s).lots = s.lots := (tickTo_len s s.players.length).2.2
  have he := lots_noempty g.lw
  have hdue : ∀ l ∈ dueL (midS s).lots (midS s).now, 0 ≤ l.least ∧ l.name ∈ s.lots.map (·.name) ∧ l.name = lotB := by
    intro l hl'
    have h1 := (List.mem_filter.1 hl').1
    rw [sortL_mem, hlots] at h1
    exact ⟨(g.lw.lst l h1).1, List.mem_map_of_mem h1, h.lt l h1⟩
  have hn0 : ∀ p ∈ (midS s).players, p.news = [] := tickTo_all s
  have nw0 : NwS (midS s) := fun p hp m hm => by rw [hn0 p hp] at hm; cases hm
  obtain ⟨c1, c2, c3, c4, c5, c6, c7⟩ := fold_worth he (dueL (midS s).lots (midS s).now) [] (midS s) hdue hm nw0
  have hT := Wth.tickTo s s.players.length
  have hcl := h.cl.tickTo s.players.length
  have et : tickS s = { (dueL (midS s).lots (midS s).now).foldl sellS (midS s) with lots := (midS s).lots.filter (fun l => !decide (l.ends = (midS s).now)) } := rfl
  obtain ⟨t, hte⟩ : ∃ t, t = (dueL (midS s).lots (midS s).now).foldl sellS (midS s) := ⟨_, rfl⟩
  rw [← hte] at c1 c2 c3 c4 c5 c6 c7 et
  have hws : sumI worthN (midS s).players = sumI worthP (midS s).players := sumI_congr (fun p hp => by
    unfold worthN paidP
    rw [hn0 p hp]
    simp only [sumI]
    omega)
  have hsum : sumI worthN t.players = sumI worthP t.players + sumI paidP t.players := by
    have : ∀ l : List SPlayer, sumI worthN l = sumI worthP l + sumI paidP l := by
      intro l
      induction l with
      | nil => rfl
      | cons a r ih => simp only [sumI, ih, worthN]; omega
    exact this _
  have hwo : worthS (midS s) = worthS s := hT.wo
  rw [et]
  refine ⟨c1, ⟨c4.trans (hT.wd.trans h.wd), c5.trans (hT.ht.trans h.ht), c6.trans (hT.si.trans h.si), ?_, c7.trans (hT.pl.trans h.pl), ?_, fun l hl => ?_, fun q hq => ?_⟩⟩
  · show posO t.ore = _
    rw [c3]
    exact hT.po.trans h.po
  · show sumI worthP t.players + 10 * sumI (·.amount) t.ore = 1430 - (paid + sumI paidP t.players)
    have h1 := h.wo
    rw [← hwo] at h1
    unfold worthS at h1
    rw [c3]
    omega
  · have h1 := (List.mem_filter.1 hl).1
    rw [hlots] at h1
    exact h.lt l h1
  · have hu : ∀ (Q : List SLot) (t : SWorld), ClnS t → ClnS (Q.foldl sellS t) := by
      intro Q
      induction Q with
      | nil => intro t h; exact h
      | cons l r ih =>
        intro t h
        refine ih (sellS t l) (fun q hq u hu => ?_)
        obtain ⟨i, p, hp, rfl⟩ := sell_mem hq
        exact h p (List.mem_of_getElem? hp) u hu
    have := hu (dueL (midS s).lots (midS s).now) (midS s) hcl
    rw [← hte] at this
    exact this q hq
theorem Bal.first : Bal (begunS 5 4 2) 0 := ⟨rfl, rfl, rfl, rfl, rfl, by decide, fun l hl => (by cases hl), ClnS.new⟩
end Go.Proofs.YtlafddeoheambaaGreatDoor

/-
  What the lines of a view of Balance's world tell: all units, all cargo, all ore, all that was paid.
-/
namespace Go.Proofs.YtlafddeoheambaaGreatDoor
open Go.RowKit

theorem joinTail_snoc (sep : List UInt8) (xs : List (List UInt8)) (y : List UInt8) : Lib.joinTail sep (xs ++ [y]) = Lib.joinTail sep xs ++ (sep ++ y) := by simp [Lib.joinTail]
theorem lineT_last (a : ByteArray) (r : List ByteArray) (y : ByteArray) : lineT (a :: (r ++ [y])) = lineT (a :: r) ++ 32 :: y.data.toList := by
  rw [lineT_cons, lineT_cons, List.map_append, List.map_cons, List.map_nil, joinTail_snoc]
  simp
theorem sumL_one (f : Bool) (z : Sm) (l : List UInt8) : sumL f z [l] = addL f z l := rfl
/-- A line that counts for nothing. -/
def Nil3 (l : List UInt8) : Prop := begB l unitP = false ∧ begB l wonP = false ∧ begB l oreP = false
theorem Nil3.add {l : List UInt8} (h : Nil3 l) (f : Bool) (z : Sm) : addL f z l = z := by
  unfold addL
  rw [h.1, h.2.1, h.2.2]
  rfl
theorem Nil3.ok {l : List UInt8} (h : Nil3 l) : LineOK l := by
  intro hb
  rw [h.1, h.2.1, h.2.2] at hb
  cases hb
theorem Nil3.hd {a : UInt8} {r : List UInt8} (h1 : a ≠ 117) (h2 : a ≠ 119) (h3 : a ≠ 111) : Nil3 (a :: r) := ⟨beg_no h1, beg_no h2, beg_no h3⟩
theorem Nil3.other (r : List UInt8) : Nil3 (111 :: 116 :: r) := by
  refine ⟨beg_no (by decide), beg_no (by decide), ?_⟩
  simp [begB, oreP]
theorem unitT_form (u : SUnit) : ∃ a, unitT u = unitP ++ a ∧ ∃ b, unitT u = b ++ 32 :: Lib.itoa u.cargo := by
  refine ⟨u.name.data.toList ++ Lib.joinTail [32] ([whereB u.x u.y, letterB u.head, wCargo, itoaB u.cargo].map (·.data.toList)), ?_, lineT [wUnit, u.name, whereB u.x u.y, letterB u.head, wCargo], ?_⟩
  · unfold unitT
    rw [lineT_cons, List.map_cons]
    simp only [Lib.joinTail, List.map_cons, List.flatten_cons]
    rfl
  · exact lineT_last wUnit [u.name, whereB u.x u.y, letterB u.head, wCargo] (itoaB u.cargo)
theorem unit_add {u : SUnit} (h : 0 ≤ u.cargo) (f : Bool) (z : Sm) : addL f z (unitT u) = ⟨z.u + 1, z.c + u.cargo, z.o, z.p⟩ := by
  obtain ⟨a, ha, b, hb⟩ := unitT_form u
  unfold addL
  have e1 : begB (unitT u) unitP = true := by rw [ha]; exact beg_app _ _
  have e2 : lastV (unitT u) = u.cargo := by rw [hb]; exact lastV_app _ _ h
  rw [e1, e2]
  rfl
theorem ore_form (x y a : Int) : ∃ c, lineT [wOre, whereB x y, itoaB a] = oreP ++ c ∧ ∃ b, lineT [wOre, whereB x y, itoaB a] = b ++ 32 :: Lib.itoa a := by
  refine ⟨(whereB x y).data.toList ++ Lib.joinTail [32] ([itoaB a].map (·.data.toList)), ?_, lineT [wOre, whereB x y], ?_⟩
  · rw [lineT_cons, List.map_cons]
    simp only [Lib.joinTail, List.map_cons, List.flatten_cons]
    rfl
  · exact lineT_last wOre [whereB x y] (itoaB a)
theorem ore_add {x y a : Int} (h : 0 ≤ a) (f : Bool) (z : Sm) : addL f z (lineT [wOre, whereB x y, itoaB a]) = ⟨z.u, z.c, z.o + (if f then a else 0), z.p⟩ := by
  obtain ⟨c, hc, b, hb⟩ := ore_form x y a
  unfold addL
  have e1 : begB (lineT [wOre, whereB x y, itoaB a]) oreP = true := by rw [hc]; exact beg_app _ _
  have e2 : lastV (lineT [wOre, whereB x y, itoaB a]) = a := by rw [hb]; exact lastV_app _ _ h
  have e3 : begB (lineT [wOre, whereB x y, itoaB a]) unitP = false := by rw [hc]; exact beg_no (by decide)
  have e4 : begB (lineT [wOre, whereB x y, itoaB a]) wonP = false := by rw [hc]; exact beg_no (by decide)
  rw [e1, e2, e3, e4]
  cases f
  · simp
  · rfl
theorem news_add {m : ByteArray} (h : NwOK m) (f : Bool) (z : Sm) : addL f z m.data.toList = ⟨z.u, z.c, z.o, z.p + paidM m⟩ := by
  unfold addL paidM
  rw [h.u, h.o]
  cases begB m.data.toList wonP
  · simp
  · rfl
/-- The ore that is told of a spot. -/
def oreI (o : List SSpot) (x y : Int) : Int := (oreAt o x y).getD 0
theorem sumL_ore {α : Type} (f : Bool) (g : α → List (List UInt8)) (d : α → Int) (l : List α) : (∀ a ∈ l, ∀ z, sumL f z (g a) = ⟨z.u, z.c, z.o + (if f then d a else 0), z.p⟩) → ∀ z, sumL f z (l.flatMap g) = ⟨z.u, z.c, z.o + (if f then sumI d l else 0), z.p⟩ := by
  induction l with
  | nil =>
    intro _ z
    simp [sumL, sumI]
  | cons a r ih =>
    intro h z
    rw [List.flatMap_cons, sumL_app, h a (by simp), ih (fun b hb => h b (by simp [hb]))]
    simp only [sumI]
    cases f
    · simp
    · simp only [if_true, Sm.mk.injEq, true_and, and_true]
      omega
theorem seen_sum {s : SWorld} {n : Nat} {us : List SUnit} {x y : Int} (hs : seesB us s.sight x y = true) (f : Bool) (z : Sm) : sumL f z (seenLs s n us x y) = ⟨z.u, z.c, z.o + (if f then oreI s.ore x y else 0), z.p⟩ := by
  unfold seenLs
  rw [if_pos hs, sumL_app]
  have h2 : ∀ z', sumL f z' (otherLs s.players n x y) = z' := by
    intro z'
    unfold otherLs
    split
    · rw [sumL_one, lineT_cons]
      exact (Nil3.other _).add f z'
    · rfl
  rw [h2]
  unfold oreLs oreI
  cases ho : oreAt s.ore x y with
  | none => simp [sumL]
  | some a => exact ore_add (by have := oreAt_pos ho; omega) f z
theorem seen_ok {s : SWorld} {n : Nat} {us : List SUnit} {x y : Int} (ho : ∀ t ∈ s.ore, 0 ≤ t.amount ∧ t.amount ≤ 99) : ∀ l ∈ seenLs s n us x y, LineOK l := by
  intro l hl
  unfold seenLs at hl
  split at hl
  · rcases List.mem_append.1 hl with hl | hl
    · unfold oreLs at hl
      cases hoa : oreAt s.ore x y with
      | none => rw [hoa] at hl; cases hl
      | some a =>
        rw [hoa] at hl
        obtain rfl := List.mem_singleton.1 hl
        have h0 := oreAt_pos hoa
        have h1 : a ≤ 99 := by
          unfold oreAt at hoa
          rw [Option.map_eq_some_iff] at hoa
          obtain ⟨t, ht, rfl⟩ := hoa
          exact (ho t (List.mem_of_find?_eq_some ht)).2
        obtain ⟨_, _, b, hb⟩ := ore_form x y a
        exact fun _ => ⟨b, a, hb, by omega, by omega⟩
    · unfold otherLs at hl
      split at hl
      · obtain rfl := List.mem_singleton.1 hl
        rw [lineT_cons]
        exact (Nil3.other _).ok
      · cases hl
  · cases hl
theorem units_sum (f : Bool) : ∀ (us : List SUnit), (∀ u ∈ us, 0 ≤ u.cargo) → ∀ z, sumL f z (us.flatMap (fun u => [unitT u])) = ⟨z.u + us.length, z.c + sumI (·.cargo) us, z.o, z.p⟩ := by
  intro us
  induction us with
  | nil => intro _ z; simp [sumL, sumI]
  | cons u r ih =>
    intro h z
    rw [List.flatMap_cons, sumL_app, ih (fun v hv => h v (by simp [hv]))]
    have : sumL f z [unitT u] = ⟨z.u + 1, z.c + u.cargo, z.o, z.p⟩ := unit_add (h u (by simp)) f z
    rw [this]
    simp only [sumI, List.length_cons, Sm.mk.injEq, and_true]
    exact ⟨by omega, by omega⟩
theorem news_sum (f : Bool) : ∀ (ms : List ByteArray), (∀ m ∈ ms, NwOK m) → ∀ z, sumL f z (ms.flatMap (fun m => [m.data.toList])) = ⟨z.u, z.c, z.o, z.p + sumI paidM ms⟩ := by
  intro ms
  induction ms with
  | nil => intro _ z; simp [sumL, sumI]
  | cons m r ih =>
    intro h z
    rw [List.flatMap_cons, sumL_app, ih (fun v hv => h v (by simp [hv]))]
    have : sumL f z [m.data.toList] = ⟨z.u, z.c, z.o, z.p + paidM m⟩ := news_add (h m (by simp)) f z
    rw [this]
    simp only [sumI, Sm.mk.injEq, true_and]
    omega
theorem nil_sum {α : Type} (f : Bool) (g : α → List UInt8) : ∀ (l : List α), (∀ a ∈ l, Nil3 (g a)) → ∀ z, sumL f z (l.flatMap (fun a => [g a])) = z := by
  intro l
  induction l with
  | nil => intro _ z; rfl
  | cons a r ih =>
    intro h z
    rw [List.flatMap_cons, sumL_app, ih (fun v hv => h v (by simp [hv]))]
    exact (h a (by simp)).add f z
theorem ore_four {o : List SSpot} (h : posO o = [(0, 0), (1, 0), (4, 4), (4, 3)]) : ∃ a b c d, o = [⟨0, 0, a⟩, ⟨1, 0, b⟩, ⟨4, 4, c⟩, ⟨4, 3, d⟩] := by
  unfold posO at h
  match o, h with
  | [⟨x1, y1, a⟩, ⟨x2, y2, b⟩, ⟨x3, y3, c⟩, ⟨x4, y4, d⟩], h =>
    simp only [List.map_cons, List.map_nil, List.cons.injEq, Prod.mk.injEq, and_true] at h
    obtain ⟨⟨rfl, rfl⟩, ⟨rfl, rfl⟩, ⟨rfl, rfl⟩, rfl, rfl⟩ := h
    exact ⟨a, b, c, d, rfl⟩
theorem pos_get (a : Int) (h : 0 ≤ a) : (if 0 < a then some a else none).getD 0 = a := by
  split
  · rfl
  · show (0 : Int) = a
    omega
theorem ore_all {o : List SSpot} (h : posO o = [(0, 0), (1, 0), (4, 4), (4, 3)]) (h0 : ∀ t ∈ o, 0 ≤ t.amount) : sumI (fun y : Nat => sumI (fun x : Nat => oreI o x y) (List.range 5)) (List.range 5) = sumI (·.amount) o := by
  obtain ⟨a, b, c, d, rfl⟩ := ore_four h
  have ha : 0 ≤ a := h0 ⟨0, 0, a⟩ (by simp)
  have hb : 0 ≤ b := h0 ⟨1, 0, b⟩ (by simp)
  have hc : 0 ≤ c := h0 ⟨4, 4, c⟩ (by simp)
  have hd : 0 ≤ d := h0 ⟨4, 3, d⟩ (by simp)
  have e : List.range 5 = [0, 1, 2, 3, 4] := rfl
  have pa := pos_get a ha
  have pb := pos_get b hb
  have pc := pos_get c hc
  have pd := pos_get d hd
  rw [e]
  have en : ∀ x y, oreAt [] x y = none := fun _ _ => rfl
  simp [sumI, oreI, oreAt_cons, hitB, en, pa, pb, pc, pd]
  omega
theorem view_sum {s : SWorld} {paid : Int} (h : Bal s paid) (g : GoodL s) (hw : NwS s) (n : Nat) {p : SPlayer} (hp : p ∈ s.players) (f : Bool) (z : Sm) :
    sumL f z (viewLs s n p) = ⟨z.u + p.units.length, z.c + sumI (·.cargo) p.units, z.o + (if f then sumI (·.amount) s.ore else 0), z.p + paidP p⟩ := by
  have pk := g.wf.each p hp
  have sees : ∀ x y : Nat, x < 5 → y < 5 → seesB p.units s.sight x y = true := by
    intro x y hx hy
    have hl := pk.un.1
    cases hu : p.units with
    | nil => rw [hu] at hl; simp at hl
    | cons u r =>
      have uk := pk.each u (by rw [hu]; simp)
      have ux := uk.x
      have uy := uk.y
      rw [h.wd] at ux
      rw [h.ht] at uy
      unfold seesB
      rw [List.any_cons, h.si]
      have : farI u.x u.y x y ≤ 4 := by
        unfold farI absI
        split <;> split <;> omega
      rw [decide_eq_true this]
      rfl
  unfold viewLs
  rw [sumL_app, sumL_app, sumL_app, sumL_app]
  have h1 : sumL f z [lineT [wTick, itoaB s.now, wMoney, itoaB p.money]] = z := by
    rw [sumL_one, lineT_cons]
    exact (Nil3.hd (a := 116) (by decide) (by decide) (by decide)).add f z
  rw [h1, units_sum f p.units (fun u hu => (pk.each u hu).cargo.1)]
  have h3 : ∀ z', sumL f z' (rowsLs s n p.units s.height.toNat) = ⟨z'.u, z'.c, z'.o + (if f then sumI (·.amount) s.ore else 0), z'.p⟩ := by
    intro z'
    rw [← ore_all h.po (fun t ht => (g.wf.ora t ht).1)]
    unfold rowsLs
    rw [h.ht, h.wd]
    refine sumL_ore f _ (fun y : Nat => sumI (fun x : Nat => oreI s.ore x y) (List.range 5)) _ (fun y hy z'' => ?_) z'
    unfold rowLs
    exact sumL_ore f _ (fun x : Nat => oreI s.ore x y) _ (fun x hx z3 => seen_sum (sees x y (List.mem_range.1 hx) (List.mem_range.1 hy)) f z3) z''
  have h4 : ∀ z', sumL f z' ((sortL s.lots).flatMap (fun l => [lotT p l])) = z' := fun z' => nil_sum f (lotT p) _ (fun l _ => by
    unfold lotT lotWs
    rw [List.cons_append, lineT_cons]
    exact Nil3.hd (a := 108) (by decide) (by decide) (by decide)) z'
  rw [h3, h4, news_sum f p.news (fun m hm => hw p hp m hm)]
  rfl
theorem view_okL {s : SWorld} (g : GoodL s) (hw : NwS s) (n : Nat) {p : SPlayer} (hp : p ∈ s.players) : ∀ l ∈ viewLs s n p, LineOK l := by
  intro l hl
  have pk := g.wf.each p hp
  unfold viewLs at hl
  rcases List.mem_append.1 hl with hl | hl
  · rcases List.mem_append.1 hl with hl | hl
    · rcases List.mem_append.1 hl with hl | hl
      · rcases List.mem_append.1 hl with hl | hl
        · obtain rfl := List.mem_singleton.1 hl
          rw [lineT_cons]
          exact (Nil3.hd (a := 116) (by decide) (by decide) (by decide)).ok
        · obtain ⟨u, hu, hl⟩ := List.mem_flatMap.1 hl
          obtain rfl := List.mem_singleton.1 hl
          obtain ⟨_, _, b, hb⟩ := unitT_form u
          have hc := (pk.each u hu).cargo
          exact fun _ => ⟨b, u.cargo, hb, by omega, by omega⟩
      · unfold rowsLs at hl
        obtain ⟨y, _, hl⟩ := List.mem_flatMap.1 hl
        unfold rowLs at hl
        obtain ⟨x, _, hl⟩ := List.mem_flatMap.1 hl
        exact seen_ok g.wf.ora l hl
    · obtain ⟨o, _, hl⟩ := List.mem_flatMap.1 hl
      obtain rfl := List.mem_singleton.1 hl
      unfold lotT lotWs
      rw [List.cons_append, lineT_cons]
      exact (Nil3.hd (a := 108) (by decide) (by decide) (by decide)).ok
  · obtain ⟨m, hm, hl⟩ := List.mem_flatMap.1 hl
    obtain rfl := List.mem_singleton.1 hl
    have nk := hw p hp m hm
    intro hb
    rw [nk.u, nk.o] at hb
    exact nk.n (by simpa using hb)
end Go.Proofs.YtlafddeoheambaaGreatDoor
