/-
  The function number of the program's package orders: it reads a number, or says that there is none.
-/
import Derived.Test.YtlafddeoheambaaGreatDoorT15
import Derived.Test.YtlafddeoheambaaGreatDoorT07
import Derived.Lib.JoinLaws
import Derived.Laws.ResultCell
set_option linter.unusedVariables false
namespace Go.Proofs.YtlafddeoheambaaGreatDoor
open Go.RowKit

def numV (i : Int) : Int := if 0 ≤ i then i else 0
theorem ret_ib {a a' : Int} {b b' : Bool} (h1 : a = a') (h2 : b = b') : Ending.returned (.tuple #[.int .i64 a, .bool b]) = .returned (.tuple #[.int .i64 a', .bool b']) := by rw [h1, h2]

set_option maxRecDepth 100000 in
set_option maxHeartbeats 2000000 in
theorem xnumber_any (s : ByteArray) (w : World) (hs : s.size ≤ 2000000) :
    Calls Tryz.prog 63 #[.string s] w fun e w' => e = .returned (.tuple #[.int .i64 (numV (numberI s.data.toList)), .bool (decide (0 ≤ numberI s.data.toList))]) ∧ Below w.heap.size w w' := by
  have hnp := numberI_prog s.data.toList
  have hlen : s.data.toList.length = s.size := by simp
  by_cases hz : s.size = 0
  · have hnil : s.data.toList = [] := List.eq_nil_of_length_eq_zero (by omega)
    have e1 : s.toList = [] := by rw [Lib.toList_data]; exact hnil
    have HN : Hid (numberI s.data.toList = -1) := by unfold Hid; rw [hnp, hnil]; rfl
    clear hnp hlen hnil
    go_enter Tryz.func63, Tryz.ntmps63
    go_wp2
    go_ret2
    exact ⟨ret_ib (by rw [HN.out]; rfl) (by rw [HN.out]; rfl), Below.refl _ _⟩
  · have e1 : s.toList.isEmpty = false := by
      rw [Lib.toList_data]
      cases h : s.data.toList with
      | nil => rw [h] at hlen; simp at hlen; omega
      | cons a r => rfl
    have hp0 : 0 < s.size := by omega
    have hd := drop_at s 0 hp0
    simp only [List.drop_zero] at hd
    by_cases hb : badHead s.data.toList = true
    · have HN : Hid (numberI s.data.toList = -1) := by unfold Hid; rw [hnp, hb]; rfl
      have c0 : (s[0].toNat : Int) = 48 := by
        rw [hd] at hb
        simp [badHead] at hb
        have := congrArg UInt8.toNat hb.1
        simp at this
        omega
      have c1 : (s.toList == [48]) = false := by
        rw [Lib.toList_data]
        rw [hd] at hb ⊢
        simp [badHead] at hb
        simp
        intro h1 h2
        rcases hb.2 with h | h
        · exact h h1
        · exact h h2
      clear hnp hlen hd hb
      go_enter Tryz.func63, Tryz.ntmps63
      go_wp2
      go_ret2
      exact ⟨ret_ib (by rw [HN.out]; rfl) (by rw [HN.out]; rfl), Below.refl _ _⟩
    · have hbf : badHead s.data.toList = false := by simpa using hb
      have HP : Hid (numberI s.data.toList = numP 0 s.data.toList) := by unfold Hid; rw [hnp, hbf]; rfl
      have hc : (s[0].toNat : Int) ≠ 48 ∨ ((s[0].toNat : Int) = 48 ∧ (s.toList == [48]) = true) := by
        by_cases h0 : (s[0].toNat : Int) = 48
        · right
          refine ⟨h0, ?_⟩
          have e : s[0] = 48 := by apply UInt8.toNat.inj; show s[0].toNat = 48; omega
          rw [Lib.toList_data]
          rw [hd] at hbf ⊢
          simp [badHead, e] at hbf
          simp [e]
          simpa using hbf
        · exact .inl h0
      clear hnp hd hb hbf
      rcases hc with c0 | ⟨c0, c1⟩
      all_goals
        go_enter Tryz.func63, Tryz.ntmps63
        go_wp2
        go_loopw [4] (fun c wr => ∃ n pos : Nat, c = .int .i64 n ∧ n ≤ 100000 ∧ pos ≤ s.size ∧ wr.heap[w.heap.size]? = some (.stringIter s pos) ∧ Hid (Below w.heap.size w wr) ∧ Hid (numberI s.data.toList = numP n (s.data.toList.drop pos))) (fun _ wr => s.size - wr.iterPos w.heap.size)
        case atStart => exact ⟨0, 0, rfl, by omega, Nat.zero_le _, World.iter_heap w s 0, (Below.refl _ _).alloc (Nat.le_refl _) _, HP.out⟩
        case round =>
          obtain ⟨n, pos, rfl, hn, hpos, hit, hbw, hg⟩ := hrel
          have hpos0 := iterPos_of hit
          by_cases hp : pos < s.size
          · have hnx : ∀ ty, (Instr.next (.pointer (some ⟨w.heap.size, 0, none⟩)) true ty).run Tryz.prog wr = _ := fun ty => Lib.run_next_any_at wr w.heap.size s pos ty hit hp
            have hd := drop_at s pos hp
            by_cases hdig : s[pos].toNat < 48 ∨ 57 < s[pos].toNat
            · have HN : Hid (numberI s.data.toList = -1) := by unfold Hid; rw [hg.out, hd]; simp only [numP]; rw [if_pos hdig]
              have hout : ((Utf8.decode s pos).1 : Int) < 48 ∨ 57 < ((Utf8.decode s pos).1 : Int) := by
                by_cases h128 : s[pos].toNat < 128
                · rw [decode_ascii s pos hp h128]; simp only; omega
                · have := dec_hi s pos hp (by omega); omega
              have hbw2 := hidOf2 (Lib.below_iterAt hbw.out (k := w.heap.size) (Nat.le_refl _) s (pos + (Utf8.decode s pos).2))
              obtain ⟨W1, hW1⟩ : ∃ W1, W1 = wr.iterAt w.heap.size s (pos + (Utf8.decode s pos).2) := ⟨_, rfl⟩
              rw [← hW1] at hnx hbw2
              generalize (Utf8.decode s pos).1 = R at *
              clear hW1 hit hbw hg hd hdig HP
              rcases hout with ho | ho
              all_goals
                go_wp2
                go_ret2
                exact ⟨ret_ib (by rw [HN.out]; rfl) (by rw [HN.out]; rfl), hbw2.out⟩
            · have hde := decode_ascii s pos hp (by omega)
              rw [hde] at hnx
              simp only at hnx
              have hit2 := Lib.iterAt_heap wr w.heap.size s pos (pos + 1) hit
              have hbw2 := hidOf2 (Lib.below_iterAt hbw.out (k := w.heap.size) (Nat.le_refl _) s (pos + 1))
              obtain ⟨W1, hW1⟩ : ∃ W1, W1 = wr.iterAt w.heap.size s (pos + 1) := ⟨_, rfl⟩
              rw [← hW1] at hnx hit2 hbw2
              have hp1 := iterPos_of hit2
              have d1 : 48 ≤ (s[pos].toNat : Int) := by omega
              have d2 : (s[pos].toNat : Int) ≤ 57 := by omega
              by_cases hbig : 100000 < 10 * n + (s[pos].toNat - 48)
              · have HN : Hid (numberI s.data.toList = -1) := by unfold Hid; rw [hg.out, hd]; simp only [numP]; rw [if_neg hdig, if_pos hbig]
                have hbig' : (100000 : Int) < (n : Int) * 10 + ((s[pos].toNat : Int) - 48) := by omega
                clear hW1 hit hbw hg hd hdig HP hde
                go_wp2
                go_ret2
                exact ⟨ret_ib (by rw [HN.out]; rfl) (by rw [HN.out]; rfl), hbw2.out⟩
              · have HN : Hid (numberI s.data.toList = numP (10 * n + (s[pos].toNat - 48)) (s.data.toList.drop (pos + 1))) := by unfold Hid; rw [hg.out, hd]; simp only [numP]; rw [if_neg hdig, if_neg hbig]
                have hbig' : (n : Int) * 10 + ((s[pos].toNat : Int) - 48) ≤ 100000 := by omega
                clear hW1 hit hbw hg hd hdig HP hde
                go_wp2
                exact ⟨⟨10 * n + (s[pos].toNat - 48), pos + 1, vint (by omega), by omega, by omega, hit2, hbw2, HN⟩, by rw [hp1, hpos0]; omega⟩
          · have hnx : ∀ ty, (Instr.next (.pointer (some ⟨w.heap.size, 0, none⟩)) true ty).run Tryz.prog wr = _ := fun ty => Lib.run_next_end_at wr w.heap.size s pos ty hit hp
            have G : Hid (numberI s.data.toList = n) := by
              unfold Hid
              rw [hg.out, List.drop_of_length_le (by rw [hlen]; omega)]
              rfl
            clear hg HP
            go_wp2
            go_ret2
            exact ⟨ret_ib (by rw [G.out]; simp [numV]) (by rw [G.out]; simp), hbw.out⟩
end Go.Proofs.YtlafddeoheambaaGreatDoor

/-
  The function words of the program's package orders: what stands between blanks, in new memory, or nil if that is more than three.
-/
namespace Go.Proofs.YtlafddeoheambaaGreatDoor
open Go.RowKit

theorem ownsRow_iterAt {w : World} {base : Nat} {e : TypeId} {size : Nat} {v : Value} {n : Nat} {xs : List Value} (h : w.ownsRow base e size v n xs) {k : Nat} {s : ByteArray} {pos : Nat} (hk : w.heap[k]? = some (.stringIter s pos)) (pos' : Nat) : (w.iterAt k s pos').ownsRow base e size v n xs := by
  obtain ⟨h1, h2⟩ := h
  refine ⟨h1, ?_⟩
  rcases h2 with h2 | ⟨g, cap, cur, hv, hb, hg, r⟩
  · exact .inl h2
  · refine .inr ⟨g, cap, cur, hv, hb, ?_, r⟩
    rw [Lib.iterAt_other w k g s pos' (by rintro rfl; rw [hk] at hg; cases hg)]
    exact hg
theorem own_noiter {w : World} {base : Nat} {e : TypeId} {size g cap n : Nat} {xs : List Value} (h : w.ownsRow base e size (.slice (some ⟨g, 0, none⟩) n cap) n xs) {k : Nat} {s : ByteArray} {pos : Nat} (hk : w.heap[k]? = some (.stringIter s pos)) : k ≠ g := by
  rcases h.2 with ⟨h, _⟩ | ⟨g', cap', cur, e1, hb, hg, _⟩
  · cases h
  · injection e1 with e1
    injection e1 with e1
    injection e1 with e1
    subst e1
    rintro rfl
    rw [hk] at hg
    cases hg

set_option maxRecDepth 100000 in
set_option maxHeartbeats 4000000 in
theorem xwords_any (s : ByteArray) (w : World) (hs : s.size ≤ 2000000) :
    Calls Tryz.prog 60 #[.string s] w fun e w' => Below w.heap.size w w' ∧ (((splitB s.data.toList).length ≤ 3 ∧ ∃ g cap, e = .returned (.slice (some ⟨g, 0, none⟩) (splitB s.data.toList).length cap) ∧
      w'.ownsRow w.heap.size 9 1 (.slice (some ⟨g, 0, none⟩) (splitB s.data.toList).length cap) (splitB s.data.toList).length (strs (splitB s.data.toList))) ∨ (3 < (splitB s.data.toList).length ∧ e = .returned (.slice none 0 0))) := by
  obtain ⟨i0, hi, hz0, hz1, hz2⟩ := info_parts Tryz.infoString
  have hmk : ∀ w : World, (Instr.makeSlice 93 (.int .i64 0) (.int .i64 3)).run Tryz.prog w = .ok (.slice (some ⟨w.heap.size, 0, none⟩) 0 3) (w.alloc (.cells (madeCells #[.string ⟨#[]⟩] 3) 9)) :=
    fun w => run_make_room (P := Tryz.prog) 93 9 (.string ⟨#[]⟩) 16 Tryz.underlying93 Tryz.infoString rfl .i64 .i64 3 (by omega) (by omega) w
  go_enter Tryz.func60, Tryz.ntmps60
  go_wp2
  go_loopw [3, 4] (fun l b wr => ∃ (g cap bg pos : Nat) (ws : List (List UInt8)), l = .slice (some ⟨g, 0, none⟩) ws.length cap ∧ b = .int .i64 bg ∧ bg ≤ pos ∧ pos ≤ s.size ∧ ws.length ≤ 2 ∧ wr.heap[w.heap.size + 1]? = some (.stringIter s pos) ∧ Hid (Below w.heap.size w wr) ∧ Hid (SplitAt s pos bg ws) ∧
      Hid (wr.ownsRow w.heap.size 9 1 (.slice (some ⟨g, 0, none⟩) ws.length cap) ws.length (strs ws))) (fun _ _ wr => s.size - wr.iterPos (w.heap.size + 1))
  case atStart =>
    refine ⟨w.heap.size, 3, 0, 0, [], rfl, rfl, Nat.le_refl _, Nat.zero_le _, by simp, ?_, ?_, splitAt_start s, ?_⟩
    · have := World.iter_heap (w.alloc (.cells (madeCells #[.string ⟨#[]⟩] 3) 9)) s 0
      rw [show (w.alloc (.cells (madeCells #[.string ⟨#[]⟩] 3) 9)).heap.size = w.heap.size + 1 by simp] at this
      exact this
    · exact ((Below.refl _ _).alloc (Nat.le_refl _) _).alloc (by simp) _
    · exact ownsRow_alloc (World.ownsRow_made w _ 3 (Nat.le_refl _) (by unfold maxLen; omega) (by simp [madeCells])) _
  case round =>
    obtain ⟨g, cap, bg, pos, ws, rfl, rfl, hbp, hpos, hwl, hit, hbw, hsp, hown⟩ := hrel
    have hpos0 := iterPos_of hit
    by_cases hp : pos < s.size
    · have hnx : ∀ ty, (Instr.next (.pointer (some ⟨w.heap.size + 1, 0, none⟩)) true ty).run Tryz.prog wr = _ := fun ty => Lib.run_next_any_at wr (w.heap.size + 1) s pos ty hit hp
      by_cases hc : (Utf8.decode s pos).1 = 32
      · have hb32 : s[pos].toNat = 32 := by
          by_cases h128 : s[pos].toNat < 128
          · rw [decode_ascii s pos hp h128] at hc
            exact hc
          · have := dec_hi s pos hp (by omega)
            omega
        have hde := decode_ascii s pos hp (by omega)
        have hs2 : Hid (SplitAt s (pos + 1) (pos + 1) (ws ++ [(s.data.toList.take pos).drop bg])) := splitAt_blank hsp.out hp hb32
        rw [hde, hb32] at hnx
        simp only at hnx
        have hit2 := Lib.iterAt_heap wr (w.heap.size + 1) s pos (pos + 1) hit
        have hbw2 := hidOf2 (Lib.below_iterAt hbw.out (k := w.heap.size + 1) (by omega) s (pos + 1))
        have hown2 := hidOf2 (ownsRow_iterAt hown.out hit (pos + 1))
        obtain ⟨W1, hW1⟩ : ∃ W1, W1 = wr.iterAt (w.heap.size + 1) s (pos + 1) := ⟨_, rfl⟩
        rw [← hW1] at hnx hit2 hbw2 hown2
        have hex := extract_word s bg pos
        obtain ⟨x, hx⟩ : ∃ x, x = (s.data.toList.take pos).drop bg := ⟨_, rfl⟩
        rw [← hx] at hs2 hex
        have hlw : (ws ++ [x]).length = ws.length + 1 := by simp
        clear hW1 hit hbw hsp hown hde hc hx
        by_cases h2 : ws.length = 2
        · go_wp2_with (at_builtin; refine wpList_append_lies _ rfl _ _ _ rfl w.heap.size 9 i0 _ 1 16 Tryz.underlying93 hi hz0 hz1 hz2 rfl (by omega) (.slice (some ⟨g, 0, none⟩) ws.length cap) ws.length (strs ws) rfl (by exact ownsRow_alloc hown2.out _) ⟨W1.heap.size, 0, none⟩ 1 1 [.string (bytesOf x)] rfl rfl (by exact World.news_of_block (Go.heap_alloc_new W1 _)) (by intro u hu; simp at hu; subst hu; rfl) (by omega) (by unfold maxLen; omega) (by omega) (by have := hbw2.out.size; simp; omega) (W1.heap.size + 1) (by simp) ?_; intro g' cap' w1 hown1 hgrow hat hlt')
          have hown3 : Hid (w1.ownsRow w.heap.size 9 1 (.slice (some ⟨g', 0, none⟩) (ws ++ [x]).length cap') (ws ++ [x]).length (strs (ws ++ [x]))) := by
            unfold Hid
            rw [hlw]
            have e : strs (ws ++ [x]) = strs ws ++ [.string (bytesOf x)] := by simp [strs]
            rw [e]
            exact hown1
          have hbase := own_base hown2.out
          have hb2 : Hid (Below w.heap.size w w1) := by
            unfold Hid
            refine (hbw2.out.alloc hbw2.out.size _).grown hgrow (by have := hbw2.out.size; simp; omega) (fun r hr => ?_)
            have e : g = r := by simpa [Value.ownBlock] using hr
            omega
          have hltI : w.heap.size + 1 < W1.heap.size := (Array.getElem?_eq_some_iff.1 hit2).1
          have hit3 : w1.heap[w.heap.size + 1]? = some (.stringIter s (pos + 1)) := by
            have hne := own_noiter hown2.out hit2
            rw [hgrow.block (w.heap.size + 1) (by simp; omega) (by simp [Value.ownBlock]; exact hne)]
            rw [Below.heap_alloc _ _ _ hltI]
            exact hit2
          have hp1 := iterPos_of hit3
          clear hown1 hgrow hat hown2 hbw2 hit2
          go_wp2
          go_ret
          refine ⟨hb2.out, .inr ⟨?_, rfl⟩⟩
          have := split_count hs2.out
          rw [hlw] at this
          omega
        · go_wp2_with (at_builtin; refine wpList_append_lies _ rfl _ _ _ rfl w.heap.size 9 i0 _ 1 16 Tryz.underlying93 hi hz0 hz1 hz2 rfl (by omega) (.slice (some ⟨g, 0, none⟩) ws.length cap) ws.length (strs ws) rfl (by exact ownsRow_alloc hown2.out _) ⟨W1.heap.size, 0, none⟩ 1 1 [.string (bytesOf x)] rfl rfl (by exact World.news_of_block (Go.heap_alloc_new W1 _)) (by intro u hu; simp at hu; subst hu; rfl) (by omega) (by unfold maxLen; omega) (by omega) (by have := hbw2.out.size; simp; omega) (W1.heap.size + 1) (by simp) ?_; intro g' cap' w1 hown1 hgrow hat hlt')
          have hown3 : Hid (w1.ownsRow w.heap.size 9 1 (.slice (some ⟨g', 0, none⟩) (ws ++ [x]).length cap') (ws ++ [x]).length (strs (ws ++ [x]))) := by
            unfold Hid
            rw [hlw]
            have e : strs (ws ++ [x]) = strs ws ++ [.string (bytesOf x)] := by simp [strs]
            rw [e]
            exact hown1
          have hbase := own_base hown2.out
          have hb2 : Hid (Below w.heap.size w w1) := by
            unfold Hid
            refine (hbw2.out.alloc hbw2.out.size _).grown hgrow (by have := hbw2.out.size; simp; omega) (fun r hr => ?_)
            have e : g = r := by simpa [Value.ownBlock] using hr
            omega
          have hltI : w.heap.size + 1 < W1.heap.size := (Array.getElem?_eq_some_iff.1 hit2).1
          have hit3 : w1.heap[w.heap.size + 1]? = some (.stringIter s (pos + 1)) := by
            have hne := own_noiter hown2.out hit2
            rw [hgrow.block (w.heap.size + 1) (by simp; omega) (by simp [Value.ownBlock]; exact hne)]
            rw [Below.heap_alloc _ _ _ hltI]
            exact hit2
          have hp1 := iterPos_of hit3
          clear hown1 hgrow hat hown2 hbw2 hit2
          go_wp2
          exact ⟨⟨g', cap', pos + 1, pos + 1, ws ++ [x], by rw [hlw], by go_num, Nat.le_refl _, by omega, by rw [hlw]; omega, hit3, hb2, hs2, hown3⟩, by rw [hp1, hpos0]; omega⟩
      · have hd := dec_nb s pos hp hc
        have hs2 : Hid (SplitAt s (pos + (Utf8.decode s pos).2) bg ws) := splitAt_more _ hsp.out hd.2.1 hd.2.2
        have hit2 := Lib.iterAt_heap wr (w.heap.size + 1) s pos (pos + (Utf8.decode s pos).2) hit
        have hbw2 := hidOf2 (Lib.below_iterAt hbw.out (k := w.heap.size + 1) (by omega) s (pos + (Utf8.decode s pos).2))
        have hown2 := hidOf2 (ownsRow_iterAt hown.out hit (pos + (Utf8.decode s pos).2))
        have hc' : ((((Utf8.decode s pos).1 : Nat) : Int) == 32) = false := by simp; omega
        obtain ⟨W1, hW1⟩ : ∃ W1, W1 = wr.iterAt (w.heap.size + 1) s (pos + (Utf8.decode s pos).2) := ⟨_, rfl⟩
        rw [← hW1] at hnx hit2 hbw2 hown2
        have hp1 := iterPos_of hit2
        have hd1 := hd.1
        have hd2 := hd.2.1
        generalize (Utf8.decode s pos).1 = R at *
        generalize (Utf8.decode s pos).2 = D at *
        clear hW1 hit hbw hsp hown hd hc
        go_wp2
        exact ⟨⟨g, cap, bg, pos + D, ws, rfl, rfl, by omega, by omega, hwl, hit2, hbw2, hs2, hown2⟩, by rw [hp1, hpos0]; omega⟩
    · have hnx : ∀ ty, (Instr.next (.pointer (some ⟨w.heap.size + 1, 0, none⟩)) true ty).run Tryz.prog wr = _ := fun ty => Lib.run_next_end_at wr (w.heap.size + 1) s pos ty hit hp
      have he : pos = s.size := by omega
      have hl : s.data.toList.take pos = s.data.toList := List.take_of_length_le (by simp; omega)
      have G : Hid (splitB s.data.toList = ws ++ [s.data.toList.drop bg]) := by
        have := hsp.out.2
        rw [hl] at this
        exact this
      have hex : s.extract bg s.size = bytesOf (s.data.toList.drop bg) := by
        rw [← he, extract_word, hl]
      obtain ⟨x, hx⟩ : ∃ x, x = s.data.toList.drop bg := ⟨_, rfl⟩
      rw [← hx] at hex G
      have hlw : (ws ++ [x]).length = ws.length + 1 := by simp
      clear hsp hl hx
      go_wp2_with (at_builtin; refine wpList_append_lies _ rfl _ _ _ rfl w.heap.size 9 i0 _ 1 16 Tryz.underlying93 hi hz0 hz1 hz2 rfl (by omega) (.slice (some ⟨g, 0, none⟩) ws.length cap) ws.length (strs ws) rfl (by exact ownsRow_alloc hown.out _) ⟨wr.heap.size, 0, none⟩ 1 1 [.string (bytesOf x)] rfl rfl (by exact World.news_of_block (Go.heap_alloc_new wr _)) (by intro u hu; simp at hu; subst hu; rfl) (by omega) (by unfold maxLen; omega) (by omega) (by have := hbw.out.size; simp; omega) (wr.heap.size + 1) (by simp) ?_; intro g' cap' w1 hown1 hgrow hat hlt')
      have hown3 : Hid (w1.ownsRow w.heap.size 9 1 (.slice (some ⟨g', 0, none⟩) (ws ++ [x]).length cap') (ws ++ [x]).length (strs (ws ++ [x]))) := by
        unfold Hid
        rw [hlw]
        have e : strs (ws ++ [x]) = strs ws ++ [.string (bytesOf x)] := by simp [strs]
        rw [e]
        exact hown1
      have hbase := own_base hown.out
      have hb2 : Hid (Below w.heap.size w w1) := by
        unfold Hid
        refine (hbw.out.alloc hbw.out.size _).grown hgrow (by have := hbw.out.size; simp; omega) (fun r hr => ?_)
        have e : g = r := by simpa [Value.ownBlock] using hr
        omega
      clear hown1 hgrow hat hown hbw
      go_wp2
      go_ret
      rw [G.out]
      exact ⟨hb2.out, .inl ⟨by rw [hlw]; omega, g', cap', by simp, hown3.out⟩⟩
end Go.Proofs.YtlafddeoheambaaGreatDoor

/-
  The function checked of the program's package orders: an order of a unit, if it is one.
-/
namespace Go.Proofs.YtlafddeoheambaaGreatDoor
open Go.RowKit

theorem results_row_tmp {P : Program} {fn : Func} {p u : Tmp} {ty : TypeId} (h : fn.results = #[.cell p ty, .tmp u]) (tmps : Array Value) (w : World) (g : Nat) (t : TypeId) (cs : Array Value) (fr : Nat × Nat) (d : TypeDesc)
    (hp : tmps.getD p undef = .pointer (some ⟨g, 0, none⟩)) (hg : w.heap[g]? = some (.cells cs t fr))
    (hu : P.underlying ty = some d) (hd : (match d with | .struct _ | .array _ _ => true | _ => false) = true) (hi : (P.info? ty).map (·.size) = some cs.size) :
    (results fn tmps).run P w = .ok (.tuple #[.agg cs, tmps.getD u undef]) w := by
  rw [results_cell_tmp h, hp]
  simp [asAddr, Result.andThen, run_loadVar_row w g t ty cs fr d hg hu hd hi]
theorem Tryz.sizeOrder : (Tryz.prog.info? 69).map (·.size) = some 4 := by kernel_rfl

theorem set4 {w : World} {g : Nat} {a b c d : Value} {t : TypeId} (h : w.heap[g]? = some (.cells #[a, b, c, d] t (0, 0))) (a' b' c' d' : Value) :
    ((((w.setCell ⟨g, 0, none⟩ a').setCell ⟨g, 1, none⟩ b').setCell ⟨g, 2, none⟩ c').setCell ⟨g, 3, none⟩ d').heap[g]? = some (.cells #[a', b', c', d'] t (0, 0)) := by
  have h1 := heap_setCell_same w g 0 _ t a' h
  have h2 := heap_setCell_same _ g 1 _ t b' h1
  have h3 := heap_setCell_same _ g 2 _ t c' h2
  exact heap_setCell_same _ g 3 _ t d' h3
theorem below_set4 {B : Nat} {w0 w : World} {g : Nat} (h : Below B w0 w) (hg : B ≤ g) (a' b' c' d' : Value) :
    Below B w0 ((((w.setCell ⟨g, 0, none⟩ a').setCell ⟨g, 1, none⟩ b').setCell ⟨g, 2, none⟩ c').setCell ⟨g, 3, none⟩ d') :=
  (((h.setCell (p := ⟨g, 0, none⟩) hg a').setCell (p := ⟨g, 1, none⟩) hg b').setCell (p := ⟨g, 2, none⟩) hg c').setCell (p := ⟨g, 3, none⟩) hg d'
def zeroO : Array Value := #[.int .i64 0, .string ⟨#[]⟩, .string ⟨#[]⟩, .int .i64 0]
def ordC (k : Int) (u n : ByteArray) (num : Int) : Array Value := #[.int .i64 k, .string u, .string n, .int .i64 num]
def checkV (k : Int) (u n : ByteArray) (num : Int) : Array Value := if k ≠ 0 ∧ nameB u.data.toList = true then #[.agg (ordC k u n num), .bool true] else #[.agg zeroO, .bool false]
theorem ret_tuple {a b : Array Value} (h : a = b) : Ending.returned (.tuple a) = .returned (.tuple b) := by rw [h]

set_option maxRecDepth 100000 in
set_option maxHeartbeats 2000000 in
theorem xchecked_any (k : Int) (u n : ByteArray) (num : Int) (w : World) (hs : u.size ≤ 2000000) :
    Calls Tryz.prog 61 #[.agg #[.int .i64 k, .string u, .string n, .int .i64 num]] w fun e w' => e = .returned (.tuple (checkV k u n num)) ∧ Below w.heap.size w w' := by
  by_cases hk : k = 0
  · subst hk
    have HV : Hid (checkV 0 u n num = #[.agg zeroO, .bool false]) := by unfold Hid checkV; simp
    go_enter Tryz.func61, Tryz.ntmps61
    go_wp2
    refine bodyPost_ret (results_row_tmp rfl _ _ (w.heap.size + 1) 69 zeroO (0, 0) _ rfl ?_ Tryz.underlying69 rfl Tryz.sizeOrder) rfl ?_
    · exact heap_alloc2_new w _ _
    · exact ⟨ret_tuple (by rw [HV.out]; rfl), ((Below.refl _ _).alloc (Nat.le_refl _) _).alloc (by simp) _⟩
  · have hk' : (k == 0) = false := by simpa using hk
    go_enter Tryz.func61, Tryz.ntmps61
    go_wp2_with fail
    refine (isName_any u _ hs).mono ?_
    rintro e w' ⟨rfl, hb⟩
    have b0 : w'.heap[w.heap.size]? = some (.cells #[.int .i64 k, .string u, .string n, .int .i64 num] 69) := by
      rw [hb.block w.heap.size (by simp; omega)]
      exact heap_alloc2_old w _ _
    have b1 : w'.heap[w.heap.size + 1]? = some (.cells #[.int .i64 0, .string ⟨#[]⟩, .string ⟨#[]⟩, .int .i64 0] 69) := by
      rw [hb.block (w.heap.size + 1) (by simp)]
      exact heap_alloc2_new w _ _
    have HB : Hid (Below w.heap.size w w') := by
      refine (((Below.refl _ _).alloc (Nat.le_refl _) _).alloc (by simp) _).trans (hb.mono ?_)
      simp
      omega
    clear hb
    have c0 : w'.cell? ⟨w.heap.size, 0, none⟩ = some (.int .i64 k) := by rw [cell_of_row _ _ _ _ _ _ b0]; rfl
    have c1 : w'.cell? ⟨w.heap.size, 1, none⟩ = some (.string u) := by rw [cell_of_row _ _ _ _ _ _ b0]; rfl
    have c2 : w'.cell? ⟨w.heap.size, 2, none⟩ = some (.string n) := by rw [cell_of_row _ _ _ _ _ _ b0]; rfl
    have c3 : w'.cell? ⟨w.heap.size, 3, none⟩ = some (.int .i64 num) := by rw [cell_of_row _ _ _ _ _ _ b0]; rfl
    have f : ∀ j, w'.frozen? ⟨w.heap.size + 1, j, none⟩ = false := fun j => frozen_of_row _ _ _ _ _ b1
    have f0 := f 0
    have f1 := f 1
    have f2 := f 2
    have f3 := f 3
    have d0 : w'.cell? ⟨w.heap.size + 1, 0, none⟩ = some (.int .i64 0) := by rw [cell_of_row _ _ _ _ _ _ b1]; rfl
    have d1 : w'.cell? ⟨w.heap.size + 1, 1, none⟩ = some (.string ⟨#[]⟩) := by rw [cell_of_row _ _ _ _ _ _ b1]; rfl
    have d2 : w'.cell? ⟨w.heap.size + 1, 2, none⟩ = some (.string ⟨#[]⟩) := by rw [cell_of_row _ _ _ _ _ _ b1]; rfl
    have d3 : w'.cell? ⟨w.heap.size + 1, 3, none⟩ = some (.int .i64 0) := by rw [cell_of_row _ _ _ _ _ _ b1]; rfl
    clear f b0
    cases hn : nameB u.data.toList
    · have HV : Hid (checkV k u n num = #[.agg zeroO, .bool false]) := by unfold Hid checkV; simp [hn]
      go_wp2
      refine bodyPost_ret (results_row_tmp rfl _ _ (w.heap.size + 1) 69 zeroO (0, 0) _ rfl (set4 b1 _ _ _ _) Tryz.underlying69 rfl Tryz.sizeOrder) rfl ?_
      exact ⟨ret_tuple (by rw [HV.out]; rfl), below_set4 HB.out (by omega) _ _ _ _⟩
    · have HV : Hid (checkV k u n num = #[.agg (ordC k u n num), .bool true]) := by unfold Hid checkV; simp [hn, hk]
      go_wp2
      refine bodyPost_ret (results_row_tmp rfl _ _ (w.heap.size + 1) 69 (ordC k u n num) (0, 0) _ rfl (set4 b1 _ _ _ _) Tryz.underlying69 rfl Tryz.sizeOrder) rfl ?_
      exact ⟨ret_tuple (by rw [HV.out]; rfl), below_set4 HB.out (by omega) _ _ _ _⟩
end Go.Proofs.YtlafddeoheambaaGreatDoor
