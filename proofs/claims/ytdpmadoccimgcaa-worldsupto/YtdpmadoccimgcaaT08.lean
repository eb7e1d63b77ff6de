/-
  The function ordered of package hazeref where no lot is open: it returns no lot.
-/
import Derived.Test.YtdpmadoccimgcaaT02
import Derived.Test.YtdpmadoccimgcaaT01
import Derived.Test.YtdpmadoccimgcaaT07
import Derived.Test.YtdpmadoccimgcaaT04
import Derived.Deep.AppendLies
import Derived.Deep.QuietTactic
import Derived.BigQuiet
set_option linter.unusedVariables false
namespace Go.Proofs.Ytdpmadoccimgcaa
open Go.RowKit

set_option maxHeartbeats 1000000 in
theorem ordered_none (b : Nat) (ao : Option Addr) (c : Nat) (w : World) (hc : w.cell? ⟨b, 6, none⟩ = some (.slice ao 0 c)) :
    Calls Try.prog 45 #[.pointer (some ⟨b, 0, none⟩)] w fun e w' => e = .returned (.slice none 0 0) ∧ w' = w := by
  go_enter Try.func45, Try.ntmps45
  go_wp2
  go_loop [3] (fun o => o = .slice none 0 0) (fun _ => 0)
  case atStart => rfl
  case round =>
    subst hrel
    go_wp2
    go_loop [5, 6] (fun b i => b = .int .i64 (-1) ∧ i = .int .i64 0) (fun _ _ => 0)
    case atStart => exact ⟨rfl, rfl⟩
    case round =>
      obtain ⟨rfl, rfl⟩ := hrel
      go_wp2
      go_ret
      exact ⟨rfl, rfl⟩
end Go.Proofs.Ytdpmadoccimgcaa

/-
  The function Tick of package hazeref where no lot is open: the world behind it.
-/
namespace Go.Proofs.Ytdpmadoccimgcaa
open Go.RowKit

theorem S_clear {Y : YW} {n : Nat} {p : SPlayer} {v v' : PV} (hq : Y.pls[n]? = some (p, v)) : (Y.setQ n ({ p with news := [] }, v')).S = clearN Y.S n := by
  rw [S_setQ]
  unfold clearN
  rw [S_at hq]
theorem unitsN_at {Y : YW} {n : Nat} {p : SPlayer} {v : PV} (hq : Y.pls[n]? = some (p, v)) : unitsN Y.S n = p.units.length := by
  unfold unitsN
  rw [S_at hq]
theorem at_of_lt {Y : YW} {n : Nat} (h : n < Y.pls.length) : ∃ p v, Y.pls[n]? = some (p, v) := ⟨Y.pls[n].1, Y.pls[n].2, by simp [h]⟩

set_option maxRecDepth 100000 in
set_option maxHeartbeats 4000000 in
theorem rtick_full (w : World) (Y : YW) (hr : RepY w Y) (hn : Y.now = 1000) :
    Calls Try.prog 19 #[.pointer (some ⟨Y.b, 0, none⟩)] w fun e w' => e = .returned (.int .i64 6) ∧ w' = w := by
  have c3 : w.cell? ⟨Y.b, 3, none⟩ = some (.int .i64 1000) := by rw [← hn]; exact hr.cellTop rfl
  go_enter Try.func19, Try.ntmps19
  go_wp2
  go_ret
  exact ⟨rfl, rfl⟩

set_option maxRecDepth 100000 in
set_option maxHeartbeats 8000000 in
theorem rtick_any (w : World) (Y : YW) (M : Int) (hr : RepY w Y) (hf : WFS Y.S M) (hM : M ≤ 100000000000) (hl : Y.lots = []) (hn : 0 ≤ Y.now ∧ Y.now < 1000) :
    Calls Try.prog 19 #[.pointer (some ⟨Y.b, 0, none⟩)] w fun e w' => e = .returned (.int .i64 0) ∧ ∃ Y', Turn w Y w' Y' ∧ Y'.S = tickS Y.S := by
  obtain ⟨hn0, hn1⟩ := hn
  have c3 : w.cell? ⟨Y.b, 3, none⟩ = some (.int .i64 Y.now) := hr.cellTop rfl
  have hpl : Y.S.players.length = Y.pls.length := by simp [YW.S]
  have h4 := hf.pl
  rw [hpl] at h4
  have hc0 : (Y.now == 1000) = false := beq_eq_false_iff_ne.2 (by omega)
  go_enter Try.func19, Try.ntmps19
  go_wp2
  go_loopw [3] (fun i w' => ∃ (k : Nat) (Yk : YW), k ≤ Y.pls.length ∧ i = .int .i64 k ∧ Turn w Y w' Yk ∧ Hid (Yk.S = tickTo Y.S k)) (fun i _ => Y.pls.length + 1 - (intOf i).toNat)
  case atStart => exact ⟨0, Y, Nat.zero_le _, rfl, Turn.refl hr, rfl⟩
  case round =>
    clear c3
    obtain ⟨k, Yk, hk, rfl, T, HS⟩ := hrel
    have hlen : Yk.pls.length = Y.pls.length := by
      have e := (tickTo_len Y.S k).1
      rw [← HS.out] at e
      simpa [YW.S] using e
    have hb : Yk.b = Y.b := T.b
    rcases own_form T.rep.pl with ⟨_, h0, _⟩ | ⟨pb, pcap, hvp, hpc, hpm, hpb⟩
    · omega
    unfold maxLen at hpm
    have c5 : wr.cell? ⟨Y.b, 5, none⟩ = some (.slice (some ⟨pb, 0, none⟩) Y.pls.length pcap) := by rw [← hb, ← hlen, ← hvp]; exact T.rep.cellTop rfl
    by_cases hlt : k < Y.pls.length
    · obtain ⟨p, v, hq⟩ := at_of_lt (Y := Yk) (n := k) (by omega)
      have hm1 := (T.rep.plCell hq hvp).2.1
      have hm3 := (T.rep.plCell hq hvp).2.2.2
      have fz := T.rep.plFrozen hvp (k * 4 + 3)
      have hwk : WFS Yk.S (M + 450 * k) := by rw [HS.out]; exact hf.tickTo k
      have hum5 : p.units.length ≤ 5 := ((WF.of hwk).un _ (List.mem_of_getElem? hq)).2
      have hum1 : 1 ≤ p.units.length := ((WF.of hwk).un _ (List.mem_of_getElem? hq)).1
      rcases own_form (T.rep.eachAt hq).units with ⟨_, h0, _⟩ | ⟨ub, ucap, hvu, huc, hum, hub⟩
      · simp only at h0; omega
      simp only at hvu huc
      rw [hvu] at hm1
      have TC := hidOf (T.clearNews hq hvp)
      have SC := hidOf (S_clear (v' := { v with n := .slice none 0 0 }) hq)
      have HW := hidOf hwk
      have HU := hidOf (unitsN_at (setQ_at (q' := ({ p with news := [] }, { v with n := .slice none 0 0 })) hq))
      have HT := hidOf (show tickTo Y.S (k + 1) = playerS (tickTo Y.S k) k from rfl)
      clear hwk hvp hvu hq hb hpl hlen
      go_wp2
      go_loopw [5] (fun i w' => ∃ (j : Nat) (Yj : YW), j ≤ p.units.length ∧ i = .int .i64 j ∧ Turn w Y w' Yj ∧ Hid (Yj.S = unitsTo (clearN Yk.S k) k j)) (fun i _ => p.units.length + 1 - (intOf i).toNat)
      case atStart => exact ⟨0, _, Nat.zero_le _, rfl, TC.out, SC.out⟩
      case round =>
        clear c5 hm1 hm3 fz
        obtain ⟨j, Yj, hj, rfl, Tj, HSj⟩ := hrel
        by_cases hlt1 : j < p.units.length
        · have HD : Hid (Calls Try.prog 44 #[.pointer (some ⟨Y.b, 0, none⟩), .int .i64 k, .int .i64 j] wr fun e w' => e = .returned (.tuple #[]) ∧ ∃ Y', Turn wr Yj w' Y' ∧ Y'.S = doesS Yj.S k j) := by
            have l1 := unitsTo_len (clearN Yk.S k) k j
            have l2 := clearN_len Yk.S k
            have l3 : Yk.S.players.length = Y.S.players.length := by rw [HS.out]; exact (tickTo_len Y.S k).1
            have l4 : Yj.pls.length = Y.pls.length := by
              have : Yj.S.players.length = Y.S.players.length := by rw [HSj.out]; exact l1.1.trans (l2.1.trans l3)
              simpa [YW.S] using this
            obtain ⟨p', v', hq'⟩ := at_of_lt (Y := Yj) (n := k) (by omega)
            have l5 : p.units.length ≤ p'.units.length := by
              have a := l1.2.2.2
              rw [← HSj.out, unitsN_at hq', ← SC.out, HU.out] at a
              exact a
            have hu' : p'.units[j]? = some p'.units[j] := by simp [show j < p'.units.length by omega]
            have hwj : WFS Yj.S (M + 450 * k + 90 * j) := by rw [HSj.out]; exact (HW.out.clearN k).unitsTo k j
            have := does_any wr Yj (M + 450 * k + 90 * j) k j p' v' p'.units[j] Tj.rep hwj (by omega) hq' hu'
            rw [Tj.b] at this
            exact this
          go_wp2_with fail
          refine HD.out.mono ?_
          rintro e w' ⟨rfl, Y', T', HS'⟩
          go_wp2
          exact ⟨⟨j + 1, Y', by omega, by go_num, Tj.trans T', by unfold Hid; rw [HS', HSj.out]; rfl⟩, by simp [intOf]; omega⟩
        · have hjm : j = p.units.length := by omega
          have HE : Hid (Yj.S = tickTo Y.S (k + 1)) := by
            unfold Hid
            rw [HT.out, HSj.out, ← HS.out]
            unfold playerS
            rw [← SC.out, HU.out, hjm]
          clear hjm
          go_wp2
          exact ⟨⟨k + 1, Yj, by omega, by go_num, Tj, HE⟩, by simp [intOf]; omega⟩
    · have hkl : k = Y.pls.length := by omega
      have e2 := tickTo_len Y.S k
      have hnow : Yk.now = Y.now := by rw [← HS.out] at e2; exact e2.2.1
      have hlots : Yk.lots = [] := by rw [← HS.out] at e2; rw [← hl]; exact e2.2.2
      obtain ⟨al, gl, lc, hvl, _, _, _⟩ := own_rd T.rep.lots
      rw [hlots] at hvl
      have c3 : wr.cell? ⟨Y.b, 3, none⟩ = some (.int .i64 Y.now) := by rw [← hb, ← hnow]; exact T.rep.cellTop rfl
      have c6 : wr.cell? ⟨Y.b, 6, none⟩ = some (.slice al 0 lc) := by
        have := T.rep.cellTop (j := 6) (u := Yk.vLots) rfl
        rw [hvl, hb] at this
        exact this
      have f3 : wr.frozen? ⟨Y.b, 3, none⟩ = false := by rw [← hb]; exact T.rep.frozenTop 3
      have f6 : wr.frozen? ⟨Y.b, 6, none⟩ = false := by rw [← hb]; exact T.rep.frozenTop 6
      have TE : Hid (∃ Y', Turn w Y ((wr.setCell ⟨Y.b, 3, none⟩ (.int .i64 (Y.now + 1))).setCell ⟨Y.b, 6, none⟩ (.slice none 0 0)) Y' ∧ Y'.S = tickS Y.S) := by
        have t1 := (T.now1 (Y.now + 1)).clearLots
        refine ⟨(Yk.withNow (Y.now + 1)).noLots, ?_, ?_⟩
        · rw [← hb]; exact t1
        · have e3 : (Yk.withNow (Y.now + 1)).noLots.S = { Yk.S with now := Y.now + 1, lots := [] } := rfl
          rw [e3, HS.out, hkl, ← hpl]
          rfl
      clear e2 hnow hlots hvl hkl hb hlen hpl HS T
      go_wp2
      go_loop [6, 7] (fun l i => l = .slice none 0 0 ∧ i = .int .i64 0) (fun _ _ => 0)
      case atStart => exact ⟨rfl, rfl⟩
      case round =>
        obtain ⟨rfl, rfl⟩ := hrel
        go_wp2_with fail
        refine (ordered_none Y.b al lc _ (by rw [World.cell?_setCell_other _ _ _ _ (by simp)]; exact c6)).mono ?_
        rintro e w' ⟨rfl, rfl⟩
        go_wp2
        go_loop [9] (fun i => i = .int .i64 0) (fun _ => 0)
        case atStart => rfl
        case round =>
          subst hrel
          go_wp2
          go_ret
          exact ⟨rfl, TE.out⟩
end Go.Proofs.Ytdpmadoccimgcaa

/-
  The words of a text, said plainly.
-/
namespace Go.Proofs.Ytdpmadoccimgcaa
open Go.RowKit

/-- What stands between blanks. -/
def splitB : List UInt8 → List (List UInt8)
  | [] => [[]]
  | c :: r => if c = 32 then [] :: splitB r else match splitB r with
    | [] => [[c]]
    | h :: t => (c :: h) :: t
theorem splitB_ne (l : List UInt8) : splitB l ≠ [] := by
  cases l with
  | nil => simp [splitB]
  | cons c r => simp only [splitB]; split; · simp
                split <;> simp
theorem splitB_blank (l : List UInt8) : splitB (l ++ [32]) = splitB l ++ [[]] := by
  induction l with
  | nil => simp [splitB]
  | cons c r ih =>
    simp only [List.cons_append, splitB, ih]
    split
    · simp
    · have := splitB_ne r
      cases h : splitB r with
      | nil => exact absurd h this
      | cons a t => simp
theorem splitB_other (l : List UInt8) (c : UInt8) (hc : c ≠ 32) (ws : List (List UInt8)) (x : List UInt8) (h : splitB l = ws ++ [x]) : splitB (l ++ [c]) = ws ++ [x ++ [c]] := by
  induction l generalizing ws x with
  | nil =>
    simp only [splitB] at h
    cases ws with
    | nil => simp at h; subst h; simp [splitB, hc]
    | cons a t => simp at h
  | cons d r ih =>
    simp only [List.cons_append, splitB] at h ⊢
    split at h
    · rename_i hd
      rw [if_pos hd]
      cases ws with
      | nil => simp at h; exact absurd h.2 (splitB_ne r)
      | cons a t =>
        simp only [List.cons_append, List.cons.injEq] at h
        rw [ih t x h.2, h.1]
        simp
    · rename_i hd
      rw [if_neg hd]
      have hne := splitB_ne r
      cases hs : splitB r with
      | nil => exact absurd hs hne
      | cons a t =>
        rw [hs] at h
        simp only at h
        cases ws with
        | nil =>
          simp at h
          obtain ⟨h1, h2⟩ := h
          subst h2
          have := ih [] a (by rw [hs]; rfl)
          rw [this]
          simp [← h1]
        | cons b u =>
          simp only [List.cons_append, List.cons.injEq] at h
          obtain ⟨h1, h2⟩ := h
          have := ih (a :: u) x (by rw [hs, h2]; rfl)
          rw [this]
          simp [h1]

def bytesOf (l : List UInt8) : ByteArray := ⟨l.toArray⟩
theorem bytesOf_toList (l : List UInt8) : (bytesOf l).data.toList = l := by simp [bytesOf]
theorem bytesOf_data (s : ByteArray) : bytesOf s.data.toList = s := by
  obtain ⟨⟨l⟩⟩ := s
  rfl
theorem bytes_ext {a b : ByteArray} (h : a.data.toList = b.data.toList) : a = b := by
  obtain ⟨⟨a⟩⟩ := a
  obtain ⟨⟨b⟩⟩ := b
  simp at h
  rw [h]
theorem bytesOf_push (x : List UInt8) (s : ByteArray) (k : Nat) (h : k < s.size) : bytesOf x ++ s.extract k (k + 1) = bytesOf (x ++ [s[k]]) := by
  apply bytes_ext
  rw [bytesOf_toList, ByteArray.data_append, Array.toList_append, Lib.extract_data, bytesOf_toList, drop_at s k h]
  simp
theorem take_snoc (s : ByteArray) (k : Nat) (h : k < s.size) : s.data.toList.take (k + 1) = s.data.toList.take k ++ [s[k]] := by
  rw [List.take_succ_eq_append_getElem (by simpa using h)]; rfl
theorem splitB_len (l : List UInt8) : (splitB l).length ≤ l.length + 1 := by
  induction l with
  | nil => simp [splitB]
  | cons c r ih =>
    simp only [splitB]
    split
    · simp; omega
    · cases h : splitB r with
      | nil => simp
      | cons a t => rw [h] at ih; simp at ih ⊢; omega
theorem splitB_sizes (l : List UInt8) : ∀ x ∈ splitB l, x.length ≤ l.length := by
  induction l with
  | nil => intro x hx; simp [splitB] at hx; simp [hx]
  | cons c r ih =>
    intro x hx
    simp only [splitB] at hx
    split at hx
    · rcases List.mem_cons.1 hx with rfl | hx
      · simp
      · have := ih x hx; simp; omega
    · cases h : splitB r with
      | nil => exact absurd h (splitB_ne r)
      | cons a t =>
        rw [h] at hx ih
        rcases List.mem_cons.1 hx with rfl | hx
        · have := ih a (by simp); simp; omega
        · have := ih x (by simp [hx]); simp; omega

end Go.Proofs.Ytdpmadoccimgcaa

/-
  The function Words of package hazeref: it returns what stands between blanks, in new memory.
-/
namespace Go.Proofs.Ytdpmadoccimgcaa
open Go.RowKit

theorem Try.infoString : (Try.prog.info? 9).map (fun i => (i.zero, i.size, i.bytes)) = some (some (.string ⟨#[]⟩), 1, 16) := by kernel_rfl
def strs (l : List (List UInt8)) : List Value := l.map (fun b => .string (bytesOf b))

theorem own_any {w : World} {base : Nat} {e : TypeId} {size : Nat} {v : Value} {n : Nat} {xs : List Value} (h : w.ownsRow base e size v n xs) : w.ownsRow 0 e size v n xs := by
  obtain ⟨h1, h2⟩ := h
  refine ⟨h1, ?_⟩
  rcases h2 with h2 | ⟨g, cap, cur, hv, _, r⟩
  · exact .inl h2
  · exact .inr ⟨g, cap, cur, hv, Nat.zero_le _, r⟩
theorem hidOf' {p : Prop} (h : p) : Hid p := h
theorem own_base {w : World} {base : Nat} {e : TypeId} {size g cap n : Nat} {xs : List Value} (h : w.ownsRow base e size (.slice (some ⟨g, 0, none⟩) n cap) n xs) : base ≤ g := by
  rcases h.2 with ⟨h, _⟩ | ⟨g', cap', cur, e1, hb, _⟩
  · cases h
  · injection e1 with e1
    injection e1 with e1
    injection e1 with e1
    subst e1
    exact hb
theorem own_at {w : World} {base : Nat} {e : TypeId} {size g cap n : Nat} {xs : List Value} (h : w.ownsRow 0 e size (.slice (some ⟨g, 0, none⟩) n cap) n xs) (hb : base ≤ g) : w.ownsRow base e size (.slice (some ⟨g, 0, none⟩) n cap) n xs := by
  obtain ⟨h1, h2⟩ := h
  refine ⟨h1, ?_⟩
  rcases h2 with ⟨h, _⟩ | ⟨g', cap', cur, e1, _, r⟩
  · cases h
  · have e2 := e1
    injection e1 with e1
    injection e1 with e1
    injection e1 with e1
    subst e1
    exact .inr ⟨g, cap', cur, e2, hb, r⟩
theorem bytesOf_size (l : List UInt8) : (bytesOf l).size = l.length := by show l.toArray.size = _; simp
theorem own_cell' {w : World} {base : Nat} {e : TypeId} {size g cap n : Nat} {xs : List Value} (h : w.ownsRow base e size (.slice (some ⟨g, 0, none⟩) n cap) n xs) {j : Nat} {u : Value} (hu : xs[j]? = some u) : w.cell? ⟨g, j, none⟩ = some u := own_cell (own_any h) hu
theorem own_frozen' {w : World} {base : Nat} {e : TypeId} {size g cap n : Nat} {xs : List Value} (h : w.ownsRow base e size (.slice (some ⟨g, 0, none⟩) n cap) n xs) (j : Nat) : w.frozen? ⟨g, j, none⟩ = false := own_frozen (own_any h) j
theorem ownsRow_alloc {w : World} {base : Nat} {e : TypeId} {size : Nat} {v : Value} {n : Nat} {xs : List Value} (h : w.ownsRow base e size v n xs) (o : Obj) : (w.alloc o).ownsRow base e size v n xs := by
  obtain ⟨h1, h2⟩ := h
  refine ⟨h1, ?_⟩
  rcases h2 with h2 | ⟨g, cap, cur, hv, hb, hg, r⟩
  · exact .inl h2
  · refine .inr ⟨g, cap, cur, hv, hb, ?_, r⟩
    have hlt : g < w.heap.size := (Array.getElem?_eq_some_iff.1 hg).1
    rw [Below.heap_alloc _ _ _ hlt, hg]

set_option maxRecDepth 100000 in
set_option maxHeartbeats 4000000 in
theorem words_any (s : ByteArray) (w : World) (hs : s.size ≤ 2000000) :
    Calls Try.prog 35 #[.string s] w fun e w' => ∃ g cap, e = .returned (.slice (some ⟨g, 0, none⟩) (splitB s.data.toList).length cap) ∧ Below w.heap.size w w' ∧
      w'.ownsRow w.heap.size 9 1 (.slice (some ⟨g, 0, none⟩) (splitB s.data.toList).length cap) (splitB s.data.toList).length (strs (splitB s.data.toList)) := by
  obtain ⟨i0, hi, hz0, hz1, hz2⟩ := info_parts Try.infoString
  go_enter Try.func35, Try.ntmps35
  go_wp2
  go_loopw [3, 4] (fun l i w' => ∃ (k g cap : Nat) (ws : List (List UInt8)) (x : List UInt8), k ≤ s.size ∧ i = .int .i64 k ∧ l = .slice (some ⟨g, 0, none⟩) (ws.length + 1) cap ∧ Below w.heap.size w w' ∧ Hid (splitB (s.data.toList.take k) = ws ++ [x]) ∧ ws.length ≤ k ∧
      Hid (w'.ownsRow w.heap.size 9 1 (.slice (some ⟨g, 0, none⟩) (ws.length + 1) cap) (ws.length + 1) (strs (ws ++ [x])))) (fun _ i _ => s.size + 1 - (intOf i).toNat)
  case atStart =>
    refine ⟨0, w.heap.size, 1, [], [], Nat.zero_le _, rfl, rfl, (Below.refl _ _).alloc (Nat.le_refl _) _, by unfold Hid; simp [splitB], Nat.le_refl _, ?_⟩
    exact ⟨rfl, .inr ⟨w.heap.size, 1, _, rfl, Nat.le_refl _, Go.heap_alloc_new w _, by simp, by unfold maxLen; simp, rfl, rfl⟩⟩
  case round =>
    obtain ⟨k, g, cap, ws, x, hk, rfl, rfl, hb, hsp, hwk, hown⟩ := hrel
    by_cases hlt : k < s.size
    · by_cases hc : (s[k].toNat : Int) = 32
      · have hs2 : Hid (splitB (s.data.toList.take (k + 1)) = (ws ++ [x]) ++ [[]]) := by
          unfold Hid
          have e : s[k] = 32 := by apply UInt8.toNat.inj; show s[k].toNat = 32; omega
          rw [take_snoc s k hlt, e, splitB_blank, hsp.out]
        have hc' : ((s[k].toNat : Int) == 32) = true := by simpa using hc
        have hw2 : (ws ++ [x]).length = ws.length + 1 := by simp
        clear hc
        go_wp2_with (at_builtin; refine wpList_append_lies _ rfl _ _ _ rfl w.heap.size 9 i0 _ 1 16 Try.underlying98 hi hz0 hz1 hz2 rfl (by omega) (.slice (some ⟨g, 0, none⟩) (ws.length + 1) cap) (ws.length + 1) (strs (ws ++ [x])) rfl (by exact ownsRow_alloc hown.out _) ⟨wr.heap.size, 0, none⟩ 1 1 [.string ⟨#[]⟩] rfl rfl (by exact World.news_of_block (Go.heap_alloc_new wr _)) (by intro u hu; simp at hu; subst hu; rfl) (by omega) (by unfold maxLen; omega) (by omega) (by have := hb.size; simp; omega) (wr.heap.size + 1) (by simp) ?_; intro g' cap' w1 hown1 hgrow hat hlt')
        have hown2 : Hid (w1.ownsRow w.heap.size 9 1 (.slice (some ⟨g', 0, none⟩) ((ws ++ [x]).length + 1) cap') ((ws ++ [x]).length + 1) (strs ((ws ++ [x]) ++ [[]]))) := by
          unfold Hid
          rw [hw2]
          have e : strs ((ws ++ [x]) ++ [[]]) = strs (ws ++ [x]) ++ [.string ⟨#[]⟩] := by simp [strs, bytesOf]
          rw [e]
          exact hown1
        have hbase := own_base hown.out
        have hb2 : Below w.heap.size w w1 := by
          refine (hb.alloc hb.size _).grown hgrow (by have := hb.size; simp; omega) (fun r hr => ?_)
          have e : g = r := by simpa [Value.ownBlock] using hr
          omega
        exact ⟨⟨k + 1, g', cap', ws ++ [x], [], by omega, by go_num, by rw [hw2], hb2, hs2, by rw [hw2]; omega, hown2⟩, by simp [intOf]; omega⟩
      · have hs2 : Hid (splitB (s.data.toList.take (k + 1)) = ws ++ [x ++ [s[k]]]) := by
          unfold Hid
          rw [take_snoc s k hlt]
          exact splitB_other _ _ (fun e => hc (by rw [e]; rfl)) ws x hsp.out
        have hc' : ((s[k].toNat : Int) == 32) = false := by simpa using hc
        have c0 : wr.cell? ⟨g, ws.length, none⟩ = some (.string (bytesOf x)) := own_cell' hown.out (by simp [strs])
        have fz : wr.frozen? ⟨g, ws.length, none⟩ = false := own_frozen' hown.out _
        have hx : x.length ≤ 2000000 := by
          have h1 := splitB_sizes (s.data.toList.take k) x (by rw [hsp.out]; simp)
          have h2 : (s.data.toList.take k).length ≤ k := List.length_take_le _ _
          omega
        have hcat : ∀ w, (Op.stringOp .add (bytesOf x) (s.extract k (k + 1))).run Try.prog w = .ok (.string (bytesOf (x ++ [s[k]]))) w := by
          intro w
          rw [run_string_add_sum w _ _ (by rw [bytesOf_size, ByteArray.size_extract]; omega), bytesOf_push x s k hlt]
        have hin : (0 : Int) ≤ (ws.length : Int) := by omega
        clear hc
        have hown2 : Hid ((wr.setCell ⟨g, ws.length, none⟩ (.string (bytesOf (x ++ [s[k]])))).drew.ownsRow w.heap.size 9 1 (.slice (some ⟨g, 0, none⟩) (ws.length + 1) cap) (ws.length + 1) (strs (ws ++ [x ++ [s[k]]]))) := by
          have o := own_set (own_any hown.out) ws.length (.string (bytesOf (x ++ [s[k]]))) (by omega)
          have e : (strs (ws ++ [x])).set ws.length (.string (bytesOf (x ++ [s[k]]))) = strs (ws ++ [x ++ [s[k]]]) := by
            simp only [strs, List.map_append, List.map_cons, List.map_nil]
            rw [List.set_append_right _ _ (by simp)]
            simp
          rw [e] at o
          exact own_at o (own_base hown.out)
        have hb2 := hidOf' ((hb.setCell (p := ⟨g, ws.length, none⟩) (own_base hown.out) (.string (bytesOf (x ++ [s[k]])))).drew)
        clear hown
        go_wp2
        go_region
        go_wp2
        exact ⟨⟨k + 1, g, cap, ws, x ++ [s[k]], by omega, by go_num, rfl, hb2.out, hs2, by omega, hown2⟩, by simp [intOf]; omega⟩
    · have he : k = s.size := by omega
      have G : Hid (splitB s.data.toList = ws ++ [x]) := by
        unfold Hid
        rw [← hsp.out, he, List.take_of_length_le (by simp)]
      have HO := hown
      clear he hsp hown
      go_wp2
      go_ret
      rw [G.out]
      exact ⟨g, cap, by simp, hb, by simpa using HO.out⟩
end Go.Proofs.Ytdpmadoccimgcaa

/-
  What an order comes to, said plainly, where no lot is open.
-/
namespace Go.Proofs.Ytdpmadoccimgcaa
open Go.RowKit

theorem ixOf_at {α : Type} (p : α → Bool) (l : List α) (h : ¬ ixOf p l < 0) : ∃ k : Nat, ixOf p l = k ∧ k < l.length := by
  induction l with
  | nil => simp [ixOf] at h
  | cons a l ih =>
    simp only [ixOf] at h ⊢
    split
    · exact ⟨0, rfl, by simp⟩
    · rename_i hp
      rw [if_neg hp] at h
      split
      · rename_i hn
        rw [if_pos hn] at h
        omega
      · rename_i hn
        obtain ⟨k, e, hk⟩ := ih hn
        exact ⟨k + 1, by rw [e]; simp, by simpa using hk⟩

def plainW : List (List UInt8) := [[103, 111], [108, 101, 102, 116], [114, 105, 103, 104, 116], [98, 97, 99, 107], [100, 105, 103], [115, 101, 108, 108]]
def plainB (b : List UInt8) : Bool := amongB (plainW.map bytesOf) (bytesOf b)
def namingB (b : List UInt8) : Bool := b == [98, 117, 105, 108, 100] || b == [99, 97, 108, 108]
def bidW : List UInt8 := [98, 105, 100]

/-- The unit called a is told to b, with c. -/
def tellS (s : SWorld) (n : Nat) (p : SPlayer) (a b c : List UInt8) : Int × SWorld :=
  if unitIx p.units (bytesOf a) < 0 then (3, s)
  else match p.units[(unitIx p.units (bytesOf a)).toNat]? with
    | none => (3, s)
    | some u => (0, s.setPl n { p with units := p.units.set (unitIx p.units (bytesOf a)).toNat { u with what := bytesOf b, arg := bytesOf c } })
/-- What Order answers, and the world behind it, where no lot is open: the text's words. -/
def wordsS (s : SWorld) (n : Nat) (p : SPlayer) (ws : List (List UInt8)) : Int × SWorld := match ws with
  | [a, b] => if nameB a && plainB b then tellS s n p a b [] else (2, s)
  | [a, b, c] =>
    if a == bidW && nameB b && decide (0 ≤ numberI c) then (3, s)
    else if nameB a && nameB c && namingB b then tellS s n p a b c else (2, s)
  | _ => (2, s)
def orderS (s : SWorld) (n : Int) (text : List UInt8) : Int × SWorld :=
  if 0 ≤ n ∧ n < s.players.length then match s.players[n.toNat]? with
    | none => (1, s)
    | some p => wordsS s n.toNat p (splitB text)
  else (1, s)

end Go.Proofs.Ytdpmadoccimgcaa

/-
  The functions Money and Order of package hazeref, where no lot is open.
-/
namespace Go.Proofs.Ytdpmadoccimgcaa
open Go.RowKit
attribute [local go_sem] Go.wp_at_zero Go.wp_at_succ

theorem ret_t2 {a a' b b' : Int} (h1 : a = a') (h2 : b = b') : Ending.returned (.tuple #[.int .i64 a, .int .i64 b]) = .returned (.tuple #[.int .i64 a', .int .i64 b']) := by rw [h1, h2]
def moneyS (s : SWorld) (n : Int) : Int × Int := if 0 ≤ n ∧ n < s.players.length then match s.players[n.toNat]? with
    | none => (0, 1)
    | some p => (p.money, 0)
  else (0, 1)

theorem inB_pl (n : Int) (m : Nat) : inB n 0 ((m : Int) - 1) = decide (0 ≤ n ∧ n < m) := by
  simp only [inB]
  by_cases h : 0 ≤ n <;> by_cases h' : n < m <;> simp [h, h'] <;> omega

set_option maxRecDepth 100000 in
set_option maxHeartbeats 1000000 in
theorem rmoney_any (w : World) (Y : YW) (M : Int) (n : Int) (hr : RepY w Y) (hf : WFS Y.S M) :
    Calls Try.prog 21 #[.pointer (some ⟨Y.b, 0, none⟩), .int .i64 n] w fun e w' => e = .returned (.tuple #[.int .i64 (moneyS Y.S n).1, .int .i64 (moneyS Y.S n).2]) ∧ w' = w := by
  have hpl : Y.S.players.length = Y.pls.length := by simp [YW.S]
  have h4 := hf.pl
  rw [hpl] at h4
  rcases own_form hr.pl with ⟨_, h0, _⟩ | ⟨pb, pcap, hvp, hpc, hpm, hpb⟩
  · omega
  unfold maxLen at hpm
  have c5 : w.cell? ⟨Y.b, 5, none⟩ = some (.slice (some ⟨pb, 0, none⟩) Y.pls.length pcap) := by rw [← hvp]; exact hr.cellTop rfl
  by_cases hn : 0 ≤ n ∧ n < Y.pls.length
  · obtain ⟨hn0, hn1⟩ := hn
    obtain ⟨k, rfl⟩ := Int.eq_ofNat_of_zero_le hn0
    obtain ⟨p, v, hq⟩ := at_of_lt (Y := Y) (n := k) (by omega)
    have m0 := (hr.plCell hq hvp).1
    have hi : inB (k : Int) 0 ((Y.pls.length : Int) - 1) = true := by rw [inB_pl]; simp; omega
    have HM : Hid (moneyS Y.S k = (p.money, 0)) := by
      unfold Hid moneyS
      rw [if_pos (by rw [hpl]; omega), Int.toNat_natCast, S_at hq]
    clear hq hvp hpl
    go_enter Try.func21, Try.ntmps21
    go_wp2_with (go_at_call 29; refine (within_any _ _ _ _).mono ?_; rintro e w' ⟨rfl, rfl⟩)
    go_ret2
    exact ⟨ret_t2 (by rw [HM.out]) (by rw [HM.out]), rfl⟩
  · have hi : inB n 0 ((Y.pls.length : Int) - 1) = false := by rw [inB_pl]; exact decide_eq_false hn
    have HM : Hid (moneyS Y.S n = (0, 1)) := by
      unfold Hid moneyS
      rw [if_neg (by rw [hpl]; exact hn)]
    clear hn hpl
    go_enter Try.func21, Try.ntmps21
    go_wp2_with (go_at_call 29; refine (within_any _ _ _ _).mono ?_; rintro e w' ⟨rfl, rfl⟩)
    go_ret2
    exact ⟨ret_t2 (by rw [HM.out]) (by rw [HM.out]), rfl⟩
end Go.Proofs.Ytdpmadoccimgcaa

/-
  The function Order of package hazeref, where no lot is open: a text of one word, or of more than three.
-/
namespace Go.Proofs.Ytdpmadoccimgcaa
open Go.RowKit
attribute [local go_sem] Go.wp_at_zero Go.wp_at_succ
set_option maxRecDepth 100000 in
set_option maxHeartbeats 4000000 in
theorem rorder_bad (w : World) (Y : YW) (M : Int) (k : Nat) (p : SPlayer) (v : PV) (text : ByteArray) (hr : RepY w Y) (hf : WFS Y.S M) (hl : Y.lots = []) (hs : text.size ≤ 2000000) (hq : Y.pls[k]? = some (p, v)) (a : List UInt8) (r : List (List UInt8)) (hws : splitB text.data.toList = a :: r) (hrl : r.length = 0 ∨ 2 < r.length) :
    Calls Try.prog 17 #[.pointer (some ⟨Y.b, 0, none⟩), .int .i64 k, .string text] w fun e w' => e = .returned (.int .i64 (wordsS Y.S k p (splitB text.data.toList)).1) ∧ ∃ Y', Turn w Y w' Y' ∧ Y'.S = (wordsS Y.S k p (splitB text.data.toList)).2 := by
  have HR : Hid (wordsS Y.S k p (a :: r) = (2, Y.S)) := by
    unfold Hid wordsS
    match r, hrl with
    | [], _ => rfl
    | [_], h => simp at h
    | [_, _], h => simp at h
    | _ :: _ :: _ :: _, _ => rfl
  have hrl' : (r.length : Int) + 1 < 2 ∨ 3 < (r.length : Int) + 1 := by omega
  obtain ⟨hn, he⟩ := at_some hq
  have hmem : (p, v) ∈ Y.pls := by rw [← he]; exact List.getElem_mem hn
  clear he
  have hw := WF.of hf
  rcases own_form hr.pl with ⟨_, h0, _⟩ | ⟨pb, pcap, hvp, hpc, hpm, hpb⟩
  · omega
  unfold maxLen at hpm
  have c5 : w.cell? ⟨Y.b, 5, none⟩ = some (.slice (some ⟨pb, 0, none⟩) Y.pls.length pcap) := by rw [← hvp]; exact hr.cellTop rfl
  have hi : inB (k : Int) 0 ((Y.pls.length : Int) - 1) = true := by rw [inB_pl]; simp; omega
  have h4 := hw.pl
  have HW := hidOf (words_any text w hs)
  rw [hws] at HW
  rw [hws]
  have hsz : ∀ x ∈ splitB text.data.toList, x.length ≤ 2000000 := by
    intro x hx
    have h1 := splitB_sizes _ x hx
    have h2 : text.data.toList.length = text.size := by simp
    omega
  rw [hws] at hsz
  have HQ := hidOf hq
  have HVP := hidOf hvp
  clear hq hvp hws
  go_enter Try.func17, Try.ntmps17
  go_wp2_with fail
  refine (within_any _ _ _ _).mono ?_
  rintro e w' ⟨rfl, h⟩
  rw [h]
  clear h w'
  go_wp2_with fail
  refine HW.out.mono ?_
  rintro e w1 ⟨g, cap, rfl, hb, hown⟩
  have T1 := hidOf ((Turn.refl hr).below hb)
  have e0 : w1.cell? ⟨g, 0, none⟩ = some (.string (bytesOf a)) := own_cell' hown rfl
  have s0 : (bytesOf a).size ≤ maxLen := by rw [bytesOf_size]; have := hsz a (by simp); unfold maxLen; omega
  clear HW hb
  cases ha : nameB a
  · go_wp2_with fail
    refine (name_any (bytesOf a) _ s0).mono ?_
    rintro e w' ⟨rfl, h⟩
    rw [h, bytesOf_toList, ha]
    clear h w'
    go_wp2
    go_ret
    exact ⟨ret_int (by rw [HR.out]), Y, T1.out, by rw [HR.out]⟩
  · rcases hrl' with hL | hL
    all_goals
      go_wp2_with fail
      refine (name_any (bytesOf a) _ s0).mono ?_
      rintro e w' ⟨rfl, h⟩
      rw [h, bytesOf_toList, ha]
      clear h w'
      go_wp2
      go_ret
      exact ⟨ret_int (by rw [HR.out]), Y, T1.out, by rw [HR.out]⟩
end Go.Proofs.Ytdpmadoccimgcaa
