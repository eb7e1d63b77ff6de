/-
  The function Order of package hazeref, where no lot is open, whatever the text.
-/
import Derived.Test.YtdpmadoccimgcaaT08
import Derived.Test.YtdpmadoccimgcaaT09
import Derived.Test.YtdpmadoccimgcaaT10
import Derived.Test.YtdpmadoccimgcaaT04
import Derived.Test.YtdpmadoccimgcaaT07
import Derived.Test.YtdpmadoccimgcaaT02
import Derived.Deep.QuietTactic
import Derived.BigQuiet
set_option linter.unusedVariables false
namespace Go.Proofs.Ytdpmadoccimgcaa
open Go.RowKit

set_option maxRecDepth 100000 in
set_option maxHeartbeats 1000000 in
theorem rorder_arg (w : World) (Y : YW) (M : Int) (n : Int) (text : ByteArray) (hr : RepY w Y) (hf : WFS Y.S M) (hn : ¬ (0 ≤ n ∧ n < Y.pls.length)) :
    Calls Try.prog 17 #[.pointer (some ⟨Y.b, 0, none⟩), .int .i64 n, .string text] w fun e w' => e = .returned (.int .i64 1) ∧ w' = w := by
  have h4 := (WF.of hf).pl
  rcases own_form hr.pl with ⟨_, h0, _⟩ | ⟨pb, pcap, hvp, hpc, hpm, hpb⟩
  · omega
  unfold maxLen at hpm
  have c5 : w.cell? ⟨Y.b, 5, none⟩ = some (.slice (some ⟨pb, 0, none⟩) Y.pls.length pcap) := by rw [← hvp]; exact hr.cellTop rfl
  have hi : inB n 0 ((Y.pls.length : Int) - 1) = false := by rw [inB_pl]; exact decide_eq_false hn
  clear hn hvp
  go_enter Try.func17, Try.ntmps17
  go_wp2_with (go_at_call 29; refine (within_any _ _ _ _).mono ?_; rintro e w' ⟨rfl, rfl⟩)
  go_ret
  exact ⟨rfl, rfl⟩

theorem rorder_any (w : World) (Y : YW) (M : Int) (n : Int) (text : ByteArray) (hr : RepY w Y) (hf : WFS Y.S M) (hl : Y.lots = []) (hs : text.size ≤ 2000000) :
    Calls Try.prog 17 #[.pointer (some ⟨Y.b, 0, none⟩), .int .i64 n, .string text] w fun e w' => e = .returned (.int .i64 (orderS Y.S n text.data.toList).1) ∧ ∃ Y', Turn w Y w' Y' ∧ Y'.S = (orderS Y.S n text.data.toList).2 := by
  have hpl : Y.S.players.length = Y.pls.length := by simp [YW.S]
  by_cases hn : 0 ≤ n ∧ n < Y.pls.length
  · obtain ⟨hn0, hn1⟩ := hn
    obtain ⟨k, rfl⟩ := Int.eq_ofNat_of_zero_le hn0
    obtain ⟨p, v, hq⟩ := at_of_lt (Y := Y) (n := k) (by omega)
    have e : orderS Y.S k text.data.toList = wordsS Y.S k p (splitB text.data.toList) := by
      unfold orderS
      rw [if_pos (by rw [hpl]; omega), Int.toNat_natCast, S_at hq]
    rw [e]
    have hne := splitB_ne text.data.toList
    match hws : splitB text.data.toList with
    | [] => exact absurd hws hne
    | [a] => rw [← hws]; exact rorder_bad w Y M k p v text hr hf hl hs hq a [] hws (.inl rfl)
    | [a, b] => rw [← hws]; exact rorder_two w Y M k p v text hr hf hl hs hq a b hws
    | [a, b, c] =>
      rw [← hws]
      cases hb : (a == bidW)
      · exact rorder_three w Y M k p v text hr hf hl hs hq a b c hws hb
      · rw [beq_iff_eq] at hb
        subst hb
        exact rorder_bid w Y M k p v text hr hf hl hs hq b c hws
    | a :: b :: c :: d :: r => rw [← hws]; exact rorder_bad w Y M k p v text hr hf hl hs hq a (b :: c :: d :: r) hws (.inr (by simp))
  · have e : orderS Y.S n text.data.toList = (1, Y.S) := by
      unfold orderS
      rw [if_neg (by rw [hpl]; exact hn)]
    rw [e]
    refine (rorder_arg w Y M n text hr hf hn).mono ?_
    rintro e w' ⟨rfl, rfl⟩
    exact ⟨rfl, Y, Turn.refl hr, rfl⟩

end Go.Proofs.Ytdpmadoccimgcaa

/-
  Spots that lie in the world, no two at one place, said plainly.
-/
namespace Go.Proofs.Ytdpmadoccimgcaa
open Go.RowKit

def okSpot (W H : Int) (s : SSpot) : Bool := inB s.x 0 (W - 1) && inB s.y 0 (H - 1)
def sameXY (a b : SSpot) : Bool := decide (a.x = b.x) && decide (a.y = b.y)
def apartGo (W H : Int) : List SSpot → List SSpot → Bool
  | _, [] => true
  | pre, s :: r => okSpot W H s && !(pre.any (fun a => sameXY a s)) && apartGo W H (pre ++ [s]) r
def apartB (l : List SSpot) (W H : Int) : Bool := apartGo W H [] l

theorem apart_step (W H : Int) (l : List SSpot) (k : Nat) (hk : k < l.length) :
    apartGo W H (l.take k) (l.drop k) = (okSpot W H l[k] && !((l.take k).any (fun a => sameXY a l[k])) && apartGo W H (l.take (k + 1)) (l.drop (k + 1))) := by
  rw [List.drop_eq_getElem_cons hk, List.take_succ_eq_append_getElem hk]
  rfl

end Go.Proofs.Ytdpmadoccimgcaa

/-
  The function apart of package hazeref: do spots lie in the world, no two at one place?
-/
namespace Go.Proofs.Ytdpmadoccimgcaa
open Go.RowKit

set_option maxRecDepth 100000 in
set_option maxHeartbeats 2000000 in
theorem rapart_any (w : World) (v : Value) (l : List SSpot) (W H : Int) (hv : SpIn w v l) (hl : l.length ≤ 2000000) (hW : 0 ≤ W ∧ W ≤ 100) (hH : 0 ≤ H ∧ H ≤ 100) :
    Calls Try.prog 30 #[v, .int .i64 W, .int .i64 H] w fun e w' => e = .returned (.bool (apartB l W H)) ∧ ∃ n, w' = w.drewN n := by
  obtain ⟨ao, cap, rfl, hsrc⟩ := hv
  obtain ⟨hW0, hW1⟩ := hW
  obtain ⟨hH0, hH1⟩ := hH
  go_enter Try.func30, Try.ntmps30
  go_wp2
  go_loopw [7] (fun i w' => ∃ k n : Nat, k ≤ l.length ∧ i = .int .i64 k ∧ w' = w.drewN n ∧ Hid (apartB l W H = apartGo W H (l.take k) (l.drop k))) (fun i _ => l.length + 1 - (intOf i).toNat)
  case atStart => exact ⟨0, 0, Nat.zero_le _, rfl, rfl, by unfold Hid; simp [apartB]⟩
  case round =>
    obtain ⟨k, n, hk, rfl, rfl, ha⟩ := hrel
    by_cases hlt : k < l.length
    · obtain ⟨b, off, rfl, hb, hc⟩ := hsrc (by omega)
      have f := fun j (hj : j < 3) => flat_at spotCells 3 (fun _ => rfl) l k j hlt hj
      have d0 : w.cell? ⟨b, off + k * 3, none⟩ = some (.int .i64 l[k].x) := hc (k * 3 + 0) _ (f 0 (by omega))
      have d1 : w.cell? ⟨b, off + k * 3 + 1, none⟩ = some (.int .i64 l[k].y) := hc (k * 3 + 1) _ (f 1 (by omega))
      have st := apart_step W H l k hlt
      cases hx : inB l[k].x 0 (W - 1)
      · have G : Hid (apartB l W H = false) := by unfold Hid; rw [ha.out, st]; simp [okSpot, hx]
        go_wp2_with (go_at_call 29; refine (within_any _ _ _ _).mono ?_; rintro e w' ⟨rfl, rfl⟩)
        go_ret
        exact ⟨ret_bool G.out.symm, _, rfl⟩
      · cases hy : inB l[k].y 0 (H - 1)
        · have G : Hid (apartB l W H = false) := by unfold Hid; rw [ha.out, st]; simp [okSpot, hy]
          go_wp2_with (go_at_call 29; refine (within_any _ _ _ _).mono ?_; rintro e w' ⟨rfl, rfl⟩)
          go_ret
          exact ⟨ret_bool G.out.symm, _, rfl⟩
        · go_wp2_with (go_at_call 29; refine (within_any _ _ _ _).mono ?_; rintro e w' ⟨rfl, rfl⟩)
          go_loopw [8] (fun i w' => ∃ j m : Nat, j ≤ k ∧ i = .int .i64 j ∧ w' = w.drewN m ∧ Hid (noneTo (fun a => sameXY a l[k]) l j)) (fun i _ => k + 1 - (intOf i).toNat)
          case atStart => exact ⟨0, n, Nat.zero_le _, rfl, rfl, noneTo_zero _ _⟩
          case round =>
            obtain ⟨j, m, hj, rfl, rfl, hn⟩ := hrel
            by_cases hlt1 : j < k
            · have f' := fun i (hi : i < 3) => flat_at spotCells 3 (fun _ => rfl) l j i (by omega) hi
              have g0 : w.cell? ⟨b, off + j * 3, none⟩ = some (.int .i64 l[j].x) := hc (j * 3 + 0) _ (f' 0 (by omega))
              have g1 : w.cell? ⟨b, off + j * 3 + 1, none⟩ = some (.int .i64 l[j].y) := hc (j * 3 + 1) _ (f' 1 (by omega))
              have i0 : (0 : Int) ≤ (k : Int) := by omega
              have i1 : (k : Int) < (l.length : Int) := by omega
              have i2 : (0 : Int) ≤ (j : Int) := by omega
              have i3 : (j : Int) < (l.length : Int) := by omega
              by_cases ex : l[j].x = l[k].x
              · have ex' : (l[j].x == l[k].x) = true := by simpa using ex
                by_cases ey : l[j].y = l[k].y
                · have ey' : (l[j].y == l[k].y) = true := by simpa using ey
                  have G : Hid (apartB l W H = false) := by
                    unfold Hid
                    rw [ha.out, st]
                    have : (l.take k).any (fun a => sameXY a l[k]) = true := List.any_eq_true.2 ⟨l[j], List.mem_take_iff_getElem.2 ⟨j, by omega, rfl⟩, by simp [sameXY, ex, ey]⟩
                    simp [this]
                  clear ex ey f f' st hc
                  go_wp2
                  go_quiet (fail)
                  go_wp2
                  go_ret
                  exact ⟨ret_bool G.out.symm, m + nq, by simp [World.drewN, Nat.add_assoc]⟩
                · have ey' : (l[j].y == l[k].y) = false := by simpa using ey
                  have hn' : Hid _ := noneTo_succ hn.out (by omega) (by simp [sameXY, ey])
                  clear ex ey f f' st hc
                  go_wp2
                  go_quiet (fail)
                  go_wp2
                  exact ⟨⟨j + 1, m + nq, by omega, by go_num, rfl, hn'⟩, by simp [intOf]; omega⟩
              · have ex' : (l[j].x == l[k].x) = false := by simpa using ex
                have hn' : Hid _ := noneTo_succ hn.out (by omega) (by simp [sameXY, ex])
                clear ex f f' st hc
                go_wp2
                go_quiet (fail)
                go_wp2
                exact ⟨⟨j + 1, m + nq, by omega, by go_num, rfl, hn'⟩, by simp [intOf]; omega⟩
            · have G : Hid (apartB l W H = apartGo W H (l.take (k + 1)) (l.drop (k + 1))) := by
                unfold Hid
                rw [ha.out, st]
                have : (l.take k).any (fun a => sameXY a l[k]) = false := by
                  refine any_miss _ _ (fun i hi => ?_)
                  have hi' : i < k := by simp at hi; omega
                  simpa using hn.out i (by omega) (by omega)
                simp [this, okSpot, hx, hy]
              go_wp2
              exact ⟨⟨k + 1, m, by omega, by go_num, rfl, G⟩, by simp [intOf]; omega⟩
    · have G : Hid (apartB l W H = true) := by unfold Hid; rw [ha.out, List.drop_of_length_le (by omega)]; rfl
      go_wp2
      go_ret
      exact ⟨ret_bool G.out.symm, _, rfl⟩
end Go.Proofs.Ytdpmadoccimgcaa

/-
  The function still of package hazelaw: spots that were lent stand as they did; then they are written over.
-/
namespace Go.Proofs.Ytdpmadoccimgcaa
open Go.RowKit

/-- A row of cells, whatever they hold. -/
def RowIs (w : World) (g n : Nat) : Prop := ∃ cur : Array Value, w.heap[g]? = some (.cells cur 51 (0, 0)) ∧ cur.size = n
theorem RowIs.cell {w : World} {g n : Nat} (h : RowIs w g n) (j : Nat) (hj : j < n) : ∃ v, w.cell? ⟨g, j, none⟩ = some v := by
  obtain ⟨cur, h1, h2⟩ := h
  refine ⟨cur[j]'(by omega), ?_⟩
  simp [World.cell?, h1, h2, hj]
theorem RowIs.frozen {w : World} {g n : Nat} (h : RowIs w g n) (j : Nat) : w.frozen? ⟨g, j, none⟩ = false := by
  obtain ⟨cur, h1, h2⟩ := h
  simp [World.frozen?, h1]
theorem RowIs.set {w : World} {g n : Nat} (h : RowIs w g n) (j : Nat) (u : Value) : RowIs (w.setCell ⟨g, j, none⟩ u) g n := by
  obtain ⟨cur, h1, h2⟩ := h
  refine ⟨cur.setIfInBounds j u, ?_, by simpa using h2⟩
  simp only [World.setCell, Array.getElem?_modify, h1]
  simp
theorem RowIs.of {w : World} {g n cap : Nat} {xs : List Value} (h : w.ownsRow 0 51 3 (.slice (some ⟨g, 0, none⟩) n cap) n xs) (hc : cap = n) : RowIs w g (n * 3) := by
  rcases h.2 with ⟨h, _⟩ | ⟨g', cap', cur, e1, _, hb, _, _, hs, _⟩
  · cases h
  · injection e1 with e1 _ e3
    injection e1 with e1
    injection e1 with e1
    subst e1 e3 hc
    exact ⟨cur, hb, hs⟩
theorem RowIs.drewN {w : World} {g n : Nat} (h : RowIs w g n) (m : Nat) : RowIs (w.drewN m) g n := h

set_option maxRecDepth 100000 in
set_option maxHeartbeats 2000000 in
theorem still_any (w : World) (g : Nat) (v : Value) (l : List SSpot) (hv : SpIn w v l) (hl : l.length ≤ 2000000)
    (ho : w.ownsRow 0 51 3 (.slice (some ⟨g, 0, none⟩) (l.length + 2) (l.length + 2)) (l.length + 2) ((lentL l).flatMap spotCells)) :
    Calls Try.prog 12 #[.slice (some ⟨g, 0, none⟩) (l.length + 2) (l.length + 2), v] w fun e w' => e = .returned (.bool true) ∧ Kept [g] w w' := by
  obtain ⟨ao, cap, rfl, hsrc⟩ := hv
  have hrow := hidB (RowIs.of ho rfl)
  have fl := fun k j (hk : k < (lentL l).length) (hj : j < 3) => flat_at spotCells 3 (fun _ => rfl) (lentL l) k j hk hj
  have hll : (lentL l).length = l.length + 2 := by simp [lentL]
  have g0 : (lentL l)[l.length]'(by omega) = ⟨77, 0, 0⟩ := by simp [lentL]
  have g1 : (lentL l)[l.length + 1]'(by omega) = ⟨78, 0, 0⟩ := by simp [lentL]
  have c0 : w.cell? ⟨g, l.length * 3, none⟩ = some (.int .i64 77) := own_cell ho (by have := fl l.length 0 (by omega) (by omega); rw [g0] at this; exact this)
  have c1 : w.cell? ⟨g, (l.length + 1) * 3, none⟩ = some (.int .i64 78) := own_cell ho (by have := fl (l.length + 1) 0 (by omega) (by omega); rw [g1] at this; exact this)
  have HO := hidB ho
  have HG : Hid (∀ k (hk : k < l.length), (lentL l)[k]'(by omega) = l[k]) := by
    intro k hk
    simp [lentL, List.getElem_append_left hk]
  have FL := hidB fl
  clear ho fl g0 g1
  go_enter Try.func12, Try.ntmps12
  go_wp2
  go_loopw [5, 6] (fun o i w' => ∃ k n : Nat, k ≤ l.length ∧ o = .bool true ∧ i = .int .i64 k ∧ w' = w.drewN n) (fun _ i _ => l.length + 1 - (intOf i).toNat)
  case atStart => exact ⟨0, 0, Nat.zero_le _, rfl, rfl, rfl⟩
  case round =>
    obtain ⟨k, n, hk, rfl, rfl, rfl⟩ := hrel
    by_cases hlt : k < l.length
    · obtain ⟨b, off, rfl, hb, hc⟩ := hsrc (by omega)
      have f := fun j (hj : j < 3) => flat_at spotCells 3 (fun _ => rfl) l k j hlt hj
      have d0 : w.cell? ⟨b, off + k * 3, none⟩ = some (.int .i64 l[k].x) := hc (k * 3 + 0) _ (f 0 (by omega))
      have d1 : w.cell? ⟨b, off + k * 3 + 1, none⟩ = some (.int .i64 l[k].y) := hc (k * 3 + 1) _ (f 1 (by omega))
      have d2 : w.cell? ⟨b, off + k * 3 + 2, none⟩ = some (.int .i64 l[k].amount) := hc (k * 3 + 2) _ (f 2 (by omega))
      have a0 : w.cell? ⟨g, k * 3, none⟩ = some (.int .i64 l[k].x) := own_cell HO.out (by have h := FL.out k 0 (by omega) (by omega); rw [HG.out k hlt] at h; exact h)
      have a1 : w.cell? ⟨g, k * 3 + 1, none⟩ = some (.int .i64 l[k].y) := own_cell HO.out (by have h := FL.out k 1 (by omega) (by omega); rw [HG.out k hlt] at h; exact h)
      have a2 : w.cell? ⟨g, k * 3 + 2, none⟩ = some (.int .i64 l[k].amount) := own_cell HO.out (by have h := FL.out k 2 (by omega) (by omega); rw [HG.out k hlt] at h; exact h)
      clear f hc
      have i0 : (0 : Int) ≤ (k : Int) := by omega
      have i1 : (k : Int) < (l.length : Int) := by omega
      have i2 : (k : Int) < (l.length : Int) + 2 := by omega
      go_wp2
      go_quiet (fail)
      go_wp2
      exact ⟨⟨k + 1, n + nq, by omega, rfl, by go_num, rfl⟩, by simp [intOf]; omega⟩
    · clear c0 c1 hsrc hll HO HG FL
      go_wp2
      go_loopw [7] (fun i w' => ∃ k : Nat, k ≤ l.length + 2 ∧ i = .int .i64 k ∧ Hid (RowIs w' g ((l.length + 2) * 3)) ∧ Hid (Kept [g] w w')) (fun i _ => l.length + 3 - (intOf i).toNat)
      case atStart => exact ⟨0, Nat.zero_le _, rfl, hrow.out.drewN n, ⟨rfl, rfl, rfl, Nat.le_refl _, fun _ _ _ => rfl⟩⟩
      case round =>
        obtain ⟨j, hj, rfl, hr1, hk1⟩ := hrel
        by_cases hlt1 : j < l.length + 2
        · obtain ⟨v0, e0⟩ := hr1.out.cell (j * 3) (by omega)
          obtain ⟨v1, e1⟩ := hr1.out.cell (j * 3 + 1) (by omega)
          obtain ⟨v2, e2⟩ := hr1.out.cell (j * 3 + 2) (by omega)
          have fz := hr1.out.frozen
          have hr2 := hidB (((hr1.out.set (j * 3) (.int .i64 1)).set (j * 3 + 1) (.int .i64 1)).set (j * 3 + 2) (.int .i64 9))
          have hk2 := hidB (((hk1.out.setCell g (j * 3) (.int .i64 1) (.inl (by simp))).setCell g (j * 3 + 1) (.int .i64 1) (.inl (by simp))).setCell g (j * 3 + 2) (.int .i64 9) (.inl (by simp)))
          go_wp2
          exact ⟨⟨j + 1, by omega, by go_num, hr2, hk2⟩, by simp [intOf]; omega⟩
        · go_wp2
          go_ret
          exact ⟨rfl, hk1.out⟩
end Go.Proofs.Ytdpmadoccimgcaa

/-
  What becomes of the document's world in memory where it gets a spot of ore more, or a player more; what New makes, said plainly.
-/
namespace Go.Proofs.Ytdpmadoccimgcaa
open Go.RowKit

def YW.addOre (y : YW) (s : SSpot) (v : Value) : YW := { y with ore := y.ore ++ [s], vOre := v }
def YW.addPl (y : YW) (q : SPlayer × PV) (v : Value) : YW := { y with pls := y.pls ++ [q], vPl := v }

theorem fresh_cons {b g H : Nat} {a rest : List Nat} (h : (b :: (a ++ rest)).Nodup) (lt : ∀ r ∈ b :: (a ++ rest), r < H) (hg : H ≤ g) : (b :: ([g] ++ rest)).Nodup := by
  have l1 : b < H := lt b (by simp)
  have l2 : ∀ r ∈ rest, r < H := fun r hr => lt r (by simp [hr])
  simp only [List.nodup_cons, List.nodup_append, List.mem_append, not_or, List.singleton_append, List.mem_cons] at h ⊢
  refine ⟨⟨by omega, h.1.2⟩, ⟨fun hr => by have := l2 g hr; omega, h.2.2.1⟩⟩

/-- A spot of ore more. -/
theorem RepY.addOre {w5 w5' w6 : World} {Y : YW} (hr : RepY w5 Y) (hb5 : Below w5.heap.size w5 w5') (hg : w5'.grownBy w6 Y.vOre.ownBlock) (s : SSpot) (g cap n : Nat) (hn : n = Y.ore.length + 1)
    (ho : w6.ownsRow 0 51 3 (.slice (some ⟨g, 0, none⟩) n cap) n (Y.ore.flatMap spotCells ++ spotCells s)) (hat : Y.vOre.ownBlock = some g ∨ w5.heap.size ≤ g) :
    RepY (w6.setCell ⟨Y.b, 4, none⟩ (.slice (some ⟨g, 0, none⟩) n cap)) (Y.addOre s (.slice (some ⟨g, 0, none⟩) n cap)) := by
  have sp := sep_of hr.sep
  have lt := hr.lt
  have hgb : g ≠ Y.b := by
    rcases hat with h | h
    · intro e; subst e; exact sp.bo (by simp [blk, h])
    · have := lt Y.b foot_b; omega
  have far : ∀ r, r < w5.heap.size → r ∉ blk Y.vOre → r ≠ Y.b → (w6.setCell ⟨Y.b, 4, none⟩ (.slice (some ⟨g, 0, none⟩) n cap)).heap[r]? = w5.heap[r]? := by
    intro r h1 h2 h3
    rw [setCell_far w6 Y.b _ _ r h3, hg.block r (Nat.lt_of_lt_of_le h1 hb5.size) (fun e => h2 (by simp [blk, ← e])), hb5.block r h1]
  refine ⟨?_, ?_, ?_, ?_, ?_, ?_⟩
  · have e : w6.heap[Y.b]? = some (.cells Y.cells 93 (0, 0)) := by
      rw [hg.block Y.b (Nat.lt_of_lt_of_le (lt _ foot_b) hb5.size) (fun e => sp.bo (by simp [blk, ← e])), hb5.block Y.b (lt _ foot_b), hr.top]
    show (w6.setCell _ _).heap[Y.b]? = _
    simp only [World.setCell, Array.getElem?_modify, e]
    simp [YW.cells, YW.addOre]
  · show (w6.setCell _ _).ownsRow 0 _ 3 _ (Y.ore ++ [s]).length ((Y.ore ++ [s]).flatMap spotCells)
    have e1 : (Y.ore ++ [s]).length = n := by simp [hn]
    have e2 : (Y.ore ++ [s]).flatMap spotCells = Y.ore.flatMap spotCells ++ spotCells s := by simp
    rw [e1, e2]
    refine own_same ho (fun r hr' => setCell_far w6 Y.b _ _ r ?_)
    have h' : r ∈ blk (.slice (some ⟨g, 0, none⟩) n cap) := hr'
    have : r = g := by simpa [blk_slice] using h'
    rw [this]; exact hgb
  · exact own_same hr.pl (fun r hr' => far r (lt _ (foot_p hr')) (fun h => sp.op r h hr') (fun h => sp.bp (h ▸ hr')))
  · exact own_same hr.lots (fun r hr' => far r (lt _ (foot_l hr')) (fun h => sp.ol r h hr') (fun h => sp.bl (h ▸ hr')))
  · intro p hp
    exact (hr.each p hp).same (fun r hr' => far r (lt _ (foot_e hp hr')) (fun h => sp.oe r h p hp hr') (fun h => sp.be p hp (h ▸ hr')))
  · rcases hat with h | h
    · have e : (Y.addOre s (.slice (some ⟨g, 0, none⟩) n cap)).foot = Y.foot := by
        simp only [YW.foot, YW.addOre, blk_slice]
        have : blk Y.vOre = [g] := by simp [blk, h]
        rw [this]
      rw [e]; exact hr.sep
    · exact fresh_cons hr.sep lt h

theorem nodup_addPl {b g gu H : Nat} {o P l E : List Nat} (h : (b :: (o ++ (P ++ (l ++ E)))).Nodup) (lt : ∀ r ∈ b :: (o ++ (P ++ (l ++ E))), r < H) (hg : P = [g] ∨ H ≤ g) (hu : H ≤ gu) (hne : gu ≠ g) : (b :: (o ++ ([g] ++ (l ++ (E ++ [gu]))))).Nodup := by
  have lb : b < H := lt b (by simp)
  have lo : ∀ r ∈ o, r < H := fun r hr => lt r (by simp [hr])
  have ll : ∀ r ∈ l, r < H := fun r hr => lt r (by simp [hr])
  have lE : ∀ r ∈ E, r < H := fun r hr => lt r (by simp [hr])
  have key : (b :: (o ++ ([g] ++ (l ++ E)))).Nodup := by
    rcases hg with rfl | hg
    · exact h
    · simp only [List.nodup_cons, List.nodup_append, List.mem_append, not_or, List.singleton_append, List.mem_cons] at h ⊢
      obtain ⟨⟨n1, n2, n3, n4⟩, n5, ⟨n6, ⟨n7, n8, n9⟩, n10⟩, n11⟩ := h
      refine ⟨⟨n1, by omega, n3, n4⟩, n5, ⟨⟨fun hr => by have := ll g hr; omega, fun hr => by have := lE g hr; omega⟩, n7, n8, n9⟩, ?_⟩
      intro a ha c hc
      rcases hc with rfl | hc
      · have := lo a ha; omega
      · exact n11 a ha c (.inr hc)
  have e : b :: (o ++ ([g] ++ (l ++ (E ++ [gu])))) = (b :: (o ++ ([g] ++ (l ++ E)))) ++ [gu] := by simp
  rw [e, List.nodup_append]
  refine ⟨key, by simp, fun a ha c hc => ?_⟩
  have hc' : c = gu := by simpa using hc
  subst hc'
  simp only [List.mem_cons, List.mem_append, List.not_mem_nil, or_false] at ha
  rcases ha with rfl | ha | rfl | ha | ha
  · omega
  · have := lo a ha; omega
  · exact Ne.symm hne
  · have := ll a ha; omega
  · have := lE a ha; omega

/-- A player more. -/
theorem RepY.addPl {w5 w5' w6 : World} {Y : YW} (hr : RepY w5 Y) (hb5 : Below w5.heap.size w5 w5') (hg : w5'.grownBy w6 Y.vPl.ownBlock) (p : SPlayer) (gu c g cap n : Nat) (hn : n = Y.pls.length + 1)
    (hp : RepP w6 (p, ⟨.slice (some ⟨gu, 0, none⟩) p.units.length c, .slice none 0 0, .slice none 0 0⟩)) (hgu : w5.heap.size ≤ gu) (hne : gu ≠ g)
    (ho : w6.ownsRow 0 100 4 (.slice (some ⟨g, 0, none⟩) n cap) n (Y.pls.flatMap plCells ++ plCells (p, ⟨.slice (some ⟨gu, 0, none⟩) p.units.length c, .slice none 0 0, .slice none 0 0⟩))) (hat : Y.vPl.ownBlock = some g ∨ w5.heap.size ≤ g) :
    RepY (w6.setCell ⟨Y.b, 5, none⟩ (.slice (some ⟨g, 0, none⟩) n cap)) (Y.addPl (p, ⟨.slice (some ⟨gu, 0, none⟩) p.units.length c, .slice none 0 0, .slice none 0 0⟩) (.slice (some ⟨g, 0, none⟩) n cap)) := by
  have sp := sep_of hr.sep
  have lt := hr.lt
  have lb := lt Y.b foot_b
  have hgb : g ≠ Y.b := by
    rcases hat with h | h
    · intro e; subst e; exact sp.bp (by simp [blk, h])
    · omega
  have far : ∀ r, r < w5.heap.size → r ∉ blk Y.vPl → r ≠ Y.b → (w6.setCell ⟨Y.b, 5, none⟩ (.slice (some ⟨g, 0, none⟩) n cap)).heap[r]? = w5.heap[r]? := by
    intro r h1 h2 h3
    rw [setCell_far w6 Y.b _ _ r h3, hg.block r (Nat.lt_of_lt_of_le h1 hb5.size) (fun e => h2 (by simp [blk, ← e])), hb5.block r h1]
  refine ⟨?_, ?_, ?_, ?_, ?_, ?_⟩
  · have e : w6.heap[Y.b]? = some (.cells Y.cells 93 (0, 0)) := by
      rw [hg.block Y.b (Nat.lt_of_lt_of_le lb hb5.size) (fun e => sp.bp (by simp [blk, ← e])), hb5.block Y.b lb, hr.top]
    show (w6.setCell _ _).heap[Y.b]? = _
    simp only [World.setCell, Array.getElem?_modify, e]
    simp [YW.cells, YW.addPl]
  · exact own_same hr.ore (fun r hr' => far r (lt _ (foot_o hr')) (fun h => sp.op r hr' h) (fun h => sp.bo (h ▸ hr')))
  · show (w6.setCell _ _).ownsRow 0 _ 4 (.slice (some ⟨g, 0, none⟩) n cap) (Y.pls ++ [_]).length ((Y.pls ++ [_]).flatMap plCells)
    rw [List.length_append, List.flatMap_append]
    have e1 : Y.pls.length + [(p, (⟨.slice (some ⟨gu, 0, none⟩) p.units.length c, .slice none 0 0, .slice none 0 0⟩ : PV))].length = n := by simp [hn]
    rw [e1]
    refine own_same (by simpa using ho) (fun r hr' => setCell_far w6 Y.b _ _ r ?_)
    have h' : r ∈ blk (.slice (some ⟨g, 0, none⟩) n cap) := hr'
    have : r = g := by simpa [blk_slice] using h'
    rw [this]; exact hgb
  · exact own_same hr.lots (fun r hr' => far r (lt _ (foot_l hr')) (fun h => sp.pl r h hr') (fun h => sp.bl (h ▸ hr')))
  · intro q hq
    rcases List.mem_append.1 hq with h | h
    · exact (hr.each q h).same (fun r hr' => far r (lt _ (foot_e h hr')) (fun h2 => sp.pe r h2 q h hr') (fun h2 => sp.be q h (h2 ▸ hr')))
    · have h' : q = (p, ⟨.slice (some ⟨gu, 0, none⟩) p.units.length c, .slice none 0 0, .slice none 0 0⟩) := by simpa using h
      rw [h']
      refine hp.same (fun r hr' => setCell_far w6 Y.b _ _ r ?_)
      have : r = gu := by
        have h2 : r ∈ [gu] := hr'
        simpa using h2
      omega
  · have e : (Y.addPl (p, ⟨.slice (some ⟨gu, 0, none⟩) p.units.length c, .slice none 0 0, .slice none 0 0⟩) (.slice (some ⟨g, 0, none⟩) n cap)).foot = Y.b :: (blk Y.vOre ++ ([g] ++ (blk Y.vLots ++ (Y.pls.flatMap pvFoot ++ [gu])))) := by
      simp only [YW.foot, YW.addPl, blk_slice, List.flatMap_append]
      rfl
    rw [e]
    refine nodup_addPl hr.sep lt ?_ hgu hne
    rcases hat with h | h
    · exact .inl (by simp [blk, h])
    · exact .inr h

def firstU.bytesA : ByteArray := ⟨#[97]⟩
def firstU (s : SSpot) : SUnit := { name := firstU.bytesA, x := s.x, y := s.y, head := 0, cargo := 0, what := emptyB, arg := emptyB }
def firstP (s : SSpot) : SPlayer := { money := 100, units := [firstU s], bids := [], news := [] }
/-- The world that New makes. -/
def newS (W H S : Int) (ore starts : List SSpot) : SWorld := { width := W, height := H, sight := S, now := 0, ore := ore, players := starts.map firstP, lots := [] }
/-- May New make a world? -/
def newB (W H S : Int) (ore starts : List SSpot) : Bool :=
  inB W 3 10 && inB H 3 10 && inB S 1 4 && inB starts.length 2 4 && decide (ore.length ≤ 6) && apartB ore W H && apartB starts W H && ore.all (fun s => inB s.amount 1 99)

end Go.Proofs.Ytdpmadoccimgcaa
