/-
  What the turns of the first unit come to, said plainly.
-/
import Derived.Test.YtlafddeoheambaaDoorT15
import Derived.Deep.RegionHeld3
import Derived.Test.YtlafddeoheambaaDoorRows
import Derived.ProofKit
import Derived.Deep.Slices
import Derived.Deep.Strs
import Derived.ChangeSlices
import Derived.Test.YtlafddeoheambaaDoorT14
import Derived.WalkKit
import Derived.Deep.DeepHandedRow
import Derived.Lib.LaidTab
set_option linter.unusedVariables false
namespace Go.Proofs.YtlafddeoheambaaDoor
open Go.RowKit

def cornersOf (n : Int) : List SSpot := [⟨0, 0, 0⟩, ⟨n, n, 0⟩, ⟨n, 0, 0⟩, ⟨0, n, 0⟩]
def oreOf (n : Int) : List SSpot := [⟨0, 0, 9⟩, ⟨1, 0, 3⟩, ⟨n, n, 99⟩, ⟨n, n - 1, 2⟩]
def begunS (side sight : Int) (k : Nat) : SWorld := newS side side sight (oreOf (side - 1)) ((cornersOf (side - 1)).take k)
def turnU (x y h : Int) (b : ByteArray) : SUnit := { name := firstU.bytesA, x := x, y := y, head := h, cargo := 0, what := b, arg := emptyB }
def turnP (x y h : Int) (b : ByteArray) : SPlayer := { money := 100, units := [turnU x y h b], bids := [], news := [] }
/-- The world of Turns: the first unit's spot, its heading, what it was told. -/
def turnS (i x y h : Int) (b : ByteArray) : SWorld := { width := 7, height := 7, sight := 1, now := i, ore := oreOf 6, players := [turnP x y h b, firstP ⟨6, 6, 0⟩], lots := [] }
theorem turn_first : begunS 7 1 2 = turnS 0 0 0 0 emptyB := by rfl
def turnW (k : Nat) : List UInt8 := if k = 0 then [103, 111] else if k = 1 then [108, 101, 102, 116] else if k = 2 then [98, 97, 99, 107] else [114, 105, 103, 104, 116]
theorem turn_order (i x y h : Int) (k : Nat) (hk : k < 4) : orderS (turnS i x y h emptyB) 0 ([97, 32] ++ turnW k) = (0, turnS i x y h (bytesOf (turnW k))) := by
  have sp : ∀ k, k < 4 → splitB ([97, 32] ++ turnW k) = [[97], turnW k] := by
    intro k hk
    rcases k with _ | _ | _ | _ | k <;> first | rfl | omega
  have nm : nameB [97] = true := by decide
  have pl : ∀ k, k < 4 → plainB (turnW k) = true := by
    intro k hk
    rcases k with _ | _ | _ | _ | k
    all_goals first
      | omega
      | (simp only [plainB, amongB, eqS, Lib.toList_data]; decide)
  have ix : unitIx (turnP x y h emptyB).units (bytesOf [97]) = 0 := by
    simp [unitIx, turnP, turnU, ixOf, eqS, Lib.toList_data, firstU.bytesA, bytesOf]
  unfold orderS
  rw [if_pos (by simp [turnS])]
  show wordsS _ 0 (turnP x y h emptyB) _ = _
  rw [sp k hk]
  unfold wordsS
  simp only [nm, pl k hk, Bool.and_self, if_true]
  unfold tellS
  rw [ix]
  rfl
def roomB (a b : Int) : Bool := decide (0 ≤ a) && decide (a < 7) && decide (0 ≤ b) && decide (b < 7) && (decide (a ≠ 6) || decide (b ≠ 6))
theorem turn_free (i x y h : Int) (b : ByteArray) (a c : Int) (hne : ¬ (x = a ∧ y = c)) : freeS (turnS i x y h b) a c = roomB a c := by
  unfold freeS roomB
  have hi : holderI (turnS i x y h b).players a c = if a = 6 ∧ c = 6 then 1 else -1 := by
    simp only [holderI, turnS, ixOf, standsB, turnP, turnU, firstP, firstU, List.any_cons, List.any_nil, Bool.or_false]
    have e1 : (decide (x = a) && decide (y = c)) = false := by
      cases hh : (decide (x = a) && decide (y = c))
      · rfl
      · simp only [Bool.and_eq_true, decide_eq_true_eq] at hh; exact absurd hh hne
    rw [e1]
    by_cases h6 : a = 6 ∧ c = 6
    · obtain ⟨rfl, rfl⟩ := h6; simp
    · have e2 : (decide ((6 : Int) = a) && decide ((6 : Int) = c)) = false := by
        cases hh : (decide ((6 : Int) = a) && decide ((6 : Int) = c))
        · rfl
        · simp only [Bool.and_eq_true, decide_eq_true_eq] at hh; exact absurd ⟨hh.1.symm, hh.2.symm⟩ h6
      rw [e2, if_neg h6]; simp
  rw [hi]
  simp only [show (turnS i x y h b).width = 7 from rfl, show (turnS i x y h b).height = 7 from rfl, inB]
  apply Bool.eq_iff_iff.2
  simp only [Bool.and_eq_true, Bool.or_eq_true, decide_eq_true_eq]
  by_cases h6 : a = 6 ∧ c = 6
  · rw [if_pos h6]; omega
  · rw [if_neg h6]
    constructor
    · rintro ⟨⟨⟨h1, h2⟩, h3, h4⟩, _⟩
      refine ⟨⟨⟨⟨h1, by omega⟩, h3⟩, by omega⟩, by omega⟩
    · rintro ⟨⟨⟨⟨h1, h2⟩, h3⟩, h4⟩, _⟩
      exact ⟨⟨⟨h1, by omega⟩, h3, by omega⟩, by omega⟩
theorem turn_tick (i x y h : Int) (k : Nat) (hk : k < 4) (h0 : 0 ≤ h ∧ h < 4) :
    tickS (turnS i x y h (bytesOf (turnW k))) = if k = 0 then (if roomB (x + dxI h) (y + dyI h) then turnS (i + 1) (x + dxI h) (y + dyI h) h emptyB else turnS (i + 1) x y h emptyB) else turnS (i + 1) x y ((h + k) % 4) emptyB := by
  have hne : ¬ (x = x + dxI h ∧ y = y + dyI h) := by
    unfold dxI dyI
    have : h = 0 ∨ h = 1 ∨ h = 2 ∨ h = 3 := by omega
    rcases this with rfl | rfl | rfl | rfl <;> simp <;> omega
  have two : ∀ (s : SWorld) (p : SPlayer), s.players = [p, firstP ⟨6, 6, 0⟩] → playerS s 1 = s := by
    intro s p hp
    have hc : clearN s 1 = s := by
      unfold clearN
      rw [hp]
      cases s
      simp only at hp
      subst hp
      rfl
    unfold playerS
    rw [hc]
    have hu : unitsN s 1 = 1 := by unfold unitsN; rw [hp]; rfl
    rw [hu]
    show doesS s 1 0 = s
    unfold doesS
    rw [hp]
    cases s
    simp only at hp
    subst hp
    simp [firstP, firstU, actS, emptyB, Lib.toList_data, SWorld.setPl]
  have one : playerS (turnS i x y h (bytesOf (turnW k))) 0 = if k = 0 then (if roomB (x + dxI h) (y + dyI h) then turnS i (x + dxI h) (y + dyI h) h emptyB else turnS i x y h emptyB) else turnS i x y ((h + k) % 4) emptyB := by
    have hf := turn_free i x y h emptyB _ _ hne
    show doesS (turnS i x y h (bytesOf (turnW k))) 0 0 = _
    have hd : doesS (turnS i x y h (bytesOf (turnW k))) 0 0 = actS (turnS i x y h emptyB) 0 0 (turnP x y h emptyB) (turnU x y h emptyB) (bytesOf (turnW k)) emptyB := rfl
    rw [hd]
    unfold actS
    simp only [Lib.toList_data, bytesOf_toList]
    rcases k with _ | _ | _ | _ | k
    · rw [if_pos (by decide), if_pos rfl]
      show (if freeS (turnS i x y h emptyB) (x + dxI h) (y + dyI h) = true then _ else _) = _
      rw [hf]
      split <;> rfl
    · rw [if_neg (by decide), if_pos (by decide), if_neg (by omega)]; rfl
    · rw [if_neg (by decide), if_neg (by decide), if_pos (by decide), if_neg (by omega)]; rfl
    · rw [if_neg (by decide), if_neg (by decide), if_neg (by decide), if_pos (by decide), if_neg (by omega)]; rfl
    · omega
  rw [tickS_nil rfl]
  have tt : tickTo (turnS i x y h (bytesOf (turnW k))) 2 = playerS (playerS (turnS i x y h (bytesOf (turnW k))) 0) 1 := rfl
  have hl : (turnS i x y h (bytesOf (turnW k))).players.length = 2 := rfl
  rw [hl, tt, one]
  split
  · split
    · rw [two _ _ rfl]; rfl
    · rw [two _ _ rfl]; rfl
  · rw [two _ _ rfl]; rfl
/-- What the view begins with. -/
theorem turn_view (i x y h : Int) : ∃ r, viewS (turnS i x y h emptyB) 0 = (bytesOf (tickL i 100 ++ unitL (turnU x y h emptyB) ++ r), 0) := by
  refine ⟨rowsTo (turnS i x y h emptyB) 0 [turnU x y h emptyB] 7 ++ (lotsL (turnS i x y h emptyB) (turnP x y h emptyB) ++ newsL (turnP x y h emptyB)), ?_⟩
  unfold viewS
  rw [if_pos (by simp [turnS])]
  show (bytesOf (viewL _ 0 (turnP x y h emptyB)), (0 : Int)) = _
  unfold viewL ownL
  simp only [turnP, List.flatMap_cons, List.flatMap_nil, List.append_nil, List.append_assoc]
  rfl
end Go.Proofs.YtlafddeoheambaaDoor

/-
  The functions begun and view of package hazekeep.
-/
namespace Go.Proofs.YtlafddeoheambaaDoor
open Go.RowKit

theorem SpIn.mk {w : World} {b k cap : Nat} {ds : List SSpot} (h : ∀ (j : Nat) u, (ds.flatMap spotCells)[j]? = some u → w.cell? ⟨b, j, none⟩ = some u) (hb : b < w.heap.size) (hk : ds.length = k) : SpIn w (.slice (some ⟨b, 0, none⟩) k cap) ds := by
  subst hk
  exact ⟨_, _, rfl, fun _ => ⟨b, 0, rfl, hb, fun j u hu => by rw [Nat.zero_add]; exact h j u hu⟩⟩
theorem take_cells (l : List SSpot) (k : Nat) : ∀ (j : Nat) u, ((l.take k).flatMap spotCells)[j]? = some u → (l.flatMap spotCells)[j]? = some u := by
  intro j u h
  have e : l.flatMap spotCells = (l.take k).flatMap spotCells ++ (l.drop k).flatMap spotCells := by rw [← List.flatMap_append, List.take_append_drop]
  rw [e, List.getElem?_append_left]
  · exact h
  · obtain ⟨hj, _⟩ := List.getElem?_eq_some_iff.1 h
    exact hj

set_option maxRecDepth 100000 in
set_option maxHeartbeats 4000000 in
theorem begun_any (w : World) (side sight : Int) (k : Nat) (hs : 3 ≤ side ∧ side ≤ 10) (hk : 2 ≤ k ∧ k ≤ 4) (hN : newB side side sight (oreOf (side - 1)) ((cornersOf (side - 1)).take k) = true) :
    Calls Tryd.prog 7 #[.int .i64 side, .int .i64 sight, .int .i64 k] w fun e w' => Below w.heap.size w w' ∧ ∃ X : XW, e = .returned (.pointer (some ⟨X.b, 0, none⟩)) ∧ RepX w' X ∧ OkX X ∧ X.S = begunS side sight k ∧ X.sales = [] ∧ ∀ r ∈ X.foot, w.heap.size ≤ r := by
  have HN : Hid (∀ wc : World, wc = (w.alloc (.cells ((cornersOf (side - 1)).flatMap spotCells).toArray 49)).alloc (.cells ((oreOf (side - 1)).flatMap spotCells).toArray 49) →
      Calls Tryd.prog 18 #[.agg #[.int .i64 side, .int .i64 side, .int .i64 sight, .slice (some ⟨w.heap.size + 1, 0, none⟩) 4 4, .slice (some ⟨w.heap.size, 0, none⟩) k 4]] wc fun e w' => Below w.heap.size w w' ∧ ∃ X : XW, e = .returned (.tuple #[.pointer (some ⟨X.b, 0, none⟩), .int .i64 0]) ∧ RepX w' X ∧ OkX X ∧ X.S = begunS side sight k ∧ X.sales = [] ∧ ∀ r ∈ X.foot, w.heap.size ≤ r) := by
    unfold Hid
    intro wc hwc
    have s1 : (w.alloc (.cells ((cornersOf (side - 1)).flatMap spotCells).toArray 49)).heap.size = w.heap.size + 1 := by simp
    have h2 := Go.heap_alloc_new (w.alloc (.cells ((cornersOf (side - 1)).flatMap spotCells).toArray 49)) (.cells ((oreOf (side - 1)).flatMap spotCells).toArray 49)
    have h1 := Go.heap_alloc_new w (.cells ((cornersOf (side - 1)).flatMap spotCells).toArray 49)
    rw [s1, ← hwc] at h2
    have h1' : wc.heap[w.heap.size]? = some (.cells ((cornersOf (side - 1)).flatMap spotCells).toArray 49 (0, 0)) := by rw [hwc, Below.heap_alloc _ _ _ (by omega), h1]
    have hb : Below w.heap.size w wc := by rw [hwc]; exact ((Below.refl _ w).alloc (Nat.le_refl _) _).alloc (by omega) _
    have ho : SpIn wc (.slice (some ⟨w.heap.size + 1, 0, none⟩) 4 4) (oreOf (side - 1)) := SpIn.mk (fun j u hu => by rw [cell_of_row _ _ _ _ _ _ h2]; simpa using hu) (lt_of_some h2) rfl
    have hc : SpIn wc (.slice (some ⟨w.heap.size, 0, none⟩) k 4) ((cornersOf (side - 1)).take k) := SpIn.mk (fun j u hu => by rw [cell_of_row _ _ _ _ _ _ h1']; simpa using take_cells _ _ j u hu) (lt_of_some h1') (by simp [cornersOf]; omega)
    have hlo : (oreOf (side - 1)).length = 4 := rfl
    have hlc : ((cornersOf (side - 1)).take k).length ≤ 4 := by simp [cornersOf]; omega
    refine (xnew_any wc side side sight _ _ _ _ ho hc (by omega) (by omega) ?_ ?_).mono ?_
    · intro s hs'
      simp [oreOf] at hs'
      rcases hs' with rfl | rfl | rfl | rfl <;> simp <;> omega
    · intro s hs'
      have hs'' := List.mem_of_mem_take hs'
      simp [cornersOf] at hs''
      rcases hs'' with rfl | rfl | rfl | rfl <;> simp <;> omega
    · rintro e w' ⟨hb', ⟨hf, _⟩ | ⟨_, X, he, hr, hok, hS, hsl, hf⟩⟩
      · rw [hN] at hf; cases hf
      · exact ⟨hb.trans (hb'.mono hb.size), X, he, hr, hok, hS, hsl, fun r hr' => Nat.le_trans hb.size (hf r hr')⟩
  clear hN
  go_enter Tryd.func7, Tryd.ntmps7
  go_wp2_with fail
  refine (HN.out _ rfl).mono ?_
  rintro e w1 ⟨hb, X, rfl, hR⟩
  have HR := hidOf hR
  have HB := hidOf hb
  clear hR hb HN
  go_wp2
  go_ret
  exact ⟨HB.out, X, rfl, HR.out⟩
set_option maxRecDepth 100000 in
set_option maxHeartbeats 1000000 in
/-- What view answers: the view, or nothing. -/
theorem kview_any (w : World) (X : XW) (n : Int) (hr : RepX w X) (ht : Tab w) (ho : OkX X) (hg : GoodS X.S) (hN : NewsOK X) (hsl : SaleOK X.sales) :
    Calls Tryd.prog 12 #[.pointer (some ⟨X.b, 0, none⟩), .int .i64 n] w fun e w' => e = .returned (.string (viewS X.S n).1) ∧ Below w.heap.size w w' := by
  have HV := hidOf (xview_c w X n hr ht ho hg hN hsl)
  have h1 : (viewS X.S n).2 = 0 ∨ ((viewS X.S n).2 = 1 ∧ (viewS X.S n).1 = ⟨#[]⟩) := by
    unfold viewS
    repeat' split
    all_goals simp
  clear hr ht ho hg hN hsl
  go_enter Tryd.func12, Tryd.ntmps12
  go_wp2_with fail
  refine HV.out.mono ?_
  rintro e w1 ⟨rfl, hb⟩
  rcases h1 with h1 | ⟨h1, h2⟩
  · rw [h1]
    go_wp2
    go_ret
    exact ⟨rfl, hb⟩
  · rw [h1, h2]
    go_wp2
    go_ret
    exact ⟨by rw [h2]; rfl, hb⟩
end Go.Proofs.YtlafddeoheambaaDoor

/-
  A world of the program that a keep holds.
-/
namespace Go.Proofs.YtlafddeoheambaaDoor
open Go.RowKit

structure KIn (w wx : World) (X : XW) : Prop where
  b : Below w.heap.size w wx
  rep : RepX wx X
  ok : OkX X
  g : GoodS X.S
  n : NewsOK X
  sl : SaleOK X.sales
  foot : ∀ r ∈ X.foot, w.heap.size ≤ r
theorem KIn.below {w wx w' : World} {X : XW} (h : KIn w wx X) (hb : Below wx.heap.size wx w') : KIn w w' X :=
  ⟨h.b.trans (hb.mono h.b.size), h.rep.below hb, h.ok, h.g, h.n, h.sl, h.foot⟩
theorem KIn.turn {w wx w' : World} {X X' : XW} (h : KIn w wx X) (T : TurnX wx X w' X') (ok : OkX X') (g : GoodS X'.S) (n : NewsOK X') (sl : SaleOK X'.sales) : KIn w w' X' := by
  refine ⟨⟨T.kept.os.trans h.b.os, T.kept.tape.trans h.b.tape, T.kept.output.trans h.b.output, Nat.le_trans h.b.size T.kept.size, fun k hk => ?_⟩, T.rep, ok, g, n, sl, fun r hr => ?_⟩
  · rw [T.kept.block k (Nat.lt_of_lt_of_le hk h.b.size) (fun hm => by have := h.foot k hm; omega), h.b.block k hk]
  · rcases T.ext r hr with h' | h'
    · exact h.foot r h'
    · have := h.b.size; omega
theorem KIn.order {w wx : World} {X : XW} (h : KIn w wx X) (n : Int) (t : ByteArray) (hs : t.size ≤ 2000000) :
    Calls Tryd.prog 9 #[.pointer (some ⟨X.b, 0, none⟩), .int .i64 n, .string t] wx fun e w' => e = .returned (.int .i64 (orderS X.S n t.data.toList).1) ∧ ∃ X', KIn w w' X' ∧ X'.b = X.b ∧ X'.S = (orderS X.S n t.data.toList).2 := by
  refine (xorder_c wx X n t h.rep h.ok h.g h.n h.sl hs).mono ?_
  rintro e w' ⟨rfl, X', T, ok, hS, n', sl⟩
  exact ⟨rfl, X', h.turn T ok (by rw [hS]; exact h.g.order n t.data.toList (by rw [Array.length_toList]; exact hs)) n' sl, T.b, hS⟩
theorem KIn.tick {w wx : World} {X : XW} (h : KIn w wx X) :
    Calls Tryd.prog 10 #[.pointer (some ⟨X.b, 0, none⟩)] wx fun e w' => e = .returned (.int .i64 (tickC X.S)) ∧ ∃ X', KIn w w' X' ∧ X'.b = X.b ∧ X'.S = tickN X.S := by
  refine (xtick_c wx X h.rep h.ok h.g h.n h.sl).mono ?_
  rintro e w' ⟨rfl, X', T, ok, hS, n', sl⟩
  exact ⟨rfl, X', h.turn T ok (by rw [hS]; exact h.g.tickN) n' sl, T.b, hS⟩
theorem KIn.view {w wx : World} {X : XW} (h : KIn w wx X) (n : Int) (ht : Tab w) :
    Calls Tryd.prog 12 #[.pointer (some ⟨X.b, 0, none⟩), .int .i64 n] wx fun e w' => e = .returned (.string (viewS X.S n).1) ∧ KIn w w' X := by
  refine (kview_any wx X n h.rep (ht.below h.b ht.lt) h.ok h.g h.n h.sl).mono ?_
  rintro e w' ⟨rfl, hb⟩
  exact ⟨rfl, h.below hb⟩
theorem begun_in (w : World) (side sight : Int) (k : Nat) (hs : 3 ≤ side ∧ side ≤ 10) (hk : 2 ≤ k ∧ k ≤ 4) (hN : newB side side sight (oreOf (side - 1)) ((cornersOf (side - 1)).take k) = true) :
    Calls Tryd.prog 7 #[.int .i64 side, .int .i64 sight, .int .i64 k] w fun e w' => ∃ X : XW, e = .returned (.pointer (some ⟨X.b, 0, none⟩)) ∧ KIn w w' X ∧ X.S = begunS side sight k := by
  refine (begun_any w side sight k hs hk hN).mono ?_
  rintro e w' ⟨hb, X, rfl, hr, ok, hS, hsl, hf⟩
  exact ⟨X, rfl, ⟨hb, hr, ok, by rw [hS]; exact GoodS.new hN, news_new hS hsl, by rw [hsl]; exact SaleOK.nil, hf⟩, hS⟩
/-- Numbers that are handed in. -/
def IntsIn (w : World) (v : Value) (zs : List Int) : Prop :=
  ∃ ao cap, v = .slice ao zs.length cap ∧ zs.length ≤ 9223372036854775807 ∧ (0 < zs.length → ∃ b off, ao = some ⟨b, off, none⟩ ∧ b < w.heap.size ∧ ∀ (j : Nat) z, zs[j]? = some z → w.cell? ⟨b, off + j, none⟩ = some (.int .i64 z))
set_option maxRecDepth 100000 in
theorem kpick_any (c n : Int) (w : World) (h1 : -9223372036854775808 ≤ c) (h2 : c ≤ 9223372036854775807) (hn : 0 < n) (hn2 : n ≤ 9223372036854775807) :
    Calls Tryd.prog 8 #[.int .i64 c, .int .i64 n] w fun e w' => e = .returned (.int .i64 (pickI c n)) ∧ w' = w := by
  by_cases h : c < 0
  · go_enter Tryd.func8, Tryd.ntmps8
    go_wp2
    go_ret
    exact ⟨ret_int (pickI_neg c n h), rfl⟩
  · go_enter Tryd.func8, Tryd.ntmps8
    go_wp2
    go_ret
    exact ⟨ret_int (pickI_pos c n (by omega)), rfl⟩
end Go.Proofs.YtlafddeoheambaaDoor

/-
  Numbers that are handed in, opened.
-/
namespace Go.Proofs.YtlafddeoheambaaDoor
open Go.RowKit Go.Deep Go.ChangeShapes

theorem Tryd.cellsInt : Tryd.prog.cellsOf 3 = 1 := by kernel_rfl
theorem wf64 {n : Int} (h : (Lit.int .i64 n).wf = true) : -9223372036854775808 ≤ n ∧ n ≤ 9223372036854775807 := by
  simpa [Lit.wf, IntKind.min, IntKind.max, IntKind.signed, IntKind.bits] using h
theorem ints_open {H : Type} {enc : TypeId × Value → H} {w : World} {base : Nat} {spare : Nat → Bool} {held : Bool} {fuel : Nat} {cs : List Value} {x : DataW H × List MemPlace} (h : DataW.trod enc Tryd.prog w base spare held fuel 22 cs = some x) :
    ∃ v zs, cs = [v] ∧ IntsIn w v zs ∧ ∀ z ∈ zs, -9223372036854775808 ≤ z ∧ z ≤ 9223372036854775807 := by
  rcases open_ints Tryd.underlying22 Tryd.underlying3 Tryd.cellsInt h with ⟨rfl, rfl⟩ | ⟨a, len, cap, zs, rfl, hb, hlc, hcm, hlen, _, hc, hwf⟩
  · exact ⟨_, [], rfl, ⟨none, 0, rfl, by simp, fun h => absurd h (by simp)⟩, by simp⟩
  · unfold maxLen at hcm
    have hl : len ≤ zs.length := by rw [hlen]; split <;> omega
    have hll : (zs.take len).length = len := by simp [hl]
    refine ⟨_, zs.take len, rfl, ⟨some a, cap, by rw [hll], by rw [hll]; omega, fun hpos => ?_⟩, fun z hz => wf64 (hwf z (List.mem_of_mem_take hz))⟩
    rw [hll] at hpos
    have h00 := hc 0 (by omega)
    obtain ⟨b, off, spot⟩ := a
    have hspot : spot = none := by simpa [Addr.add] using World.cell?_spot h00
    subst hspot
    refine ⟨b, off, rfl, ?_, fun j z hz => ?_⟩
    · have := block_lt_of_cell h00
      simpa [Addr.add] using this
    · have hj := (at_some hz).1
      rw [hll] at hj
      have := hc j (by omega)
      rw [Go.WideShapes.add_plain] at this
      rw [this]
      rw [List.getElem?_take_of_lt hj] at hz
      rw [List.getD_eq_getElem?_getD, hz]
      rfl
end Go.Proofs.YtlafddeoheambaaDoor

/-
  The tables of the library that the rows list: a world that holds them; what a row's list gives.
-/
namespace Go.Proofs.YtlafddeoheambaaDoor
open Go.RowKit

theorem Tryd.ownKnob : ownKnob Tryd.prog.godebug = none := by kernel_rfl
theorem Tryd.laidOutB : laidOutB Tryd.prog = true := by kernel_rfl
def tabCells (k : IntKind) (zs : List Int) : Array Value := (zs.map (fun z => Value.int k z)).toArray
def tab32 : List Int := [0, 1, 28, 2, 29, 14, 24, 3, 30, 22, 20, 15, 25, 17, 4, 8, 31, 27, 13, 23, 21, 19, 16, 7, 26, 12, 18, 6, 11, 5, 10, 9]
def tab64 : List Int := [0, 1, 56, 2, 57, 49, 28, 3, 61, 58, 42, 50, 38, 29, 17, 4, 62, 47, 59, 36, 45, 43, 51, 22, 53, 39, 33, 30, 24, 18, 12, 5, 63, 55, 48, 27, 60, 41, 37, 16, 46, 35, 44, 21, 52, 32, 23, 11, 54, 26, 40, 15, 34, 20, 31, 10, 25, 14, 19, 9, 13, 8, 7, 6]
def putTab (h : Array Obj) (g : Nat) (cs : Array Value) : Array Obj := h.modify g fun
  | .cells _ t frozen => .cells cs t frozen
  | o => o
/-- A world with the three tables laid into it. -/
def putTabs (w : World) : World := { w with heap := putTab (putTab (putTab w.heap 2 (tabCells .u8 tab32)) 3 (tabCells .u8 tab64)) 0 (tabCells .u64 Lib.pow10Tab) }
theorem laid_met (os : Os) : laidMet Tryd.prog Rows.turnsRow.laid ((putTabs (World.holding Tryd.prog os ⟨#[], #[], []⟩)).forCall (fun _ _ => 0) ⟨#[], #[.slice none 0 0], []⟩).memory :=
  laidMet_of_run' 8 (by kernel_rfl) (by kernel_rfl)
theorem Tryd.tTab : (Tryd.prog.globals[0]?).map (·.type) = some 140 := by kernel_rfl
theorem Tryd.cellsTab : Tryd.prog.cellsOf 140 = 20 := by kernel_rfl
theorem Tryd.cellsU64 : Tryd.prog.cellsOf 127 = 1 := by kernel_rfl
/-- What a row's list gives: the table of powers of ten. -/
theorem tab_of {W : World} {a b : String × DataW Unit} {nm : String} {l : List (String × DataW Unit)} (hnm : Tryd.prog.globalNamed nm = some 0) (h : laidMet Tryd.prog (a :: b :: (nm, Lib.tabData .u64 Lib.pow10Tab) :: l) W) : Tab W := by
  obtain ⟨ps, ⟨_, _, _, _, _, _, _, _, _, _, ⟨_, _, _, _, _, _, _, _, _, _, ⟨g', t', cs, fuel, p, q, hg', ht', hvar, hd, _, _⟩, _⟩, _⟩, _⟩ := h
  obtain rfl := Option.some.inj (hnm.symm.trans hg')
  obtain rfl := Option.some.inj (Tryd.tTab.symm.trans ht')
  unfold Tab Lib.TabIs
  unfold World.var? at hvar ⊢
  rw [Tryd.gTab]
  rw [hnm] at hvar
  rw [hvar, ← Lib.cells_of_tab Tryd.underlying140 Tryd.underlying127 Tryd.cellsU64 Tryd.cellsTab hd]
end Go.Proofs.YtlafddeoheambaaDoor
