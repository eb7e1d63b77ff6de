/-
  What Turned plays, said plainly.
-/
import Derived.Test.YtlafddeoheambaaGreatDoorT33
import Derived.Test.YtlafddeoheambaaGreatDoorT07
import Derived.Deep.AppendLies
import Derived.Test.YtlafddeoheambaaGreatDoorT26
import Derived.Test.YtlafddeoheambaaGreatDoorT28
import Derived.Shelf.Lay
import Derived.Shelf.Strconv.Atoi
import Derived.Lib.ConvBytes
import Derived.Deep.RegionHeld3
import Derived.BigQuiet
set_option linter.unusedVariables false
namespace Go.Proofs.YtlafddeoheambaaGreatDoor
open Go.RowKit

/-- A world that Turned may hold. -/
structure Trn (s : SWorld) : Prop where
  h4 : s.height = 4
  lo : s.lots = []
  cl : ClnS s
  nw : ∀ p ∈ s.players, p.news = []
  two : s.players.length = 2
theorem news_nil {ps qs : List SPlayer} (h : ps.map (·.news) = qs.map (·.news)) (hq : ∀ p ∈ qs, p.news = []) : ∀ p ∈ ps, p.news = [] := by
  intro p hp
  have : p.news ∈ ps.map (·.news) := List.mem_map_of_mem hp
  rw [h] at this
  obtain ⟨q, hq', e⟩ := List.mem_map.1 this
  rw [← e]
  exact hq q hq'
theorem order_two (s : SWorld) (n : Int) (t : List UInt8) : (orderS s n t).2.players.length = s.players.length := by
  have := congrArg List.length (order_news s n t)
  simpa using this
theorem Trn.order {s : SWorld} (h : Trn s) (n : Int) (t : List UInt8) : Trn (orderS s n t).2 :=
  ⟨(order_hw s n t).1.trans h.h4, (order_hw s n t).2.trans h.lo, h.cl.order n t, news_nil (order_news s n t) h.nw, (order_two s n t).trans h.two⟩
theorem Trn.tick {s : SWorld} (h : Trn s) : Trn (tickS s) := by
  have hl := (tickTo_len s s.players.length).1
  refine ⟨(tick_hw h.lo).trans h.h4, ?_, ?_, ?_, ?_⟩
  · rw [tickS_nil h.lo]
  · rw [tickS_nil h.lo]
    exact h.cl.tickTo _
  · rw [tickS_nil h.lo]
    exact tickTo_all s
  · rw [tickS_nil h.lo]
    exact hl.trans h.two
theorem Trn.tickN {s : SWorld} (h : Trn s) : Trn (tickN s) := by
  unfold Proofs.YtlafddeoheambaaGreatDoor.tickN
  split
  · exact h
  · exact h.tick
theorem rot_tickN {s : SWorld} (g : GoodS s) (h : Trn s) : tickN (rotS s) = rotS (tickN s) := by
  unfold tickN
  have e : (rotS s).now = s.now := rfl
  rw [e]
  split
  · rfl
  · exact rot_tick g.wf h.h4 h.lo
/-- The player, and what it sees of its units. -/
theorem Trn.view {s : SWorld} (h : Trn s) (k : Nat) (hk : k < 2) : ∃ p, s.players[k]? = some p ∧ (viewS s k).1 = bytesOf (viewL s k p) ∧ (viewS (rotS s) k).1 = bytesOf (viewL (rotS s) k (rotP p)) ∧ unitsB (viewL s k p) = p.units.map unitWs ∧ unitsB (viewL (rotS s) k (rotP p)) = (p.units.map rotU).map unitWs ∧ moneyS s k = (p.money, 0) ∧ moneyS (rotS s) k = (p.money, 0) := by
  have hl : k < s.players.length := by rw [h.two]; exact hk
  have hp : s.players[k]? = some s.players[k] := by simp [hl]
  obtain ⟨p, e⟩ : ∃ p, p = s.players[k] := ⟨_, rfl⟩
  rw [← e] at hp
  have hm : p ∈ s.players := List.mem_of_getElem? hp
  have ht : (rotS s).players[k]? = some (rotP p) := by rw [rot_at, hp]; rfl
  have hlt : (rotS s).players.length = s.players.length := by show (s.players.map rotP).length = _; simp
  have hn := h.nw p hm
  have m1 : moneyS s k = (p.money, 0) := by
    unfold moneyS
    rw [if_pos (by omega), Int.toNat_natCast, hp]
  refine ⟨p, hp, ?_, ?_, ?_, ?_, m1, (rot_money s k).trans m1⟩
  · unfold viewS
    rw [if_pos (by omega), Int.toNat_natCast, hp]
  · unfold viewS
    rw [if_pos (by omega), Int.toNat_natCast, ht]
  · refine units_view s k p (fun u hu => (h.cl p hm u hu).1) ?_ ?_
    · rw [h.lo]
      intro l hl
      simp [sortL] at hl
    · rw [hn]
      intro m hm'
      cases hm'
  · refine units_view (rotS s) k (rotP p) (fun u hu => ?_) ?_ ?_
    · obtain ⟨v, hv, rfl⟩ := List.mem_map.1 hu
      exact (h.cl p hm v hv).1
    · have : (rotS s).lots = [] := h.lo
      rw [this]
      intro l hl
      simp [sortL] at hl
    · have : (rotP p).news = [] := hn
      rw [this]
      intro m hm'
      cases hm'

def oreA : List SSpot := [⟨0, 0, 9⟩, ⟨1, 0, 3⟩, ⟨5, 3, 50⟩, ⟨2, 1, 2⟩]
def startsA : List SSpot := [⟨1, 1, 0⟩, ⟨4, 2, 0⟩]
def oreZ : List SSpot := [⟨3, 0, 9⟩, ⟨3, 1, 3⟩, ⟨0, 5, 50⟩, ⟨2, 2, 2⟩]
def startsZ : List SSpot := [⟨2, 1, 0⟩, ⟨1, 4, 0⟩]
def sideA : SWorld := newS 6 4 2 oreA startsA
def sideZ : SWorld := newS 4 6 2 oreZ startsZ
def leftT : List UInt8 := [97, 32, 108, 101, 102, 116]
theorem side_newA : newB 6 4 2 oreA startsA = true := by decide
theorem side_newZ : newB 4 6 2 oreZ startsZ = true := by decide
def leftUn (x y : Int) (b : ByteArray) (h : Int) : SUnit := { name := firstU.bytesA, x := x, y := y, head := h, cargo := 0, what := b, arg := emptyB }
def leftPl (x y : Int) (b : ByteArray) (h : Int) : SPlayer := { money := 100, units := [leftUn x y b h], bids := [], news := [] }
def leftW (n : Int) (b c : ByteArray) (h i : Int) : SWorld := { width := 4, height := 6, sight := 2, now := n, ore := oreZ, players := [leftPl 2 1 b h, leftPl 1 4 c i], lots := [] }
def lefB : ByteArray := bytesOf [108, 101, 102, 116]
theorem left_words (s : SWorld) (n : Nat) (x y : Int) (b : ByteArray) (h : Int) : wordsS s n (leftPl x y b h) (splitB leftT) = (0, s.setPl n (leftPl x y lefB h)) := by
  have sp : splitB leftT = [[97], [108, 101, 102, 116]] := by decide
  have nm : nameB [97] = true := by decide
  have pl : plainB [108, 101, 102, 116] = true := by simp only [plainB, amongB, eqS, Lib.toList_data]; decide
  have ix : unitIx (leftPl x y b h).units (bytesOf [97]) = 0 := by simp [unitIx, leftPl, leftUn, ixOf, eqS, Lib.toList_data, firstU.bytesA, bytesOf]
  rw [sp]
  unfold wordsS
  simp only [nm, pl, Bool.and_self, if_true]
  unfold tellS
  rw [ix]
  rfl
theorem left_first : orderS sideZ 0 leftT = (0, leftW 0 lefB emptyB 0 0) := by
  unfold orderS
  rw [if_pos (by simp [sideZ, newS, startsZ])]
  show wordsS sideZ 0 (leftPl 2 1 emptyB 0) (splitB leftT) = _
  rw [left_words]
  rfl
theorem left_next : orderS (leftW 0 lefB emptyB 0 0) 1 leftT = (0, leftW 0 lefB lefB 0 0) := by
  unfold orderS
  rw [if_pos (by simp [leftW])]
  show wordsS (leftW 0 lefB emptyB 0 0) 1 (leftPl 1 4 emptyB 0) (splitB leftT) = _
  rw [left_words]
  rfl
theorem left_tick : tickS (leftW 0 lefB lefB 0 0) = leftW 1 emptyB emptyB 1 1 := by
  have one : playerS (leftW 0 lefB lefB 0 0) 0 = leftW 0 emptyB lefB 1 0 := by
    show doesS (leftW 0 lefB lefB 0 0) 0 0 = _
    have hd : doesS (leftW 0 lefB lefB 0 0) 0 0 = actS (leftW 0 emptyB lefB 0 0) 0 0 (leftPl 2 1 emptyB 0) (leftUn 2 1 emptyB 0) lefB emptyB := rfl
    rw [hd]
    unfold actS
    simp only [lefB, Lib.toList_data, bytesOf_toList]
    rw [if_neg (by decide), if_pos (by decide)]
    rfl
  have two : playerS (leftW 0 emptyB lefB 1 0) 1 = leftW 0 emptyB emptyB 1 1 := by
    show doesS (leftW 0 emptyB lefB 1 0) 1 0 = _
    have hd : doesS (leftW 0 emptyB lefB 1 0) 1 0 = actS (leftW 0 emptyB emptyB 1 0) 1 0 (leftPl 1 4 emptyB 0) (leftUn 1 4 emptyB 0) lefB emptyB := rfl
    rw [hd]
    unfold actS
    simp only [lefB, Lib.toList_data, bytesOf_toList]
    rw [if_neg (by decide), if_pos (by decide)]
    rfl
  rw [tickS_nil rfl]
  have tt : tickTo (leftW 0 lefB lefB 0 0) 2 = playerS (playerS (leftW 0 lefB lefB 0 0) 0) 1 := rfl
  have hl : (leftW 0 lefB lefB 0 0).players.length = 2 := rfl
  rw [hl, tt, one, two]
  rfl
theorem idle_tick : tickS sideA = { sideA with now := 1 } := by
  have idle : ∀ n, n < 2 → playerS sideA n = sideA := by
    intro n hn
    have : n = 0 ∨ n = 1 := by omega
    rcases this with rfl | rfl
    · show doesS sideA 0 0 = _
      have hd : doesS sideA 0 0 = actS sideA 0 0 (leftPl 1 1 emptyB 0) (leftUn 1 1 emptyB 0) emptyB emptyB := rfl
      rw [hd]
      simp [actS, emptyB, Lib.toList_data]
    · show doesS sideA 1 0 = _
      have hd : doesS sideA 1 0 = actS sideA 1 0 (leftPl 4 2 emptyB 0) (leftUn 4 2 emptyB 0) emptyB emptyB := rfl
      rw [hd]
      simp [actS, emptyB, Lib.toList_data]
  rw [tickS_nil rfl]
  have tt : tickTo sideA 2 = playerS (playerS sideA 0) 1 := rfl
  have hl : sideA.players.length = 2 := rfl
  rw [hl, tt, idle 0 (by omega), idle 1 (by omega)]
  rfl
theorem side_first : leftW 1 emptyB emptyB 1 1 = rotS { sideA with now := 1 } := rfl
theorem Trn.first : Trn { sideA with now := 1 } := by
  refine ⟨rfl, rfl, ClnS.new (W := 6) (H := 4) (S := 2) (ore := oreA) (starts := startsA), ?_, rfl⟩
  intro p hp
  simp only [sideA, newS, startsA, List.map_cons, List.map_nil, List.mem_cons, List.not_mem_nil, or_false] at hp
  rcases hp with rfl | rfl <;> rfl
end Go.Proofs.YtlafddeoheambaaGreatDoor

/-
  The function sides of package hazekeep.
-/
namespace Go.Proofs.YtlafddeoheambaaGreatDoor
open Go.RowKit

/-- A world of New, as a keep holds it: ore and starts lie in two new rows. -/
theorem new_two (w wb wc : World) (g : Nat) (W H S : Int) (ore starts : List SSpot) (hg : wb.heap.size = g) (hb : Below w.heap.size w wb)
    (hwc : Below (g + 1 + 1) ((wb.alloc (.cells (ore.flatMap spotCells).toArray 63)).alloc (.cells (starts.flatMap spotCells).toArray 63)) wc) (hlo : ore.length = 4) (hls : starts.length = 2) (hN : newB W H S ore starts = true) (b1 : I64s ore) (b2 : I64s starts) :
    Calls Tryz.prog 25 #[.agg #[.int .i64 W, .int .i64 H, .int .i64 S, .slice (some ⟨g, 0, none⟩) 4 4, .slice (some ⟨g + 1, 0, none⟩) 2 2]] wc fun e w' => ∃ X : XW, e = .returned (.tuple #[.pointer (some ⟨X.b, 0, none⟩), .int .i64 0]) ∧ KIn w w' X ∧ X.S = newS W H S ore starts := by
  have s1 : (wb.alloc (.cells (ore.flatMap spotCells).toArray 63)).heap.size = g + 1 := by simp [hg]
  have h2 := Go.heap_alloc_new (wb.alloc (.cells (ore.flatMap spotCells).toArray 63)) (.cells (starts.flatMap spotCells).toArray 63)
  have h1 := Go.heap_alloc_new wb (.cells (ore.flatMap spotCells).toArray 63)
  rw [s1] at h2
  rw [hg] at h1
  have h1' : wc.heap[g]? = some (.cells (ore.flatMap spotCells).toArray 63 (0, 0)) := by rw [hwc.block g (by omega), Below.heap_alloc _ _ _ (by omega), h1]
  have h2' : wc.heap[g + 1]? = some (.cells (starts.flatMap spotCells).toArray 63 (0, 0)) := by rw [hwc.block (g + 1) (by omega), h2]
  have hsz := hb.size
  have hbc : Below w.heap.size w wc := (((hb.alloc hb.size _).alloc (by simp; omega) _).trans (hwc.mono (by omega)))
  have ho : SpIn wc (.slice (some ⟨g, 0, none⟩) 4 4) ore := SpIn.mk (fun j u hu => by rw [cell_of_row _ _ _ _ _ _ h1']; simpa using hu) (lt_of_some h1') hlo
  have hs : SpIn wc (.slice (some ⟨g + 1, 0, none⟩) 2 2) starts := SpIn.mk (fun j u hu => by rw [cell_of_row _ _ _ _ _ _ h2']; simpa using hu) (lt_of_some h2') hls
  refine (xnew_any wc W H S _ _ _ _ ho hs (by omega) (by omega) b1 b2).mono ?_
  rintro e w' ⟨hb', ⟨hf, _⟩ | ⟨_, X, he, hr, hok, hS, hsl, hf⟩⟩
  · rw [hN] at hf; cases hf
  · exact ⟨X, he, ⟨hbc.trans (hb'.mono hbc.size), hr, hok, by rw [hS]; exact GoodS.new hN, news_new hS hsl, by rw [hsl]; exact SaleOK.nil, fun r hr' => Nat.le_trans hbc.size (hf r hr')⟩, hS⟩
theorem i64A : I64s oreA := by
  intro s hs
  simp [oreA] at hs
  rcases hs with rfl | rfl | rfl | rfl <;> simp
theorem i64sA : I64s startsA := by
  intro s hs
  simp [startsA] at hs
  rcases hs with rfl | rfl <;> simp
theorem i64Z : I64s oreZ := by
  intro s hs
  simp [oreZ] at hs
  rcases hs with rfl | rfl | rfl | rfl <;> simp
theorem i64sZ : I64s startsZ := by
  intro s hs
  simp [startsZ] at hs
  rcases hs with rfl | rfl <;> simp
set_option maxRecDepth 100000 in
set_option maxHeartbeats 4000000 in
theorem sidesA_in (w : World) : Calls Tryz.prog 9 #[.bool false] w fun e w' => ∃ X : XW, e = .returned (.pointer (some ⟨X.b, 0, none⟩)) ∧ KIn w w' X ∧ X.S = sideA := by
  have HN : Hid (∀ (wc : World) (o : Obj), wc = ((w.alloc (.cells (oreA.flatMap spotCells).toArray 63)).alloc (.cells (startsA.flatMap spotCells).toArray 63)).alloc o →
      Calls Tryz.prog 25 #[.agg #[.int .i64 6, .int .i64 4, .int .i64 2, .slice (some ⟨w.heap.size, 0, none⟩) 4 4, .slice (some ⟨w.heap.size + 1, 0, none⟩) 2 2]] wc fun e w' => ∃ X : XW, e = .returned (.tuple #[.pointer (some ⟨X.b, 0, none⟩), .int .i64 0]) ∧ KIn w w' X ∧ X.S = sideA) := fun wc o hwc =>
    new_two w w wc w.heap.size 6 4 2 oreA startsA rfl (Below.refl _ _) (by rw [hwc]; exact (Below.refl _ _).alloc (by simp) _) rfl rfl side_newA i64A i64sA
  go_enter Tryz.func9, Tryz.ntmps9
  go_wp2_with fail
  refine (HN.out _ _ rfl).mono ?_
  rintro e w1 ⟨X, rfl, hR⟩
  have HR := hidOf hR
  clear hR HN
  go_wp2
  go_ret
  exact ⟨X, rfl, HR.out⟩
set_option maxRecDepth 100000 in
set_option maxHeartbeats 4000000 in
theorem sidesZ_in (w : World) : Calls Tryz.prog 9 #[.bool true] w fun e w' => ∃ X : XW, e = .returned (.pointer (some ⟨X.b, 0, none⟩)) ∧ KIn w w' X ∧ X.S = sideZ := by
  have HN : Hid (∀ (wc : World) (o1 o2 o3 : Obj), wc = ((((w.alloc o1).alloc o2).alloc o3).alloc (.cells (oreZ.flatMap spotCells).toArray 63)).alloc (.cells (startsZ.flatMap spotCells).toArray 63) →
      Calls Tryz.prog 25 #[.agg #[.int .i64 4, .int .i64 6, .int .i64 2, .slice (some ⟨w.heap.size + 1 + 1 + 1, 0, none⟩) 4 4, .slice (some ⟨w.heap.size + 1 + 1 + 1 + 1, 0, none⟩) 2 2]] wc fun e w' => ∃ X : XW, e = .returned (.tuple #[.pointer (some ⟨X.b, 0, none⟩), .int .i64 0]) ∧ KIn w w' X ∧ X.S = sideZ) := fun wc o1 o2 o3 hwc =>
    new_two w (((w.alloc o1).alloc o2).alloc o3) wc (w.heap.size + 1 + 1 + 1) 4 6 2 oreZ startsZ (by simp) ((((Below.refl _ _).alloc (Nat.le_refl _) _).alloc (by simp) _).alloc (by simp; omega) _) (by rw [hwc]; exact Below.refl _ _) rfl rfl side_newZ i64Z i64sZ
  go_enter Tryz.func9, Tryz.ntmps9
  go_wp2_with fail
  refine (HN.out _ _ _ _ rfl).mono ?_
  rintro e w1 ⟨X, rfl, hR⟩
  have HR := hidOf hR
  clear hR HN
  go_wp2
  go_ret
  exact ⟨X, rfl, HR.out⟩
end Go.Proofs.YtlafddeoheambaaGreatDoor

/-
  The functions lines and begins of package hazekeep.
-/
namespace Go.Proofs.YtlafddeoheambaaGreatDoor
open Go.RowKit

theorem piece_eq (s : ByteArray) (f k : Nat) : s.extract f k = bytesOf ((s.data.toList.take k).drop f) := by
  apply bytes_ext
  rw [Lib.extract_data, bytesOf_toList, List.drop_take]
theorem cut_end {s : ByteArray} {k : Nat} {ls : List (List UInt8)} {r : List UInt8} (h : k < s.size) (hc : cutL (s.data.toList.take k) = (ls, r)) (he : s[k] = 10) : cutL (s.data.toList.take (k + 1)) = (ls ++ [r], (s.data.toList.take (k + 1)).drop (k + 1)) := by
  have hl : (s.data.toList.take (k + 1)).drop (k + 1) = [] := by
    apply List.drop_eq_nil_of_le
    exact List.length_take_le _ _
  rw [hl, take_snoc s k h, cut_snoc, hc, he]
  rfl
theorem cut_on {s : ByteArray} {k f : Nat} {ls : List (List UInt8)} (h : k < s.size) (hf : f ≤ k) (hc : cutL (s.data.toList.take k) = (ls, (s.data.toList.take k).drop f)) (he : s[k] ≠ 10) : cutL (s.data.toList.take (k + 1)) = (ls, (s.data.toList.take (k + 1)).drop f) := by
  have hl : (s.data.toList.take k).length = k := by
    rw [List.length_take]
    have : s.data.toList.length = s.size := by rw [Array.length_toList]; rfl
    omega
  rw [take_snoc s k h, cut_snoc, hc, List.drop_append_of_le_length (by omega)]
  unfold cutStep
  rw [if_neg he]

set_option maxRecDepth 100000 in
set_option maxHeartbeats 4000000 in
theorem klines_any (s : ByteArray) (w : World) (hs : s.size ≤ 10000000000) :
    Calls Tryz.prog 35 #[.string s] w fun e w' => ∃ v, e = .returned v ∧ Below w.heap.size w w' ∧ w'.ownsRow w.heap.size 9 1 v (linesB s.data.toList).length (strs (linesB s.data.toList)) := by
  obtain ⟨i0, hi, hz0, hz1, hz2⟩ := info_parts Tryz.infoString
  go_enter Tryz.func35, Tryz.ntmps35
  go_wp2
  go_loopw [3, 4, 5] (fun l fr i w' => ∃ (k f c : Nat) (a : Option Addr) (ls : List (List UInt8)), k ≤ s.size ∧ f ≤ k ∧ i = .int .i64 k ∧ fr = .int .i64 f ∧ l = .slice a ls.length c ∧ Hid (Below w.heap.size w w') ∧ Hid (cutL (s.data.toList.take k) = (ls, (s.data.toList.take k).drop f)) ∧ ls.length ≤ k ∧
      Hid (w'.ownsRow w.heap.size 9 1 (.slice a ls.length c) ls.length (strs ls))) (fun _ _ i _ => s.size + 1 - (intOf i).toNat)
  case atStart => exact ⟨0, 0, 0, none, [], Nat.zero_le _, Nat.zero_le _, rfl, rfl, rfl, Below.refl _ _, by unfold Hid; simp [cutL], Nat.le_refl _, World.ownsRow_nil _ _ _ _⟩
  case round =>
    obtain ⟨k, f, c, a, ls, hk, hf, rfl, rfl, rfl, hb, hcut, hlk, hown⟩ := hrel
    by_cases hlt : k < s.size
    · by_cases hc : (s[k].toNat : Int) = 10
      · have he : s[k] = 10 := by apply UInt8.toNat.inj; show s[k].toNat = 10; omega
        have hs2 : Hid (cutL (s.data.toList.take (k + 1)) = (ls ++ [(s.data.toList.take k).drop f], (s.data.toList.take (k + 1)).drop (k + 1))) := cut_end hlt hcut.out he
        have hc' : ((s[k].toNat : Int) == 10) = true := by simpa using hc
        have hc3 : ls.length ≤ c ∧ c ≤ maxLen := by
          rcases own_form (own_any hown.out) with ⟨h, h0, _⟩ | ⟨g', c', h, h1, h2, _⟩
          · injection h with _ _ h
            exact ⟨by omega, by unfold maxLen; omega⟩
          · injection h with _ _ h
            exact ⟨by omega, by unfold maxLen at *; omega⟩
        obtain ⟨hc3a, hc3b⟩ := hc3
        unfold maxLen at hc3b
        have HP : Hid (Value.string (s.extract f k) = .string (bytesOf ((s.data.toList.take k).drop f))) := by unfold Hid; rw [piece_eq]
        have HB9 : Hid (∀ (o : Obj) (wx : World), (wr.alloc o).grownBy wx (Value.slice a ls.length c).ownBlock → Hid (Below w.heap.size w wx)) := fun o wx hg => by
          refine (hb.out.alloc hb.out.size _).grown hg (by have := hb.out.size; simp; omega) (fun r hr => ?_)
          exact (hown.out.lt r hr).1
        have HO2 : Hid (∀ o, (wr.alloc o).ownsRow w.heap.size 9 1 (.slice a ls.length c) ls.length (strs ls)) := fun o => ownsRow_alloc hown.out o
        have HBs := hidOf' hb.out.size
        have hfs : f ≤ s.size := by omega
        clear hc hb hown hcut he
        go_wp2_with (at_builtin; refine wpList_append_lies _ rfl _ _ _ rfl w.heap.size 9 i0 _ 1 16 Tryz.underlying93 hi hz0 hz1 hz2 rfl (by omega) (.slice a ls.length c) ls.length (strs ls) rfl (by exact HO2.out _) ⟨wr.heap.size, 0, none⟩ 1 1 [.string (s.extract f k)] rfl rfl (by exact World.news_of_block (Go.heap_alloc_new wr _)) (by intro u hu; simp at hu; subst hu; rfl) (by omega) (by unfold maxLen; omega) (by omega) (by have := HBs.out; simp; omega) (wr.heap.size + 1) (by simp) ?_; intro g' cap' w1 hown1 hgrow hat hlt')
        have hown2 : Hid (w1.ownsRow w.heap.size 9 1 (.slice (some ⟨g', 0, none⟩) (ls ++ [(s.data.toList.take k).drop f]).length cap') (ls ++ [(s.data.toList.take k).drop f]).length (strs (ls ++ [(s.data.toList.take k).drop f]))) := by
          unfold Hid
          have e : strs (ls ++ [(s.data.toList.take k).drop f]) = strs ls ++ [.string (s.extract f k)] := by rw [HP.out]; simp [strs]
          rw [e, List.length_append]
          exact hown1
        have hb2 := HB9.out _ _ hgrow
        exact ⟨⟨k + 1, k + 1, cap', _, ls ++ [(s.data.toList.take k).drop f], by omega, by omega, by go_num, by go_num, by rw [List.length_append]; rfl, hb2, hs2, by rw [List.length_append]; simp; omega, hown2⟩, by simp [intOf]; omega⟩
      · have he : s[k] ≠ 10 := fun e => hc (by rw [e]; rfl)
        have hs2 : Hid (cutL (s.data.toList.take (k + 1)) = (ls, (s.data.toList.take (k + 1)).drop f)) := cut_on hlt hf hcut.out he
        have hc' : ((s[k].toNat : Int) == 10) = false := by simpa using hc
        clear hc he hcut
        go_wp2
        exact ⟨⟨k + 1, f, c, a, ls, by omega, by omega, by go_num, rfl, rfl, hb, hs2, by omega, hown⟩, by simp [intOf]; omega⟩
    · have he : k = s.size := by omega
      have G : Hid (linesB s.data.toList = ls) := by
        unfold Hid linesB
        have := hcut.out
        rw [he, List.take_of_length_le (by simp)] at this
        rw [this]
      have HO := hown
      clear he hcut hown
      go_wp2
      go_ret
      rw [G.out]
      exact ⟨_, rfl, hb.out, HO.out⟩
set_option maxRecDepth 100000 in
set_option maxHeartbeats 1000000 in
theorem kbegins_any (s t : ByteArray) (w : World) :
    Calls Tryz.prog 36 #[.string s, .string t] w fun e w' => e = .returned (.bool (begB s.data.toList t.data.toList)) ∧ Below w.heap.size w w' := by
  have e1 : s.data.toList.length = s.size := by rw [Array.length_toList]; rfl
  have e2 : t.data.toList.length = t.size := by rw [Array.length_toList]; rfl
  by_cases h : t.size ≤ s.size
  · have hv : Hid (((s.extract 0 t.size).toList == t.toList) = begB s.data.toList t.data.toList) := by
      unfold Hid begB
      rw [Lib.toList_data, Lib.toList_data, Lib.extract_data, e1, e2, decide_eq_true h]
      simp
    obtain ⟨q, hq⟩ : ∃ q, q = ((s.extract 0 t.size).toList == t.toList) := ⟨_, rfl⟩
    rw [← hq] at hv
    have hq' := hq.symm
    clear hq e1 e2
    go_enter Tryz.func36, Tryz.ntmps36
    go_wp2
    go_ret
    exact ⟨ret_bool hv.out, Below.refl _ _⟩
  · have hv : Hid (begB s.data.toList t.data.toList = false) := by
      unfold Hid begB
      rw [e1, e2, decide_eq_false h]
      rfl
    clear e1 e2
    go_enter Tryz.func36, Tryz.ntmps36
    go_wp2
    go_ret
    exact ⟨ret_bool hv.out.symm, Below.refl _ _⟩
end Go.Proofs.YtlafddeoheambaaGreatDoor

/-
  The functions words and units of package hazekeep.
-/
namespace Go.Proofs.YtlafddeoheambaaGreatDoor
open Go.RowKit

set_option maxRecDepth 100000 in
set_option maxHeartbeats 4000000 in
theorem kwords_any (s : ByteArray) (w : World) (hs : s.size ≤ 10000000000) :
    Calls Tryz.prog 37 #[.string s] w fun e w' => ∃ g cap, e = .returned (.slice (some ⟨g, 0, none⟩) (splitB s.data.toList).length cap) ∧ Below w.heap.size w w' ∧
      w'.ownsRow w.heap.size 9 1 (.slice (some ⟨g, 0, none⟩) (splitB s.data.toList).length cap) (splitB s.data.toList).length (strs (splitB s.data.toList)) := by
  obtain ⟨i0, hi, hz0, hz1, hz2⟩ := info_parts Tryz.infoString
  go_enter Tryz.func37, Tryz.ntmps37
  go_wp2
  go_loopw [3, 4] (fun l i w' => ∃ (k g cap : Nat) (ws : List (List UInt8)) (x : List UInt8), k ≤ s.size ∧ i = .int .i64 k ∧ l = .slice (some ⟨g, 0, none⟩) (ws.length + 1) cap ∧ Below w.heap.size w w' ∧ Hid (splitB (s.data.toList.take k) = ws ++ [x]) ∧ ws.length ≤ k ∧
      Hid (w'.ownsRow w.heap.size 9 1 (.slice (some ⟨g, 0, none⟩) (ws.length + 1) cap) (ws.length + 1) (strs (ws ++ [x])))) (fun _ i _ => s.size + 1 - (intOf i).toNat)
  case atStart =>
    refine ⟨0, w.heap.size, 1, [], [], Nat.zero_le _, rfl, rfl, (Below.refl _ _).alloc (Nat.le_refl _) _, by unfold Hid; simp [splitB], Nat.le_refl _, ?_⟩
    exact ⟨rfl, .inr ⟨w.heap.size, 1, _, rfl, Nat.le_refl _, Go.heap_alloc_new w _, by simp, by unfold maxLen; simp, rfl, rfl⟩⟩
  case round =>
    obtain ⟨k, g, cap, ws, x, hk, rfl, rfl, hb, hsp, hwk, hown⟩ := hrel
    by_cases hlt : k < s.size
    · by_cases hc : (s[k].toNat : Int) = 32
      · have hs2 : Hid (splitB (s.data.toList.take (k + 1)) = (ws ++ [x]) ++ [[]]) := by
          unfold Hid
          have e : s[k] = 32 := by apply UInt8.toNat.inj; show s[k].toNat = 32; omega
          rw [take_snoc s k hlt, e, splitB_blank, hsp.out]
        have hc' : ((s[k].toNat : Int) == 32) = true := by simpa using hc
        have hw2 : (ws ++ [x]).length = ws.length + 1 := by simp
        clear hc
        go_wp2_with (at_builtin; refine wpList_append_lies _ rfl _ _ _ rfl w.heap.size 9 i0 _ 1 16 Tryz.underlying93 hi hz0 hz1 hz2 rfl (by omega) (.slice (some ⟨g, 0, none⟩) (ws.length + 1) cap) (ws.length + 1) (strs (ws ++ [x])) rfl (by exact ownsRow_alloc hown.out _) ⟨wr.heap.size, 0, none⟩ 1 1 [.string ⟨#[]⟩] rfl rfl (by exact World.news_of_block (Go.heap_alloc_new wr _)) (by intro u hu; simp at hu; subst hu; rfl) (by omega) (by unfold maxLen; omega) (by omega) (by have := hb.size; simp; omega) (wr.heap.size + 1) (by simp) ?_; intro g' cap' w1 hown1 hgrow hat hlt')
        have hown2 : Hid (w1.ownsRow w.heap.size 9 1 (.slice (some ⟨g', 0, none⟩) ((ws ++ [x]).length + 1) cap') ((ws ++ [x]).length + 1) (strs ((ws ++ [x]) ++ [[]]))) := by
          unfold Hid
          rw [hw2]
          have e : strs ((ws ++ [x]) ++ [[]]) = strs (ws ++ [x]) ++ [.string ⟨#[]⟩] := by simp [strs, bytesOf]
          rw [e]
          exact hown1
        have hbase := own_base hown.out
        have hb2 : Below w.heap.size w w1 := by
          refine (hb.alloc hb.size _).grown hgrow (by have := hb.size; simp; omega) (fun r hr => ?_)
          have e : g = r := by simpa [Value.ownBlock] using hr
          omega
        exact ⟨⟨k + 1, g', cap', ws ++ [x], [], by omega, by go_num, by rw [hw2], hb2, hs2, by rw [hw2]; omega, hown2⟩, by simp [intOf]; omega⟩
      · have hs2 : Hid (splitB (s.data.toList.take (k + 1)) = ws ++ [x ++ [s[k]]]) := by
          unfold Hid
          rw [take_snoc s k hlt]
          exact splitB_other _ _ (fun e => hc (by rw [e]; rfl)) ws x hsp.out
        have hc' : ((s[k].toNat : Int) == 32) = false := by simpa using hc
        have c0 : wr.cell? ⟨g, ws.length, none⟩ = some (.string (bytesOf x)) := own_cell' hown.out (by simp [strs])
        have fz : wr.frozen? ⟨g, ws.length, none⟩ = false := own_frozen' hown.out _
        have hx : x.length ≤ 10000000000 := by
          have h1 := splitB_sizes (s.data.toList.take k) x (by rw [hsp.out]; simp)
          have h2 : (s.data.toList.take k).length ≤ k := List.length_take_le _ _
          omega
        have hcat : ∀ w, (Op.stringOp .add (bytesOf x) (s.extract k (k + 1))).run Tryz.prog w = .ok (.string (bytesOf (x ++ [s[k]]))) w := by
          intro w
          rw [run_string_add_sum w _ _ (by rw [bytesOf_size, ByteArray.size_extract]; omega), bytesOf_push x s k hlt]
        have hin : (0 : Int) ≤ (ws.length : Int) := by omega
        clear hc
        have hown2 : Hid ((wr.setCell ⟨g, ws.length, none⟩ (.string (bytesOf (x ++ [s[k]])))).drew.ownsRow w.heap.size 9 1 (.slice (some ⟨g, 0, none⟩) (ws.length + 1) cap) (ws.length + 1) (strs (ws ++ [x ++ [s[k]]]))) := by
          have o := own_set (own_any hown.out) ws.length (.string (bytesOf (x ++ [s[k]]))) (by omega)
          have e : (strs (ws ++ [x])).set ws.length (.string (bytesOf (x ++ [s[k]]))) = strs (ws ++ [x ++ [s[k]]]) := by
            simp only [strs, List.map_append, List.map_cons, List.map_nil]
            rw [List.set_append_right _ _ (by simp)]
            simp
          rw [e] at o
          exact own_at o (own_base hown.out)
        have hb2 := hidOf' ((hb.setCell (p := ⟨g, ws.length, none⟩) (own_base hown.out) (.string (bytesOf (x ++ [s[k]])))).drew)
        clear hown
        go_wp2
        go_region
        go_wp2
        exact ⟨⟨k + 1, g, cap, ws, x ++ [s[k]], by omega, by go_num, rfl, hb2.out, hs2, by omega, hown2⟩, by simp [intOf]; omega⟩
    · have he : k = s.size := by omega
      have G : Hid (splitB s.data.toList = ws ++ [x]) := by
        unfold Hid
        rw [← hsp.out, he, List.take_of_length_le (by simp)]
      have HO := hown
      clear he hsp hown
      go_wp2
      go_ret
      rw [G.out]
      exact ⟨g, cap, by simp, hb, by simpa using HO.out⟩
/-- Words that lie in a row of their own. -/
structure WdAt (w : World) (g : Nat) (u : Value) (ws : List (List UInt8)) : Prop where
  lt : g < w.heap.size
  is : ∃ cap, u = .slice (some ⟨g, 0, none⟩) ws.length cap ∧ ws.length ≤ cap ∧ cap ≤ 9223372036854775807
  cell : ∀ (j : Nat) x, ws[j]? = some x → w.cell? ⟨g, j, none⟩ = some (.string (bytesOf x))
theorem WdAt.below {w w' : World} {g : Nat} {u : Value} {ws : List (List UInt8)} (h : WdAt w g u ws) (hb : Below w.heap.size w w') : WdAt w' g u ws :=
  ⟨Nat.lt_of_lt_of_le h.lt hb.size, h.is, fun j x hx => (hb.cell (p := ⟨g, j, none⟩) h.lt).trans (h.cell j x hx)⟩
theorem WdAt.grown {w w' : World} {g : Nat} {u : Value} {ws : List (List UInt8)} {r : Option Nat} (h : WdAt w g u ws) (hg : w.grownBy w' r) (hr : r ≠ some g) : WdAt w' g u ws :=
  ⟨Nat.lt_of_lt_of_le h.lt hg.size, h.is, fun j x hx => (World.cell?_of_block (w := w) (a := ⟨g, j, none⟩) (hg.block g h.lt (Ne.symm hr))).trans (h.cell j x hx)⟩
theorem WdAt.of {w : World} {base g cap : Nat} {ws : List (List UInt8)} (h : w.ownsRow base 9 1 (.slice (some ⟨g, 0, none⟩) ws.length cap) ws.length (strs ws)) : WdAt w g (.slice (some ⟨g, 0, none⟩) ws.length cap) ws := by
  refine ⟨own_lt (own_any h) g (by simp [blk_slice]), ⟨cap, rfl, ?_⟩, fun j x hx => own_cell' h (by simp [strs, hx])⟩
  rcases own_form (own_any h) with ⟨h, h0, _⟩ | ⟨g', c', h, h1, h2, _⟩
  · cases h
  · injection h with _ _ h
    unfold maxLen at h2
    exact ⟨by omega, by omega⟩
theorem own_same' {w w' : World} {base : Nat} {e : TypeId} {size : Nat} {v : Value} {n : Nat} {xs : List Value} (h : w.ownsRow base e size v n xs) (hs : ∀ r ∈ blk v, w'.heap[r]? = w.heap[r]?) : w'.ownsRow base e size v n xs := by
  obtain ⟨h1, h2⟩ := h
  refine ⟨h1, ?_⟩
  rcases h2 with h2 | ⟨g, cap, cur, hv, hb, hg, r⟩
  · exact .inl h2
  · exact .inr ⟨g, cap, cur, hv, hb, by rw [hs g (by rw [hv]; simp [blk_slice])]; exact hg, r⟩
/-- Rows of words, the row of them apart from each. -/
structure Uns (w : World) (base : Nat) (v : Value) (vs : List Value) (wss : List (List (List UInt8))) : Prop where
  row : w.ownsRow base 93 1 v vs.length vs
  len : vs.length = wss.length
  each : ∀ (j : Nat) u ws, vs[j]? = some u → wss[j]? = some ws → ∃ g, v.ownBlock ≠ some g ∧ WdAt w g u ws
def UnsIn (w : World) (v : Value) (wss : List (List (List UInt8))) : Prop := ∃ base vs, Uns w base v vs wss
theorem Uns.below {w w' : World} {base : Nat} {v : Value} {vs : List Value} {wss : List (List (List UInt8))} (h : Uns w base v vs wss) (hb : Below w.heap.size w w') : Uns w' base v vs wss :=
  ⟨own_same' h.row (fun r hr => hb.block r (own_lt (own_any h.row) r hr)), h.len, fun j u ws h1 h2 => by
    obtain ⟨g, hg, hw⟩ := h.each j u ws h1 h2
    exact ⟨g, hg, hw.below hb⟩⟩
theorem UnsIn.below {w w' : World} {v : Value} {wss : List (List (List UInt8))} (h : UnsIn w v wss) (hb : Below w.heap.size w w') : UnsIn w' v wss := by
  obtain ⟨base, vs, h⟩ := h
  exact ⟨base, vs, h.below hb⟩
theorem Uns.nil {w : World} {base : Nat} : Uns w base (.slice none 0 0) [] [] := ⟨World.ownsRow_nil _ _ _ _, rfl, fun j u ws h => by simp at h⟩
theorem Uns.snoc {w w' : World} {base g' cap' : Nat} {v : Value} {vs : List Value} {wss : List (List (List UInt8))} (h : Uns w base v vs wss) {gu : Nat} {u : Value} {ws : List (List UInt8)} (hu : WdAt w gu u ws) (hne : v.ownBlock ≠ some gu)
    (hg : w.grownBy w' v.ownBlock) (hat : v.ownBlock = some g' ∨ w.heap.size ≤ g') (ho : w'.ownsRow base 93 1 (.slice (some ⟨g', 0, none⟩) (vs ++ [u]).length cap') (vs ++ [u]).length (vs ++ [u])) :
    Uns w' base (.slice (some ⟨g', 0, none⟩) (vs ++ [u]).length cap') (vs ++ [u]) (wss ++ [ws]) := by
  have key : ∀ g x y, v.ownBlock ≠ some g → WdAt w g x y → (Value.slice (some ⟨g', 0, none⟩) (vs ++ [u]).length cap').ownBlock ≠ some g ∧ WdAt w' g x y := by
    intro g x y h1 h2
    refine ⟨?_, h2.grown hg h1⟩
    intro e
    have e2 : g' = g := by simpa [Value.ownBlock] using e
    subst e2
    rcases hat with h3 | h3
    · exact h1 h3
    · have := h2.lt
      omega
  refine ⟨ho, by simp [h.len], fun j x y h1 h2 => ?_⟩
  rcases Nat.lt_or_ge j vs.length with hj | hj
  · rw [List.getElem?_append_left hj] at h1
    rw [List.getElem?_append_left (by rw [← h.len]; exact hj)] at h2
    obtain ⟨g, e1, e2⟩ := h.each j x y h1 h2
    exact ⟨g, key g x y e1 e2⟩
  · have hjl := (at_some h1).1
    have e : j = vs.length := by simp at hjl; omega
    subst e
    rw [List.getElem?_append_right (Nat.le_refl _)] at h1
    rw [h.len, List.getElem?_append_right (Nat.le_refl _)] at h2
    simp at h1 h2
    subst h1 h2
    exact ⟨gu, key gu u ws hne hu⟩
theorem cut_len : ∀ (l : List UInt8) (z : List (List UInt8) × List UInt8) (n : Nat), (∀ x ∈ z.1, x.length ≤ n) → z.2.length ≤ n → ∀ x ∈ (l.foldl cutStep z).1, x.length ≤ n + l.length := by
  intro l
  induction l with
  | nil => intro z n h1 _ x hx; exact h1 x hx
  | cons c r ih =>
    intro z n h1 h2 x hx
    rw [List.foldl_cons] at hx
    unfold cutStep at hx
    split at hx
    · have := ih (z.1 ++ [z.2], []) n (fun y hy => by
        rcases List.mem_append.1 hy with hy | hy
        · exact h1 y hy
        · rw [List.mem_singleton.1 hy]; exact h2) (by simp) x hx
      simp
      omega
    · have := ih (z.1, z.2 ++ [c]) (n + 1) (fun y hy => by have := h1 y hy; omega) (by simp; omega) x hx
      simp
      omega
theorem lines_len (l : List UInt8) : ∀ x ∈ linesB l, x.length ≤ l.length := by
  intro x hx
  have := cut_len l ([], []) 0 (by intro y hy; cases hy) (by simp) x hx
  omega
theorem cut_count : ∀ (l : List UInt8) (z : List (List UInt8) × List UInt8), (l.foldl cutStep z).1.length ≤ z.1.length + l.length := by
  intro l
  induction l with
  | nil => intro z; simp
  | cons c r ih =>
    intro z
    rw [List.foldl_cons]
    have := ih (cutStep z c)
    have h2 : (cutStep z c).1.length ≤ z.1.length + 1 := by
      unfold cutStep
      split <;> simp
    simp
    omega
theorem lines_count (l : List UInt8) : (linesB l).length ≤ l.length := by
  have := cut_count l ([], [])
  unfold linesB cutL
  simpa using this
/-- The first k lines that are units, in words. -/
def unsTo (ls : List (List UInt8)) (k : Nat) : List (List (List UInt8)) := ((ls.take k).filter (fun l => begB l unitP)).map splitB
theorem unsTo_yes {ls : List (List UInt8)} {k : Nat} {x : List UInt8} (h : ls[k]? = some x) (hb : begB x unitP = true) : unsTo ls (k + 1) = unsTo ls k ++ [splitB x] := by
  obtain ⟨hk, rfl⟩ := at_some h
  unfold unsTo
  rw [List.take_succ_eq_append_getElem hk, List.filter_append, List.map_append]
  simp [hb]
theorem unsTo_no {ls : List (List UInt8)} {k : Nat} {x : List UInt8} (h : ls[k]? = some x) (hb : begB x unitP = false) : unsTo ls (k + 1) = unsTo ls k := by
  obtain ⟨hk, rfl⟩ := at_some h
  unfold unsTo
  rw [List.take_succ_eq_append_getElem hk, List.filter_append, List.map_append]
  simp [hb]
theorem Tryz.infoStrs : (Tryz.prog.info? 93).map (fun i => (i.zero, i.size, i.bytes)) = some (some (.slice none 0 0), 1, 24) := by kernel_rfl

set_option maxRecDepth 100000 in
set_option maxHeartbeats 4000000 in
theorem kunits_any (s : ByteArray) (w : World) (hs : s.size ≤ 10000000000) :
    Calls Tryz.prog 16 #[.string s] w fun e w' => ∃ v, e = .returned v ∧ Below w.heap.size w w' ∧ UnsIn w' v (unitsB s.data.toList) := by
  obtain ⟨i0, hi, hz0, hz1, hz2⟩ := info_parts Tryz.infoStrs
  have HC := hidOf' (klines_any s w hs)
  have hsl : s.data.toList.length = s.size := by rw [Array.length_toList]; rfl
  have HLen : Hid (∀ x ∈ linesB s.data.toList, x.length ≤ 10000000000) := fun x hx => by have := lines_len _ x hx; omega
  have hcnt : (linesB s.data.toList).length ≤ 10000000000 := by have := lines_count s.data.toList; omega
  obtain ⟨ls, hls⟩ : ∃ ls, ls = linesB s.data.toList := ⟨_, rfl⟩
  have HU : Hid (unitsB s.data.toList = unsTo ls ls.length) := by unfold Hid unitsB unsTo; rw [hls, List.take_of_length_le (Nat.le_refl _)]
  rw [← hls] at HC HLen hcnt
  clear hsl hls
  go_enter Tryz.func16, Tryz.ntmps16
  go_wp2_with fail
  refine HC.out.mono ?_
  rintro e w1 ⟨v, rfl, hb1, ho1⟩
  obtain ⟨ao, g, cap, rfl, hcap, hmax, rd⟩ := own_rd (own_any ho1)
  unfold maxLen at hmax
  have HB1 := hidOf' hb1
  have HLs : Hid (∀ wx, Below w1.heap.size w1 wx → ∀ (k : Nat) x, ls[k]? = some x → ao = some ⟨g, 0, none⟩ ∧ wx.cell? ⟨g, k, none⟩ = some (.string (bytesOf x))) := fun wx h k x hx => by
    have hk := (at_some hx).1
    have e := rd.base (by omega)
    have hg := own_lt (own_any ho1) g (by rw [e]; simp [blk_slice])
    exact ⟨e, (h.cell (p := ⟨g, k, none⟩) hg).trans (rd.cell k _ (by simp [strs, hx]))⟩
  clear hb1 ho1 rd HC
  go_wp2_with fail
  go_loopw [3, 5, 6] (fun o i _ w' => ∃ (k c : Nat) (a : Option Addr) (vs : List Value), k ≤ ls.length ∧ i = .int .i64 k ∧ o = .slice a vs.length c ∧ vs.length ≤ k ∧ Hid (Below w1.heap.size w1 w') ∧ Hid (Uns w' w1.heap.size (.slice a vs.length c) vs (unsTo ls k))) (fun _ i _ _ => ls.length + 1 - (intOf i).toNat)
  case atStart => exact ⟨0, 0, none, [], Nat.zero_le _, rfl, rfl, Nat.le_refl _, Below.refl _ _, Uns.nil⟩
  case round =>
    obtain ⟨k, c, a, vs, hk, rfl, rfl, hvk, hb, hun⟩ := hrel
    by_cases hlt : k < ls.length
    · have hlt' : (k : Int) < (ls.length : Int) := by omega
      obtain ⟨x, hx⟩ : ∃ x, ls[k]? = some x := ⟨ls[k], by simp [hlt]⟩
      obtain ⟨rfl, c0⟩ := HLs.out wr hb.out k x hx
      have hxl := HLen.out x (List.mem_of_getElem? hx)
      have HG := hidOf' (kbegins_any (bytesOf x) ⟨#[117, 110, 105, 116, 32]⟩ wr)
      have HX := hidOf' hx
      clear hx
      go_wp2_with fail
      refine HG.out.mono ?_
      rintro e w2 ⟨rfl, hb2⟩
      have e1 : begB (bytesOf x).data.toList (ByteArray.mk #[117, 110, 105, 116, 32]).data.toList = begB x unitP := by rw [bytesOf_toList]; rfl
      rw [e1]
      clear e1
      have hb' := hidOf' (hb.out.trans (hb2.mono hb.out.size))
      have hun' := hidOf' (hun.out.below hb2)
      clear hb2 hun HG hb c0
      obtain ⟨_, c0⟩ := HLs.out w2 hb'.out k x HX.out
      cases hbg : begB x unitP
      · have hN : Hid (Uns w2 w1.heap.size (.slice a vs.length c) vs (unsTo ls (k + 1))) := by unfold Hid; rw [unsTo_no HX.out hbg]; exact hun'.out
        clear hun'
        go_wp2
        exact ⟨⟨k + 1, c, a, vs, by omega, by go_num, rfl, by omega, hb', hN⟩, by simp [intOf]; omega⟩
      · have HW := hidOf' (kwords_any (bytesOf x) w2 (by rw [bytesOf_size]; omega))
        go_wp2_with fail
        refine HW.out.mono ?_
        rintro e w3 ⟨gw, cw, rfl, hb3, ho3⟩
        rw [bytesOf_toList] at ho3 ⊢
        have HWd := hidOf' (WdAt.of ho3)
        have HBw := hidOf' (own_base ho3)
        have hun3 := hidOf' (hun'.out.below hb3)
        have hb4 := hidOf' (hb'.out.trans (hb3.mono hb'.out.size))
        have HNe : Hid ((Value.slice a vs.length c).ownBlock ≠ some gw) := by
          unfold Hid
          intro e
          have := own_lt (own_any hun'.out.row) gw (by simp [blk, e])
          have := HBw.out
          omega
        have HN : Hid (unsTo ls (k + 1) = unsTo ls k ++ [splitB x]) := unsTo_yes HX.out hbg
        have hc3 : vs.length ≤ c ∧ c ≤ maxLen := by
          rcases own_form (own_any hun3.out.row) with ⟨h, h0, _⟩ | ⟨g', c', h, h1, h2, _⟩
          · injection h with _ _ h
            exact ⟨by omega, by unfold maxLen; omega⟩
          · injection h with _ _ h
            exact ⟨by omega, by unfold maxLen at *; omega⟩
        obtain ⟨hc3a, hc3b⟩ := hc3
        unfold maxLen at hc3b
        clear hb3 ho3 hun' HW hb' c0
        have HBs := hidOf' hb4.out.size
        have HO2 : Hid (∀ o, (w3.alloc o).ownsRow w1.heap.size 93 1 (.slice a vs.length c) vs.length vs) := fun o => ownsRow_alloc hun3.out.row o
        have HS : Hid (∀ (o : Obj) (wx : World) (g' cap' : Nat), (w3.alloc o).grownBy wx (Value.slice a vs.length c).ownBlock → ((Value.slice a vs.length c).ownBlock = some g' ∨ (w3.alloc o).heap.size ≤ g') → wx.ownsRow w1.heap.size 93 1 (.slice (some ⟨g', 0, none⟩) (vs.length + 1) cap') (vs.length + 1) (vs ++ [.slice (some ⟨gw, 0, none⟩) (splitB x).length cw]) → Hid (Below w1.heap.size w1 wx) ∧ Hid (Uns wx w1.heap.size (.slice (some ⟨g', 0, none⟩) (vs ++ [Value.slice (some ⟨gw, 0, none⟩) (splitB x).length cw]).length cap') (vs ++ [.slice (some ⟨gw, 0, none⟩) (splitB x).length cw]) (unsTo ls (k + 1)))) := fun o wx g' cap' hg hat ho => by
          have ha := (Below.refl w3.heap.size w3).alloc (Nat.le_refl _) o
          refine ⟨(hb4.out.alloc hb4.out.size _).grown hg (by have := hb4.out.size; simp; omega) (fun r hr => (hun3.out.row.lt r hr).1), ?_⟩
          unfold Hid
          rw [HN.out]
          exact (hun3.out.below ha).snoc (HWd.out.below ha) HNe.out hg hat (by rw [List.length_append]; exact ho)
        clear hun3 hb4 HWd HNe HN HBw
        go_wp2_with (at_builtin; refine wpList_append_lies _ rfl _ _ _ rfl w1.heap.size 93 i0 _ 1 24 Tryz.underlying38 hi hz0 hz1 hz2 rfl (by omega) (.slice a vs.length c) vs.length vs rfl (by exact HO2.out _) ⟨w3.heap.size, 0, none⟩ 1 1 [.slice (some ⟨gw, 0, none⟩) (splitB x).length cw] rfl rfl (by exact World.news_of_block (Go.heap_alloc_new w3 _)) (by intro u hu; simp at hu; subst hu; rfl) (by omega) (by unfold maxLen; omega) (by omega) (by have := HBs.out; simp; omega) (w3.heap.size + 1) (by simp) ?_; intro g' cap' w4 hown1 hgrow hat hlt4)
        obtain ⟨f1, f2⟩ := HS.out _ w4 g' cap' hgrow (hat.imp id (fun e => by rw [e]; simp)) hown1
        exact ⟨⟨k + 1, cap', _, vs ++ [.slice (some ⟨gw, 0, none⟩) (splitB x).length cw], by omega, by go_num, by rw [List.length_append]; rfl, by rw [List.length_append]; simp; omega, f1, f2⟩, by simp [intOf]; omega⟩
    · have hkl : k = ls.length := by omega
      have hkl' : decide ((k : Int) < (ls.length : Int)) = false := decide_eq_false (by omega)
      have G : Hid (UnsIn wr (.slice a vs.length c) (unitsB s.data.toList)) := ⟨_, vs, by rw [HU.out, ← hkl]; exact hun.out⟩
      have HB2 := hidOf' (HB1.out.trans (hb.out.mono HB1.out.size))
      clear hun hb hkl
      go_wp2
      go_ret
      exact ⟨_, rfl, HB2.out, G.out⟩
end Go.Proofs.YtlafddeoheambaaGreatDoor

/-
  The function quarter of package hazekeep.
-/
namespace Go.Proofs.YtlafddeoheambaaGreatDoor
open Go.Shelf
shelf_lay Lays.n172 Nm 172 at Tryz as Tryz.laysAtoi
end Go.Proofs.YtlafddeoheambaaGreatDoor
namespace Go.Proofs.YtlafddeoheambaaGreatDoor
open Go.RowKit

theorem digits_len : ∀ (k u : Nat), u < 10 ^ (k + 1) → (Lib.decDigits u).length ≤ k + 1 := by
  intro k
  induction k with
  | zero =>
    intro u hu
    have : u < 10 := by simpa using hu
    rw [Lib.decDigits, dif_pos this]
    simp
  | succ k ih =>
    intro u hu
    rw [Lib.decDigits]
    split
    · simp
    · have := ih (u / 10) (by rw [Nat.pow_succ] at hu; omega)
      simp
      omega
theorem itoa_short (n : Int) (h : 0 ≤ n ∧ n ≤ 1000000) : (Lib.itoa n).length ≤ 18 := by
  obtain ⟨u, rfl⟩ := Int.eq_ofNat_of_zero_le h.1
  have e : Lib.itoa (u : Int) = Lib.decDigits u := by unfold Lib.itoa; rw [if_neg (by omega)]; simp
  rw [e]
  have := digits_len 7 u (by have : (10 : Nat) ^ (7 + 1) = 100000000 := rfl; omega)
  omega
theorem atoi_any (n : Int) (h : 0 ≤ n ∧ n ≤ 1000000) (w : World) :
    Calls Tryz.prog 34 #[.string (itoaB n)] w fun e w' => e = .returned (.tuple #[.int .i64 n, .nilIface]) ∧ Below w.heap.size w w' := by
  have hs : (itoaB n).size ≤ 18 := by
    have := itoa_short n h
    show (Lib.itoa n).toArray.size ≤ 18
    simpa using this
  have hv : Lib.atoi (itoaB n).data.toList = some n := by
    show Lib.atoi (Lib.itoa n).toArray.toList = some n
    simpa using atoi_itoa n h.1
  refine (Any.strconv_Atoi Tryz.laysAtoi (itoaB n) n hs hv w).mono ?_
  rintro e w' ⟨rfl, t, rfl⟩
  exact ⟨rfl, ⟨rfl, rfl, rfl, by rw [Lib.bytesWorld_size]; omega, fun j hj => Lib.bytesWorld_at_old w _ t j hj⟩⟩

/-- The words of a unit, as they lie in memory. -/
structure QRow (w : World) (ga gp k cp : Nat) (nm x y h c : ByteArray) : Prop where
  a : w.cell? ⟨ga, k, none⟩ = some (.slice (some ⟨gp, 0, none⟩) 7 cp)
  c1 : w.cell? ⟨gp, 1, none⟩ = some (.string nm)
  c2 : w.cell? ⟨gp, 2, none⟩ = some (.string x)
  c3 : w.cell? ⟨gp, 3, none⟩ = some (.string y)
  c4 : w.cell? ⟨gp, 4, none⟩ = some (.string h)
  c6 : w.cell? ⟨gp, 6, none⟩ = some (.string c)
theorem QRow.below {w w' : World} {ga gp k cp : Nat} {nm x y h c : ByteArray} (q : QRow w ga gp k cp nm x y h c) (hb : Below w.heap.size w w') : QRow w' ga gp k cp nm x y h c := by
  have la := block_lt_of_cell q.a
  have lp := block_lt_of_cell q.c1
  exact ⟨(hb.cell (p := ⟨ga, k, none⟩) la).trans q.a, (hb.cell (p := ⟨gp, 1, none⟩) lp).trans q.c1, (hb.cell (p := ⟨gp, 2, none⟩) lp).trans q.c2, (hb.cell (p := ⟨gp, 3, none⟩) lp).trans q.c3, (hb.cell (p := ⟨gp, 4, none⟩) lp).trans q.c4, (hb.cell (p := ⟨gp, 6, none⟩) lp).trans q.c6⟩
def uRow (w : World) (ga gp k cp : Nat) (u : SUnit) : Prop := QRow w ga gp k cp u.name (itoaB u.x) (itoaB u.y) (letterB u.head) (itoaB u.cargo)
theorem uns_rows {w : World} {v : Value} {us : List SUnit} (h : UnsIn w v (us.map unitWs)) : ∃ ao ga cap, v = .slice ao us.length cap ∧ us.length ≤ cap ∧ cap ≤ 9223372036854775807 ∧
    ∀ (k : Nat) u, us[k]? = some u → ao = some ⟨ga, 0, none⟩ ∧ ∃ gp cp, 7 ≤ cp ∧ cp ≤ 9223372036854775807 ∧ uRow w ga gp k cp u := by
  obtain ⟨base, vs, h⟩ := h
  obtain ⟨ao, ga, cap, rfl, hcap, hmax, rd⟩ := own_rd (own_any h.row)
  have hl : vs.length = us.length := by rw [h.len]; simp
  unfold maxLen at hmax
  refine ⟨ao, ga, cap, by rw [hl], by omega, by omega, fun k u hu => ?_⟩
  have hk := (at_some hu).1
  have hv : vs[k]? = some vs[k] := by simp [hl, hk]
  have hw : (us.map unitWs)[k]? = some (unitWs u) := by rw [List.getElem?_map, hu]; rfl
  obtain ⟨gp, _, hd⟩ := h.each k _ _ hv hw
  obtain ⟨cp, e, h7, hm⟩ := hd.is
  refine ⟨rd.base (by omega), gp, cp, h7, hm, ?_, ?_, hd.cell 2 _ rfl, hd.cell 3 _ rfl, ?_, hd.cell 6 _ rfl⟩
  · rw [rd.cell k _ hv, e]
    rfl
  · rw [hd.cell 1 _ rfl, bytesOf_data]
  · rw [hd.cell 4 _ rfl, bytesOf_data]
def hdB (j : Nat) : ByteArray := if j = 0 then ⟨#[101, 110]⟩ else if j = 1 then ⟨#[110, 119]⟩ else if j = 2 then ⟨#[119, 115]⟩ else ⟨#[115, 101]⟩
theorem hd_eq : ∀ (j h : Fin 4), ((hdB j.val).data.toList == (letterB (h.val : Int) ++ letterB (((h.val : Int) + 1) % 4)).data.toList) = decide (j = h) := by decide +kernel
theorem letter_size (h : Int) : (letterB h).size = 1 := by
  unfold letterB
  repeat' split
  all_goals rfl
theorem heads_cell (w : World) (T : TypeId) (j : Nat) (hj : j < 4) : (w.alloc (.cells #[.string ⟨#[101, 110]⟩, .string ⟨#[110, 119]⟩, .string ⟨#[119, 115]⟩, .string ⟨#[115, 101]⟩] T)).cell? ⟨w.heap.size, j, none⟩ = some (.string (hdB j)) := by
  rw [cell_of_row _ _ _ _ _ _ (Go.heap_alloc_new w _)]
  have : j = 0 ∨ j = 1 ∨ j = 2 ∨ j = 3 := by omega
  rcases this with rfl | rfl | rfl | rfl <;> rfl
theorem below_drewN {B : Nat} {w w' : World} (h : Below B w w') (n : Nat) : Below B w (w'.drewN n) := ⟨h.os, h.tape, h.output, h.size, h.block⟩
structure UOk (u : SUnit) : Prop where
  x : 0 ≤ u.x ∧ u.x ≤ 9
  y : 0 ≤ u.y ∧ u.y ≤ 3
  h : 0 ≤ u.head ∧ u.head ≤ 3

set_option maxRecDepth 100000 in
set_option maxHeartbeats 8000000 in
theorem kquarter_any (w : World) (va vb : Value) (us : List SUnit) (ha : UnsIn w va (us.map unitWs)) (hb : UnsIn w vb ((us.map rotU).map unitWs)) (hne : 0 < us.length) (hu : ∀ u ∈ us, UOk u) (ht : Tab w) :
    Calls Tryz.prog 15 #[va, vb] w fun e w' => e = .returned (.bool true) ∧ Below w.heap.size w w' := by
  obtain ⟨ao, ga, ca, rfl, hca, hma, RA⟩ := uns_rows ha
  obtain ⟨bo, gb, cb, hvb, hcb, hmb, RB⟩ := uns_rows hb
  have hl : (us.map rotU).length = us.length := by simp
  rw [hl] at hvb hcb
  subst hvb
  have HA : Hid (∀ wx, Below w.heap.size w wx → ∀ (k : Nat) u, us[k]? = some u → ao = some ⟨ga, 0, none⟩ ∧ ∃ gp cp, 7 ≤ cp ∧ cp ≤ 9223372036854775807 ∧ uRow wx ga gp k cp u) := fun wx h k u hk => by
    obtain ⟨e, gp, cp, h1, h2, h3⟩ := RA k u hk
    exact ⟨e, gp, cp, h1, h2, h3.below h⟩
  have HB : Hid (∀ wx, Below w.heap.size w wx → ∀ (k : Nat) u, us[k]? = some u → bo = some ⟨gb, 0, none⟩ ∧ ∃ gp cp, 7 ≤ cp ∧ cp ≤ 9223372036854775807 ∧ uRow wx gb gp k cp (rotU u)) := fun wx h k u hk => by
    obtain ⟨e, gp, cp, h1, h2, h3⟩ := RB k (rotU u) (by rw [List.getElem?_map, hk]; rfl)
    exact ⟨e, gp, cp, h1, h2, h3.below h⟩
  have HU := hidOf' hu
  have HT := hidOf' ht
  have hll : ((us.length : Int) == (us.length : Int)) = true := by simp
  have hl0 : ((us.length : Int) == 0) = false := by
    rw [beq_eq_false_iff_ne]
    omega
  clear RA RB ha hb hu ht hl
  go_enter Tryz.func15, Tryz.ntmps15
  go_wp2_with fail
  go_loopw [5, 6, 7, 8, 9, 10, 11, 12, 13, 14] (fun i _ _ _ _ _ _ _ _ _ w' => ∃ k : Nat, k ≤ us.length ∧ i = .int .i64 k ∧ Hid (Below w.heap.size w w')) (fun i _ _ _ _ _ _ _ _ _ _ => us.length + 1 - (intOf i).toNat)
  case atStart => exact ⟨0, Nat.zero_le _, rfl, Below.refl _ _⟩
  case round =>
    obtain ⟨k, hk, rfl, hB⟩ := hrel
    by_cases hlt : k < us.length
    · have hlt' : (k : Int) < (us.length : Int) := by omega
      obtain ⟨u, hku⟩ : ∃ u, us[k]? = some u := ⟨us[k], by simp [hlt]⟩
      have ok := HU.out u (List.mem_of_getElem? hku)
      obtain ⟨ux, uy, uh⟩ := ok
      obtain ⟨rfl, gp, cp, h7p, hmp, QP⟩ := HA.out wr hB.out k u hku
      obtain ⟨rfl, gq, cq, h7q, hmq, QQ⟩ := HB.out wr hB.out k u hku
      have KP : Hid (∀ wx, Below wr.heap.size wr wx → QRow wx ga gp k cp u.name (itoaB u.x) (itoaB u.y) (letterB u.head) (itoaB u.cargo)) := fun wx h => QRow.below QP h
      have KQ : Hid (∀ wx, Below wr.heap.size wr wx → QRow wx gb gq k cq u.name (itoaB (3 - u.y)) (itoaB u.x) (letterB ((u.head + 1) % 4)) (itoaB u.cargo)) := fun wx h => QRow.below QQ h
      obtain ⟨j, hj⟩ := Int.eq_ofNat_of_zero_le uh.1
      have hj4 : j < 4 := by omega
      have HE : Hid (∀ i, i < 4 → ((hdB i).toList == (letterB u.head ++ letterB ((u.head + 1) % 4)).toList) = decide (i = j)) := fun i hi => by
        have := hd_eq ⟨i, hi⟩ ⟨j, hj4⟩
        rw [Lib.toList_data, Lib.toList_data, hj]
        rw [this]
        simp
      have hsz := letter_size u.head
      have hsz2 := letter_size ((u.head + 1) % 4)
      obtain ⟨lp, hlp⟩ : ∃ lp, lp = letterB u.head := ⟨_, rfl⟩
      obtain ⟨lq, hlq⟩ : ∃ lq, lq = letterB ((u.head + 1) % 4) := ⟨_, rfl⟩
      obtain ⟨sx, hsx⟩ : ∃ sx, sx = itoaB u.x := ⟨_, rfl⟩
      obtain ⟨sy, hsy⟩ : ∃ sy, sy = itoaB u.y := ⟨_, rfl⟩
      obtain ⟨sc, hsc⟩ : ∃ sc, sc = itoaB u.cargo := ⟨_, rfl⟩
      obtain ⟨s3, hs3⟩ : ∃ s3, s3 = itoaB (3 - u.y) := ⟨_, rfl⟩
      obtain ⟨nm, hnm⟩ : ∃ nm, nm = u.name := ⟨_, rfl⟩
      rw [← hlp, ← hlq] at HE
      rw [← hlp, ← hsx, ← hsy, ← hsc, ← hnm] at KP
      rw [← hlq, ← hsx, ← hsc, ← hs3, ← hnm] at KQ
      rw [← hlp] at hsz
      rw [← hlq] at hsz2
      have HX : Hid (∀ wx, Calls Tryz.prog 34 #[.string sx] wx fun e w' => e = .returned (.tuple #[.int .i64 u.x, .nilIface]) ∧ Below wx.heap.size wx w') := fun wx => by rw [hsx]; exact atoi_any u.x (by omega) wx
      have HY : Hid (∀ wx, Calls Tryz.prog 34 #[.string sy] wx fun e w' => e = .returned (.tuple #[.int .i64 u.y, .nilIface]) ∧ Below wx.heap.size wx w') := fun wx => by rw [hsy]; exact atoi_any u.y (by omega) wx
      have HTr : Hid (∀ wx, Below wr.heap.size wr wx → Tab wx) := fun wx h => HT.out.below (hB.out.trans (h.mono hB.out.size)) HT.out.lt
      have hwr : IntKind.i64.wrap (3 - u.y) = 3 - u.y := by rw [IntKind.wrap_i64]; omega
      have HI3 : Hid (∀ wx, Hid (Below wr.heap.size wr wx) → Calls Tryz.prog 20 #[.int .i64 (IntKind.i64.wrap (3 - u.y))] wx fun e w' => e = .returned (.string s3) ∧ Below wx.heap.size wx w') := fun wx h => by rw [hs3, hwr]; exact itoa_any _ (by omega) wx (HTr.out wx h.out)
      have HIx : Hid (∀ wx, Hid (Below wr.heap.size wr wx) → Calls Tryz.prog 20 #[.int .i64 u.x] wx fun e w' => e = .returned (.string sx) ∧ Below wx.heap.size wx w') := fun wx h => by rw [hsx]; exact itoa_any _ (by omega) wx (HTr.out wx h.out)
      have hcat : ∀ w, (Op.stringOp .add lp lq).run Tryz.prog w = .ok (.string (lp ++ lq)) w := fun w => run_string_add_sum w lp lq (by omega)
      obtain ⟨x, hx⟩ : ∃ x, x = u.x := ⟨_, rfl⟩
      obtain ⟨y, hy⟩ : ∃ y, y = u.y := ⟨_, rfl⟩
      rw [← hx] at HX HIx ux
      rw [← hy] at HY HI3 uy
      clear hlp hlq hsx hsy hsc hs3 hnm hx hy hwr QP QQ uh hj hku HTr
      have BX : Hid (∀ wx wy, Hid (Below wr.heap.size wr wx) → Below wx.heap.size wx wy → Hid (Below wr.heap.size wr wy)) := fun wx wy h h' => h.out.trans (h'.mono h.out.size)
      have HS : Hid (∀ wx, Hid (Below wr.heap.size wr wx) → wx.cell? ⟨gq, 2, none⟩ = some (.string s3) ∧ wx.cell? ⟨gq, 3, none⟩ = some (.string sx)) := fun wx h => ⟨(KQ.out wx h.out).c2, (KQ.out wx h.out).c3⟩
      have HBk : Hid (∀ wx, Hid (Below wr.heap.size wr wx) → Hid (Below w.heap.size w wx)) := fun wx h => hB.out.trans (h.out.mono hB.out.size)
      obtain ⟨pa, p1, p2, p3, p4, p6⟩ := KP.out wr (Below.refl _ _)
      obtain ⟨qa, q1, q2, q3, q4, q6⟩ := KQ.out wr (Below.refl _ _)
      have e1 : (nm.toList == nm.toList) = true := by simp
      have e6 : (sc.toList == sc.toList) = true := by simp
      have e2 : (s3.toList == s3.toList) = true := by simp
      have e3 : (sx.toList == sx.toList) = true := by simp
      go_wp2_with fail
      go_quiet (fail)
      clear p1 p4 p6 q1 q2 q3 q4 q6 pa qa e1 e6
      go_wp2_with fail
      refine (HX.out _).mono ?_
      rintro e w1 ⟨rfl, hb1⟩
      have B1 : Hid (Below wr.heap.size wr w1) := (below_drewN (Below.refl wr.heap.size wr) _).trans hb1
      clear hb1 p2 p3 HX
      have p3 := (KP.out w1 B1.out).c3
      go_wp2_with fail
      refine (HY.out _).mono ?_
      rintro e w2 ⟨rfl, hb2⟩
      have B2 := hidOf' (B1.out.trans (hb2.mono B1.out.size))
      clear hb2 p3 HY B1
      go_wp2_with fail
      have B3 := hidOf' (B2.out.alloc B2.out.size (.cells #[.string ⟨#[101, 110]⟩, .string ⟨#[110, 119]⟩, .string ⟨#[119, 115]⟩, .string ⟨#[115, 101]⟩] 9))
      have HH := hidOf' (heads_cell w2 9)
      have hsize : (w2.alloc (.cells #[.string ⟨#[101, 110]⟩, .string ⟨#[110, 119]⟩, .string ⟨#[119, 115]⟩, .string ⟨#[115, 101]⟩] 9)).heap.size = w2.heap.size + 1 := by simp
      obtain ⟨w3, hw3⟩ : ∃ w3, w3 = w2.alloc (.cells #[.string ⟨#[101, 110]⟩, .string ⟨#[110, 119]⟩, .string ⟨#[119, 115]⟩, .string ⟨#[115, 101]⟩] 9) := ⟨_, rfl⟩
      rw [← hw3] at B3 HH hsize
      rw [← hw3]
      obtain ⟨gh, hgh⟩ : ∃ gh, gh = w2.heap.size := ⟨_, rfl⟩
      rw [← hgh] at HH hsize
      rw [← hgh]
      have HH2 : Hid (∀ wx, Below w3.heap.size w3 wx → ∀ i, i < 4 → wx.cell? ⟨gh, i, none⟩ = some (.string (hdB i))) := fun wx h i hi => (h.cell (p := ⟨gh, i, none⟩) (by show gh < _; omega)).trans (HH.out i hi)
      clear hw3 hgh HH hsize B2
      go_loopw [13, 14] (fun t i w' => ∃ m : Nat, m ≤ 4 ∧ i = .int .i64 m ∧ t = .bool (decide (j < m)) ∧ Hid (Below w3.heap.size w3 w')) (fun _ i _ => 5 - (intOf i).toNat)
      case atStart => exact ⟨0, by omega, rfl, by simp, Below.refl _ _⟩
      case round =>
        obtain ⟨m, hm, rfl, rfl, hBm⟩ := hrel
        have B4 := hidOf' (B3.out.trans (hBm.out.mono B3.out.size))
        obtain ⟨_, _, _, _, p4, _⟩ := KP.out _ B4.out
        obtain ⟨_, _, q2, q3, q4, _⟩ := KQ.out _ B4.out
        by_cases hm4 : m < 4
        · have hm4' : (m : Int) < 4 := by omega
          have hh := HH2.out _ hBm.out m hm4
          have heq := HE.out m hm4
          by_cases hjm : j < m
          · have ht : decide (j < m) = true := decide_eq_true hjm
            rw [ht]
            go_wp2_with fail
            go_quiet (fail)
            go_wp2
            exact ⟨⟨m + 1, by omega, by go_num, by rw [decide_eq_true (by omega)], below_drewN hBm.out _⟩, by simp [intOf]; omega⟩
          · have ht : decide (j < m) = false := decide_eq_false hjm
            rw [ht]
            have hv : decide (m = j) = decide (j < m + 1) := by rw [decide_eq_decide]; omega
            rw [hv] at heq
            clear hv
            go_wp2_with fail
            go_quiet (fail)
            go_wp2
            exact ⟨⟨m + 1, by omega, by go_num, rfl, below_drewN hBm.out _⟩, by simp [intOf]; omega⟩
        · have hm5 : m = 4 := by omega
          subst hm5
          have ht : decide (j < 4) = true := decide_eq_true hj4
          rw [ht]
          have hm4' : decide ((((4 : Nat) : Int)) < 4) = false := by decide
          have B5 := BX.out _ _ B4 (Below.refl _ _).drew
          have S5 := HS.out _ B5
          clear B3 hBm
          go_wp2_with fail
          go_region_held3 (fun w' => w'.cell? ⟨gq, 2, none⟩ = some (.string s3) ∧ w'.cell? ⟨gq, 3, none⟩ = some (.string sx)) (first | assumption | exact S5) (first | (go_at_call 20; refine (HI3.out _ (by assumption)).mono ?_; rintro e w5 ⟨rfl, hb5⟩; have B6 := BX.out _ _ (by assumption) hb5; have S6 := HS.out _ B6) | (go_at_call 20; refine (HIx.out _ (by assumption)).mono ?_; rintro e w5 ⟨rfl, hb5⟩; have B6 := BX.out _ _ (by assumption) hb5; have S6 := HS.out _ B6))
          all_goals
            go_wp2
            exact ⟨⟨k + 1, by omega, by go_num, HBk.out _ (by assumption)⟩, by simp [intOf]; omega⟩
    · have hlt' : decide ((k : Int) < (us.length : Int)) = false := decide_eq_false (by omega)
      go_wp2
      go_ret
      exact ⟨rfl, hB.out⟩
end Go.Proofs.YtlafddeoheambaaGreatDoor

/-
  What the player 0 does not see: a world without the other player and without the far ore. What the player 0 does and sees there is what it does and sees in the whole world.
-/
namespace Go.Proofs.YtlafddeoheambaaGreatDoor
open Go.RowKit

def nearB (s : SSpot) : Bool := decide (s.x + s.y ≤ 7)
/-- The world as far as it matters to the player 0. -/
def shadeS (s : SWorld) : SWorld := { s with players := s.players.take 1, ore := s.ore.filter nearB }
def goW : List UInt8 := [103, 111]
def buildW : List UInt8 := [98, 117, 105, 108, 100]
/-- May this order lead a unit, or a new one, a step on? -/
def pendB (what : ByteArray) : Bool := what.toList == goW || what.toList == buildW
def pendI (u : SUnit) : Int := if pendB u.what then 1 else 0
/-- The player 0's units are at most a steps from their corner, the player 1's at most b. -/
structure Far2 (s : SWorld) (p q : SPlayer) (a b : Int) : Prop where
  wd : s.width = 10
  ht : s.height = 10
  si : s.sight = 2
  lo : s.lots = []
  pl : s.players = [p, q]
  pu : ∀ u ∈ p.units, 0 ≤ u.x ∧ 0 ≤ u.y ∧ u.x + u.y + pendI u ≤ a
  qu : ∀ u ∈ q.units, u.x ≤ 9 ∧ u.y ≤ 9 ∧ 18 - u.x - u.y + pendI u ≤ b
theorem pendI_nn (u : SUnit) : 0 ≤ pendI u := by unfold pendI; split <;> omega

theorem dig_near (l : List SSpot) (x y : Int) (h : x + y ≤ 7) : digB l x y = digB (l.filter nearB) x y ∧ (digL x y l).filter nearB = digL x y (l.filter nearB) := by
  induction l with
  | nil => exact ⟨rfl, rfl⟩
  | cons s r ih =>
    unfold digB at ih ⊢
    simp only [digL, List.any_cons, List.filter_cons]
    cases hh : hitB x y s
    · cases hn : nearB s
      · simp only [Bool.false_or, Bool.false_eq_true, if_false, List.filter_cons, hn]
        exact ih
      · simp only [if_true, Bool.false_or, List.any_cons, hh, Bool.false_eq_true, if_false, List.filter_cons, hn, digL]
        exact ⟨ih.1, by rw [ih.2]⟩
    · have hn : nearB s = true := by
        simp only [hitB, Bool.and_eq_true, decide_eq_true_eq] at hh
        simp only [nearB, decide_eq_true_eq]
        omega
      have hn' : nearB { s with amount := s.amount - 1 } = true := hn
      simp only [hn, if_true, List.any_cons, hh, Bool.true_or, List.filter_cons, hn', digL]
      exact ⟨trivial, trivial⟩
theorem dig_far (l : List SSpot) (x y : Int) (h : 7 < x + y) : (digL x y l).filter nearB = l.filter nearB := by
  induction l with
  | nil => rfl
  | cons s r ih =>
    simp only [digL]
    cases hh : hitB x y s
    · simp only [Bool.false_eq_true, if_false, List.filter_cons, ih]
    · have hn : nearB s = false := by
        simp only [hitB, Bool.and_eq_true, decide_eq_true_eq] at hh
        simp only [nearB, decide_eq_false_iff_not]
        omega
      have hn' : nearB { s with amount := s.amount - 1 } = false := hn
      simp only [if_true, List.filter_cons, hn, hn', Bool.false_eq_true, if_false]
theorem oreAt_near (l : List SSpot) (x y : Int) (h : x + y ≤ 7) : oreAt (l.filter nearB) x y = oreAt l x y := by
  induction l with
  | nil => rfl
  | cons s r ih =>
    rw [oreAt_cons, List.filter_cons]
    cases hn : nearB s
    · have hh : hitB x y s = false := by
        cases hh : hitB x y s
        · rfl
        · simp only [hitB, Bool.and_eq_true, decide_eq_true_eq] at hh
          simp only [nearB, decide_eq_false_iff_not] at hn
          omega
      simp only [hh, Bool.false_eq_true, if_false]
      exact ih
    · simp only [if_true]
      rw [oreAt_cons, ih]
theorem stands_no {q : SPlayer} {b : Int} (h : ∀ u ∈ q.units, u.x ≤ 9 ∧ u.y ≤ 9 ∧ 18 - u.x - u.y + pendI u ≤ b) {x y : Int} (hx : x + y < 18 - b) : standsB x y q = false := by
  unfold standsB
  rw [List.any_eq_false]
  intro u hu
  have := h u hu
  have := pendI_nn u
  simp only [Bool.and_eq_true, decide_eq_true_eq]
  omega
theorem holder_one {p q : SPlayer} {x y : Int} (h : standsB x y q = false) : holderI [p, q] x y = holderI [p] x y := by
  simp only [holderI, ixOf, h]
  cases standsB x y p <;> simp

/-- A unit's spot, and that ahead of it. -/
theorem ahead_bd (h : Int) : -1 ≤ dxI h + dyI h ∧ dxI h + dyI h ≤ 1 := by
  unfold dxI dyI
  repeat' split
  all_goals omega
theorem Far2.free {s : SWorld} {p q : SPlayer} {a b : Int} (h : Far2 s p q a b) (hb : b ≤ 3) {x y : Int} (hx : x + y ≤ 7) : freeS (shadeS s) x y = freeS s x y := by
  unfold freeS
  have e : holderI (shadeS s).players x y = holderI s.players x y := by
    show holderI (s.players.take 1) x y = _
    rw [h.pl]
    exact (holder_one (stands_no h.qu (by omega))).symm
  rw [e]
  rfl
/-- What the player 0 sees. -/
theorem Far2.view {s : SWorld} {p q : SPlayer} {a b : Int} (h : Far2 s p q a b) (ha : a ≤ 3) (hb : b ≤ 3) : viewS (shadeS s) 0 = viewS s 0 := by
  have hl : (shadeS s).players = [p] := by show s.players.take 1 = _; rw [h.pl]; rfl
  have seen : ∀ x y : Int, seenL (shadeS s) 0 p.units x y = seenL s 0 p.units x y := by
    intro x y
    unfold seenL
    show (if seesB p.units s.sight x y = true then _ else _) = _
    cases hz : seesB p.units s.sight x y
    · rfl
    · rw [if_pos rfl, if_pos rfl]
      have hn : x + y ≤ 7 := by
        unfold seesB at hz
        rw [List.any_eq_true] at hz
        obtain ⟨u, hu, hf⟩ := hz
        have := h.pu u hu
        have := pendI_nn u
        simp only [decide_eq_true_eq, h.si] at hf
        unfold farI absI at hf
        omega
      unfold spotL oreL otherL
      have e1 : oreAt (shadeS s).ore x y = oreAt s.ore x y := oreAt_near s.ore x y hn
      have e2 : holderI (shadeS s).players x y = holderI s.players x y := by
        rw [hl, h.pl]
        exact (holder_one (stands_no h.qu (by omega))).symm
      rw [e1, e2]
  unfold viewS
  rw [hl, h.pl]
  simp only [List.length_cons, List.length_nil]
  rw [if_pos (by omega), if_pos (by omega)]
  show (bytesOf (viewL (shadeS s) 0 p), (0 : Int)) = (bytesOf (viewL s 0 p), 0)
  have rows : ∀ k, rowsTo (shadeS s) 0 p.units k = rowsTo s 0 p.units k := by
    intro k
    unfold rowsTo rowTo
    simp only [seen]
    rfl
  unfold viewL
  show (bytesOf (ownL (shadeS s) p ++ rowsTo (shadeS s) 0 p.units s.height.toNat ++ lotsL (shadeS s) p ++ newsL p), (0 : Int)) = _
  rw [rows]
  rfl

theorem shade_set (s : SWorld) (p : SPlayer) : shadeS (s.setPl 0 p) = (shadeS s).setPl 0 p := by
  unfold shadeS SWorld.setPl
  simp only [List.take_set]
theorem shade_set1 (s : SWorld) (p : SPlayer) : shadeS (s.setPl 1 p) = shadeS s := by
  unfold shadeS SWorld.setPl
  simp only
  have e : (s.players.set 1 p).take 1 = s.players.take 1 := by
    cases s.players with
    | nil => rfl
    | cons a r => rfl
  rw [e]
theorem Far2.set0 {s : SWorld} {p q : SPlayer} {a b : Int} (h : Far2 s p q a b) (p' : SPlayer) {a' : Int} (hp : ∀ u ∈ p'.units, 0 ≤ u.x ∧ 0 ≤ u.y ∧ u.x + u.y + pendI u ≤ a') : Far2 (s.setPl 0 p') p' q a' b :=
  ⟨h.wd, h.ht, h.si, h.lo, by show s.players.set 0 p' = _; rw [h.pl]; rfl, hp, h.qu⟩
theorem Far2.set1 {s : SWorld} {p q : SPlayer} {a b : Int} (h : Far2 s p q a b) (q' : SPlayer) {b' : Int} (hq : ∀ u ∈ q'.units, u.x ≤ 9 ∧ u.y ≤ 9 ∧ 18 - u.x - u.y + pendI u ≤ b') : Far2 (s.setPl 1 q') p q' a b' :=
  ⟨h.wd, h.ht, h.si, h.lo, by show s.players.set 1 q' = _; rw [h.pl]; rfl, h.pu, hq⟩
theorem Far2.ore {s : SWorld} {p q : SPlayer} {a b : Int} (h : Far2 s p q a b) (o : List SSpot) : Far2 { s with ore := o } p q a b := ⟨h.wd, h.ht, h.si, h.lo, h.pl, h.pu, h.qu⟩
theorem pend_empty (u : SUnit) : pendI { u with what := emptyB, arg := emptyB } = 0 := by
  unfold pendI pendB
  have : emptyB.toList = [] := by rw [Lib.toList_data]; rfl
  simp only [this]
  rfl
theorem free_box {s : SWorld} {x y : Int} (h : freeS s x y = true) : 0 ≤ x ∧ x ≤ s.width - 1 ∧ 0 ≤ y ∧ y ≤ s.height - 1 := by
  unfold freeS inB at h
  simp only [Bool.and_eq_true, decide_eq_true_eq] at h
  omega
theorem mem_set_or {α : Type} {l : List α} {k : Nat} {a v : α} (h : v ∈ l.set k a) : v ∈ l ∨ v = a := List.mem_or_eq_of_mem_set h

/-- What a unit of the player 0 does, it does in the shade too. -/
theorem Far2.act0 {s : SWorld} {p q : SPlayer} {a b : Int} (h : Far2 s p q a b) (ha : a ≤ 3) (hb : b ≤ 3) (k : Nat) (u : SUnit) (what arg : ByteArray) (hu : 0 ≤ u.x ∧ 0 ≤ u.y ∧ u.x + u.y ≤ a) (hp : pendB what = true → u.x + u.y + 1 ≤ a) (he : ∀ v, (v.what = emptyB → pendI v = 0)) (hw : u.what = emptyB) :
    actS (shadeS s) 0 k p u what arg = shadeS (actS s 0 k p u what arg) ∧ ∃ p', Far2 (actS s 0 k p u what arg) p' q a b := by
  have hd := ahead_bd u.head
  have hf := h.free hb (x := u.x + dxI u.head) (y := u.y + dyI u.head) (by omega)
  have put : ∀ v : SUnit, v.what = emptyB → 0 ≤ v.x → 0 ≤ v.y → v.x + v.y ≤ a → ∀ m : Int, ∃ p', Far2 (s.setPl 0 { p with money := m, units := p.units.set k v }) p' q a b := by
    intro v hv h1 h2 h3 m
    refine ⟨_, h.set0 _ (fun w hw' => ?_)⟩
    rcases mem_set_or hw' with hw' | rfl
    · exact h.pu w hw'
    · rw [he w hv]; omega
  unfold actS
  simp only [hf]
  have g1 : (what.toList == [103, 111]) = true → pendB what = true := fun e => by unfold pendB goW; rw [e]; rfl
  have g2 : (what.toList == [98, 117, 105, 108, 100]) = true → pendB what = true := fun e => by unfold pendB buildW; rw [e]; simp
  by_cases c1 : (what.toList == [103, 111]) = true
  · simp only [c1, if_true]
    have hp1 := hp (g1 c1)
    split
    · rename_i hfr
      have := free_box hfr
      exact ⟨(shade_set s _).symm, put { u with x := u.x + dxI u.head, y := u.y + dyI u.head } hw (show 0 ≤ u.x + dxI u.head by omega) (show 0 ≤ u.y + dyI u.head by omega) (show u.x + dxI u.head + (u.y + dyI u.head) ≤ a by omega) p.money⟩
    · exact ⟨rfl, p, h⟩
  · simp only [c1, Bool.false_eq_true, if_false]
    by_cases c2 : (what.toList == [108, 101, 102, 116]) = true
    · simp only [c2, if_true]
      exact ⟨(shade_set s _).symm, put { u with head := (u.head + 1) % 4 } hw hu.1 hu.2.1 hu.2.2 p.money⟩
    · simp only [c2, Bool.false_eq_true, if_false]
      by_cases c3 : (what.toList == [98, 97, 99, 107]) = true
      · simp only [c3, if_true]
        exact ⟨(shade_set s _).symm, put { u with head := (u.head + 2) % 4 } hw hu.1 hu.2.1 hu.2.2 p.money⟩
      · simp only [c3, Bool.false_eq_true, if_false]
        by_cases c4 : (what.toList == [114, 105, 103, 104, 116]) = true
        · simp only [c4, if_true]
          exact ⟨(shade_set s _).symm, put { u with head := (u.head + 3) % 4 } hw hu.1 hu.2.1 hu.2.2 p.money⟩
        · simp only [c4, Bool.false_eq_true, if_false]
          by_cases c5 : (what.toList == [100, 105, 103]) = true
          · simp only [c5, if_true]
            split
            · have hdg := dig_near s.ore u.x u.y (by omega)
              have e : digB (shadeS s).ore u.x u.y = digB s.ore u.x u.y := hdg.1.symm
              rw [e]
              split
              · obtain ⟨p', hF⟩ := put { u with cargo := u.cargo + 1 } hw hu.1 hu.2.1 hu.2.2 p.money
                refine ⟨?_, p', hF.ore _⟩
                unfold shadeS SWorld.setPl
                simp only [List.take_set, hdg.2]
              · exact ⟨rfl, p, h⟩
            · exact ⟨rfl, p, h⟩
          · simp only [c5, Bool.false_eq_true, if_false]
            by_cases c6 : (what.toList == [115, 101, 108, 108]) = true
            · simp only [c6, if_true]
              exact ⟨(shade_set s _).symm, put { u with cargo := 0 } hw hu.1 hu.2.1 hu.2.2 _⟩
            · simp only [c6, Bool.false_eq_true, if_false]
              by_cases c7 : (what.toList == [99, 97, 108, 108]) = true
              · simp only [c7, if_true]
                split
                · exact ⟨(shade_set s _).symm, put { u with name := arg } hw hu.1 hu.2.1 hu.2.2 p.money⟩
                · exact ⟨rfl, p, h⟩
              · simp only [c7, Bool.false_eq_true, if_false]
                by_cases c8 : (what.toList == [98, 117, 105, 108, 100]) = true
                · simp only [c8, if_true]
                  have hp1 := hp (g2 c8)
                  split
                  · rename_i hfr
                    have := free_box hfr.2.2.2
                    refine ⟨(shade_set s _).symm, _, h.set0 _ (fun w hw' => ?_)⟩
                    rcases List.mem_append.1 hw' with hw' | hw'
                    · exact h.pu w hw'
                    · obtain rfl := List.mem_singleton.1 hw'
                      rw [he _ rfl]
                      simp only
                      omega
                  · exact ⟨rfl, p, h⟩
                · simp only [c8, Bool.false_eq_true, if_false]
                  exact ⟨trivial, p, h⟩

/-- What a unit of the player 1 does leaves the shade as it was. -/
theorem Far2.act1 {s : SWorld} {p q : SPlayer} {a b : Int} (h : Far2 s p q a b) (hb : b ≤ 3) (k : Nat) (u : SUnit) (what arg : ByteArray) (hu : u.x ≤ 9 ∧ u.y ≤ 9 ∧ 18 - u.x - u.y ≤ b) (hp : pendB what = true → 18 - u.x - u.y + 1 ≤ b) (he : ∀ v, (v.what = emptyB → pendI v = 0)) (hw : u.what = emptyB) :
    shadeS (actS s 1 k q u what arg) = shadeS s ∧ ∃ q', Far2 (actS s 1 k q u what arg) p q' a b := by
  have hd := ahead_bd u.head
  have put : ∀ v : SUnit, v.what = emptyB → v.x ≤ 9 → v.y ≤ 9 → 18 - v.x - v.y ≤ b → ∀ m : Int, ∃ q', Far2 (s.setPl 1 { q with money := m, units := q.units.set k v }) p q' a b := by
    intro v hv h1 h2 h3 m
    refine ⟨_, h.set1 _ (fun w hw' => ?_)⟩
    rcases mem_set_or hw' with hw' | rfl
    · exact h.qu w hw'
    · rw [he w hv]; omega
  have hwd := h.wd
  have hht := h.ht
  unfold actS
  simp only
  have g1 : (what.toList == [103, 111]) = true → pendB what = true := fun e => by unfold pendB goW; rw [e]; rfl
  have g2 : (what.toList == [98, 117, 105, 108, 100]) = true → pendB what = true := fun e => by unfold pendB buildW; rw [e]; simp
  by_cases c1 : (what.toList == [103, 111]) = true
  · simp only [c1, if_true]
    have hp1 := hp (g1 c1)
    split
    · rename_i hfr
      have := free_box hfr
      exact ⟨shade_set1 s _, put { u with x := u.x + dxI u.head, y := u.y + dyI u.head } hw (show u.x + dxI u.head ≤ 9 by omega) (show u.y + dyI u.head ≤ 9 by omega) (show 18 - (u.x + dxI u.head) - (u.y + dyI u.head) ≤ b by omega) q.money⟩
    · exact ⟨rfl, q, h⟩
  · simp only [c1, Bool.false_eq_true, if_false]
    by_cases c2 : (what.toList == [108, 101, 102, 116]) = true
    · simp only [c2, if_true]
      exact ⟨shade_set1 s _, put { u with head := (u.head + 1) % 4 } hw hu.1 hu.2.1 hu.2.2 q.money⟩
    · simp only [c2, Bool.false_eq_true, if_false]
      by_cases c3 : (what.toList == [98, 97, 99, 107]) = true
      · simp only [c3, if_true]
        exact ⟨shade_set1 s _, put { u with head := (u.head + 2) % 4 } hw hu.1 hu.2.1 hu.2.2 q.money⟩
      · simp only [c3, Bool.false_eq_true, if_false]
        by_cases c4 : (what.toList == [114, 105, 103, 104, 116]) = true
        · simp only [c4, if_true]
          exact ⟨shade_set1 s _, put { u with head := (u.head + 3) % 4 } hw hu.1 hu.2.1 hu.2.2 q.money⟩
        · simp only [c4, Bool.false_eq_true, if_false]
          by_cases c5 : (what.toList == [100, 105, 103]) = true
          · simp only [c5, if_true]
            split
            · split
              · obtain ⟨q', hF⟩ := put { u with cargo := u.cargo + 1 } hw hu.1 hu.2.1 hu.2.2 q.money
                refine ⟨?_, q', hF.ore _⟩
                have e := shade_set1 s { q with units := q.units.set k { u with cargo := u.cargo + 1 } }
                have d := dig_far s.ore u.x u.y (by omega)
                unfold shadeS SWorld.setPl at e ⊢
                simp only [d] at e ⊢
                exact e
              · exact ⟨rfl, q, h⟩
            · exact ⟨rfl, q, h⟩
          · simp only [c5, Bool.false_eq_true, if_false]
            by_cases c6 : (what.toList == [115, 101, 108, 108]) = true
            · simp only [c6, if_true]
              exact ⟨shade_set1 s _, put { u with cargo := 0 } hw hu.1 hu.2.1 hu.2.2 _⟩
            · simp only [c6, Bool.false_eq_true, if_false]
              by_cases c7 : (what.toList == [99, 97, 108, 108]) = true
              · simp only [c7, if_true]
                split
                · exact ⟨shade_set1 s _, put { u with name := arg } hw hu.1 hu.2.1 hu.2.2 q.money⟩
                · exact ⟨rfl, q, h⟩
              · simp only [c7, Bool.false_eq_true, if_false]
                by_cases c8 : (what.toList == [98, 117, 105, 108, 100]) = true
                · simp only [c8, if_true]
                  have hp1 := hp (g2 c8)
                  split
                  · rename_i hfr
                    have := free_box hfr.2.2.2
                    refine ⟨shade_set1 s _, _, h.set1 _ (fun w hw' => ?_)⟩
                    rcases List.mem_append.1 hw' with hw' | hw'
                    · exact h.qu w hw'
                    · obtain rfl := List.mem_singleton.1 hw'
                      rw [he _ rfl]
                      simp only
                      omega
                  · exact ⟨rfl, q, h⟩
                · simp only [c8, Bool.false_eq_true, if_false]
                  exact ⟨trivial, q, h⟩
theorem pend_of_empty (v : SUnit) (h : v.what = emptyB) : pendI v = 0 := by
  have := pend_empty v
  unfold pendI at this ⊢
  rw [h]
  exact this
theorem pend_le {u : SUnit} : pendB u.what = true → pendI u = 1 := fun h => by unfold pendI; rw [if_pos h]
theorem Far2.does0 {s : SWorld} {p q : SPlayer} {a b : Int} (h : Far2 s p q a b) (ha : a ≤ 3) (hb : b ≤ 3) (k : Nat) : doesS (shadeS s) 0 k = shadeS (doesS s 0 k) ∧ ∃ p', Far2 (doesS s 0 k) p' q a b := by
  have e0 : (shadeS s).players[0]? = some p := by show (s.players.take 1)[0]? = _; rw [h.pl]; rfl
  have e1 : s.players[0]? = some p := by rw [h.pl]; rfl
  unfold doesS
  rw [e0, e1]
  simp only
  cases hk : p.units[k]? with
  | none => exact ⟨rfl, p, h⟩
  | some u =>
    have hu := h.pu u (List.mem_of_getElem? hk)
    have hn := pendI_nn u
    simp only
    have h1 : Far2 (s.setPl 0 { p with units := p.units.set k { u with what := emptyB, arg := emptyB } }) { p with units := p.units.set k { u with what := emptyB, arg := emptyB } } q a b := h.set0 _ (fun w hw => by
      rcases mem_set_or hw with hw | rfl
      · exact h.pu w hw
      · rw [pend_empty]
        exact ⟨hu.1, hu.2.1, show u.x + u.y + 0 ≤ a by omega⟩)
    rw [← shade_set]
    exact h1.act0 ha hb k { u with what := emptyB, arg := emptyB } u.what u.arg ⟨hu.1, hu.2.1, show u.x + u.y ≤ a by omega⟩ (fun hp => by have := pend_le hp; show u.x + u.y + 1 ≤ a; omega) pend_of_empty rfl
theorem Far2.does1 {s : SWorld} {p q : SPlayer} {a b : Int} (h : Far2 s p q a b) (hb : b ≤ 3) (k : Nat) : shadeS (doesS s 1 k) = shadeS s ∧ ∃ q', Far2 (doesS s 1 k) p q' a b := by
  have e1 : s.players[1]? = some q := by rw [h.pl]; rfl
  unfold doesS
  rw [e1]
  simp only
  cases hk : q.units[k]? with
  | none => exact ⟨rfl, q, h⟩
  | some u =>
    have hu := h.qu u (List.mem_of_getElem? hk)
    have hn := pendI_nn u
    simp only
    have h1 : Far2 (s.setPl 1 { q with units := q.units.set k { u with what := emptyB, arg := emptyB } }) p { q with units := q.units.set k { u with what := emptyB, arg := emptyB } } a b := h.set1 _ (fun w hw => by
      rcases mem_set_or hw with hw | rfl
      · exact h.qu w hw
      · rw [pend_empty]
        exact ⟨hu.1, hu.2.1, show 18 - u.x - u.y + 0 ≤ b by omega⟩)
    obtain ⟨r1, r2⟩ := h1.act1 hb k { u with what := emptyB, arg := emptyB } u.what u.arg ⟨hu.1, hu.2.1, show 18 - u.x - u.y ≤ b by omega⟩ (fun hp => by have := pend_le hp; show 18 - u.x - u.y + 1 ≤ b; omega) pend_of_empty rfl
    exact ⟨r1.trans (shade_set1 s _), r2⟩
theorem Far2.units0 {s : SWorld} {p q : SPlayer} {a b : Int} (h : Far2 s p q a b) (ha : a ≤ 3) (hb : b ≤ 3) (j : Nat) : unitsTo (shadeS s) 0 j = shadeS (unitsTo s 0 j) ∧ ∃ p', Far2 (unitsTo s 0 j) p' q a b := by
  induction j with
  | zero => exact ⟨rfl, p, h⟩
  | succ j ih =>
    obtain ⟨e, p1, h1⟩ := ih
    obtain ⟨e2, p2, h2⟩ := h1.does0 ha hb j
    refine ⟨?_, p2, h2⟩
    show doesS (unitsTo (shadeS s) 0 j) 0 j = _
    rw [e, e2]
    rfl
theorem Far2.units1 {s : SWorld} {p q : SPlayer} {a b : Int} (h : Far2 s p q a b) (hb : b ≤ 3) (j : Nat) : shadeS (unitsTo s 1 j) = shadeS s ∧ ∃ q', Far2 (unitsTo s 1 j) p q' a b := by
  induction j with
  | zero => exact ⟨rfl, q, h⟩
  | succ j ih =>
    obtain ⟨e, q1, h1⟩ := ih
    obtain ⟨e2, q2, h2⟩ := h1.does1 hb j
    exact ⟨e2.trans e, q2, h2⟩
theorem Far2.tick {s : SWorld} {p q : SPlayer} {a b : Int} (h : Far2 s p q a b) (ha : a ≤ 3) (hb : b ≤ 3) : tickS (shadeS s) = shadeS (tickS s) ∧ ∃ p' q', Far2 (tickS s) p' q' a b := by
  have e0 : (shadeS s).players[0]? = some p := by show (s.players.take 1)[0]? = _; rw [h.pl]; rfl
  have e1 : s.players[0]? = some p := by rw [h.pl]; rfl
  have c0 : clearN s 0 = s.setPl 0 { p with news := [] } := by unfold clearN; rw [e1]
  have c1 : clearN (shadeS s) 0 = shadeS (clearN s 0) := by rw [c0, shade_set]; unfold clearN; rw [e0]
  have f0 : Far2 (clearN s 0) { p with news := [] } q a b := by rw [c0]; exact h.set0 _ h.pu
  have n0 : unitsN (clearN (shadeS s) 0) 0 = unitsN (clearN s 0) 0 := by
    rw [c1]
    unfold unitsN
    have a1 : (shadeS (clearN s 0)).players[0]? = some { p with news := [] } := by show ((clearN s 0).players.take 1)[0]? = _; rw [f0.pl]; rfl
    have a2 : (clearN s 0).players[0]? = some { p with news := [] } := by rw [f0.pl]; rfl
    rw [a1, a2]
  obtain ⟨r1, p1, f1⟩ := f0.units0 ha hb (unitsN (clearN s 0) 0)
  have P0 : playerS (shadeS s) 0 = shadeS (playerS s 0) := by unfold playerS; rw [n0, c1, r1]
  have F1 : Far2 (playerS s 0) p1 q a b := f1
  have d1 : clearN (playerS s 0) 1 = (playerS s 0).setPl 1 { q with news := [] } := by
    have : (playerS s 0).players[1]? = some q := by rw [F1.pl]; rfl
    unfold clearN
    rw [this]
  have F2 : Far2 (clearN (playerS s 0) 1) p1 { q with news := [] } a b := by rw [d1]; exact F1.set1 _ F1.qu
  obtain ⟨r2, q2, f2⟩ := F2.units1 hb (unitsN (clearN (playerS s 0) 1) 1)
  have P1 : shadeS (playerS (playerS s 0) 1) = shadeS (playerS s 0) := by
    unfold playerS at r2 ⊢
    rw [r2]
    show shadeS (clearN (playerS s 0) 1) = _
    rw [d1, shade_set1]
    rfl
  have l0 : (shadeS s).players.length = 1 := by show (s.players.take 1).length = _; rw [h.pl]; rfl
  have l1 : s.players.length = 2 := by rw [h.pl]; rfl
  rw [tickS_nil (s := shadeS s) h.lo, tickS_nil h.lo, l0, l1]
  have t1 : tickTo (shadeS s) 1 = playerS (shadeS s) 0 := rfl
  have t2 : tickTo s 2 = playerS (playerS s 0) 1 := rfl
  rw [t1, t2, P0, ← P1]
  exact ⟨rfl, p1, q2, ⟨f2.wd, f2.ht, f2.si, rfl, f2.pl, f2.pu, f2.qu⟩⟩
end Go.Proofs.YtlafddeoheambaaGreatDoor

/-
  The orders of two players that stand far apart: what the player 0 orders, it orders in the shade too; what the player 1 orders leaves the shade as it was.
-/
namespace Go.Proofs.YtlafddeoheambaaGreatDoor
open Go.RowKit

def pendL (b : List UInt8) : Bool := b == goW || b == buildW
def pendW (t : List UInt8) : Bool := match splitB t with
  | [_, b] => pendL b
  | [_, b, _] => pendL b
  | _ => false
def oneI (c : Bool) : Int := if c then 1 else 0
theorem oneI_nn (c : Bool) : 0 ≤ oneI c := by unfold oneI; split <;> omega
theorem Far2.mono {s : SWorld} {p q : SPlayer} {a b a' b' : Int} (h : Far2 s p q a b) (ha : a ≤ a') (hb : b ≤ b') : Far2 s p q a' b' :=
  ⟨h.wd, h.ht, h.si, h.lo, h.pl, fun u hu => by have := h.pu u hu; omega, fun u hu => by have := h.qu u hu; omega⟩
theorem pend_told (u : SUnit) (b c : List UInt8) : pendI { u with what := bytesOf b, arg := bytesOf c } = oneI (pendL b) := by
  unfold pendI pendB pendL oneI
  simp only [Lib.toList_data, bytesOf_toList]
theorem Far2.tell0 {s : SWorld} {p q : SPlayer} {a b : Int} (h : Far2 s p q a b) (x y z : List UInt8) :
    tellS (shadeS s) 0 p x y z = ((tellS s 0 p x y z).1, shadeS (tellS s 0 p x y z).2) ∧ ∃ p', Far2 (tellS s 0 p x y z).2 p' q (a + oneI (pendL y)) b := by
  have m := h.mono (a' := a + oneI (pendL y)) (b' := b) (by have := oneI_nn (pendL y); omega) (Int.le_refl _)
  unfold tellS
  split
  · exact ⟨rfl, p, m⟩
  · cases hk : p.units[(unitIx p.units (bytesOf x)).toNat]? with
    | none => exact ⟨rfl, p, m⟩
    | some u =>
      refine ⟨by rw [shade_set], _, m.set0 _ (fun w hw => ?_)⟩
      rcases mem_set_or hw with hw | rfl
      · exact m.pu w hw
      · have := h.pu u (List.mem_of_getElem? hk)
        have := pendI_nn u
        rw [pend_told]
        simp only
        omega
theorem Far2.tell1 {s : SWorld} {p q : SPlayer} {a b : Int} (h : Far2 s p q a b) (x y z : List UInt8) :
    shadeS (tellS s 1 q x y z).2 = shadeS s ∧ ∃ q', Far2 (tellS s 1 q x y z).2 p q' a (b + oneI (pendL y)) := by
  have m := h.mono (a' := a) (b' := b + oneI (pendL y)) (Int.le_refl _) (by have := oneI_nn (pendL y); omega)
  unfold tellS
  split
  · exact ⟨rfl, q, m⟩
  · cases hk : q.units[(unitIx q.units (bytesOf x)).toNat]? with
    | none => exact ⟨rfl, q, m⟩
    | some u =>
      refine ⟨shade_set1 s _, _, m.set1 _ (fun w hw => ?_)⟩
      rcases mem_set_or hw with hw | rfl
      · exact m.qu w hw
      · have := h.qu u (List.mem_of_getElem? hk)
        have := pendI_nn u
        rw [pend_told]
        simp only
        omega
theorem Far2.order0 {s : SWorld} {p q : SPlayer} {a b : Int} (h : Far2 s p q a b) (t : List UInt8) :
    orderS (shadeS s) 0 t = ((orderS s 0 t).1, shadeS (orderS s 0 t).2) ∧ ∃ p', Far2 (orderS s 0 t).2 p' q (a + oneI (pendW t)) b := by
  have e0 : (shadeS s).players = [p] := by show s.players.take 1 = _; rw [h.pl]; rfl
  have m := h.mono (a' := a + oneI (pendW t)) (b' := b) (by have := oneI_nn (pendW t); omega) (Int.le_refl _)
  have o1 : orderS (shadeS s) 0 t = wordsS (shadeS s) 0 p (splitB t) := by unfold orderS; rw [e0, if_pos (by simp)]; rfl
  have o2 : orderS s 0 t = wordsS s 0 p (splitB t) := by unfold orderS; rw [h.pl, if_pos (by simp)]; rfl
  rw [o1, o2]
  unfold wordsS
  unfold pendW at m ⊢
  split
  · rename_i x y hs
    rw [hs] at m
    simp only [hs]
    split
    · exact h.tell0 x y []
    · exact ⟨rfl, p, m⟩
  · rename_i x y z hs
    rw [hs] at m
    simp only [hs]
    split
    · rw [bidS_nil (s := shadeS s) h.lo, bidS_nil h.lo]
      exact ⟨rfl, p, m⟩
    · split
      · exact h.tell0 x y z
      · exact ⟨rfl, p, m⟩
  · exact ⟨rfl, p, m⟩
theorem Far2.order1 {s : SWorld} {p q : SPlayer} {a b : Int} (h : Far2 s p q a b) (t : List UInt8) :
    shadeS (orderS s 1 t).2 = shadeS s ∧ ∃ q', Far2 (orderS s 1 t).2 p q' a (b + oneI (pendW t)) := by
  have m := h.mono (a' := a) (b' := b + oneI (pendW t)) (Int.le_refl _) (by have := oneI_nn (pendW t); omega)
  have o2 : orderS s 1 t = wordsS s 1 q (splitB t) := by unfold orderS; rw [h.pl, if_pos (by simp)]; rfl
  rw [o2]
  unfold wordsS
  unfold pendW at m ⊢
  split
  · rename_i x y hs
    rw [hs] at m
    simp only [hs]
    split
    · exact h.tell1 x y []
    · exact ⟨rfl, q, m⟩
  · rename_i x y z hs
    rw [hs] at m
    simp only [hs]
    split
    · rw [bidS_nil h.lo]
      exact ⟨rfl, q, m⟩
    · split
      · exact h.tell1 x y z
      · exact ⟨rfl, q, m⟩
  · exact ⟨rfl, q, m⟩
end Go.Proofs.YtlafddeoheambaaGreatDoor
