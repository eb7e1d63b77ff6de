/-
  The function set of package hazeref: a player's bid for a lot.
-/
import Derived.Test.YtlafddeoheambaaGreatDoorT28
import Derived.Test.YtlafddeoheambaaGreatDoorT07
import Derived.Test.YtlafddeoheambaaGreatDoorT11
import Derived.Deep.DeepCutAuto
import Derived.Test.YtlafddeoheambaaGreatDoorT43
set_option linter.unusedVariables false
namespace Go.Proofs.YtlafddeoheambaaGreatDoor
open Go.RowKit

theorem Tryz.infoRBid : (Tryz.prog.info? 196).map (fun i => (i.zero, i.size, i.bytes)) = some (some (.agg #[.string ⟨#[]⟩, .int .i64 0]), 2, 24) := by kernel_rfl
def bkeepB (bs : List SBid) (lot : ByteArray) : List SBid := bs.filter (fun b => !eqS b.lot lot)
theorem bkeep_no {bs : List SBid} {k : Nat} {b : SBid} {lot : ByteArray} (h : bs[k]? = some b) (he : eqS b.lot lot = true) : bkeepB (bs.take (k + 1)) lot = bkeepB (bs.take k) lot := by
  obtain ⟨hk, rfl⟩ := at_some h
  unfold bkeepB
  rw [List.take_succ_eq_append_getElem hk, List.filter_append]
  simp [he]
theorem bkeep_yes {bs : List SBid} {k : Nat} {b : SBid} {lot : ByteArray} (h : bs[k]? = some b) (he : eqS b.lot lot = false) : bkeepB (bs.take (k + 1)) lot = bkeepB (bs.take k) lot ++ [b] := by
  obtain ⟨hk, rfl⟩ := at_some h
  unfold bkeepB
  rw [List.take_succ_eq_append_getElem hk, List.filter_append]
  simp [he]
theorem bkeep_len (bs : List SBid) (k : Nat) (lot : ByteArray) : (bkeepB (bs.take k) lot).length ≤ bs.length := by
  unfold bkeepB
  exact Nat.le_trans (List.length_filter_le _ _) (by rw [List.length_take]; omega)
theorem bid_cells {w : World} {bs : List SBid} {ao : Option Addr} {g : Nat} (rd : Rd w 2 ao g bs.length (bs.flatMap bidCells)) {k : Nat} {b : SBid} (hb : bs[k]? = some b) : w.cell? ⟨g, k * 2, none⟩ = some (.string b.lot) ∧ w.cell? ⟨g, k * 2 + 1, none⟩ = some (.int .i64 b.n) := by
  obtain ⟨hk, rfl⟩ := at_some hb
  have f := fun j (hj : j < 2) => flat_at bidCells 2 (fun _ => rfl) bs k j hk hj
  exact ⟨rd.cell _ _ (f 0 (by omega)), rd.cell _ _ (f 1 (by omega))⟩
theorem caps_of {w : World} {base : Nat} {e : TypeId} {size : Nat} {a : Option Addr} {m c : Nat} {xs : List Value} (h : w.ownsRow base e size (.slice a m c) m xs) : m ≤ c ∧ c ≤ 9223372036854775807 := by
  rcases own_form (own_any h) with ⟨h, h0, _⟩ | ⟨g', c', h, h1, h2, _⟩
  · injection h with _ _ h
    exact ⟨by omega, by omega⟩
  · injection h with _ _ h
    unfold maxLen at h2
    exact ⟨by omega, by omega⟩

set_option maxRecDepth 100000 in
set_option maxHeartbeats 8000000 in
theorem set_any (w : World) (pb po : Nat) (bs : List SBid) (vB : Value) (lot : ByteArray) (n : Int) (hc : w.cell? ⟨pb, po + 2, none⟩ = some vB) (hz : w.frozen? ⟨pb, po + 2, none⟩ = false) (hu : w.ownsRow 0 196 2 vB bs.length (bs.flatMap bidCells)) (hl : bs.length ≤ 1000) :
    Calls Tryz.prog 95 #[.pointer (some ⟨pb, po, none⟩), .string lot, .int .i64 n] w fun e w' => e = .returned (.tuple #[]) ∧ ∃ w1 v, w' = w1.setCell ⟨pb, po + 2, none⟩ v ∧ Below w.heap.size w w1 ∧ w1.ownsRow w.heap.size 196 2 v (setB bs lot n).length ((setB bs lot n).flatMap bidCells) := by
  obtain ⟨ao, g, cap, rfl, hcap, hmax, rd⟩ := own_rd hu
  unfold maxLen at hmax
  have hgl : 0 < bs.length → g < w.heap.size := fun h => by
    have e := rd.base h
    exact own_lt hu g (by rw [e]; simp [blk_slice])
  have hbl := block_lt_of_cell hc
  have HRd := hidOf rd
  have HG := hidOf hgl
  obtain ⟨i0, hi0, hz0, hz1, hz2⟩ := info_parts Tryz.infoRBid
  have HC : Hid (∀ wx, Below w.heap.size w wx → wx.cell? ⟨pb, po + 2, none⟩ = some (.slice ao bs.length cap)) := fun wx h => (h.cell hbl).trans hc
  have HZ : Hid (∀ wx, Below w.heap.size w wx → wx.frozen? ⟨pb, po + 2, none⟩ = false) := fun wx h => by
    rw [← hz]
    exact World.frozen?_of_block (h.block _ hbl)
  have HBs : Hid (∀ wx, Below w.heap.size w wx → ∀ (k : Nat) b, bs[k]? = some b → ao = some ⟨g, 0, none⟩ ∧ wx.cell? ⟨g, k * 2, none⟩ = some (.string b.lot) ∧ wx.cell? ⟨g, k * 2 + 1, none⟩ = some (.int .i64 b.n)) := fun wx h k b hb => by
    have hk := (at_some hb).1
    have hg := HG.out (by omega)
    obtain ⟨c0, c1⟩ := bid_cells HRd.out hb
    exact ⟨HRd.out.base (by omega), (h.cell (p := ⟨g, k * 2, none⟩) hg).trans c0, (h.cell (p := ⟨g, k * 2 + 1, none⟩) hg).trans c1⟩
  have hpl : pb < w.heap.size := hbl
  clear hu rd hgl hc hz hbl
  go_enter Tryz.func95, Tryz.ntmps95
  go_wp2_with fail
  go_loopw [6, 7] (fun s i w' => ∃ (k m c : Nat) (a : Option Addr), k ≤ bs.length ∧ i = .int .i64 k ∧ s = .slice a m c ∧ Hid (m = (bkeepB (bs.take k) lot).length) ∧ Hid (Below w.heap.size w w') ∧ Hid (w'.ownsRow w.heap.size 196 2 (.slice a m c) m ((bkeepB (bs.take k) lot).flatMap bidCells))) (fun _ i _ => bs.length + 1 - (intOf i).toNat)
  case atStart => exact ⟨0, 0, 0, none, Nat.zero_le _, rfl, rfl, rfl, Below.refl _ _, own_nil _ _ _⟩
  case round =>
    obtain ⟨k, m, c, a, hk, rfl, rfl, HM, HB, HO⟩ := hrel
    have c2 := HC.out wr HB.out
    obtain ⟨hcm, hc63⟩ := caps_of HO.out
    have hm : m ≤ bs.length := by rw [HM.out]; exact bkeep_len bs k lot
    have hpw : pb < wr.heap.size := Nat.lt_of_lt_of_le hpl HB.out.size
    have HSz := hidOf HB.out.size
    by_cases hlt : k < bs.length
    · have hlt' : (k : Int) < (bs.length : Int) := by omega
      have hbk : bs[k]? = some bs[k] := by simp [hlt]
      obtain ⟨rfl, d0, d1⟩ := HBs.out wr HB.out k _ hbk
      obtain ⟨b, hbe⟩ : ∃ b, b = bs[k] := ⟨_, rfl⟩
      rw [← hbe] at d0 d1 hbk
      have HBk := hidOf hbk
      clear hbe hbk
      cases he : eqS b.lot lot
      · have he' : (b.lot.toList == lot.toList) = false := he
        have HF := hidOf (bkeep_yes HBk.out he)
        have HO2 : Hid (∀ o, (wr.alloc o).ownsRow w.heap.size 196 2 (.slice a m c) m ((bkeepB (bs.take k) lot).flatMap bidCells)) := fun o => ownsRow_alloc HO.out o
        have HB9 : Hid (∀ (o : Obj) (wx : World), (wr.alloc o).grownBy wx (Value.slice a m c).ownBlock → Hid (Below w.heap.size w wx)) := fun o wx hg => by
          refine (HB.out.alloc HB.out.size _).grown hg (by have := HB.out.size; simp; omega) (fun r hr => ?_)
          exact (HO.out.lt r hr).1
        clear he HO
        go_wp2_with (at_builtin; refine wpList_append_lies _ rfl _ _ _ rfl w.heap.size 196 i0 _ 2 24 Tryz.underlying160 hi0 hz0 hz1 hz2 rfl (by omega) (.slice a m c) m ((bkeepB (bs.take k) lot).flatMap bidCells) rfl (by exact HO2.out _) ⟨wr.heap.size, 0, none⟩ 1 1 [.string b.lot, .int .i64 b.n] rfl rfl (by exact World.news_of_block (Go.heap_alloc_new wr _)) (by intro u hu; simp at hu; rcases hu with rfl | rfl <;> rfl) (by omega) (by unfold maxLen; omega) (by omega) (by have := HSz.out; simp; omega) (wr.heap.size + 1) (by simp) ?_; intro g9 cap9 w9 hown9 hgrow hat hlt9; have B9 := HB9.out _ _ hgrow)
        have hO9 : Hid (w9.ownsRow w.heap.size 196 2 (.slice (some ⟨g9, 0, none⟩) (m + 1) cap9) (m + 1) ((bkeepB (bs.take (k + 1)) lot).flatMap bidCells)) := by
          unfold Hid
          rw [HF.out, List.flatMap_append, List.flatMap_singleton]
          exact hown9
        exact ⟨⟨k + 1, m + 1, cap9, some ⟨g9, 0, none⟩, by omega, by go_num, rfl, by unfold Hid; rw [HF.out, List.length_append, ← HM.out]; rfl, B9, hO9⟩, by simp [intOf]; omega⟩
      · have he' : (b.lot.toList == lot.toList) = true := he
        have HF := hidOf (bkeep_no HBk.out he)
        clear he
        go_wp2
        exact ⟨⟨k + 1, m, c, a, by omega, by go_num, rfl, by unfold Hid; rw [HF.out]; exact HM.out, HB, by unfold Hid; rw [HF.out]; exact HO.out⟩, by simp [intOf]; omega⟩
    · have hlt' : decide ((k : Int) < (bs.length : Int)) = false := decide_eq_false (by omega)
      have z2 := HZ.out wr HB.out
      have hkl : bs.take k = bs := List.take_of_length_le (by omega)
      rw [hkl] at HM HO
      clear hkl
      by_cases hn : 0 < n
      · have hn' : decide (n ≤ 0) = false := decide_eq_false (by omega)
        have HF : Hid (setB bs lot n = bkeepB bs lot ++ [⟨lot, n⟩]) := by unfold Hid setB bkeepB; rw [if_pos hn]
        have HO2 : Hid (∀ o, (wr.alloc o).ownsRow w.heap.size 196 2 (.slice a m c) m ((bkeepB bs lot).flatMap bidCells)) := fun o => ownsRow_alloc HO.out o
        have HB9 : Hid (∀ (o : Obj) (wx : World), (wr.alloc o).grownBy wx (Value.slice a m c).ownBlock → Hid (Below w.heap.size w wx)) := fun o wx hg => by
          refine (HB.out.alloc HB.out.size _).grown hg (by have := HB.out.size; simp; omega) (fun r hr => ?_)
          exact (HO.out.lt r hr).1
        clear HO z2
        go_wp2_with (at_builtin; refine wpList_append_lies _ rfl _ _ _ rfl w.heap.size 196 i0 _ 2 24 Tryz.underlying160 hi0 hz0 hz1 hz2 rfl (by omega) (.slice a m c) m ((bkeepB bs lot).flatMap bidCells) rfl (by exact HO2.out _) ⟨wr.heap.size, 0, none⟩ 1 1 [.string lot, .int .i64 n] rfl rfl (by exact World.news_of_block (Go.heap_alloc_new wr _)) (by intro u hu; simp at hu; rcases hu with rfl | rfl <;> rfl) (by omega) (by unfold maxLen; omega) (by omega) (by have := HSz.out; simp; omega) (wr.heap.size + 1) (by simp) ?_; intro g9 cap9 w9 hown9 hgrow hat hlt9; have B9 := HB9.out _ _ hgrow; have c9 := HC.out _ B9.out; have z9 := HZ.out _ B9.out)
        go_end0
        refine ⟨rfl, w9, _, rfl, B9.out, ?_⟩
        rw [HF.out, List.flatMap_append, List.flatMap_singleton, List.length_append, ← HM.out]
        exact hown9
      · have hn' : decide (n ≤ 0) = true := decide_eq_true (by omega)
        have HF : Hid (setB bs lot n = bkeepB bs lot) := by unfold Hid setB bkeepB; rw [if_neg hn, List.append_nil]
        go_wp2
        go_end0
        refine ⟨rfl, wr, _, rfl, HB.out, ?_⟩
        rw [HF.out, ← HM.out]
        exact HO.out
end Go.Proofs.YtlafddeoheambaaGreatDoor

/-
  The function highest of package hazeref: the highest of the bids that count.
-/
namespace Go.Proofs.YtlafddeoheambaaGreatDoor
open Go.RowKit

theorem bidsOf_Y {Y : YW} {k : Nat} {p : SPlayer} {v : PV} (hq : Y.pls[k]? = some (p, v)) (nm : ByteArray) : bidsOf Y.S.players nm k = bidI p.bids nm := by
  unfold bidsOf
  rw [S_at hq]
theorem highTo_take {bid : Nat → Int} {least but : Int} {k : Nat} (h : (k : Int) ≠ but ∧ 0 < bid k ∧ least ≤ bid k ∧ (highTo bid least but k).2 < bid k) : highTo bid least but (k + 1) = ((k : Int), bid k) := by
  simp only [highTo]
  rw [if_pos h]
theorem highTo_skip {bid : Nat → Int} {least but : Int} {k : Nat} (h : ¬ ((k : Int) ≠ but ∧ 0 < bid k ∧ least ≤ bid k ∧ (highTo bid least but k).2 < bid k)) : highTo bid least but (k + 1) = highTo bid least but k := by
  simp only [highTo]
  rw [if_neg h]

set_option maxRecDepth 100000 in
set_option maxHeartbeats 8000000 in
theorem highest_any (w : World) (Y : YW) (l : SLot) (but : Int) (hr : RepY w Y) (h4 : 1 ≤ Y.pls.length ∧ Y.pls.length ≤ 4) :
    Calls Tryz.prog 127 #[.pointer (some ⟨Y.b, 0, none⟩), .agg #[.string l.name, .int .i64 l.least, .int .i64 l.ends], .int .i64 but] w fun e w' => e = .returned (.tuple #[.int .i64 (highTo (bidsOf Y.S.players l.name) l.least but Y.pls.length).1, .int .i64 (highTo (bidsOf Y.S.players l.name) l.least but Y.pls.length).2]) ∧ Below w.heap.size w w' := by
  rcases own_form hr.pl with ⟨_, h0, _⟩ | ⟨pb, pcap, hvp, hpc, hpm, hpb⟩
  · omega
  unfold maxLen at hpm
  have HC : Hid (∀ wx, Below w.heap.size w wx → wx.cell? ⟨Y.b, 5, none⟩ = some (.slice (some ⟨pb, 0, none⟩) Y.pls.length pcap)) := fun wx h => by rw [← hvp]; exact (hr.below h).cellTop rfl
  have HBi : Hid (∀ wx wy, Below w.heap.size w wy → wx.heap = wy.heap → ∀ (k : Nat), k < Y.pls.length → Calls Tryz.prog 104 #[.pointer (some ⟨pb, k * 4, none⟩), .string l.name] wx fun e w' => e = .returned (.int .i64 (bidsOf Y.S.players l.name k)) ∧ w' = wx) := fun wx wy h hh k hk => by
    have r := (hr.below h).heapEq hh
    obtain ⟨p, v, hq⟩ : ∃ p v, Y.pls[k]? = some (p, v) := ⟨Y.pls[k].1, Y.pls[k].2, by simp [hk]⟩
    obtain ⟨q0, q1, q2, q3⟩ := r.plCell hq hvp
    rw [bidsOf_Y hq]
    exact bid_any pb (k * 4) p.bids v.b l.name wx q2 (r.eachAt hq).bids
  obtain ⟨bid, hbid⟩ : ∃ bid, bid = bidsOf Y.S.players l.name := ⟨_, rfl⟩
  rw [← hbid] at HBi ⊢
  obtain ⟨w1, hw1⟩ : ∃ w1, w1 = w.alloc (.cells #[.string l.name, .int .i64 l.least, .int .i64 l.ends] 168) := ⟨_, rfl⟩
  have k1 := Go.heap_alloc_new w (.cells #[.string l.name, .int .i64 l.least, .int .i64 l.ends] 168)
  rw [← hw1] at k1
  have HB1 : Hid (Below w.heap.size w w1) := by rw [hw1]; exact (Below.refl _ _).alloc (Nat.le_refl _) _
  have x0 : w1.cell? ⟨w.heap.size, 0, none⟩ = some (.string l.name) := by rw [cell_of_row _ _ _ _ _ _ k1]; rfl
  have x1 : w1.cell? ⟨w.heap.size, 1, none⟩ = some (.int .i64 l.least) := by rw [cell_of_row _ _ _ _ _ _ k1]; rfl
  have HX := hidOf (And.intro x0 x1)
  have HW1 := hidOf hw1
  clear hbid hr hvp hpb k1 x0 x1 hw1
  go_enter Tryz.func127, Tryz.ntmps127
  go_wp2_with fail
  rw [← HW1.out]
  go_loopw [8, 9, 10, 11] (fun s8 s9 i _ w' => ∃ (k : Nat) (wh nn : Int), k ≤ Y.pls.length ∧ i = .int .i64 k ∧ s8 = .int .i64 wh ∧ s9 = .int .i64 nn ∧ Hid (highTo bid l.least but k = (wh, nn)) ∧ Hid (SameW w1 w')) (fun _ _ i _ _ => Y.pls.length + 1 - (intOf i).toNat)
  case atStart => exact ⟨0, -1, 0, Nat.zero_le _, rfl, rfl, rfl, rfl, SameW.refl _⟩
  case round =>
    obtain ⟨k, wh, nn, hk, rfl, rfl, rfl, HH, hSw⟩ := hrel
    have B := hidOf (HB1.out.trans (hSw.out.below _))
    have c5 := HC.out wr B.out
    have x0 : wr.cell? ⟨w.heap.size, 0, none⟩ = some (.string l.name) := (hSw.out.cell _).trans HX.out.1
    have x1 : wr.cell? ⟨w.heap.size, 1, none⟩ = some (.int .i64 l.least) := (hSw.out.cell _).trans HX.out.2
    by_cases hlt : k < Y.pls.length
    · have hlt' : (k : Int) < (Y.pls.length : Int) := by omega
      have HBk := hidOf (fun (wx : World) (h : wx.heap = wr.heap) => HBi.out wx wr B.out h k hlt)
      obtain ⟨bd, hbd⟩ : ∃ bd, bd = bid k := ⟨_, rfl⟩
      have HTk : Hid ((k : Int) ≠ but ∧ 0 < bd ∧ l.least ≤ bd ∧ nn < bd → highTo bid l.least but (k + 1) = ((k : Int), bd)) := fun h => by
        rw [hbd] at h ⊢
        exact highTo_take (by rw [HH.out]; exact h)
      have HSk : Hid (¬ ((k : Int) ≠ but ∧ 0 < bd ∧ l.least ≤ bd ∧ nn < bd) → highTo bid l.least but (k + 1) = (wh, nn)) := fun h => by
        rw [hbd] at h
        rw [← HH.out]
        exact highTo_skip (by rw [HH.out]; exact h)
      rw [← hbd] at HBk
      clear hbd
      go_wp2_with fail
      go_quiet ((go_at_call 104; exact Calls.quiet_of_same (HBk.out _ rfl)))
      go_wp2
      all_goals try simp only [bne_iff_ne, bne_eq_false_iff_eq, ne_eq] at *
      all_goals first
        | exact ⟨⟨k + 1, wh, nn, by omega, by go_num, rfl, rfl, HSk.out (by omega), hSw.out.drewN _⟩, by simp [intOf]; omega⟩
        | exact ⟨⟨k + 1, k, bd, by omega, by go_num, rfl, rfl, HTk.out (by omega), hSw.out.drewN _⟩, by simp [intOf]; omega⟩
    · have hlt' : decide ((k : Int) < (Y.pls.length : Int)) = false := decide_eq_false (by omega)
      have hkl : k = Y.pls.length := by omega
      rw [hkl] at HH
      clear hkl
      go_wp2
      go_ret2
      exact ⟨by simp only [HH.out]; rfl, B.out⟩
end Go.Proofs.YtlafddeoheambaaGreatDoor

/-
  The document's world with another list of bids, of news, of lots in the place of one.
-/
namespace Go.Proofs.YtlafddeoheambaaGreatDoor
open Go.RowKit

theorem nodup_swap {A O B N : List Nat} (h : (A ++ (O ++ B)).Nodup) (hN : N.Nodup) (hf : ∀ r ∈ N, r ∈ O ∨ (r ∉ A ∧ r ∉ B)) : (A ++ (N ++ B)).Nodup := by
  rw [List.nodup_append, List.nodup_append] at h ⊢
  obtain ⟨hA, ⟨hO, hB, hOB⟩, hAOB⟩ := h
  have nA : ∀ r ∈ N, r ∉ A := fun r hr hm => by
    rcases hf r hr with h' | h'
    · exact hAOB r hm r (List.mem_append.2 (.inl h')) rfl
    · exact h'.1 hm
  have nB : ∀ r ∈ N, r ∉ B := fun r hr hm => by
    rcases hf r hr with h' | h'
    · exact hOB r h' r hm rfl
    · exact h'.2 hm
  refine ⟨hA, ⟨hN, hB, fun a ha b hb e => nB a ha (e ▸ hb)⟩, fun a ha b hb e => ?_⟩
  rcases List.mem_append.1 hb with hb | hb
  · exact nA b hb (e ▸ ha)
  · exact hAOB a ha b (List.mem_append.2 (.inr hb)) e
theorem blk_nodup (v : Value) : (blk v).Nodup := by
  unfold blk
  cases v.ownBlock <;> simp
/-- All of the world's blocks but for the players' from the i-th on. -/
def preF (y : YW) (i : Nat) : List Nat := y.b :: (blk y.vOre ++ (blk y.vPl ++ (blk y.vLots ++ (y.pls.take i).flatMap pvFoot)))
def postF (y : YW) (i : Nat) : List Nat := (y.pls.drop (i + 1)).flatMap pvFoot
theorem foot_split (y : YW) (i : Nat) (q : SPlayer × PV) (hi : i < y.pls.length) : (y.setQ i q).foot = preF y i ++ (pvFoot q ++ postF y i) := by
  unfold YW.foot YW.setQ preF postF
  simp only [List.set_eq_take_append_cons_drop, hi, if_true, List.flatMap_append, List.flatMap_cons, List.cons_append, List.append_assoc]
theorem foot_same (y : YW) (i : Nat) (q : SPlayer × PV) (hq : y.pls[i]? = some q) : y.foot = preF y i ++ (pvFoot q ++ postF y i) := by
  obtain ⟨hi, e⟩ := at_some hq
  rw [← foot_split y i q hi]
  unfold YW.setQ
  have : y.pls.set i q = y.pls := by rw [← e]; exact List.set_getElem_self hi
  rw [this]

/-- A player's bids: another list. -/
theorem Turn.setBids {w w5 w6 : World} {Y Y1 : YW} (h : Turn w Y w5 Y1) {i : Nat} {p : SPlayer} {v : PV} (hq : Y1.pls[i]? = some (p, v)) {pb cap : Nat} (hv : Y1.vPl = .slice (some ⟨pb, 0, none⟩) Y1.pls.length cap)
    (hk : Kept (blk v.b) w5 w6) (val : Value) (l : List SBid) (ho : w6.ownsRow 0 196 2 val l.length (l.flatMap bidCells)) (hn : ∀ r ∈ blk val, r ∈ blk v.b ∨ w5.heap.size ≤ r) :
    Turn w Y (w6.setCell ⟨pb, i * 4 + 2, none⟩ val) (Y1.setQ i ({ p with bids := l }, { v with b := val })) := by
  obtain ⟨hi, e⟩ := at_some hq
  have hr := h.rep
  have sp := sep_of hr.sep
  have hmem : (p, v) ∈ Y1.pls := List.mem_of_getElem? hq
  have hpb : pb ∈ blk Y1.vPl := by simp [hv, blk_slice]
  have hb0 : ∀ r ∈ blk v.b, r ∈ pvFoot (p, v) := fun r hr' => by simp [pvFoot, hr']
  have hpv : pb ∉ blk val := fun hm => by
    rcases hn pb hm with h' | h'
    · exact sp.pe pb hpb _ hmem (hb0 _ h')
    · have := own_lt hr.pl pb hpb; omega
  have far : ∀ r, r < w5.heap.size → r ∉ blk v.b → r ≠ pb → (w6.setCell ⟨pb, i * 4 + 2, none⟩ val).heap[r]? = w5.heap[r]? := fun r h1 h2 h3 => by rw [setCell_far w6 pb _ _ r h3, hk.block r h1 h2]
  have hf0 := foot_same Y1 i (p, v) hq
  have hf1 := foot_split Y1 i ({ p with bids := l }, { v with b := val }) hi
  have fresh : ∀ r, r ∈ Y1.foot → ¬ w5.heap.size ≤ r := fun r hr' => by have := hr.lt r hr'; omega
  refine ⟨⟨?_, ?_, ?_, ?_, ?_, ?_⟩, ?_, ?_, h.b⟩
  · show (w6.setCell _ val).heap[Y1.b]? = _
    rw [far Y1.b (hr.lt _ foot_b) (fun hm => sp.be _ hmem (hb0 _ hm)) (fun e => sp.bp (e ▸ hpb)), hr.top]; rfl
  · exact own_same hr.ore (fun r hr' => far r (own_lt hr.ore r hr') (fun hm => sp.oe r hr' _ hmem (hb0 _ hm)) (fun e => sp.op r hr' (e ▸ hpb)))
  · show (w6.setCell _ val).ownsRow 0 _ 4 Y1.vPl (Y1.pls.set i _).length ((Y1.pls.set i _).flatMap plCells)
    have h6 : w6.ownsRow 0 162 4 Y1.vPl Y1.pls.length (Y1.pls.flatMap plCells) := own_same hr.pl (fun r hr' => hk.block r (own_lt hr.pl r hr') (fun hm => sp.pe r hr' _ hmem (hb0 _ hm)))
    rw [List.length_set, ← flat_set plCells 4 (fun _ => rfl) Y1.pls i 2 _ val hi (by omega) (by rw [e]; rfl), hv]
    exact own_set (hv ▸ h6) (i * 4 + 2) _ (by omega)
  · exact own_same hr.lots (fun r hr' => far r (own_lt hr.lots r hr') (fun hm => sp.le r hr' _ hmem (hb0 _ hm)) (fun e => sp.pl pb hpb (e ▸ hr')))
  · intro q hqm
    obtain ⟨j, hj, rfl⟩ := List.mem_iff_getElem.1 hqm
    simp only [YW.setQ, List.length_set] at hj
    simp only [YW.setQ, List.getElem_set]
    split
    · have hj' := hr.each _ hmem
      have nd := sp.e1 i hi
      rw [e] at nd
      simp only [pvFoot, List.nodup_append, List.mem_append] at nd
      obtain ⟨_, ⟨_, _, nd2⟩, nd1⟩ := nd
      refine ⟨own_same hj'.units (fun r hr' => far r (own_lt hj'.units r hr') (fun hm => nd1 r hr' r (.inl hm) rfl) (fun e' => sp.pe pb hpb _ hmem (e' ▸ (by simp [pvFoot, hr'])))), ?_, ?_⟩
      · refine own_same ho (fun r hr' => setCell_far w6 pb _ _ r (fun e' => hpv (e' ▸ hr')))
      · exact own_same hj'.news (fun r hr' => far r (own_lt hj'.news r hr') (fun hm => nd2 r hm r hr' rfl) (fun e' => sp.pe pb hpb _ hmem (e' ▸ (by simp [pvFoot, hr']))))
    · rename_i hne
      refine (hr.each _ (List.getElem_mem hj)).same (fun r hr' => far r ((hr.each _ (List.getElem_mem hj)).lt r hr') (fun hm => sp.ee i j hi hj hne r (by rw [e]; exact hb0 _ hm) hr') (fun e' => sp.pe pb hpb _ (List.getElem_mem hj) (e' ▸ hr')))
  · rw [hf1]
    have hs := hr.sep
    rw [hf0] at hs
    have ex : ∀ N : List Nat, preF Y1 i ++ ((blk v.u ++ (N ++ blk v.n)) ++ postF Y1 i) = (preF Y1 i ++ blk v.u) ++ (N ++ (blk v.n ++ postF Y1 i)) := fun N => by simp [List.append_assoc]
    show (preF Y1 i ++ ((blk v.u ++ (blk val ++ blk v.n)) ++ postF Y1 i)).Nodup
    have hs' : (preF Y1 i ++ ((blk v.u ++ (blk v.b ++ blk v.n)) ++ postF Y1 i)).Nodup := by simpa [pvFoot, List.append_assoc] using hs
    rw [ex] at hs'
    have goal := nodup_swap hs' (blk_nodup val) (fun r hr' => by
      rcases hn r hr' with h' | h'
      · exact .inl h'
      · refine .inr ⟨fun hm => fresh r ?_ h', fun hm => fresh r ?_ h'⟩
        · rw [hf0]
          simp only [pvFoot, List.mem_append] at hm ⊢
          rcases hm with hm | hm
          · exact .inl hm
          · exact .inr (.inl (.inl hm))

        · rw [hf0]
          simp only [pvFoot, List.mem_append] at hm ⊢
          rcases hm with hm | hm
          · exact .inr (.inl (.inr (.inr hm)))
          · exact .inr (.inr hm))
    simpa [List.append_assoc] using goal
  · refine Kept.setCell ?_ pb _ _ (h.ext pb (foot_p hpb))
    refine h.kept.trans hk (fun r hr' => h.ext r (foot_e hmem (hb0 r hr')))
  · intro r hr'
    rw [hf1] at hr'
    have old : r ∈ Y1.foot → r ∈ Y.foot ∨ w.heap.size ≤ r := fun hm => h.ext r hm
    simp only [List.mem_append, pvFoot] at hr'
    have f0 : ∀ {P : Prop}, (r ∈ preF Y1 i ∨ (r ∈ pvFoot (p, v)) ∨ r ∈ postF Y1 i → P) → (r ∈ Y1.foot → P) := fun hP hm => hP (by rw [hf0] at hm; simpa [List.mem_append] using hm)
    have f1 : (r ∈ preF Y1 i ∨ r ∈ pvFoot (p, v) ∨ r ∈ postF Y1 i) → r ∈ Y1.foot := fun hm => by rw [hf0]; simpa [List.mem_append] using hm
    have nw : r ∈ blk val → r ∈ Y.foot ∨ w.heap.size ≤ r := fun hm => by
      rcases hn r hm with h' | h'
      · exact old (foot_e hmem (hb0 r h'))
      · exact .inr (Nat.le_trans h.kept.size h')
    rcases hr' with hr' | (hr' | hr' | hr') | hr'
    · exact old (f1 (.inl hr'))
    · exact old (f1 (.inr (.inl (by simp [pvFoot, hr']))))
    · exact nw hr'
    · exact old (f1 (.inr (.inl (by simp [pvFoot, hr']))))
    · exact old (f1 (.inr (.inr hr')))

/-- A player's news: another list. -/
theorem Turn.setNews {w w5 w6 : World} {Y Y1 : YW} (h : Turn w Y w5 Y1) {i : Nat} {p : SPlayer} {v : PV} (hq : Y1.pls[i]? = some (p, v)) {pb cap : Nat} (hv : Y1.vPl = .slice (some ⟨pb, 0, none⟩) Y1.pls.length cap)
    (hk : Kept (blk v.n) w5 w6) (val : Value) (l : List ByteArray) (ho : w6.ownsRow 0 9 1 val l.length (l.map Value.string)) (hn : ∀ r ∈ blk val, r ∈ blk v.n ∨ w5.heap.size ≤ r) :
    Turn w Y (w6.setCell ⟨pb, i * 4 + 3, none⟩ val) (Y1.setQ i ({ p with news := l }, { v with n := val })) := by
  obtain ⟨hi, e⟩ := at_some hq
  have hr := h.rep
  have sp := sep_of hr.sep
  have hmem : (p, v) ∈ Y1.pls := List.mem_of_getElem? hq
  have hpb : pb ∈ blk Y1.vPl := by simp [hv, blk_slice]
  have hb0 : ∀ r ∈ blk v.n, r ∈ pvFoot (p, v) := fun r hr' => by simp [pvFoot, hr']
  have hpv : pb ∉ blk val := fun hm => by
    rcases hn pb hm with h' | h'
    · exact sp.pe pb hpb _ hmem (hb0 _ h')
    · have := own_lt hr.pl pb hpb; omega
  have far : ∀ r, r < w5.heap.size → r ∉ blk v.n → r ≠ pb → (w6.setCell ⟨pb, i * 4 + 3, none⟩ val).heap[r]? = w5.heap[r]? := fun r h1 h2 h3 => by rw [setCell_far w6 pb _ _ r h3, hk.block r h1 h2]
  have hf0 := foot_same Y1 i (p, v) hq
  have hf1 := foot_split Y1 i ({ p with news := l }, { v with n := val }) hi
  have fresh : ∀ r, r ∈ Y1.foot → ¬ w5.heap.size ≤ r := fun r hr' => by have := hr.lt r hr'; omega
  refine ⟨⟨?_, ?_, ?_, ?_, ?_, ?_⟩, ?_, ?_, h.b⟩
  · show (w6.setCell _ val).heap[Y1.b]? = _
    rw [far Y1.b (hr.lt _ foot_b) (fun hm => sp.be _ hmem (hb0 _ hm)) (fun e => sp.bp (e ▸ hpb)), hr.top]; rfl
  · exact own_same hr.ore (fun r hr' => far r (own_lt hr.ore r hr') (fun hm => sp.oe r hr' _ hmem (hb0 _ hm)) (fun e => sp.op r hr' (e ▸ hpb)))
  · show (w6.setCell _ val).ownsRow 0 _ 4 Y1.vPl (Y1.pls.set i _).length ((Y1.pls.set i _).flatMap plCells)
    have h6 : w6.ownsRow 0 162 4 Y1.vPl Y1.pls.length (Y1.pls.flatMap plCells) := own_same hr.pl (fun r hr' => hk.block r (own_lt hr.pl r hr') (fun hm => sp.pe r hr' _ hmem (hb0 _ hm)))
    rw [List.length_set, ← flat_set plCells 4 (fun _ => rfl) Y1.pls i 3 _ val hi (by omega) (by rw [e]; rfl), hv]
    exact own_set (hv ▸ h6) (i * 4 + 3) _ (by omega)
  · exact own_same hr.lots (fun r hr' => far r (own_lt hr.lots r hr') (fun hm => sp.le r hr' _ hmem (hb0 _ hm)) (fun e => sp.pl pb hpb (e ▸ hr')))
  · intro q hqm
    obtain ⟨j, hj, rfl⟩ := List.mem_iff_getElem.1 hqm
    simp only [YW.setQ, List.length_set] at hj
    simp only [YW.setQ, List.getElem_set]
    split
    · have hj' := hr.each _ hmem
      have nd := sp.e1 i hi
      rw [e] at nd
      simp only [pvFoot, List.nodup_append, List.mem_append] at nd
      obtain ⟨_, ⟨_, _, nd2⟩, nd1⟩ := nd
      refine ⟨own_same hj'.units (fun r hr' => far r (own_lt hj'.units r hr') (fun hm => nd1 r hr' r (.inr hm) rfl) (fun e' => sp.pe pb hpb _ hmem (e' ▸ (by simp [pvFoot, hr'])))), ?_, ?_⟩
      · exact own_same hj'.bids (fun r hr' => far r (own_lt hj'.bids r hr') (fun hm => nd2 r hr' r hm rfl) (fun e' => sp.pe pb hpb _ hmem (e' ▸ (by simp [pvFoot, hr']))))
      · refine own_same ho (fun r hr' => setCell_far w6 pb _ _ r (fun e' => hpv (e' ▸ hr')))
    · rename_i hne
      refine (hr.each _ (List.getElem_mem hj)).same (fun r hr' => far r ((hr.each _ (List.getElem_mem hj)).lt r hr') (fun hm => sp.ee i j hi hj hne r (by rw [e]; exact hb0 _ hm) hr') (fun e' => sp.pe pb hpb _ (List.getElem_mem hj) (e' ▸ hr')))
  · rw [hf1]
    have hs := hr.sep
    rw [hf0] at hs
    have ex : ∀ N : List Nat, preF Y1 i ++ (((blk v.u ++ blk v.b) ++ (N ++ ([] : List Nat))) ++ postF Y1 i) = (preF Y1 i ++ (blk v.u ++ blk v.b)) ++ (N ++ (([] : List Nat) ++ postF Y1 i)) := fun N => by simp [List.append_assoc]
    show (preF Y1 i ++ ((blk v.u ++ (blk v.b ++ blk val)) ++ postF Y1 i)).Nodup
    have hs' : (preF Y1 i ++ (((blk v.u ++ blk v.b) ++ (blk v.n ++ ([] : List Nat))) ++ postF Y1 i)).Nodup := by simpa [pvFoot, List.append_assoc] using hs
    rw [ex] at hs'
    have goal := nodup_swap hs' (blk_nodup val) (fun r hr' => by
      rcases hn r hr' with h' | h'
      · exact .inl h'
      · refine .inr ⟨fun hm => fresh r ?_ h', fun hm => fresh r ?_ h'⟩
        · rw [hf0]
          simp only [pvFoot, List.mem_append] at hm ⊢
          rcases hm with hm | hm | hm
          · exact .inl hm
          · exact .inr (.inl (.inl hm))
          · exact .inr (.inl (.inr (.inl hm)))
        · rw [hf0]
          simp only [pvFoot, List.mem_append, List.nil_append] at hm ⊢
          skip

          exact .inr (.inr hm))
    simpa [List.append_assoc] using goal
  · refine Kept.setCell ?_ pb _ _ (h.ext pb (foot_p hpb))
    refine h.kept.trans hk (fun r hr' => h.ext r (foot_e hmem (hb0 r hr')))
  · intro r hr'
    rw [hf1] at hr'
    have old : r ∈ Y1.foot → r ∈ Y.foot ∨ w.heap.size ≤ r := fun hm => h.ext r hm
    simp only [List.mem_append, pvFoot] at hr'
    have f0 : ∀ {P : Prop}, (r ∈ preF Y1 i ∨ (r ∈ pvFoot (p, v)) ∨ r ∈ postF Y1 i → P) → (r ∈ Y1.foot → P) := fun hP hm => hP (by rw [hf0] at hm; simpa [List.mem_append] using hm)
    have f1 : (r ∈ preF Y1 i ∨ r ∈ pvFoot (p, v) ∨ r ∈ postF Y1 i) → r ∈ Y1.foot := fun hm => by rw [hf0]; simpa [List.mem_append] using hm
    have nw : r ∈ blk val → r ∈ Y.foot ∨ w.heap.size ≤ r := fun hm => by
      rcases hn r hm with h' | h'
      · exact old (foot_e hmem (hb0 r h'))
      · exact .inr (Nat.le_trans h.kept.size h')
    rcases hr' with hr' | (hr' | hr' | hr') | hr'
    · exact old (f1 (.inl hr'))
    · exact old (f1 (.inr (.inl (by simp [pvFoot, hr']))))
    · exact old (f1 (.inr (.inl (by simp [pvFoot, hr']))))
    · exact nw hr'
    · exact old (f1 (.inr (.inr hr')))

def YW.withLots (y : YW) (l : List SLot) (v : Value) : YW := { y with lots := l, vLots := v }
/-- The lots: another list. -/
theorem Turn.setLots {w w5 w6 : World} {Y Y1 : YW} (h : Turn w Y w5 Y1) (hk : Kept (blk Y1.vLots) w5 w6) (val : Value) (l : List SLot) (ho : w6.ownsRow 0 168 3 val l.length (l.flatMap lotCells)) (hn : ∀ r ∈ blk val, r ∈ blk Y1.vLots ∨ (r ∉ Y1.foot ∧ w.heap.size ≤ r)) :
    Turn w Y (w6.setCell ⟨Y1.b, 6, none⟩ val) (Y1.withLots l val) := by
  have hr := h.rep
  have sp := sep_of hr.sep
  have hbv : Y1.b ∉ blk val := fun hm => by
    rcases hn _ hm with h' | h'
    · exact sp.bl h'
    · exact h'.1 foot_b
  have far : ∀ r, r < w5.heap.size → r ∉ blk Y1.vLots → r ≠ Y1.b → (w6.setCell ⟨Y1.b, 6, none⟩ val).heap[r]? = w5.heap[r]? := fun r h1 h2 h3 => by rw [setCell_far w6 Y1.b _ _ r h3, hk.block r h1 h2]
  have ex : ∀ (N : List Nat), Y1.b :: (blk Y1.vOre ++ (blk Y1.vPl ++ (N ++ Y1.pls.flatMap pvFoot))) = (Y1.b :: (blk Y1.vOre ++ blk Y1.vPl)) ++ (N ++ Y1.pls.flatMap pvFoot) := fun N => by simp [List.append_assoc]
  refine ⟨⟨?_, ?_, ?_, ?_, ?_, ?_⟩, ?_, ?_, h.b⟩
  · show (w6.setCell ⟨Y1.b, 6, none⟩ val).heap[Y1.b]? = _
    have e : w6.heap[Y1.b]? = w5.heap[Y1.b]? := hk.block _ (hr.lt _ foot_b) sp.bl
    simp only [World.setCell, Array.getElem?_modify, e, hr.top]
    simp [YW.cells, YW.withLots]
  · exact own_same hr.ore (fun r hr' => far r (own_lt hr.ore r hr') (sp.ol r hr') (fun e => sp.bo (e ▸ hr')))
  · exact own_same hr.pl (fun r hr' => far r (own_lt hr.pl r hr') (sp.pl r hr') (fun e => sp.bp (e ▸ hr')))
  · exact own_same ho (fun r hr' => setCell_far w6 Y1.b _ _ r (fun e => hbv (e ▸ hr')))
  · intro q hq
    exact (hr.each q hq).same (fun r hr' => far r ((hr.each q hq).lt r hr') (fun hm => sp.le r hm q hq hr') (fun e => sp.be q hq (e ▸ hr')))
  · show (Y1.b :: (blk Y1.vOre ++ (blk Y1.vPl ++ (blk val ++ Y1.pls.flatMap pvFoot)))).Nodup
    have hs : (Y1.b :: (blk Y1.vOre ++ (blk Y1.vPl ++ (blk Y1.vLots ++ Y1.pls.flatMap pvFoot)))).Nodup := hr.sep
    rw [ex] at hs ⊢
    refine nodup_swap hs (blk_nodup val) (fun r hr' => ?_)
    rcases hn r hr' with h' | h'
    · exact .inl h'
    · refine .inr ⟨fun hm => h'.1 ?_, fun hm => h'.1 ?_⟩
      · unfold YW.foot
        rw [ex]
        exact List.mem_append.2 (.inl hm)
      · unfold YW.foot
        rw [ex]
        exact List.mem_append.2 (.inr (List.mem_append.2 (.inr hm)))
  · exact Kept.setCell (h.kept.trans hk (fun r hr' => h.ext r (foot_l hr'))) _ _ _ (h.ext _ foot_b)
  · intro r hr'
    have hr2 : r ∈ (Y1.b :: (blk Y1.vOre ++ blk Y1.vPl)) ++ (blk val ++ Y1.pls.flatMap pvFoot) := by rw [← ex]; exact hr'
    have old : r ∈ (Y1.b :: (blk Y1.vOre ++ blk Y1.vPl)) ++ (blk Y1.vLots ++ Y1.pls.flatMap pvFoot) → r ∈ Y.foot ∨ w.heap.size ≤ r := fun hm => h.ext r (by unfold YW.foot; rw [ex]; exact hm)
    rcases List.mem_append.1 hr2 with h1 | h1
    · exact old (List.mem_append.2 (.inl h1))
    · rcases List.mem_append.1 h1 with h1 | h1
      · rcases hn r h1 with h' | h'
        · exact h.ext r (foot_l h')
        · exact .inr h'.2
      · exact old (List.mem_append.2 (.inr (List.mem_append.2 (.inr h1))))
end Go.Proofs.YtlafddeoheambaaGreatDoor

/-
  The function sell of package hazeref: a lot is sold.
-/
namespace Go.Proofs.YtlafddeoheambaaGreatDoor
open Go.RowKit

/-- The first k players' share in a sale. -/
def soldK (s : SWorld) (l : SLot) (who pays : Int) (k : Nat) : SWorld := { s with players := s.players.mapIdx (fun i p => if i < k then soldP l who pays i p else p) }
theorem soldK_zero (s : SWorld) (l : SLot) (who pays : Int) : soldK s l who pays 0 = s := by
  have : s.players.mapIdx (fun i p => if i < 0 then soldP l who pays i p else p) = s.players := by
    apply List.ext_getElem?
    intro i
    simp
  unfold soldK
  rw [this]
theorem soldK_at {s : SWorld} {l : SLot} {who pays : Int} {k : Nat} : (soldK s l who pays k).players[k]? = s.players[k]? := by
  simp [soldK]
theorem soldK_succ {s : SWorld} {l : SLot} {who pays : Int} {k : Nat} {p : SPlayer} (h : s.players[k]? = some p) : (soldK s l who pays k).setPl k (soldP l who pays k p) = soldK s l who pays (k + 1) := by
  have : (s.players.mapIdx (fun i p => if i < k then soldP l who pays i p else p)).set k (soldP l who pays k p) = s.players.mapIdx (fun i p => if i < k + 1 then soldP l who pays i p else p) := by
    apply List.ext_getElem?
    intro i
    have hk := (at_some h).1
    by_cases e : k = i
    · subst e
      have e2 := (at_some h).2
      simp [hk, e2]
    · rw [List.getElem?_set_ne e]
      simp only [List.getElem?_mapIdx]
      have : (i < k + 1) = (i < k) := by
        apply propext
        omega
      simp only [this]
  unfold soldK SWorld.setPl
  rw [this]
theorem soldK_all (s : SWorld) (l : SLot) (who pays : Int) : (soldK s l who pays s.players.length).players = s.players.mapIdx (soldP l who pays) := by
  unfold soldK
  apply List.ext_getElem?
  intro i
  simp only [List.getElem?_mapIdx]
  by_cases h : i < s.players.length
  · simp [h]
  · rw [List.getElem?_eq_none (by omega)]
    rfl
theorem setPl_twice (s : SWorld) (k : Nat) (a b : SPlayer) : (s.setPl k a).setPl k b = s.setPl k b := by simp [SWorld.setPl, List.set_set]

/-- News more, and then a bid less. -/
theorem sold_news {w wc w9 : World} {Y Y5 : YW} (T : Turn w Y wc Y5) {k : Nat} {p : SPlayer} {v : PV} (hq : Y5.pls[k]? = some (p, v)) {pb cap : Nat} (hv : Y5.vPl = .slice (some ⟨pb, 0, none⟩) Y5.pls.length cap) (s : ByteArray) (o : Obj) {g9 cap9 : Nat} (hg : (wc.alloc o).grownBy w9 v.n.ownBlock)
    (ho : w9.ownsRow 0 9 1 (.slice (some ⟨g9, 0, none⟩) (p.news.length + 1) cap9) (p.news.length + 1) (p.news.map Value.string ++ [.string s])) (hat : v.n.ownBlock = some g9 ∨ g9 = wc.heap.size + 1) :
    Turn w Y (w9.setCell ⟨pb, k * 4 + 3, none⟩ (.slice (some ⟨g9, 0, none⟩) (p.news.length + 1) cap9)) (Y5.setQ k ({ p with news := p.news ++ [s] }, { v with n := .slice (some ⟨g9, 0, none⟩) (p.news.length + 1) cap9 })) := by
  refine T.setNews hq hv ⟨hg.os, hg.tape, hg.output, Nat.le_trans (by simp) hg.size, fun r hr hn => ?_⟩ _ (p.news ++ [s]) (by simpa using ho) (fun r hr => ?_)
  · rw [hg.block r (by simp; omega) (fun e => hn (by simp [blk, ← e])), Below.heap_alloc _ _ _ hr]
  · have e : r = g9 := by simpa [blk_slice] using hr
    rw [e]
    rcases hat with h | h
    · exact .inl (by simp [blk, h])
    · exact .inr (by omega)
theorem sold_bids {w wa wb : World} {Y Y6 : YW} (T : Turn w Y wa Y6) {k : Nat} {p : SPlayer} {v : PV} (hq : Y6.pls[k]? = some (p, v)) {pb cap : Nat} (hv : Y6.vPl = .slice (some ⟨pb, 0, none⟩) Y6.pls.length cap) (hb : Below wa.heap.size wa wb) {val : Value} {l : List SBid} (ho : wb.ownsRow wa.heap.size 196 2 val l.length (l.flatMap bidCells)) :
    Turn w Y (wb.setCell ⟨pb, k * 4 + 2, none⟩ val) (Y6.setQ k ({ p with bids := l }, { v with b := val })) :=
  T.setBids hq hv (Kept.of_below hb) val l (own_any ho) (fun r hr => .inr (ho.lt r (by simpa [blk] using hr)).1)

set_option maxRecDepth 100000 in
set_option maxHeartbeats 8000000 in
theorem sell_any (w : World) (Y : YW) (l : SLot) (M : Int) (hr : RepY w Y) (hf : WFS Y.S M) (hM : M ≤ 100000000000) (hnw : ∀ p ∈ Y.S.players, p.news.length ≤ 1000) (hnm : l.name.size ≤ 2000000) (hle : 0 ≤ l.least ∧ l.least ≤ 100000) :
    Calls Tryz.prog 100 #[.pointer (some ⟨Y.b, 0, none⟩), .agg #[.string l.name, .int .i64 l.least, .int .i64 l.ends]] w fun e w' => e = .returned (.tuple #[]) ∧ ∃ Y', Turn w Y w' Y' ∧ Y'.S = sellS Y.S l := by
  have hpl : Y.S.players.length = Y.pls.length := by simp [YW.S]
  have h4 := hf.pl
  rw [hpl] at h4
  obtain ⟨i0, hi0, hz0, hz1, hz2⟩ := info_parts Tryz.infoString
  obtain ⟨w1, hw1⟩ : ∃ w1, w1 = w.alloc (.cells #[.string l.name, .int .i64 l.least, .int .i64 l.ends] 168) := ⟨_, rfl⟩
  have k1 := Go.heap_alloc_new w (.cells #[.string l.name, .int .i64 l.least, .int .i64 l.ends] 168)
  rw [← hw1] at k1
  have hB1 : Below w.heap.size w w1 := by rw [hw1]; exact (Below.refl _ _).alloc (Nat.le_refl _) _
  have hs1 : w.heap.size < w1.heap.size := by rw [hw1]; simp
  have hr1 : RepY w1 Y := hr.below hB1
  have T0 : Turn w Y w1 Y := (Turn.refl hr).below hB1
  have hnf : w.heap.size ∉ Y.foot := fun h => by have := hr.lt _ h; omega
  have HBx : Hid (∀ (wx : World) (Yx : YW), Turn w1 Y wx Yx → w.heap.size ∉ Yx.foot) := fun wx Yx h hm => by
    rcases h.ext _ hm with h' | h'
    · exact hnf h'
    · omega
  have HX : Hid (∀ wx, Kept Y.foot w1 wx → wx.cell? ⟨w.heap.size, 0, none⟩ = some (.string l.name) ∧ wx.cell? ⟨w.heap.size, 1, none⟩ = some (.int .i64 l.least) ∧ wx.cell? ⟨w.heap.size, 2, none⟩ = some (.int .i64 l.ends)) := fun wx h => by
    have e := (h.block _ hs1 hnf).trans k1
    exact ⟨by rw [cell_of_row _ _ _ _ _ _ e]; rfl, by rw [cell_of_row _ _ _ _ _ _ e]; rfl, by rw [cell_of_row _ _ _ _ _ _ e]; rfl⟩
  obtain ⟨B, hB⟩ : ∃ B, B = bidsOf Y.S.players l.name := ⟨_, rfl⟩
  obtain ⟨N, hN⟩ : ∃ N, N = Y.pls.length := ⟨_, rfl⟩
  have HHi : Hid (∀ wx, Below w1.heap.size w1 wx → ∀ but, Calls Tryz.prog 127 #[.pointer (some ⟨Y.b, 0, none⟩), .agg #[.string l.name, .int .i64 l.least, .int .i64 l.ends], .int .i64 but] wx fun e w' => e = .returned (.tuple #[.int .i64 (highTo B l.least but N).1, .int .i64 (highTo B l.least but N).2]) ∧ Hid (Below w1.heap.size w1 w')) := fun wx h but => by
    refine (highest_any wx Y l but (hr1.below h) (by omega)).mono ?_
    rintro e w' ⟨rfl, hb⟩
    rw [hB, hN]
    exact ⟨rfl, h.trans (hb.mono h.size)⟩
  obtain ⟨who, hwho⟩ : ∃ who, who = winI B l.least N := ⟨_, rfl⟩
  obtain ⟨pays, hpays⟩ : ∃ pays, pays = paysI B l.least N := ⟨_, rfl⟩
  have HSe : Hid (sellS Y.S l = soldK Y.S l who pays Y.pls.length) := by
    have := soldK_all Y.S l who pays
    unfold Hid sellS
    rw [hpl, ← hB, ← hN, ← hwho, ← hpays]
    rw [hpl, ← hN] at this
    rw [← this]
    rfl
  have hbd : ∀ k, 0 ≤ B k ∧ B k ≤ 100000 := fun k => by
    rw [hB]
    unfold bidsOf
    split
    · omega
    · rename_i p hp
      have hb := (hf.each p (List.mem_of_getElem? hp)).bi.1
      clear hp
      revert hb
      generalize p.bids = bs
      intro hb
      induction bs with
      | nil => simp [bidI]
      | cons x r ih =>
        simp only [bidI]
        split
        · exact hb x (by simp)
        · exact ih (fun y hy => hb y (by simp [hy]))
  have hpb : 0 ≤ who → 0 ≤ pays ∧ pays ≤ 100000 := fun h => by
    obtain ⟨k, hk⟩ := Int.eq_ofNat_of_zero_le h
    have h1 := pays_le (bid := B) (least := l.least) (n := N) (k := k) (by rw [← hwho]; exact hk)
    have h2 := hbd k
    rw [hpays]
    omega
  have hw0 : who = (highTo B l.least (-1) N).1 := hwho
  have hp0 : pays = if 0 ≤ who ∧ 0 ≤ (highTo B l.least who N).1 then (highTo B l.least who N).2 else l.least := by
    rw [hpays]
    unfold paysI
    rw [← hwho]
  have HP := hidOf hp0
  have HPb := hidOf hpb
  have HF := hidOf hf
  have HNw := hidOf hnw
  have HT0 := hidOf T0
  have HW1 := hidOf hw1
  have HR1 := hidOf hr1
  have HD := hidOf (fun (m : Int) (hm : 0 ≤ m ∧ m ≤ 1000000000000) wx => decimal_any m hm wx)
  have HPl := hidOf hpl
  have hS1 := hidOf hs1
  clear hp0 hpb hf hnw T0 hw1 hr1 hbd hwho hpays hB hN k1 hB1 hnf hr hpl
  have HH1 := hidOf (HHi.out w1 (Below.refl _ _) (-1))
  obtain ⟨n1, hn1⟩ : ∃ n1, n1 = (highTo B l.least (-1) N).2 := ⟨_, rfl⟩
  rw [← hw0, ← hn1] at HH1
  clear hn1 hw0
  obtain ⟨x0, x1, x2⟩ := HX.out w1 (Kept.refl _ _)
  go_enter Tryz.func100, Tryz.ntmps100
  go_wp2_with fail
  rw [← HW1.out]
  refine HH1.out.mono ?_
  rintro e w2 ⟨rfl, B2⟩
  clear x0 x1 x2
  obtain ⟨x0, x1, x2⟩ := HX.out w2 (Kept.of_below B2.out)
  go_upto_if 22 with fail
  go_cut [6] (fun v6 wc => v6 = .int .i64 pays ∧ Hid (Below w1.heap.size w1 wc))
  case first =>
    by_cases hw : 0 ≤ who
    · have hw' : decide (0 ≤ who) = true := decide_eq_true hw
      have HH2 := hidOf (HHi.out w2 B2.out who)
      obtain ⟨n2, hn2⟩ : ∃ n2, n2 = (highTo B l.least who N).2 := ⟨_, rfl⟩
      obtain ⟨oth, ho2⟩ : ∃ oth, oth = (highTo B l.least who N).1 := ⟨_, rfl⟩
      rw [← hn2, ← ho2] at HH2 HP
      clear hn2 ho2
      by_cases ho : 0 ≤ oth
      · have ho' : decide (0 ≤ oth) = true := decide_eq_true ho
        have HE : Hid (pays = n2) := by unfold Hid; rw [HP.out, if_pos ⟨hw, ho⟩]
        go_wp2_with (go_at_call 127; refine HH2.out.mono ?_; rintro e w3 ⟨rfl, B3⟩)
        go_meet
        exact ⟨by rw [HE.out], B3⟩
      · have ho' : decide (0 ≤ oth) = false := decide_eq_false ho
        have HE : Hid (pays = l.least) := by unfold Hid; rw [HP.out, if_neg (fun h => ho h.2)]
        go_wp2_with (go_at_call 127; refine HH2.out.mono ?_; rintro e w3 ⟨rfl, B3⟩)
        go_meet
        exact ⟨by rw [HE.out], B3⟩
    · have hw' : decide (0 ≤ who) = false := decide_eq_false hw
      have HE : Hid (pays = l.least) := by unfold Hid; rw [HP.out, if_neg (fun h => hw h.1)]
      go_wp2
      go_meet
      exact ⟨by rw [HE.out], B2⟩
  case rest =>
    obtain ⟨rfl, Bc⟩ := hcut
    have HTc : Hid (Turn w1 Y wc Y) := (Turn.refl HR1.out).below Bc.out
    clear x0 x1 x2 B2 HHi HH1
    go_wp2_with fail
    go_loopw [9, 10, 11, 12] (fun i _ _ _ w' => ∃ (k : Nat) (Yk : YW), k ≤ Y.pls.length ∧ i = .int .i64 k ∧ Hid (Turn w1 Y w' Yk) ∧ Hid (Yk.S = soldK Y.S l who pays k)) (fun i _ _ _ _ => Y.pls.length + 1 - (intOf i).toNat)
    case atStart => exact ⟨0, Y, Nat.zero_le _, rfl, HTc, (soldK_zero _ _ _ _).symm⟩
    case round =>
      obtain ⟨k, Yk, hk, rfl, T, HS⟩ := hrel
      have hlen : Yk.pls.length = Y.pls.length := by
        have e : Yk.S.players.length = Y.S.players.length := by rw [HS.out]; simp [soldK]
        simpa [YW.S] using e
      have hb : Yk.b = Y.b := T.out.b
      rcases own_form T.out.rep.pl with ⟨_, h0, _⟩ | ⟨pb, pcap, hvp, hpc, hpm, hpb⟩
      · omega
      unfold maxLen at hpm
      have c5 : wr.cell? ⟨Y.b, 5, none⟩ = some (.slice (some ⟨pb, 0, none⟩) Y.pls.length pcap) := by rw [← hb, ← hlen, ← hvp]; exact T.out.rep.cellTop rfl
      obtain ⟨x0, x1, x2⟩ := HX.out wr T.out.kept
      by_cases hlt : k < Y.pls.length
      · have hlt' : (k : Int) < (Y.pls.length : Int) := by omega
        obtain ⟨p, v, hq⟩ : ∃ p v, Yk.pls[k]? = some (p, v) := ⟨Yk.pls[k].1, Yk.pls[k].2, by simp [show k < Yk.pls.length by omega]⟩
        have hp : Y.S.players[k]? = some p := by rw [← soldK_at (s := Y.S) (l := l) (who := who) (pays := pays), ← HS.out]; exact S_at hq
        have pk := HF.out.each p (List.mem_of_getElem? hp)
        have hmo := pk.mo
        have hbi := pk.bi.2
        have hnl := HNw.out p (List.mem_of_getElem? hp)
        have m0 := (T.out.rep.plCell hq hvp).1
        have f0 := T.out.rep.plFrozen hvp (k * 4)
        have HQ := hidOf hq
        have HVP := hidOf hvp
        have HSu := hidOf (soldK_succ (l := l) (who := who) (pays := pays) hp)
        have HMo := hidOf (fun m => T.out.money1 hq hvp m)
        have hbp0 : w.heap.size ≠ pb := fun e => HBx.out wr Yk T.out (e ▸ foot_p (by simp [hvp, blk_slice]))
        have zn : ∀ z : Nat, z ≤ 2000000 → z ≤ 1000000000000 := fun z h => by omega
        have z1 := zn _ hnm
        clear zn hq hvp hp pk hpb hb
        have hcw : (who < 0) ∨ (0 ≤ who) := by omega
        have HNb : Hid (newsB l.name who pays k = if (k : Int) = who then wonW ++ l.name ++ forW ++ itoaB pays else if who < 0 then passW ++ l.name else soldW ++ l.name) := rfl
        rcases hcw with hw | hw
        all_goals
          go_upto_if 58 with (rw [cat_any]; rotate_left 1; (simp only [lit_size, List.size_toArray, List.length_cons, List.length_nil]; omega); (omega))
          go_cut [11] (fun v11 wc => v11 = .string (newsB l.name who pays k) ∧ ∃ (m5 : Int) (Y5 : YW), Hid (m5 = if (k : Int) = who then p.money - pays else p.money) ∧ Hid (Turn w1 Y wc Y5) ∧ Hid (Y5.pls[k]? = some ({ p with money := m5 }, v)) ∧ Hid (∀ q, Y5.S.setPl k q = Yk.S.setPl k q) ∧ Hid (Y5.vPl = Yk.vPl ∧ Y5.pls.length = Y.pls.length))
          case first =>
            by_cases hkw : (k : Int) = who
            · first
              | (exfalso; omega)
              |
                have hw0 : 0 ≤ who := by omega
                have hpb2 := HPb.out hw0
                have hwr : IntKind.i64.wrap (p.money - pays) = p.money - pays := by rw [IntKind.wrap_i64]; omega
                have HN1 : Hid (newsB l.name who pays k = wonW ++ l.name ++ forW ++ itoaB pays) := by unfold Hid; rw [HNb.out, if_pos hkw]
                have hkw' : ((k : Int) == who) = true := by simpa using hkw
                have zi := itoaB_size pays (by omega)
                have T5 := hidOf (HMo.out (p.money - pays))
                have HKw := hidOf hkw
                clear hkw
                go_wp2_with (first | (go_at_call 101; refine (HD.out _ (by omega) _).mono ?_; rintro e w' ⟨rfl, h⟩; rw [h]; clear h w') | (rw [cat_any]; rotate_left 1; (simp only [ByteArray.size_append, lit_size, List.size_toArray, List.length_cons, List.length_nil]; omega); (simp only [ByteArray.size_append, lit_size, List.size_toArray, List.length_cons, List.length_nil]; omega)))
                go_meet
                exact ⟨by rw [HN1.out]; rfl, p.money - pays, Yk.setQ k ({ p with money := p.money - pays }, v), by unfold Hid; rw [if_pos HKw.out], T5, setQ_at HQ.out, fun q => by rw [S_setQ]; exact setPl_twice _ _ _ _, rfl, by simp only [YW.setQ, List.length_set]; exact hlen⟩
            · have hkw' : ((k : Int) == who) = false := by simpa using hkw
              have HN1 : Hid (newsB l.name who pays k = if who < 0 then passW ++ l.name else soldW ++ l.name) := by unfold Hid; rw [HNb.out, if_neg hkw]
              have HKw := hidOf hkw
              clear hkw
              go_wp2
              go_meet
              exact ⟨by first | (rw [HN1.out, if_pos hw]; rfl) | (rw [HN1.out, if_neg (by omega)]; rfl), p.money, Yk, by unfold Hid; rw [if_neg HKw.out], T, HQ, fun q => rfl, rfl, hlen⟩
          case rest =>
            obtain ⟨rfl, m5, Y5, HM5, T5, Q5, S5, V5⟩ := hcut
            have hv5 : Y5.vPl = .slice (some ⟨pb, 0, none⟩) Y5.pls.length pcap := by rw [V5.out.1, HVP.out, V5.out.2, hlen]
            have HV5 := hidOf hv5
            obtain ⟨y0, y1, y2⟩ := HX.out wc T5.out.kept
            have hown5 := (T5.out.rep.eachAt Q5.out).news
            obtain ⟨an, gn, nc, hvn, hnc, hnm2, rdn⟩ := own_rd hown5
            have m3 : wc.cell? ⟨pb, k * 4 + 3, none⟩ = some (.slice an p.news.length nc) := by have := (T5.out.rep.plCell Q5.out hv5).2.2.2; rw [this]; exact congrArg some hvn
            have f3 := T5.out.rep.plFrozen hv5 (k * 4 + 3)
            have hvn' : v.n = .slice an p.news.length nc := hvn
            have hmem : ({ p with money := m5 }, v) ∈ Y5.pls := List.mem_of_getElem? Q5.out
            have hpb5 : pb ∈ blk Y5.vPl := by simp [hv5, blk_slice]
            have hpw : pb < wc.heap.size := own_lt T5.out.rep.pl pb hpb5
            have hbw : w.heap.size < wc.heap.size := Nat.lt_of_lt_of_le hS1.out T5.out.kept.size
            have hpn : some pb ≠ v.n.ownBlock := fun e => (sep_of T5.out.rep.sep).pe pb hpb5 _ hmem (by simp [pvFoot, blk, ← e])
            have hbn : some w.heap.size ≠ v.n.ownBlock := fun e => HBx.out wc Y5 T5.out (foot_e hmem (by simp [pvFoot, blk, ← e]))
            have hbp : w.heap.size ≠ pb := fun e => HBx.out wc Y5 T5.out (e ▸ foot_p hpb5)
            have hown5' : wc.ownsRow 0 9 1 (.slice an p.news.length nc) p.news.length (p.news.map Value.string) := hvn' ▸ hown5
            have HOn : Hid (∀ o, (wc.alloc o).ownsRow 0 9 1 (.slice an p.news.length nc) p.news.length (p.news.map Value.string)) := fun o => ownsRow_alloc hown5' o
            have HEnd : Hid (∀ (o : Obj) (g9 cap9 : Nat) (w9 : World), (wc.alloc o).grownBy w9 (Value.slice an p.news.length nc).ownBlock → w9.ownsRow 0 9 1 (.slice (some ⟨g9, 0, none⟩) (p.news.length + 1) cap9) (p.news.length + 1) (p.news.map Value.string ++ [.string (newsB l.name who pays k)]) → ((Value.slice an p.news.length nc).ownBlock = some g9 ∨ g9 = wc.heap.size + 1) →
                w9.cell? ⟨pb, k * 4 + 3, none⟩ = some (.slice an p.news.length nc) ∧ w9.frozen? ⟨pb, k * 4 + 3, none⟩ = false ∧ w9.cell? ⟨w.heap.size, 0, none⟩ = some (.string l.name) ∧
                Hid (Calls Tryz.prog 95 #[.pointer (some ⟨pb, k * 4, none⟩), .string l.name, .int .i64 0] (w9.setCell ⟨pb, k * 4 + 3, none⟩ (.slice (some ⟨g9, 0, none⟩) (p.news.length + 1) cap9)) fun e w' => e = .returned (.tuple #[]) ∧ ∃ Y7, Hid (Turn w1 Y w' Y7) ∧ Hid (Y7.S = soldK Y.S l who pays (k + 1)))) := fun o g9 cap9 w9 hg ho hat => by
              rw [← hvn'] at hg hat
              obtain ⟨a1, a2⟩ := keepOther ((Below.refl _ wc).alloc (Nat.le_refl _) o) hg hpw hpn (k * 4 + 3)
              obtain ⟨b1, b2⟩ := keepOther ((Below.refl _ wc).alloc (Nat.le_refl _) o) hg hbw hbn 0
              refine ⟨a1.trans m3, a2.trans f3, b1.trans y0, ?_⟩
              have T9 := sold_news T5.out Q5.out hv5 (newsB l.name who pays k) o hg ho hat
              have Q9 := setQ_at (q' := ({ p with money := m5, news := p.news ++ [newsB l.name who pays k] }, { v with n := .slice (some ⟨g9, 0, none⟩) (p.news.length + 1) cap9 })) Q5.out
              have V9 : (Y5.setQ k ({ p with money := m5, news := p.news ++ [newsB l.name who pays k] }, { v with n := .slice (some ⟨g9, 0, none⟩) (p.news.length + 1) cap9 })).vPl = .slice (some ⟨pb, 0, none⟩) (Y5.setQ k ({ p with money := m5, news := p.news ++ [newsB l.name who pays k] }, { v with n := .slice (some ⟨g9, 0, none⟩) (p.news.length + 1) cap9 })).pls.length pcap := by
                simp only [YW.setQ, List.length_set]
                exact hv5
              refine (set_any _ pb (k * 4) p.bids v.b l.name 0 (T9.rep.plCell Q9 V9).2.2.1 (T9.rep.plFrozen V9 _) (T9.rep.eachAt Q9).bids hbi).mono ?_
              rintro e w' ⟨rfl, w11, val, rfl, hB11, ho11⟩
              refine ⟨rfl, _, sold_bids T9 Q9 V9 hB11 ho11, ?_⟩
              unfold Hid
              rw [S_setQ, S_setQ, setPl_twice, S5.out, ← HSu.out, HS.out, HM5.out]
              rfl
            clear hvn hvn' hown5 hown5' hv5 rdn hmem hpb5 HQ
            go_wp2_with (first | (at_builtin; refine wpList_append_lies _ rfl _ _ _ rfl 0 9 i0 _ 1 16 Tryz.underlying93 hi0 hz0 hz1 hz2 rfl (by omega) (.slice an p.news.length nc) p.news.length (p.news.map Value.string) rfl (by exact HOn.out _) ⟨wc.heap.size, 0, none⟩ 1 1 [.string (newsB l.name who pays k)] rfl rfl (by exact World.news_of_block (Go.heap_alloc_new wc _)) (by intro u hu; simp at hu; rcases hu with rfl; rfl) (by omega) (by unfold maxLen; omega) (by omega) (by omega) (wc.heap.size + 1) (by simp) ?_; intro g9 cap9 w9 hown9 hgrow hat hlt9; obtain ⟨a1, a2, b1, HCs⟩ := HEnd.out _ g9 cap9 w9 hgrow hown9 hat) | (go_at_call 95; refine HCs.out.mono ?_; rintro e w10 ⟨rfl, Y7, T7, S7⟩))
            exact ⟨⟨k + 1, Y7, by omega, by go_num, T7, S7⟩, by simp [intOf]; omega⟩
      · have hlt' : decide ((k : Int) < (Y.pls.length : Int)) = false := decide_eq_false (by omega)
        have hkl : k = Y.pls.length := by omega
        have HE : Hid (∃ Y', Turn w Y wr Y' ∧ Y'.S = sellS Y.S l) := by
          refine ⟨Yk, HT0.out.trans T.out, ?_⟩
          rw [HS.out, HSe.out, hkl]
        clear hkl
        go_wp2
        go_end0
        exact ⟨rfl, HE.out⟩
end Go.Proofs.YtlafddeoheambaaGreatDoor

/-
  The function Order of package hazeref: a bid.
-/
namespace Go.Proofs.YtlafddeoheambaaGreatDoor
open Go.RowKit
attribute [local go_sem] Go.wp_at_zero Go.wp_at_succ
theorem wordsS_bid {s : SWorld} {n : Nat} {p : SPlayer} {b c : List UInt8} (h : nameB b = true ∧ 0 ≤ numberI c) : wordsS s n p [bidW, b, c] = bidS s n p (bytesOf b) (numberI c) := by
  unfold wordsS
  simp [h.1, h.2]
set_option maxRecDepth 100000 in
set_option maxHeartbeats 4000000 in
theorem rorder_isbid (w : World) (Y : YW) (M : Int) (k : Nat) (p : SPlayer) (v : PV) (text : ByteArray) (b c : List UInt8) (hr : RepY w Y) (hf : WFS Y.S M) (hbb : nameB b = true ∧ 0 ≤ numberI c) (hM : M ≤ 100000000000) (hs : text.size ≤ 2000000) (hq : Y.pls[k]? = some (p, v)) (hws : splitB text.data.toList = [bidW, b, c]) :
    Calls Tryz.prog 52 #[.pointer (some ⟨Y.b, 0, none⟩), .int .i64 k, .string text] w fun e w' => e = .returned (.int .i64 (wordsS Y.S k p (splitB text.data.toList)).1) ∧ ∃ Y', Turn w Y w' Y' ∧ Y'.S = (wordsS Y.S k p (splitB text.data.toList)).2 := by
  obtain ⟨hn, he⟩ := at_some hq
  have hmem : (p, v) ∈ Y.pls := by rw [← he]; exact List.getElem_mem hn
  clear he
  have hw := WF.of hf
  rcases own_form hr.pl with ⟨_, h0, _⟩ | ⟨pb, pcap, hvp, hpc, hpm, hpb⟩
  · omega
  unfold maxLen at hpm
  have c5 : w.cell? ⟨Y.b, 5, none⟩ = some (.slice (some ⟨pb, 0, none⟩) Y.pls.length pcap) := by rw [← hvp]; exact hr.cellTop rfl
  have hi : inB (k : Int) 0 ((Y.pls.length : Int) - 1) = true := by rw [inB_pl]; simp; omega
  have h4 := hw.pl
  have HW := hidOf (words_any text w hs)
  rw [hws] at HW
  rw [hws]
  have hsz : ∀ x ∈ splitB text.data.toList, x.length ≤ 2000000 := by
    intro x hx
    have h1 := splitB_sizes _ x hx
    have h2 : text.data.toList.length = text.size := by simp
    omega
  rw [hws] at hsz
  have HQ := hidOf hq
  have HVP := hidOf hvp
  clear hq hvp hws
  go_enter Tryz.func52, Tryz.ntmps52
  go_wp2_with fail
  refine (within_any _ _ _ _).mono ?_
  rintro e w' ⟨rfl, h⟩
  rw [h]
  clear h w'
  go_wp2_with fail
  refine HW.out.mono ?_
  rintro e w1 ⟨g, cap, rfl, hb, hown⟩
  have T1 := hidOf ((Turn.refl hr).below hb)
  have e0 : w1.cell? ⟨g, 0, none⟩ = some (.string (bytesOf bidW)) := own_cell' hown rfl
  have s0 : (bytesOf bidW).size ≤ maxLen := by rw [bytesOf_size]; have := hsz bidW (by simp); unfold maxLen; omega
  have e1 : w1.cell? ⟨g, 1, none⟩ = some (.string (bytesOf b)) := own_cell' hown rfl
  have e2 : w1.cell? ⟨g, 2, none⟩ = some (.string (bytesOf c)) := own_cell' hown rfl
  have nb : ((bytesOf bidW).toList == [98, 105, 100]) = true := by rw [Lib.toList_data, bytesOf_toList]; rfl
  have ha : nameB bidW = true := by decide
  have s1 : (bytesOf b).size ≤ maxLen := by rw [bytesOf_size]; have := hsz b (by simp); unfold maxLen; omega
  have s2 : (bytesOf c).size ≤ maxLen := by rw [bytesOf_size]; have := hsz c (by simp); unfold maxLen; omega
  obtain ⟨hb1, hb2⟩ := hbb
  have HR := hidOf (wordsS_bid (s := Y.S) (n := k) (p := p) (b := b) (c := c) ⟨hb1, hb2⟩)
  have HL := hidOf (open_any Y.b Y.lots Y.vLots (bytesOf b) w1 (T1.out.rep.cellTop rfl) T1.out.rep.lots)
  have pk := (hf.each p (by have := List.mem_of_getElem? HQ.out; exact List.mem_map.2 ⟨(p, v), this, rfl⟩))
  have hst := stakedI_bd p.bids (bytesOf b) pk.bi.1
  have hmo := pk.mo
  have hbl := pk.bi.2
  have hnl := number_le c
  have m0 := (T1.out.rep.plCell HQ.out HVP.out).1
  have HSt := hidOf (fun (wx : World) (h : wx.heap = w1.heap) => staked_any pb (k * 4) p.bids v.b (bytesOf b) wx ((T1.out.rep.heapEq h).plCell HQ.out HVP.out).2.2.1 ((T1.out.rep.heapEq h).eachAt HQ.out).bids pk.bi.1 (by omega))
  have HSe : Hid (∀ (nq : Nat) (n : Int), Calls Tryz.prog 95 #[.pointer (some ⟨pb, k * 4, none⟩), .string (bytesOf b), .int .i64 n] (w1.drewN nq) fun e w' => e = .returned (.tuple #[]) ∧ Hid (∃ Y', Turn w Y w' Y' ∧ Y'.S = Y.S.setPl k { p with bids := setB p.bids (bytesOf b) n })) := fun nq n => by
    have Tx := T1.out.drewN nq
    have r := Tx.rep
    refine (set_any _ pb (k * 4) p.bids v.b (bytesOf b) n (r.plCell HQ.out HVP.out).2.2.1 (r.plFrozen HVP.out _) (r.eachAt HQ.out).bids hbl).mono ?_
    rintro e w' ⟨rfl, w3, val, rfl, hB3, ho⟩
    exact ⟨rfl, _, sold_bids Tx HQ.out HVP.out hB3 ho, by rw [S_setQ]⟩
  have HBd : Hid (bidS Y.S k p (bytesOf b) (numberI c) = if openB Y.lots (bytesOf b) then (if p.money < numberI c + stakedI p.bids (bytesOf b) then (5, Y.S) else (0, Y.S.setPl k { p with bids := setB p.bids (bytesOf b) (numberI c) })) else (3, Y.S)) := rfl
  obtain ⟨nb2, hnb⟩ : ∃ nb2, nb2 = numberI c := ⟨_, rfl⟩
  obtain ⟨st, hsd⟩ : ∃ st, st = stakedI p.bids (bytesOf b) := ⟨_, rfl⟩
  have HNb : Hid (numberI c = nb2) := hnb.symm
  rw [← hnb, ← hsd] at HBd
  rw [← hsd] at hst HSt
  rw [← hnb] at hb2 hnl HR
  have hst2 : st ≤ 100000000 := by omega
  have hst1 := hst.1
  clear hst hnb hsd pk
  cases ho : openB Y.lots (bytesOf b)
  · have HA : Hid (wordsS Y.S k p [bidW, b, c] = (3, Y.S)) := by unfold Hid; rw [HR.out, HBd.out, ho]; rfl
    rw [ho] at HL
    go_wp2_with fail
    refine (name_any (bytesOf bidW) _ s0).mono ?_
    rintro e w' ⟨rfl, h⟩
    rw [h, bytesOf_toList, ha]
    clear h w'
    go_wp2_with fail
    refine (name_any (bytesOf b) _ s1).mono ?_
    rintro e w' ⟨rfl, h⟩
    rw [h, bytesOf_toList, hb1]
    clear h w'
    go_wp2_with fail
    refine (number_any (bytesOf c) _ s2).mono ?_
    rintro e w' ⟨rfl, h⟩
    rw [h, bytesOf_toList, HNb.out]
    clear h w'
    go_wp2_with fail
    refine HL.out.mono ?_
    rintro e w' ⟨rfl, h⟩
    rw [h]
    clear h w'
    go_wp2
    go_ret
    exact ⟨ret_int (by rw [HA.out]), Y, T1.out, by rw [HA.out]⟩
  · rw [ho] at HL
    by_cases hpo : p.money < nb2 + st
    · have HA : Hid (wordsS Y.S k p [bidW, b, c] = (5, Y.S)) := by unfold Hid; rw [HR.out, HBd.out, ho, if_pos hpo]; rfl
      go_wp2_with fail
      refine (name_any (bytesOf bidW) _ s0).mono ?_
      rintro e w' ⟨rfl, h⟩
      rw [h, bytesOf_toList, ha]
      clear h w'
      go_wp2_with fail
      refine (name_any (bytesOf b) _ s1).mono ?_
      rintro e w' ⟨rfl, h⟩
      rw [h, bytesOf_toList, hb1]
      clear h w'
      go_wp2_with fail
      refine (number_any (bytesOf c) _ s2).mono ?_
      rintro e w' ⟨rfl, h⟩
      rw [h, bytesOf_toList, HNb.out]
      clear h w'
      go_wp2_with fail
      refine HL.out.mono ?_
      rintro e w' ⟨rfl, h⟩
      rw [h]
      clear h w'
      go_wp2_with fail
      go_quiet ((go_at_call 94; exact Calls.quiet_of_same (HSt.out _ rfl)))
      go_wp2
      go_ret
      exact ⟨ret_int (by rw [HA.out]), Y, T1.out.drewN _, by rw [HA.out]⟩
    · have HA : Hid (wordsS Y.S k p [bidW, b, c] = (0, Y.S.setPl k { p with bids := setB p.bids (bytesOf b) nb2 })) := by unfold Hid; rw [HR.out, HBd.out, ho, if_neg hpo]; rfl
      go_wp2_with fail
      refine (name_any (bytesOf bidW) _ s0).mono ?_
      rintro e w' ⟨rfl, h⟩
      rw [h, bytesOf_toList, ha]
      clear h w'
      go_wp2_with fail
      refine (name_any (bytesOf b) _ s1).mono ?_
      rintro e w' ⟨rfl, h⟩
      rw [h, bytesOf_toList, hb1]
      clear h w'
      go_wp2_with fail
      refine (number_any (bytesOf c) _ s2).mono ?_
      rintro e w' ⟨rfl, h⟩
      rw [h, bytesOf_toList, HNb.out]
      clear h w'
      go_wp2_with fail
      refine HL.out.mono ?_
      rintro e w' ⟨rfl, h⟩
      rw [h]
      clear h w'
      go_wp2_with fail
      go_quiet ((go_at_call 94; exact Calls.quiet_of_same (HSt.out _ rfl)))
      go_wp2_with (go_at_call 95; refine (HSe.out _ _).mono ?_; rintro e w3 ⟨rfl, HY⟩)
      go_ret
      exact ⟨ret_int (by rw [HA.out]), by rw [HA.out]; exact HY.out⟩
/-- Whatever the text. -/
theorem rorder_l (w : World) (Y : YW) (n : Int) (text : ByteArray) (hr : RepY w Y) (hg : GoodL Y.S) (hs : text.size ≤ 2000000) :
    Calls Tryz.prog 52 #[.pointer (some ⟨Y.b, 0, none⟩), .int .i64 n, .string text] w fun e w' => e = .returned (.int .i64 (orderS Y.S n text.data.toList).1) ∧ ∃ Y', Turn w Y w' Y' ∧ Y'.S = (orderS Y.S n text.data.toList).2 :=
  rorder_with w Y _ n text hr hg.wf hs (fun k p v b c hq hws hbb => rorder_isbid w Y _ k p v text b c hr hg.wf hbb (by have := hg.now.2; omega) hs hq hws)
end Go.Proofs.YtlafddeoheambaaGreatDoor

/-
  The function Offer of package hazeref.
-/
namespace Go.Proofs.YtlafddeoheambaaGreatDoor
open Go.RowKit

theorem roffer_end {w wx w6 : World} {Y : YW} (hr : RepY w Y) (hb : Below w.heap.size w wx) {gr cp : Nat} (hg : wx.grownBy w6 Y.vLots.ownBlock) (l : SLot)
    (ho : w6.ownsRow 0 168 3 (.slice (some ⟨gr, 0, none⟩) (Y.lots.length + 1) cp) (Y.lots.length + 1) (Y.lots.flatMap lotCells ++ lotCells l)) (hat : Y.vLots.ownBlock = some gr ∨ w.heap.size ≤ gr) :
    Turn w Y (w6.setCell ⟨Y.b, 6, none⟩ (.slice (some ⟨gr, 0, none⟩) (Y.lots.length + 1) cp)) (Y.withLots (Y.lots ++ [l]) (.slice (some ⟨gr, 0, none⟩) (Y.lots.length + 1) cp)) := by
  refine (Turn.refl hr).setLots ⟨hg.os.trans hb.os, hg.tape.trans hb.tape, hg.output.trans hb.output, Nat.le_trans hb.size hg.size, fun r hr' hn => ?_⟩ _ _ (by simpa using ho) (fun r hr' => ?_)
  · rw [hg.block r (Nat.lt_of_lt_of_le hr' hb.size) (fun e => hn (by simp [blk, ← e])), hb.block r hr']
  · have e : r = gr := by simpa [blk_slice] using hr'
    rw [e]
    rcases hat with h | h
    · exact .inl (by simp [blk, h])
    · exact .inr ⟨fun hm => by have := hr.lt _ hm; omega, h⟩
theorem within_is (n lo hi : Int) (b : Bool) (h : inB n lo hi = b) (w : World) : Calls Tryz.prog 88 #[.int .i64 n, .int .i64 lo, .int .i64 hi] w fun e w' => e = .returned (.bool b) ∧ w' = w := by
  rw [← h]
  exact within_any n lo hi w

set_option maxRecDepth 100000 in
set_option maxHeartbeats 8000000 in
theorem roffer_l (w : World) (Y : YW) (nm : ByteArray) (least ticks : Int) (hr : RepY w Y) (hg : GoodL Y.S) (hs : nm.size ≤ 2000000) :
    Calls Tryz.prog 56 #[.pointer (some ⟨Y.b, 0, none⟩), .string nm, .int .i64 least, .int .i64 ticks] w fun e w' => e = .returned (.int .i64 (offerS Y.S nm least ticks).1) ∧ ∃ Y', Turn w Y w' Y' ∧ Y'.S = (offerS Y.S nm least ticks).2 := by
  have hl4 : Y.lots.length ≤ 4 := hg.lw.len
  have hno : 0 ≤ Y.now ∧ Y.now ≤ 1000 := hg.now
  have hoff : offerS Y.S nm least ticks = if nameB nm.data.toList then (if openB Y.lots nm then (4, Y.S) else if inB least 0 100000 && inB ticks 1 1000 then (if 4 ≤ Y.lots.length then (6, Y.S) else (0, { Y.S with lots := Y.lots ++ [⟨nm, least, Y.now + ticks⟩] })) else (1, Y.S)) else (2, Y.S) := rfl
  have HOf := hidOf hoff
  have HN := hidOf (fun wx => name_any nm wx (by unfold maxLen; omega))
  have HO := hidOf (open_any Y.b Y.lots Y.vLots nm w (hr.cellTop rfl) hr.lots)
  have HT := hidOf (Turn.refl hr)
  clear hoff hg
  cases hn : nameB nm.data.toList
  · rw [hn] at HN
    have HE : Hid (offerS Y.S nm least ticks = (2, Y.S)) := by unfold Hid; rw [HOf.out, hn]; rfl
    cases ho : openB Y.lots nm
    all_goals
      rw [ho] at HO
      clear hn ho HOf
      go_enter Tryz.func56, Tryz.ntmps56
      go_wp2_with fail
      refine (HN.out _).mono ?_
      rintro e w' ⟨rfl, h⟩
      rw [h]
      clear h w'
      go_wp2_with fail
      refine HO.out.mono ?_
      rintro e w' ⟨rfl, h⟩
      rw [h]
      clear h w'
      go_wp2
      go_ret
      exact ⟨ret_int (by rw [HE.out]), Y, HT.out, by rw [HE.out]⟩
  · rw [hn] at HN
    cases ho : openB Y.lots nm
    · rw [ho] at HO
      cases h1 : inB least 0 100000
      · have HE : Hid (offerS Y.S nm least ticks = (1, Y.S)) := by unfold Hid; rw [HOf.out, hn, ho, h1]; rfl
        have HW1 := hidOf (fun wx => within_is least 0 100000 false h1 wx)
        clear hn ho h1 HOf
        go_enter Tryz.func56, Tryz.ntmps56
        go_wp2_with fail
        refine (HN.out _).mono ?_
        rintro e w' ⟨rfl, h⟩
        rw [h]
        clear h w'
        go_wp2_with fail
        refine HO.out.mono ?_
        rintro e w' ⟨rfl, h⟩
        rw [h]
        clear h w'
        go_wp2_with fail
        refine (HW1.out _).mono ?_
        rintro e w' ⟨rfl, h⟩
        rw [h]
        clear h w'
        go_wp2
        go_ret
        exact ⟨ret_int (by rw [HE.out]), Y, HT.out, by rw [HE.out]⟩
      · have HW1 := hidOf (fun wx => within_is least 0 100000 true h1 wx)
        cases h2 : inB ticks 1 1000
        · have HE : Hid (offerS Y.S nm least ticks = (1, Y.S)) := by unfold Hid; rw [HOf.out, hn, ho, h1, h2]; rfl
          have HW2 := hidOf (fun wx => within_is ticks 1 1000 false h2 wx)
          clear hn ho h1 h2 HOf
          go_enter Tryz.func56, Tryz.ntmps56
          go_wp2_with fail
          refine (HN.out _).mono ?_
          rintro e w' ⟨rfl, h⟩
          rw [h]
          clear h w'
          go_wp2_with fail
          refine HO.out.mono ?_
          rintro e w' ⟨rfl, h⟩
          rw [h]
          clear h w'
          go_wp2_with fail
          refine (HW1.out _).mono ?_
          rintro e w' ⟨rfl, h⟩
          rw [h]
          clear h w'
          go_wp2_with fail
          refine (HW2.out _).mono ?_
          rintro e w' ⟨rfl, h⟩
          rw [h]
          clear h w'
          go_wp2
          go_ret
          exact ⟨ret_int (by rw [HE.out]), Y, HT.out, by rw [HE.out]⟩
        · have HW2 := hidOf (fun wx => within_is ticks 1 1000 true h2 wx)
          have hle : 0 ≤ least ∧ least ≤ 100000 := by simp only [inB, Bool.and_eq_true, decide_eq_true_eq] at h1; exact h1
          have hti : 1 ≤ ticks ∧ ticks ≤ 1000 := by simp only [inB, Bool.and_eq_true, decide_eq_true_eq] at h2; exact h2
          obtain ⟨ao, gl, lc, hvl, hlc, hlm, rd⟩ := own_rd hr.lots
          unfold maxLen at hlm
          have c6 : w.cell? ⟨Y.b, 6, none⟩ = some (.slice ao Y.lots.length lc) := by rw [← hvl]; exact hr.cellTop rfl
          by_cases h4 : 4 ≤ Y.lots.length
          · have HE : Hid (offerS Y.S nm least ticks = (6, Y.S)) := by unfold Hid; rw [HOf.out, hn, ho, h1, h2]; simp [h4]
            have he4 : Y.lots.length = 4 := by omega
            have he4' : ((Y.lots.length : Int) == 4) = true := by rw [he4]; rfl
            clear he4 rd hvl
            clear hn ho h1 h2 HOf
            go_enter Tryz.func56, Tryz.ntmps56
            go_wp2_with fail
            refine (HN.out _).mono ?_
            rintro e w' ⟨rfl, h⟩
            rw [h]
            clear h w'
            go_wp2_with fail
            refine HO.out.mono ?_
            rintro e w' ⟨rfl, h⟩
            rw [h]
            clear h w'
            go_wp2_with fail
            refine (HW1.out _).mono ?_
            rintro e w' ⟨rfl, h⟩
            rw [h]
            clear h w'
            go_wp2_with fail
            refine (HW2.out _).mono ?_
            rintro e w' ⟨rfl, h⟩
            rw [h]
            clear h w'
            go_wp2
            go_ret
            exact ⟨ret_int (by rw [HE.out]), Y, HT.out, by rw [HE.out]⟩
          · have HE : Hid (offerS Y.S nm least ticks = (0, { Y.S with lots := Y.lots ++ [⟨nm, least, Y.now + ticks⟩] })) := by unfold Hid; rw [HOf.out, hn, ho, h1, h2]; simp [h4]
            have he4' : ((Y.lots.length : Int) == 4) = false := by simp; omega
            have c3 : w.cell? ⟨Y.b, 3, none⟩ = some (.int .i64 Y.now) := hr.cellTop rfl
            have f6 : w.frozen? ⟨Y.b, 6, none⟩ = false := hr.frozenTop 6
            have hlX := hidOf (hr.lt Y.b foot_b)
            have hwr : IntKind.i64.wrap (Y.now + ticks) = Y.now + ticks := by rw [IntKind.wrap_i64]; omega
            have hneX : Hid ((Value.slice ao Y.lots.length lc).ownBlock ≠ some Y.b) := by
              intro e
              exact (sep_of hr.sep).bl (by rw [hvl]; simp [blk, e])
            have hownX : Hid (∀ (wx : World) (o : Obj), wx.heap = w.heap.push o → wx.ownsRow 0 168 3 (.slice ao Y.lots.length lc) Y.lots.length (Y.lots.flatMap lotCells)) := fun wx o hx => by
              have := hr.lots
              rw [hvl] at this
              refine own_same this (fun r hr' => ?_)
              have hlt := own_lt this r hr'
              rw [hx, Array.getElem?_push]
              split
              · omega
              · rfl
            have HFin : Hid (∀ (wx w6 : World) (gr cp : Nat), Below w.heap.size w wx → wx.grownBy w6 (Value.slice ao Y.lots.length lc).ownBlock → w6.ownsRow 0 168 3 (.slice (some ⟨gr, 0, none⟩) (Y.lots.length + 1) cp) (Y.lots.length + 1) (Y.lots.flatMap lotCells ++ [.string nm, .int .i64 least, .int .i64 (Y.now + ticks)]) → ((Value.slice ao Y.lots.length lc).ownBlock = some gr ∨ gr = w.heap.size + 1) →
                Hid (∃ Y', Turn w Y (w6.setCell ⟨Y.b, 6, none⟩ (.slice (some ⟨gr, 0, none⟩) (Y.lots.length + 1) cp)) Y' ∧ Y'.S = (offerS Y.S nm least ticks).2)) := fun wx w6 gr cp hb hg ho hat => by
              rw [← hvl] at hg hat
              exact ⟨_, roffer_end hr hb hg ⟨nm, least, Y.now + ticks⟩ ho (hat.imp id (fun e => by omega)), by rw [HE.out]; rfl⟩
            have a6 : ∀ o, (w.alloc o).cell? ⟨Y.b, 6, none⟩ = some (.slice ao Y.lots.length lc) := fun o => by rw [World.cell?_alloc_past _ _ _ hlX.out]; exact c6
            have a3 : ∀ o, (w.alloc o).cell? ⟨Y.b, 3, none⟩ = some (.int .i64 Y.now) := fun o => by rw [World.cell?_alloc_past _ _ _ hlX.out]; exact c3
            obtain ⟨i0, hi0, hz0, hz1, hz2⟩ := info_parts Tryz.infoRLot
            clear hvl rd hr
            clear hn ho h1 h2 HOf
            go_enter Tryz.func56, Tryz.ntmps56
            go_wp2_with fail
            refine (HN.out _).mono ?_
            rintro e w' ⟨rfl, h⟩
            rw [h]
            clear h w'
            go_wp2_with fail
            refine HO.out.mono ?_
            rintro e w' ⟨rfl, h⟩
            rw [h]
            clear h w'
            go_wp2_with fail
            refine (HW1.out _).mono ?_
            rintro e w' ⟨rfl, h⟩
            rw [h]
            clear h w'
            go_wp2_with fail
            refine (HW2.out _).mono ?_
            rintro e w' ⟨rfl, h⟩
            rw [h]
            clear h w'
            go_wp2_with fail
            go_region_law (refine step_append_lies _ (by rfl) _ _ _ (by rfl) 0 168 i0 _ 3 32 Tryz.underlying154 hi0 hz0 hz1 hz2 (by rfl) (by omega) (.slice ao Y.lots.length lc) Y.lots.length (Y.lots.flatMap lotCells) (by rfl) (by exact hownX.out _ _ rfl) ⟨w.heap.size, 0, none⟩ 1 1 [.string nm, .int .i64 least, .int .i64 (Y.now + ticks)] (by rfl) (by rfl) (by exact World.news_of_block (Go.heap_alloc_new w _)) (by intro u hu; simp at hu; rcases hu with rfl | rfl | rfl <;> rfl) (by omega) (by unfold maxLen; omega) (by omega) (by omega) (w.heap.size + 1) (by simp) ?_; intro gr cp w6 hown6 hgrow hat hlt6; obtain ⟨q1, q2⟩ := keepOther (((Below.refl _ w).alloc (Nat.le_refl _) _).drew) hgrow hlX.out (Ne.symm hneX.out) 6; rw [c6] at q1; rw [f6] at q2; have HY := HFin.out _ w6 gr cp (((Below.refl _ w).alloc (Nat.le_refl _) _).drew) hgrow hown6 hat)
            all_goals
              go_wp2
              go_ret
              exact ⟨ret_int (by rw [HE.out]), HY.out⟩
    · rw [ho] at HO
      have HE : Hid (offerS Y.S nm least ticks = (4, Y.S)) := by unfold Hid; rw [HOf.out, hn, ho]; rfl
      clear hn ho HOf
      go_enter Tryz.func56, Tryz.ntmps56
      go_wp2_with fail
      refine (HN.out _).mono ?_
      rintro e w' ⟨rfl, h⟩
      rw [h]
      clear h w'
      go_wp2_with fail
      refine HO.out.mono ?_
      rintro e w' ⟨rfl, h⟩
      rw [h]
      clear h w'
      go_wp2
      go_ret
      exact ⟨ret_int (by rw [HE.out]), Y, HT.out, by rw [HE.out]⟩
end Go.Proofs.YtlafddeoheambaaGreatDoor
