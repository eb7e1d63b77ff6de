/-
  The function Tick of package hazeref, where lots may be open.
-/
import Derived.Test.YtlafddeoheambaaGreatDoorT44
set_option linter.unusedVariables false
namespace Go.Proofs.YtlafddeoheambaaGreatDoor
open Go.RowKit

theorem own_sameB {w w' : World} {base : Nat} {e : TypeId} {size : Nat} {v : Value} {n : Nat} {xs : List Value} (h : w.ownsRow base e size v n xs) (hs : ∀ r ∈ blk v, w'.heap[r]? = w.heap[r]?) : w'.ownsRow base e size v n xs := by
  obtain ⟨hl, h⟩ := h
  refine ⟨hl, ?_⟩
  rcases h with h | ⟨g, cap, cur, rfl, h0, hb, r⟩
  · exact .inl h
  · exact .inr ⟨g, cap, cur, rfl, h0, by rw [hs g (by simp [blk, Value.ownBlock]), hb], r⟩
/-- The lots of the first k that stay open. -/
def leftTo (ls : List SLot) (now : Int) (k : Nat) : List SLot := (ls.take k).filter (fun l => !decide (l.ends = now))
theorem leftTo_no {ls : List SLot} {now : Int} {k : Nat} {l : SLot} (h : ls[k]? = some l) (he : l.ends = now) : leftTo ls now (k + 1) = leftTo ls now k := by
  obtain ⟨hk, rfl⟩ := at_some h
  unfold leftTo
  rw [List.take_succ_eq_append_getElem hk, List.filter_append]
  simp [he]
theorem leftTo_yes {ls : List SLot} {now : Int} {k : Nat} {l : SLot} (h : ls[k]? = some l) (he : l.ends ≠ now) : leftTo ls now (k + 1) = leftTo ls now k ++ [l] := by
  obtain ⟨hk, rfl⟩ := at_some h
  unfold leftTo
  rw [List.take_succ_eq_append_getElem hk, List.filter_append]
  simp [he]
theorem leftTo_len (ls : List SLot) (now : Int) (k : Nat) : (leftTo ls now k).length ≤ ls.length := by
  unfold leftTo
  exact Nat.le_trans (List.length_filter_le _ _) (by rw [List.length_take]; omega)
/-- The world behind the sales of the first j lots, in the order of their names. -/
def salesTo (s : SWorld) (sl : List SLot) (j : Nat) : SWorld := ((sl.take j).filter (fun l => decide (l.ends = s.now))).foldl sellS s
theorem salesTo_no {s : SWorld} {sl : List SLot} {j : Nat} {l : SLot} (h : sl[j]? = some l) (he : l.ends ≠ s.now) : salesTo s sl (j + 1) = salesTo s sl j := by
  obtain ⟨hk, rfl⟩ := at_some h
  unfold salesTo
  rw [List.take_succ_eq_append_getElem hk, List.filter_append]
  simp [he]
theorem salesTo_yes {s : SWorld} {sl : List SLot} {j : Nat} {l : SLot} (h : sl[j]? = some l) (he : l.ends = s.now) : salesTo s sl (j + 1) = sellS (salesTo s sl j) l := by
  obtain ⟨hk, rfl⟩ := at_some h
  unfold salesTo
  rw [List.take_succ_eq_append_getElem hk, List.filter_append, List.foldl_append]
  simp [he]
theorem sales_inv {s : SWorld} (h : GoodL s) (sl : List SLot) (hs : ∀ l ∈ sl, l ∈ s.lots) (j : Nat) : WFS (salesTo (midS s) sl j) (100 + 1800 * (s.now + 1)) :=
  (SellInv.fold (lots_noempty h.lw) ((sl.take j).filter (fun l => decide (l.ends = (midS s).now))) [] (midS s) (fun l hl => by
    have hm := hs l (List.mem_of_mem_take (List.mem_filter.1 hl).1)
    exact ⟨(h.lw.lst l hm).1, List.mem_map_of_mem hm⟩) h.mid).wf
theorem fold_news : ∀ (Q : List SLot) (s : SWorld) (n : Nat), (∀ p ∈ s.players, p.news.length ≤ n) → ∀ p ∈ (Q.foldl sellS s).players, p.news.length ≤ n + Q.length := by
  intro Q
  induction Q with
  | nil => intro s n h p hp; exact h p hp
  | cons l r ih =>
    intro s n h p hp
    have := ih (sellS s l) (n + 1) (fun q hq => by
      obtain ⟨i, p0, hp0, rfl⟩ := sell_mem hq
      have := h p0 (List.mem_of_getElem? hp0)
      show (p0.news ++ [_]).length ≤ n + 1
      simp
      omega) p hp
    simp only [List.length_cons]
    omega
theorem sales_news {s : SWorld} (hn : ∀ p ∈ s.players, p.news = []) (sl : List SLot) (hl : sl.length ≤ 4) (j : Nat) : ∀ p ∈ (salesTo s sl j).players, p.news.length ≤ 1000 := by
  intro p hp
  have h1 := fold_news ((sl.take j).filter (fun l => decide (l.ends = s.now))) s 0 (fun q hq => by rw [hn q hq]; simp) p hp
  have h2 : ((sl.take j).filter (fun l => decide (l.ends = s.now))).length ≤ sl.length := Nat.le_trans (List.length_filter_le _ _) (by rw [List.length_take]; omega)
  omega

set_option maxRecDepth 100000 in
set_option maxHeartbeats 8000000 in
theorem rtick_lots (w : World) (Y : YW) (hr : RepY w Y) (hg : GoodL Y.S) (hn : 0 ≤ Y.now ∧ Y.now < 1000) :
    Calls Tryz.prog 53 #[.pointer (some ⟨Y.b, 0, none⟩)] w fun e w' => e = .returned (.int .i64 0) ∧ ∃ Y', Turn w Y w' Y' ∧ Y'.S = tickS Y.S := by
  obtain ⟨hn0, hn1⟩ := hn
  obtain ⟨M, hMe⟩ : ∃ M : Int, M = 100 + 1800 * Y.S.now := ⟨_, rfl⟩
  have hM : M ≤ 100000000000 := by rw [hMe]; show 100 + 1800 * Y.now ≤ _; omega
  have hf : WFS Y.S M := by rw [hMe]; exact hg.wf
  have HG := hidOf hg
  clear hMe hg
  have c3 : w.cell? ⟨Y.b, 3, none⟩ = some (.int .i64 Y.now) := hr.cellTop rfl
  have hpl : Y.S.players.length = Y.pls.length := by simp [YW.S]
  have h4 := hf.pl
  rw [hpl] at h4
  have hc0 : (Y.now == 1000) = false := beq_eq_false_iff_ne.2 (by omega)
  go_enter Tryz.func53, Tryz.ntmps53
  go_wp2
  go_loopw [3] (fun i w' => ∃ (k : Nat) (Yk : YW), k ≤ Y.pls.length ∧ i = .int .i64 k ∧ Turn w Y w' Yk ∧ Hid (Yk.S = tickTo Y.S k)) (fun i _ => Y.pls.length + 1 - (intOf i).toNat)
  case atStart => exact ⟨0, Y, Nat.zero_le _, rfl, Turn.refl hr, rfl⟩
  case round =>
    clear c3
    obtain ⟨k, Yk, hk, rfl, T, HS⟩ := hrel
    have hlen : Yk.pls.length = Y.pls.length := by
      have e := (tickTo_len Y.S k).1
      rw [← HS.out] at e
      simpa [YW.S] using e
    have hb : Yk.b = Y.b := T.b
    rcases own_form T.rep.pl with ⟨_, h0, _⟩ | ⟨pb, pcap, hvp, hpc, hpm, hpb⟩
    · omega
    unfold maxLen at hpm
    have c5 : wr.cell? ⟨Y.b, 5, none⟩ = some (.slice (some ⟨pb, 0, none⟩) Y.pls.length pcap) := by rw [← hb, ← hlen, ← hvp]; exact T.rep.cellTop rfl
    by_cases hlt : k < Y.pls.length
    · obtain ⟨p, v, hq⟩ := at_of_lt (Y := Yk) (n := k) (by omega)
      have hm1 := (T.rep.plCell hq hvp).2.1
      have hm3 := (T.rep.plCell hq hvp).2.2.2
      have fz := T.rep.plFrozen hvp (k * 4 + 3)
      have hwk : WFS Yk.S (M + 450 * k) := by rw [HS.out]; exact hf.tickTo k
      have hum5 : p.units.length ≤ 5 := ((WF.of hwk).un _ (List.mem_of_getElem? hq)).2
      have hum1 : 1 ≤ p.units.length := ((WF.of hwk).un _ (List.mem_of_getElem? hq)).1
      rcases own_form (T.rep.eachAt hq).units with ⟨_, h0, _⟩ | ⟨ub, ucap, hvu, huc, hum, hub⟩
      · simp only at h0; omega
      simp only at hvu huc
      rw [hvu] at hm1
      have TC := hidOf (T.clearNews hq hvp)
      have SC := hidOf (S_clear (v' := { v with n := .slice none 0 0 }) hq)
      have HW := hidOf hwk
      have HU := hidOf (unitsN_at (setQ_at (q' := ({ p with news := [] }, { v with n := .slice none 0 0 })) hq))
      have HT := hidOf (show tickTo Y.S (k + 1) = playerS (tickTo Y.S k) k from rfl)
      clear hwk hvp hvu hq hb hpl hlen
      go_wp2
      go_loopw [5] (fun i w' => ∃ (j : Nat) (Yj : YW), j ≤ p.units.length ∧ i = .int .i64 j ∧ Turn w Y w' Yj ∧ Hid (Yj.S = unitsTo (clearN Yk.S k) k j)) (fun i _ => p.units.length + 1 - (intOf i).toNat)
      case atStart => exact ⟨0, _, Nat.zero_le _, rfl, TC.out, SC.out⟩
      case round =>
        clear c5 hm1 hm3 fz
        obtain ⟨j, Yj, hj, rfl, Tj, HSj⟩ := hrel
        by_cases hlt1 : j < p.units.length
        · have HD : Hid (Calls Tryz.prog 98 #[.pointer (some ⟨Y.b, 0, none⟩), .int .i64 k, .int .i64 j] wr fun e w' => e = .returned (.tuple #[]) ∧ ∃ Y', Turn wr Yj w' Y' ∧ Y'.S = doesS Yj.S k j) := by
            have l1 := unitsTo_len (clearN Yk.S k) k j
            have l2 := clearN_len Yk.S k
            have l3 : Yk.S.players.length = Y.S.players.length := by rw [HS.out]; exact (tickTo_len Y.S k).1
            have l4 : Yj.pls.length = Y.pls.length := by
              have : Yj.S.players.length = Y.S.players.length := by rw [HSj.out]; exact l1.1.trans (l2.1.trans l3)
              simpa [YW.S] using this
            obtain ⟨p', v', hq'⟩ := at_of_lt (Y := Yj) (n := k) (by omega)
            have l5 : p.units.length ≤ p'.units.length := by
              have a := l1.2.2.2
              rw [← HSj.out, unitsN_at hq', ← SC.out, HU.out] at a
              exact a
            have hu' : p'.units[j]? = some p'.units[j] := by simp [show j < p'.units.length by omega]
            have hwj : WFS Yj.S (M + 450 * k + 90 * j) := by rw [HSj.out]; exact (HW.out.clearN k).unitsTo k j
            have := does_any wr Yj (M + 450 * k + 90 * j) k j p' v' p'.units[j] Tj.rep hwj (by omega) hq' hu'
            rw [Tj.b] at this
            exact this
          go_wp2_with fail
          refine HD.out.mono ?_
          rintro e w' ⟨rfl, Y', T', HS'⟩
          go_wp2
          exact ⟨⟨j + 1, Y', by omega, by go_num, Tj.trans T', by unfold Hid; rw [HS', HSj.out]; rfl⟩, by simp [intOf]; omega⟩
        · have hjm : j = p.units.length := by omega
          have HE : Hid (Yj.S = tickTo Y.S (k + 1)) := by
            unfold Hid
            rw [HT.out, HSj.out, ← HS.out]
            unfold playerS
            rw [← SC.out, HU.out, hjm]
          clear hjm
          go_wp2
          exact ⟨⟨k + 1, Yj, by omega, by go_num, Tj, HE⟩, by simp [intOf]; omega⟩
    · have hkl : k = Y.pls.length := by omega
      have e2 := tickTo_len Y.S k
      have hnow : Yk.now = Y.now := by rw [← HS.out] at e2; exact e2.2.1
      have hlots : Yk.lots = Y.lots := by rw [← HS.out] at e2; exact e2.2.2
      have c3 : wr.cell? ⟨Y.b, 3, none⟩ = some (.int .i64 Y.now) := by rw [← hb, ← hnow]; exact T.rep.cellTop rfl
      have f3 : wr.frozen? ⟨Y.b, 3, none⟩ = false := by rw [← hb]; exact T.rep.frozenTop 3
      obtain ⟨Y1, hY1⟩ : ∃ Y1, Y1 = Yk.withNow (Y.now + 1) := ⟨_, rfl⟩
      obtain ⟨w3, hw3⟩ : ∃ w3, w3 = wr.setCell ⟨Y.b, 3, none⟩ (.int .i64 (Y.now + 1)) := ⟨_, rfl⟩
      have T3 : Hid (Turn w Y w3 Y1) := by
        rw [hw3, hY1, ← hb]
        exact T.now1 (Y.now + 1)
      have hS1 : Hid (Y1.S = midS Y.S) := by
        have e3 : Y1.S = { Yk.S with now := Y.now + 1 } := by rw [hY1]; rfl
        unfold Hid
        rw [e3, HS.out, hkl, ← hpl]
        rfl
      have hb1 : Y1.b = Y.b := by rw [hY1]; exact hb
      have hl1 : Y1.lots = Y.lots := by rw [hY1]; exact hlots
      have hn1' : Y1.now = Y.now + 1 := by rw [hY1]; rfl
      have HW3 := hidOf hw3
      clear e2 hnow hlots hkl hlen hpl HS T hY1 hw3 hvp hpb hb
      have hlw := HG.out.lw
      have hl4 : Y.lots.length ≤ 4 := hlw.len
      have HAp : Hid (Apart Y.lots) := hlw.apart
      have HNe : Hid (∀ l ∈ Y.lots, l.name ≠ emptyB) := hlw.nm
      have hlo := T3.out.rep.lots
      rw [hl1] at hlo
      obtain ⟨ao, gl, lc, hvl, hlc, hlm, rd⟩ := own_rd hlo
      unfold maxLen at hlm
      have hgl : 0 < Y.lots.length → gl < w3.heap.size := fun h => by
        have e := rd.base h
        exact own_lt hlo gl (by rw [hvl, e]; simp [blk_slice])
      have hbl : Y.b < w3.heap.size := by rw [← hb1]; exact T3.out.rep.lt _ foot_b
      have HC : Hid (∀ wx, Below w3.heap.size w3 wx → wx.cell? ⟨Y.b, 6, none⟩ = some (.slice ao Y.lots.length lc) ∧ wx.cell? ⟨Y.b, 3, none⟩ = some (.int .i64 (Y.now + 1))) := fun wx h => by
        have r := T3.out.rep.below h
        have a := r.cellTop (j := 6) (u := Y1.vLots) rfl
        have b := r.cellTop (j := 3) (u := .int .i64 Y1.now) rfl
        rw [hb1, hvl] at a
        rw [hb1, hn1'] at b
        exact ⟨a, b⟩
      have HLs : Hid (∀ wx, Below w3.heap.size w3 wx → ∀ (k : Nat) l, Y.lots[k]? = some l → ao = some ⟨gl, 0, none⟩ ∧ wx.cell? ⟨gl, k * 3, none⟩ = some (.string l.name) ∧ wx.cell? ⟨gl, k * 3 + 1, none⟩ = some (.int .i64 l.least) ∧ wx.cell? ⟨gl, k * 3 + 2, none⟩ = some (.int .i64 l.ends)) := fun wx h k l hl => by
        have hk := (at_some hl).1
        have hg := hgl (by omega)
        obtain ⟨c0, c1, c2⟩ := lot_cells rd hl
        exact ⟨rd.base (by omega), (h.cell (p := ⟨gl, k * 3, none⟩) hg).trans c0, (h.cell (p := ⟨gl, k * 3 + 1, none⟩) hg).trans c1, (h.cell (p := ⟨gl, k * 3 + 2, none⟩) hg).trans c2⟩
      have HOr : Hid (∀ wx, Below w3.heap.size w3 wx → Calls Tryz.prog 99 #[.pointer (some ⟨Y.b, 0, none⟩)] wx fun e w' => ∃ v, e = .returned v ∧ Hid (Below wx.heap.size wx w') ∧ Hid (w'.ownsRow wx.heap.size 168 3 v (sortL Y.lots).length ((sortL Y.lots).flatMap lotCells))) := fun wx h => by
        have r := T3.out.rep.below h
        have a := r.cellTop (j := 6) (u := Y1.vLots) rfl
        have hlo := r.lots
        rw [hb1] at a
        rw [hl1] at hlo
        exact ordered_any wx Y.b Y.lots Y1.vLots a hlo HAp.out HNe.out hl4
      obtain ⟨i0, hi0, hz0, hz1, hz2⟩ := info_parts Tryz.infoRLot
      clear hvl rd hgl hlo hlw hlc
      go_wp2_with fail
      rw [← HW3.out]
      clear c3 f3 c5
      go_loopw [6, 7] (fun s i w' => ∃ (k m c : Nat) (a : Option Addr), k ≤ Y.lots.length ∧ i = .int .i64 k ∧ s = .slice a m c ∧ Hid (m = (leftTo Y.lots (Y.now + 1) k).length) ∧ Hid (Below w3.heap.size w3 w') ∧ Hid (w'.ownsRow w3.heap.size 168 3 (.slice a m c) m ((leftTo Y.lots (Y.now + 1) k).flatMap lotCells))) (fun _ i _ => Y.lots.length + 1 - (intOf i).toNat)
      case atStart => exact ⟨0, 0, 0, none, Nat.zero_le _, rfl, rfl, rfl, Below.refl _ _, own_nil _ _ _⟩
      case round =>
        obtain ⟨k, m, c, a, hk, rfl, rfl, HM, HB, HO⟩ := hrel
        obtain ⟨c6, c3⟩ := HC.out wr HB.out
        obtain ⟨hcm, hc63⟩ := caps_of HO.out
        have hm : m ≤ Y.lots.length := by rw [HM.out]; exact leftTo_len _ _ _
        have HSz := hidOf HB.out.size
        have hbw : Y.b < wr.heap.size := Nat.lt_of_lt_of_le hbl HB.out.size
        by_cases hlt : k < Y.lots.length
        · have hlt' : (k : Int) < (Y.lots.length : Int) := by omega
          have hlk : Y.lots[k]? = some Y.lots[k] := by simp [hlt]
          obtain ⟨rfl, d0, d1, d2⟩ := HLs.out wr HB.out k _ hlk
          obtain ⟨l, hle⟩ : ∃ l, l = Y.lots[k] := ⟨_, rfl⟩
          rw [← hle] at d0 d1 d2 hlk
          have HLk := hidOf hlk
          clear hle hlk
          by_cases he : l.ends = Y.now + 1
          · have he' : (l.ends == Y.now + 1) = true := by simpa using he
            have HF := hidOf (leftTo_no HLk.out he)
            clear he
            go_wp2_with fail
            go_quiet (fail)
            go_wp2
            exact ⟨⟨k + 1, m, c, a, by omega, by go_num, rfl, by unfold Hid; rw [HF.out]; exact HM.out, HB.out.trans ⟨rfl, rfl, rfl, Nat.le_refl _, fun _ _ => rfl⟩, by unfold Hid; rw [HF.out]; exact own_sameB HO.out (fun _ _ => rfl)⟩, by simp [intOf]; omega⟩
          · have he' : (l.ends == Y.now + 1) = false := by simpa using he
            have HF := hidOf (leftTo_yes HLk.out he)
            have HO2 : Hid (∀ nq o, ((wr.drewN nq).alloc o).ownsRow w3.heap.size 168 3 (.slice a m c) m ((leftTo Y.lots (Y.now + 1) k).flatMap lotCells)) := fun nq o => ownsRow_alloc (w := wr.drewN nq) (own_sameB HO.out (fun _ _ => rfl)) o
            have HB9 : Hid (∀ (nq : Nat) (o : Obj) (wx : World), ((wr.drewN nq).alloc o).grownBy wx (Value.slice a m c).ownBlock → Hid (Below w3.heap.size w3 wx)) := fun nq o wx hg => by
              have hB' : Below w3.heap.size w3 (wr.drewN nq) := HB.out.trans ⟨rfl, rfl, rfl, Nat.le_refl _, fun _ _ => rfl⟩
              refine (hB'.alloc HB.out.size _).grown hg (by have := HB.out.size; simp; omega) (fun r hr => ?_)
              exact (HO.out.lt r hr).1
            have b6 : ∀ (nq : Nat) o, ((wr.drewN nq).alloc o).cell? ⟨Y.b, 6, none⟩ = some (.slice (some ⟨gl, 0, none⟩) Y.lots.length lc) := fun nq o => (World.cell?_alloc_past (w := wr.drewN nq) o Y.b 6 hbw).trans c6
            clear he HO
            go_wp2_with fail
            go_quiet (fail)
            go_wp2_with (at_builtin; refine wpList_append_lies _ rfl _ _ _ rfl w3.heap.size 168 i0 _ 3 32 Tryz.underlying154 hi0 hz0 hz1 hz2 rfl (by omega) (.slice a m c) m ((leftTo Y.lots (Y.now + 1) k).flatMap lotCells) rfl (by exact HO2.out _ _) ⟨wr.heap.size, 0, none⟩ 1 1 [.string l.name, .int .i64 l.least, .int .i64 l.ends] rfl rfl (by exact World.news_of_block (Go.heap_alloc_new (wr.drewN _) _)) (by intro u hu; simp at hu; rcases hu with rfl | rfl | rfl <;> rfl) (by omega) (by unfold maxLen; omega) (by omega) (by have := HSz.out; simp; omega) (wr.heap.size + 1) (by simp) ?_; intro g9 cap9 w9 hown9 hgrow hat hlt9; have B9 := HB9.out _ _ _ hgrow)
            have hO9 : Hid (w9.ownsRow w3.heap.size 168 3 (.slice (some ⟨g9, 0, none⟩) (m + 1) cap9) (m + 1) ((leftTo Y.lots (Y.now + 1) (k + 1)).flatMap lotCells)) := by
              unfold Hid
              rw [HF.out, List.flatMap_append, List.flatMap_singleton]
              exact hown9
            exact ⟨⟨k + 1, m + 1, cap9, some ⟨g9, 0, none⟩, by omega, by go_num, rfl, by unfold Hid; rw [HF.out, List.length_append, ← HM.out]; rfl, B9, hO9⟩, by simp [intOf]; omega⟩
        · have hlt' : decide ((k : Int) < (Y.lots.length : Int)) = false := decide_eq_false (by omega)
          have hkl : leftTo Y.lots (Y.now + 1) k = Y.lots.filter (fun l => !decide (l.ends = Y.now + 1)) := by
            unfold leftTo
            rw [List.take_of_length_le (by omega)]
          rw [hkl] at HM HO
          have HOr2 := hidOf (HOr.out wr HB.out)
          clear hkl
          go_wp2_with fail
          refine HOr2.out.mono ?_
          rintro e w5 ⟨vo, rfl, B5, O5⟩
          obtain ⟨sl, hsl⟩ : ∃ sl, sl = sortL Y.lots := ⟨_, rfl⟩
          rw [← hsl] at O5
          have hsl4 : sl.length ≤ 4 := by rw [hsl, sortL_length]; exact hl4
          have HMem : Hid (∀ l ∈ sl, l ∈ Y.S.lots) := fun l hl => by rw [hsl] at hl; exact (sortL_mem Y.lots l).1 hl
          have B35 : Hid (Below w3.heap.size w3 w5) := HB.out.trans (B5.out.mono HB.out.size)
          have R5 : Hid (RepY w5 Y1) := T3.out.rep.below B35.out
          have OL : Hid (w5.ownsRow w3.heap.size 168 3 (.slice a m c) m ((Y.lots.filter (fun l => !decide (l.ends = Y.now + 1))).flatMap lotCells)) := by
            unfold Hid
            exact own_sameB HO.out (fun r hr => B5.out.block r (own_lt (own_any HO.out) r hr))
          have HFt : Hid (∀ r, r ∈ Y1.foot → r < w3.heap.size) := fun r hr => T3.out.rep.lt r hr
          obtain ⟨ao5, g5, cap5, rfl, hc5, hm5, rd5⟩ := own_rd (own_any O5.out)
          unfold maxLen at hm5
          have HRd5 := hidOf rd5
          have hg5 : Hid (0 < sl.length → w3.heap.size ≤ g5 ∧ g5 < w5.heap.size) := fun h => by
            have e := rd5.base h
            have := O5.out.lt g5 (by rw [e]; rfl)
            have h2 := HB.out.size
            exact ⟨by omega, this.2⟩
          have HCl : Hid (∀ wx Yx, Turn w5 Y1 wx Yx → ∀ (j : Nat) l, sl[j]? = some l → ao5 = some ⟨g5, 0, none⟩ ∧ wx.cell? ⟨g5, j * 3, none⟩ = some (.string l.name) ∧ wx.cell? ⟨g5, j * 3 + 1, none⟩ = some (.int .i64 l.least) ∧ wx.cell? ⟨g5, j * 3 + 2, none⟩ = some (.int .i64 l.ends)) := fun wx Yx h j l hl => by
            have hj := (at_some hl).1
            obtain ⟨q1, q2⟩ := hg5.out (by omega)
            have e : wx.heap[g5]? = w5.heap[g5]? := h.kept.block g5 q2 (fun hm => by have := HFt.out _ hm; omega)
            obtain ⟨c0, c1, c2⟩ := lot_cells HRd5.out hl
            exact ⟨HRd5.out.base (by omega), (World.cell?_of_block (w := w5) (a := ⟨g5, j * 3, none⟩) e).trans c0, (World.cell?_of_block (w := w5) (a := ⟨g5, j * 3 + 1, none⟩) e).trans c1, (World.cell?_of_block (w := w5) (a := ⟨g5, j * 3 + 2, none⟩) e).trans c2⟩
          have HSel : Hid (∀ wx Yx (j : Nat) l, Turn w5 Y1 wx Yx → Yx.S = salesTo (midS Y.S) sl j → l ∈ Y.S.lots → Calls Tryz.prog 100 #[.pointer (some ⟨Y.b, 0, none⟩), .agg #[.string l.name, .int .i64 l.least, .int .i64 l.ends]] wx fun e w' => e = .returned (.tuple #[]) ∧ ∃ Y', Hid (Turn w5 Y1 w' Y') ∧ Hid (Y'.S = sellS (salesTo (midS Y.S) sl j) l)) := fun wx Yx j l h hS hl => by
            have hb : Yx.b = Y.b := h.b.trans hb1
            have := sell_any wx Yx l (100 + 1800 * (Y.S.now + 1)) h.rep (by rw [hS]; exact sales_inv HG.out sl HMem.out j) (by have := HG.out.now.2; omega) (by rw [hS]; exact sales_news (s := midS Y.S) (tickTo_all Y.S) sl hsl4 j) (HG.out.nm.l l hl) (HG.out.lw.lst l hl)
            rw [hb] at this
            refine this.mono ?_
            rintro e w' ⟨rfl, Y', T', S'⟩
            exact ⟨rfl, Y', h.trans T', by rw [← hS]; exact S'⟩
          have HNx : Hid (∀ wx Yx (j : Nat), Turn w5 Y1 wx Yx → Yx.S = salesTo (midS Y.S) sl j → wx.cell? ⟨Y.b, 3, none⟩ = some (.int .i64 (Y.now + 1)) ∧ wx.frozen? ⟨Y.b, 6, none⟩ = false ∧ wx.cell? ⟨Y.b, 6, none⟩ = some Yx.vLots) := fun wx Yx j h hS => by
            have hb : Yx.b = Y.b := h.b.trans hb1
            have hn : Yx.now = Y.now + 1 := by
              have : Yx.S.now = (midS Y.S).now := by rw [hS]; exact (fold_keep _ _).1
              exact this
            have a := h.rep.cellTop (j := 3) (u := .int .i64 Yx.now) rfl
            have b := h.rep.frozenTop 6
            have c := h.rep.cellTop (j := 6) (u := Yx.vLots) rfl
            rw [hb] at a b c
            rw [hn] at a
            exact ⟨a, b, c⟩
          have HEnd : Hid (∀ wx Yx, Turn w5 Y1 wx Yx → Yx.S = salesTo (midS Y.S) sl sl.length → ∃ Y', Turn w Y (wx.setCell ⟨Y.b, 6, none⟩ (.slice a m c)) Y' ∧ Y'.S = tickS Y.S) := fun wx Yx h hS => by
            have hb : Yx.b = Y.b := h.b.trans hb1
            have T6 : Turn w Y wx Yx := (T3.out.below B35.out).trans h
            have hfar : ∀ r ∈ blk (.slice a m c), wx.heap[r]? = w5.heap[r]? ∧ r ∉ Yx.foot ∧ w.heap.size ≤ r := fun r hr => by
              obtain ⟨q1, q2⟩ := OL.out.lt r (by simpa [blk] using hr)
              refine ⟨h.kept.block r q2 (fun hm => by have := HFt.out _ hm; omega), fun hm => ?_, Nat.le_trans T3.out.kept.size q1⟩
              rcases h.ext r hm with h' | h'
              · have := HFt.out _ h'; omega
              · omega
            have t7 := T6.setLots (Kept.refl _ _) (.slice a m c) (Y.lots.filter (fun l => !decide (l.ends = Y.now + 1))) (by rw [← HM.out]; exact own_same (own_any OL.out) (fun r hr => (hfar r hr).1)) (fun r hr => .inr (hfar r hr).2)
            rw [hb] at t7
            refine ⟨_, t7, ?_⟩
            have e1 : (Yx.withLots (Y.lots.filter (fun l => !decide (l.ends = Y.now + 1))) (.slice a m c)).S = { Yx.S with lots := Y.lots.filter (fun l => !decide (l.ends = Y.now + 1)) } := rfl
            have e2 : tickS Y.S = { (dueL (midS Y.S).lots (midS Y.S).now).foldl sellS (midS Y.S) with lots := (midS Y.S).lots.filter (fun l => !decide (l.ends = (midS Y.S).now)) } := rfl
            have e3 : (midS Y.S).lots = Y.lots := (tickTo_len Y.S Y.S.players.length).2.2
            rw [e1, e2, hS, e3]
            unfold salesTo dueL
            rw [List.take_of_length_le (Nat.le_refl _), hsl]
            rfl
          clear hsl rd5 O5 HOr HOr2 HC HLs HB HO c6 c3
          go_wp2_with fail
          go_loopw [9] (fun i w' => ∃ (j : Nat) (Yj : YW), j ≤ sl.length ∧ i = .int .i64 j ∧ Hid (Turn w5 Y1 w' Yj) ∧ Hid (Yj.S = salesTo (midS Y.S) sl j)) (fun i _ => sl.length + 1 - (intOf i).toNat)
          case atStart => exact ⟨0, Y1, Nat.zero_le _, rfl, Turn.refl R5.out, by unfold Hid; rw [hS1.out]; rfl⟩
          case round =>
            obtain ⟨j, Yj, hj, rfl, Tj, Sj⟩ := hrel
            obtain ⟨c3, f6, c6⟩ := HNx.out wr Yj j Tj.out Sj.out
            by_cases hlt2 : j < sl.length
            · have hlt2' : (j : Int) < (sl.length : Int) := by omega
              have hlj : sl[j]? = some sl[j] := by simp [hlt2]
              obtain ⟨rfl, d0, d1, d2⟩ := HCl.out wr Yj Tj.out j _ hlj
              obtain ⟨l, hle⟩ : ∃ l, l = sl[j] := ⟨_, rfl⟩
              rw [← hle] at d0 d1 d2 hlj
              have HLj := hidOf hlj
              clear hle hlj
              by_cases he : l.ends = Y.now + 1
              · have he' : (l.ends == Y.now + 1) = true := by simpa using he
                have HF := hidOf (salesTo_yes (s := midS Y.S) HLj.out he)
                have HCs := hidOf (fun nq => HSel.out (wr.drewN nq) Yj j l (Tj.out.drewN nq) Sj.out (HMem.out l (List.mem_of_getElem? HLj.out)))
                clear he
                go_wp2_with fail
                go_quiet (fail)
                go_wp2_with (go_at_call 100; refine (HCs.out _).mono ?_; rintro e w7 ⟨rfl, Y7, T7, S7⟩)
                exact ⟨⟨j + 1, Y7, by omega, by go_num, T7, by unfold Hid; rw [HF.out]; exact S7.out⟩, by simp [intOf]; omega⟩
              · have he' : (l.ends == Y.now + 1) = false := by simpa using he
                have HF := hidOf (salesTo_no (s := midS Y.S) HLj.out he)
                clear he
                go_wp2_with fail
                go_quiet (fail)
                go_wp2
                exact ⟨⟨j + 1, Yj, by omega, by go_num, Tj.out.drewN _, by unfold Hid; rw [HF.out]; exact Sj.out⟩, by simp [intOf]; omega⟩
            · have hlt2' : decide ((j : Int) < (sl.length : Int)) = false := decide_eq_false (by omega)
              have hjl : j = sl.length := by omega
              have HE : Hid (∃ Y', Turn w Y (wr.setCell ⟨Y.b, 6, none⟩ (.slice a m c)) Y' ∧ Y'.S = tickS Y.S) := HEnd.out wr Yj Tj.out (by rw [Sj.out, hjl])
              clear hjl
              go_wp2
              go_ret
              exact ⟨rfl, HE.out⟩
end Go.Proofs.YtlafddeoheambaaGreatDoor
