/-
  The function Insert of package slices, at a list's end; a lot more, at the end.
-/
import Derived.Test.YtlafddeoheambaaGreatDoorT47
import Derived.Test.YtlafddeoheambaaGreatDoorT43
set_option linter.unusedVariables false
namespace Go.Proofs.YtlafddeoheambaaGreatDoor
open Go.RowKit

set_option maxRecDepth 100000 in
set_option maxHeartbeats 2000000 in
theorem insert_end (w : World) (ao : Option Addr) (n cap gn : Nat) (xs ys : List Value) (hown : w.ownsRow 0 108 7 (.slice ao n cap) n xs) (hn : n ≤ 4) (hy : ys.length = 7) (hc : ∀ (j : Nat) u, ys[j]? = some u → w.cell? ⟨gn, j, none⟩ = some u) (h1 : ∀ u ∈ ys, u.oneCell' = true) :
    Calls Tryz.prog 42 #[.slice ao n cap, .int .i64 n, .slice (some ⟨gn, 0, none⟩) 1 1] w fun e w' => ∃ gr cp, e = .returned (.slice (some ⟨gr, 0, none⟩) (n + 1) cp) ∧ w'.ownsRow 0 108 7 (.slice (some ⟨gr, 0, none⟩) (n + 1) cp) (n + 1) (xs ++ ys) ∧ w.grownBy w' (Value.slice ao n cap).ownBlock ∧ ((Value.slice ao n cap).ownBlock = some gr ∨ gr = w.heap.size) := by
  obtain ⟨i0, hi0, hz0, hz1, hz2⟩ := info_parts Tryz.infoLot
  have hcm : n ≤ cap ∧ cap ≤ 9223372036854775807 := by
    rcases own_form hown with ⟨h, h0, _⟩ | ⟨g', c', h, h1, h2, _⟩
    · injection h with _ _ h
      exact ⟨by omega, by omega⟩
    · injection h with _ _ h
      unfold maxLen at h2
      exact ⟨by omega, by omega⟩
  obtain ⟨hcm1, hcm2⟩ := hcm
  have HOw := hidOf hown
  have HY := hidOf hc
  have H1 := hidOf h1
  have hnn : ((n : Int) == (n : Int)) = true := by simp
  clear hown hc h1
  rcases own_form HOw.out with ⟨h, h0, hx⟩ | ⟨g', c', h, _, _, _⟩
  · injection h with ha _ hcc
    subst ha h0 hx
    go_enter Tryz.func42, Tryz.ntmps42
    go_wp2_with (at_builtin; refine wpList_append_lies _ rfl _ _ _ rfl 0 108 i0 _ 7 64 Tryz.underlying81 hi0 hz0 hz1 hz2 rfl (by omega) (.slice none 0 cap) 0 [] rfl (by exact HOw.out) ⟨gn, 0, none⟩ 1 1 ys rfl (by rw [hy]) (by intro j u hu; rw [Lib.add_plain, Nat.zero_add]; exact HY.out j u hu) (by exact H1.out) (by omega) (by unfold maxLen; omega) (by omega) (by omega) w.heap.size rfl ?_; intro gr cp w6 hown1 hgrow hat hlt6)
    all_goals
      go_ret
      exact ⟨gr, cp, rfl, hown1, hgrow, hat⟩
  · injection h with ha _ hcc
    subst ha
    go_enter Tryz.func42, Tryz.ntmps42
    go_wp2_with (at_builtin; refine wpList_append_lies _ rfl _ _ _ rfl 0 108 i0 _ 7 64 Tryz.underlying81 hi0 hz0 hz1 hz2 rfl (by omega) (.slice (some ⟨g', 0, none⟩) n cap) n xs rfl (by exact HOw.out) ⟨gn, 0, none⟩ 1 1 ys rfl (by rw [hy]) (by intro j u hu; rw [Lib.add_plain, Nat.zero_add]; exact HY.out j u hu) (by exact H1.out) (by omega) (by unfold maxLen; omega) (by omega) (by omega) w.heap.size rfl ?_; intro gr cp w6 hown1 hgrow hat hlt6)
    all_goals
      go_ret
      exact ⟨gr, cp, rfl, hown1, hgrow, hat⟩
def opnR1 (X : XW) (g : Nat) : Nat → Role := fun r => if r = g then .opn else X.R r
/-- A lot more, at the end of the list. -/
theorem TurnX.addLot {w0 w w6 : World} {X0 X : XW} (T : TurnX w0 X0 w X) (l : XLot) {gr cap : Nat} (hg : w.grownBy w6 X.vOp.ownBlock)
    (ho : w6.ownsRow 0 108 7 (.slice (some ⟨gr, 0, none⟩) (X.opens.length + 1) cap) (X.opens.length + 1) (X.opens.flatMap xlotCells ++ xlotCells l)) (hat : X.vOp.ownBlock = some gr ∨ w.heap.size ≤ gr) :
    TurnX w0 X0 (w6.setCell ⟨X.b, 7, none⟩ (.slice (some ⟨gr, 0, none⟩) (X.opens.length + 1) cap)) (X.withL (.slice (some ⟨gr, 0, none⟩) (X.opens.length + 1) cap) (X.opens ++ [l]) X.vCl X.sales (opnR1 X gr)) := by
  have R := T.rep.roles
  have lt := T.rep.lt
  have hop : gr ∈ blk X.vOp ∨ w.heap.size ≤ gr := hat.imp (fun h => by simp [blk, h]) id
  have ngr : ∀ r ∈ X.foot, r ∉ blk X.vOp → r ≠ gr := by
    rintro r hr hn rfl
    rcases hop with h | h
    · exact hn h
    · have := lt r hr; omega
  have nb : X.b ∉ blk X.vOp := fun hm => by have := R.lot.1 _ hm; rw [R.b] at this; cases this
  have ncl : ∀ r ∈ blk X.vCl, r ∉ blk X.vOp ∧ r ≠ X.b ∧ r ∈ X.foot := by
    intro r hr
    have h1 := R.lot.2 r hr
    refine ⟨(fun hm => by have := R.lot.1 _ hm; rw [h1] at this; cases this), ?_, by simp [XW.foot, hr]⟩
    rintro rfl
    rw [R.b] at h1
    cases h1
  have old : ∀ r, r < w.heap.size → r ∉ blk X.vOp → w6.heap[r]? = w.heap[r]? := fun r hr hn => hg.block r hr (fun e => hn (by simp [blk, ← e]))
  have ht : (w6.setCell ⟨X.b, 7, none⟩ (.slice (some ⟨gr, 0, none⟩) (X.opens.length + 1) cap)).heap[X.b]? = some (.cells (X.withL (.slice (some ⟨gr, 0, none⟩) (X.opens.length + 1) cap) (X.opens ++ [l]) X.vCl X.sales (opnR1 X gr)).cells 84 (0, 0)) := by
    rw [cells_set (show w6.heap[X.b]? = some (.cells X.cells 84 (0, 0)) by rw [old _ (lt _ xfoot_b) nb]; exact T.rep.top)]
    rfl
  have hrep := T.rep.withL (v := .slice (some ⟨gr, 0, none⟩) (X.opens.length + 1) cap) (l := X.opens ++ [l]) (v' := X.vCl) (l' := X.sales) (R' := opnR1 X gr)
    (w' := w6.setCell ⟨X.b, 7, none⟩ (.slice (some ⟨gr, 0, none⟩) (X.opens.length + 1) cap))
    (fun r hr hb hn _ => by rw [setCell_far _ _ _ _ r hb, old r (lt r hr) hn]) ht
    ⟨by
      have e1 : (X.opens ++ [l]).length = X.opens.length + 1 := by simp
      have e2 : (X.opens ++ [l]).flatMap xlotCells = X.opens.flatMap xlotCells ++ xlotCells l := by simp
      rw [e1, e2]
      refine own_same ho (fun r hr => setCell_far _ _ _ _ r ?_)
      have : r = gr := by simpa [blk_slice] using hr
      rw [this]
      exact Ne.symm (ngr _ xfoot_b nb), own_same T.rep.lot.2 (fun r hr => by obtain ⟨h1, h2, h3⟩ := ncl r hr; rw [setCell_far _ _ _ _ r h2, old r (lt r h3) h1])⟩
    (fun r hr hn _ => by unfold opnR1; rw [if_neg (ngr r hr hn)])
    ⟨fun r hr => by
      have : r = gr := by simpa [blk_slice] using hr
      unfold opnR1
      rw [if_pos this], fun r hr => by unfold opnR1; rw [if_neg (ngr r (ncl r hr).2.2 (ncl r hr).1)]; exact R.lot.2 r hr⟩
  refine T.withL hrep ⟨hg.os, hg.tape, hg.output, ?_, fun k hk hn => ?_⟩ (fun r hr => ?_) (fun r hr => .inl (ncl r hr).2.2)
  · show w.heap.size ≤ (w6.setCell _ _).heap.size
    rw [World.setCell]
    simp only [Array.size_modify]
    exact hg.size
  · have h1 : k ≠ X.b := fun e => hn (by rw [e]; exact xfoot_b)
    rw [setCell_far _ _ _ _ k h1, old k hk (fun hm => hn (by simp [XW.foot, hm]))]
  · have : r = gr := by simpa [blk_slice] using hr
    rw [this]
    rcases hop with h | h
    · exact .inl (by simp [XW.foot, h])
    · exact .inr h
end Go.Proofs.YtlafddeoheambaaGreatDoor

/-
  The function Tick of package haze, where lots may be open; what a keep holds of such a world.
-/
namespace Go.Proofs.YtlafddeoheambaaGreatDoor
open Go.RowKit

/-- What closeLots does at a Tick's end. -/
def CloseSale (s : SWorld) : Prop := ∀ w1 X1, RepX w1 X1 → OkX X1 → X1.S = s → (∀ p ∈ s.players, p.news = []) →
  Calls Tryz.prog 32 #[.pointer (some ⟨X1.b, 0, none⟩)] w1 fun e w' => e = .returned (.tuple #[]) ∧ ∃ X', TurnX w1 X1 w' X' ∧ OkX X' ∧ X'.S = closeS s ∧ NewsOK X' ∧ SaleOK X'.sales
theorem closeSale_any {s : SWorld} (h : GoodL s) (hn : s.now < 1000) : CloseSale (midS s) := by
  intro w1 X1 hr hO hS hnw
  have hm := h.mid
  have hlots : (midS s).lots = s.lots := (tickTo_len s s.players.length).2.2
  have hl : X1.lots = s.lots := by
    have : X1.S.lots = (midS s).lots := by rw [hS]
    exact this.trans hlots
  have hpl : X1.S.players.length = X1.pls.length := by simp [XW.S]
  have hbss : X1.pls.map (·.1.bids) = X1.S.players.map (·.bids) := by simp [XW.S, Function.comp_def]
  have hbd : ∀ l ∈ X1.opens, ∀ i, 0 ≤ l.bid i ∧ l.bid i ≤ 100000 := by
    intro l hl' i
    rw [hO.lot.bid l hl' i, hbss]
    unfold bidAt
    cases hq : (X1.S.players.map (·.bids))[i]? with
    | none => simp [bidI]
    | some bs =>
      obtain ⟨p, hp, rfl⟩ := List.mem_map.1 (List.mem_of_getElem? hq)
      rw [hS] at hp
      exact bidI_le (hm.bo p hp) l.name
  have hwf : WFS X1.S (100 + 1800 * (s.now + 1)) := by rw [hS]; exact hm.wf
  have hno := h.now
  have hA : ClA X1 := by
    refine ⟨by rw [← hpl]; exact hwf.pl, fun p hp => ?_, by rw [hl]; exact h.lw.apart, by rw [hl]; exact h.lw.len, by rw [hl]; exact h.lw.lst, fun l hl' => ?_, hbd⟩
    · have := (hwf.each p hp).mo
      omega
    · rw [hl] at hl'
      have := h.lw.ends l hl'
      rw [hS]
      show s.now + 1 ≤ l.ends
      omega
  refine (xclose_any w1 X1 hr hO (by rw [hS]; exact hnw) hA).mono ?_
  rintro e w' ⟨rfl, X', T, O, S, N, L⟩
  refine ⟨rfl, X', T, O, by rw [S, hS], N, ?_⟩
  rw [L]
  have hsub : ∀ l ∈ dueTo X1.opens X1.S.now X1.opens.length, l ∈ X1.opens := fun l hl' => List.mem_of_mem_take (List.mem_filter.1 hl').1
  refine ⟨?_, fun x hx => ?_⟩
  · rw [List.length_map]
    unfold dueTo
    have h1 := List.length_filter_le (fun l => !openX X1.S.now l) (X1.opens.take X1.opens.length)
    have h2 := List.length_take_le X1.opens.length X1.opens
    have h3 := hO.lot.len
    rw [hl] at h3
    have := h.lw.len
    omega
  · obtain ⟨l, hl', rfl⟩ := List.mem_map.1 hx
    have hlo := hsub l hl'
    have hll := hO.lot.mem hlo
    rw [hl] at hll
    have hb4 := close_bd l.bid l.least 4
    have h0 := fun i => (hbd l hlo i).1
    obtain ⟨c1, c2, c3, c4⟩ := close_high (bid := l.bid) (least := l.least) h0 4
    have hle := h.lw.lst _ hll
    have hnmz := h.nm.l _ hll
    refine ⟨hb4.1, ?_, ?_, ?_, hnmz⟩
    · show (closeTo l.bid l.least 4).1 ≤ 4
      omega
    · show 0 ≤ (closeTo l.bid l.least 4).2.1
      rcases winI_form l.bid l.least 4 with hw | ⟨k, _, hw, _, _⟩
      · rw [c4 (by omega)]
        omega
      · rw [c3 (by omega)]
        have := pays_le hw
        have h3 : (lotOf l).least = l.least := rfl
        omega
    · show (closeTo l.bid l.least 4).2.1 ≤ 100000
      rcases winI_form l.bid l.least 4 with hw | ⟨k, _, hw, _, _⟩
      · rw [c4 (by omega)]
        omega
      · rw [c3 (by omega)]
        have := pays_le hw
        have := hbd l hlo k
        omega

set_option maxRecDepth 100000 in
set_option maxHeartbeats 8000000 in
theorem xtick_close (w : World) (X : XW) (M : Int) (hr : RepX w X) (hA : AllX X M) (hM : M ≤ 1000000000) (hn : 0 ≤ X.now ∧ X.now < 1000) (hcd : CloseSale { tickTo X.S X.S.players.length with now := X.S.now + 1 }) :
    Calls Tryz.prog 11 #[.pointer (some ⟨X.b, 0, none⟩)] w fun e w' => e = .returned (.int .i64 0) ∧ ∃ X', TurnX w X w' X' ∧ OkX X' ∧ X'.S = tickS X.S ∧ NewsOK X' ∧ SaleOK X'.sales := by
  have HCD := hidOf hcd
  clear hcd
  obtain ⟨hn0, hn1⟩ := hn
  have c3 : w.cell? ⟨X.b, 0, none⟩ = some (.int .i64 X.now) := hr.cellTop rfl
  have hpl : X.S.players.length = X.pls.length := by simp [XW.S]
  have h4 := hA.wf.pl
  rw [hpl] at h4
  obtain ⟨pb0, pcap0, hvp0, hpc0, hpm0⟩ := hr.plForm h4.1
  have c50 : w.cell? ⟨X.b, 6, none⟩ = some (.slice (some ⟨pb0, 0, none⟩) X.pls.length pcap0) := by rw [← hvp0]; exact hr.cellTop rfl
  have hc0 : (X.now == 1000) = false := beq_eq_false_iff_ne.2 (by omega)
  have HA := hidOf hA
  clear hA hvp0
  go_enter Tryz.func11, Tryz.ntmps11
  go_wp2
  go_loopw [3, 5, 16] (fun _ _ i w' => ∃ (k : Nat) (Xk : XW), k ≤ X.pls.length ∧ i = .int .i64 k ∧ TurnX w X w' Xk ∧ OkX Xk ∧ Hid (Xk.S = tickTo X.S k)) (fun _ _ i _ => X.pls.length + 1 - (intOf i).toNat)
  case atStart => exact ⟨0, X, Nat.zero_le _, rfl, TurnX.refl hr, HA.out.ok, rfl⟩
  case round =>
    clear c3 c50
    obtain ⟨k, Xp, hk, rfl, T, O, HS⟩ := hrel
    by_cases hlt : k < X.pls.length
    · obtain ⟨Xk, hXk⟩ : ∃ Xk, Xk = Xp.clearG k := ⟨_, rfl⟩
      have HSc : Hid (Xk.S = clearN (tickTo X.S k) k) := by unfold Hid; rw [hXk, clearG_S, HS.out]
      have Tc : TurnX w X wr Xk := by rw [hXk]; exact T.ghost _ _
      have Oc : OkX Xk := by rw [hXk]; exact O.clearG k
      clear hXk T O HS
      have hlen : Xk.pls.length = X.pls.length := by
        have e := (clearN_len (tickTo X.S k) k).1.trans (tickTo_len X.S k).1
        rw [← HSc.out] at e
        simpa [XW.S] using e
      have hb : Xk.b = X.b := Tc.b
      obtain ⟨pb, pcap, hvp, hpc, hpm⟩ := Tc.rep.plForm (by omega)
      unfold maxLen at hpm
      have c5 : wr.cell? ⟨X.b, 6, none⟩ = some (.slice (some ⟨pb, 0, none⟩) X.pls.length pcap) := by rw [← hb, ← hlen, ← hvp]; exact Tc.rep.cellTop rfl
      obtain ⟨p, v, hq⟩ := xat_of_lt (X := Xk) (n := k) (by omega)
      have hm1 := (Tc.rep.plCell hq hvp).2
      have hwk : WFS Xk.S (M + 450 * k) := by rw [HSc.out]; exact (HA.out.wf.tickTo k).clearN k
      have HAk : Hid (AllX Xk (M + 450 * k)) := ⟨hwk, Oc, lw_S HA.out.lw (by rw [HSc.out]; exact (clearN_bids _ k).trans (tickTo_bids X.S k)) (by rw [HSc.out]; exact (clearN_len _ k).2.2.trans (tickTo_len X.S k).2.2) (by rw [HSc.out]; exact (clearN_len _ k).2.1.trans (tickTo_len X.S k).2.1)⟩
      have hun := (hwk.each p (List.mem_of_getElem? (XS_at hq))).un
      have hle := (Tc.rep.each k _ hq).len
      simp only at hle
      rcases own_form (Tc.rep.each k _ hq).row with ⟨_, h0, _⟩ | ⟨ub, ucap, hvu, huc, hum, hub⟩
      · simp only at h0; omega
      simp only at hvu huc
      unfold maxLen at hum
      rw [hvu] at hm1
      have HVU := hidOf hvu
      have HQ := hidOf hq
      have HT := hidOf (show tickTo X.S (k + 1) = playerS (tickTo X.S k) k from rfl)
      have HR := hidOf Tc.rep
      have HLE := hidOf hle
      have HB := hidOf hb
      clear hwk hvp hvu hq hpl hlen hle hb
      go_wp2
      go_loopw [5, 28] (fun _ i w' => ∃ (j : Nat) (Xj : XW), j ≤ v.us.length ∧ i = .int .i64 j ∧ TurnX wr Xk w' Xj ∧ OkX Xj ∧ Hid (Xj.S = unitsTo Xk.S k j)) (fun _ i _ => v.us.length + 1 - (intOf i).toNat)
      case atStart => exact ⟨0, Xk, Nat.zero_le _, rfl, TurnX.refl Tc.rep, Oc, rfl⟩
      case round =>
        clear c5 hm1
        obtain ⟨j, Xj, hj, rfl, Tj, Oj, HSj⟩ := hrel
        by_cases hlt1 : j < v.us.length
        · obtain ⟨xg, hcell, HD0⟩ := tickRound (X := X) HR.out HAk.out (by omega) HQ.out HVU.out hlt1 Tj HSj.out Oj (Tj.b.trans HB.out)
          have HD := hidOf HD0
          clear HD0
          go_wp2_with (go_at_call 31; refine HD.out.mono ?_; rintro e w' ⟨rfl, X', T', O', HS'⟩)
          exact ⟨⟨j + 1, X', by omega, by go_num, T', O', HS'⟩, by simp [intOf]; omega⟩
        · have hjm : j = v.us.length := by omega
          have HE : Hid (Xj.S = tickTo X.S (k + 1)) := by
            unfold Hid
            rw [HT.out, HSj.out]
            unfold playerS
            rw [← HSc.out]
            have e : unitsN Xk.S k = v.us.length := by
              unfold unitsN
              rw [XS_at HQ.out]
              exact HLE.out.symm
            rw [e, hjm]
          clear hjm
          go_wp2
          exact ⟨⟨k + 1, Xj, by omega, by go_num, Tc.trans Tj, Oj, HE⟩, by simp [intOf]; omega⟩
    · have hkl : k = X.pls.length := by omega
      have hlen : Xp.pls.length = X.pls.length := by
        have e := (tickTo_len X.S k).1
        rw [← HS.out] at e
        simpa [XW.S] using e
      have hb : Xp.b = X.b := T.b
      have e2 := tickTo_len X.S k
      have hnow : Xp.now = X.now := by rw [← HS.out] at e2; exact e2.2.1
      have c3 : wr.cell? ⟨X.b, 0, none⟩ = some (.int .i64 X.now) := by rw [← hb, ← hnow]; exact T.rep.cellTop rfl
      have fz : wr.frozen? ⟨X.b, 0, none⟩ = false := by rw [← hb]; exact T.rep.frozenTop 0
      have HE : Hid ((Xp.withNow (X.now + 1)).S = { tickTo X.S X.S.players.length with now := X.S.now + 1 }) := by
        unfold Hid
        rw [hpl, ← hkl, ← HS.out]
        rfl
      have T9 := hidOf (T.now1 (X.now + 1))
      rw [hb] at T9
      have HC := hidOf (HCD.out _ _ T9.out.rep ⟨O.st, O.ore, O.dist, O.lot⟩ HE.out (tickTo_all X.S))
      have e9 : (Xp.withNow (X.now + 1)).b = X.b := hb
      rw [e9] at HC
      clear hkl e2 hnow hb hlen e9
      go_wp2_with (go_at_call 32; refine HC.out.mono ?_; rintro e w' ⟨rfl, X', T', O', S', N', L'⟩)
      go_ret
      exact ⟨rfl, X', T9.out.trans T', O', S', N', L'⟩
theorem GoodL.allX {X : XW} (h : GoodL X.S) (ho : OkX X) : AllX X (100 + 1800 * X.S.now) := ⟨h.wf, ho, by have := h.lw; simpa [XW.S, Function.comp_def] using this⟩
theorem GoodL.tickN {s : SWorld} (h : GoodL s) : GoodL (tickN s) := by
  unfold Proofs.YtlafddeoheambaaGreatDoor.tickN
  split
  · exact h
  · exact h.tick (by have := h.now.2; omega)
theorem xtick_l (w : World) (X : XW) (hr : RepX w X) (ho : OkX X) (hg : GoodL X.S) (hN : NewsOK X) (hsl : SaleOK X.sales) :
    Calls Tryz.prog 11 #[.pointer (some ⟨X.b, 0, none⟩)] w fun e w' => e = .returned (.int .i64 (tickC X.S)) ∧ ∃ X', TurnX w X w' X' ∧ OkX X' ∧ X'.S = tickN X.S ∧ NewsOK X' ∧ SaleOK X'.sales := by
  unfold tickC tickN
  have hn := hg.now
  have e : X.S.now = X.now := rfl
  by_cases h : X.S.now = 1000
  · rw [if_pos h, if_pos h]
    refine (xtick_full w X hr h).mono ?_
    rintro e w' ⟨rfl, rfl⟩
    exact ⟨rfl, X, TurnX.refl hr, ho, rfl, hN, hsl⟩
  · rw [if_neg h, if_neg h]
    exact xtick_close w X _ hr (hg.allX ho) (by omega) (by omega) (closeSale_any hg (by omega))
end Go.Proofs.YtlafddeoheambaaGreatDoor

/-
  The function Offer of package haze, where no lot is open, or one of that name is.
-/
namespace Go.Proofs.YtlafddeoheambaaGreatDoor
open Go.RowKit

theorem offer_found {X : XW} (hO : OkX X) (hA : Apart X.lots) (nm : ByteArray) : foundX X.opens nm = openB X.lots nm := by
  rw [Bool.eq_iff_iff, openB_place hO.lot hA nm]
  unfold foundX
  cases h : X.opens[placeX X.opens nm]? with
  | none => simp
  | some l => simp
theorem far7 {w5 : World} {g b : Nat} (hne : b ≠ g) (v0 v1 v2 v3 v4 v5 v6 : Value) : (((((((w5.setCell ⟨g, 0, none⟩ v0).setCell ⟨g, 1, none⟩ v1).setCell ⟨g, 2, none⟩ v2).setCell ⟨g, 3, none⟩ v3).setCell ⟨g, 4, none⟩ v4).setCell ⟨g, 5, none⟩ v5).setCell ⟨g, 6, none⟩ v6).cell? ⟨b, 0, none⟩ = w5.cell? ⟨b, 0, none⟩ :=
  World.cell?_of_block (by simp only [setCell_far _ _ _ _ _ hne])
theorem lot7 {w5 : World} {g : Nat} {T : TypeId} {c0 c1 c2 c3 c4 c5 c6 : Value} (h : w5.heap[g]? = some (.cells #[c0, c1, c2, c3, c4, c5, c6] T (0, 0))) (l : XLot) : LotAt (((((((w5.setCell ⟨g, 0, none⟩ (.string l.name)).setCell ⟨g, 1, none⟩ (.int .i64 l.ends)).setCell ⟨g, 2, none⟩ (.int .i64 l.least)).setCell ⟨g, 3, none⟩ (.int .i64 (l.bid 0))).setCell ⟨g, 4, none⟩ (.int .i64 (l.bid 1))).setCell ⟨g, 5, none⟩ (.int .i64 (l.bid 2))).setCell ⟨g, 6, none⟩ (.int .i64 (l.bid 3))) g 0 l := by
  have e0 : (w5.setCell ⟨g, 0, none⟩ (.string l.name)).heap[g]? = some (.cells #[(.string l.name), c1, c2, c3, c4, c5, c6] T (0, 0)) := cells_set h
  have e1 : ((w5.setCell ⟨g, 0, none⟩ (.string l.name)).setCell ⟨g, 1, none⟩ (.int .i64 l.ends)).heap[g]? = some (.cells #[(.string l.name), (.int .i64 l.ends), c2, c3, c4, c5, c6] T (0, 0)) := cells_set e0
  have e2 : (((w5.setCell ⟨g, 0, none⟩ (.string l.name)).setCell ⟨g, 1, none⟩ (.int .i64 l.ends)).setCell ⟨g, 2, none⟩ (.int .i64 l.least)).heap[g]? = some (.cells #[(.string l.name), (.int .i64 l.ends), (.int .i64 l.least), c3, c4, c5, c6] T (0, 0)) := cells_set e1
  have e3 : ((((w5.setCell ⟨g, 0, none⟩ (.string l.name)).setCell ⟨g, 1, none⟩ (.int .i64 l.ends)).setCell ⟨g, 2, none⟩ (.int .i64 l.least)).setCell ⟨g, 3, none⟩ (.int .i64 (l.bid 0))).heap[g]? = some (.cells #[(.string l.name), (.int .i64 l.ends), (.int .i64 l.least), (.int .i64 (l.bid 0)), c4, c5, c6] T (0, 0)) := cells_set e2
  have e4 : (((((w5.setCell ⟨g, 0, none⟩ (.string l.name)).setCell ⟨g, 1, none⟩ (.int .i64 l.ends)).setCell ⟨g, 2, none⟩ (.int .i64 l.least)).setCell ⟨g, 3, none⟩ (.int .i64 (l.bid 0))).setCell ⟨g, 4, none⟩ (.int .i64 (l.bid 1))).heap[g]? = some (.cells #[(.string l.name), (.int .i64 l.ends), (.int .i64 l.least), (.int .i64 (l.bid 0)), (.int .i64 (l.bid 1)), c5, c6] T (0, 0)) := cells_set e3
  have e5 : ((((((w5.setCell ⟨g, 0, none⟩ (.string l.name)).setCell ⟨g, 1, none⟩ (.int .i64 l.ends)).setCell ⟨g, 2, none⟩ (.int .i64 l.least)).setCell ⟨g, 3, none⟩ (.int .i64 (l.bid 0))).setCell ⟨g, 4, none⟩ (.int .i64 (l.bid 1))).setCell ⟨g, 5, none⟩ (.int .i64 (l.bid 2))).heap[g]? = some (.cells #[(.string l.name), (.int .i64 l.ends), (.int .i64 l.least), (.int .i64 (l.bid 0)), (.int .i64 (l.bid 1)), (.int .i64 (l.bid 2)), c6] T (0, 0)) := cells_set e4
  have e6 : (((((((w5.setCell ⟨g, 0, none⟩ (.string l.name)).setCell ⟨g, 1, none⟩ (.int .i64 l.ends)).setCell ⟨g, 2, none⟩ (.int .i64 l.least)).setCell ⟨g, 3, none⟩ (.int .i64 (l.bid 0))).setCell ⟨g, 4, none⟩ (.int .i64 (l.bid 1))).setCell ⟨g, 5, none⟩ (.int .i64 (l.bid 2))).setCell ⟨g, 6, none⟩ (.int .i64 (l.bid 3))).heap[g]? = some (.cells #[(.string l.name), (.int .i64 l.ends), (.int .i64 l.least), (.int .i64 (l.bid 0)), (.int .i64 (l.bid 1)), (.int .i64 (l.bid 2)), (.int .i64 (l.bid 3))] T (0, 0)) := cells_set e5
  exact ⟨by rw [cell_of_row _ _ _ _ _ _ e6]; rfl, by rw [cell_of_row _ _ _ _ _ _ e6]; rfl, by rw [cell_of_row _ _ _ _ _ _ e6]; rfl, by rw [cell_of_row _ _ _ _ _ _ e6]; rfl, by rw [cell_of_row _ _ _ _ _ _ e6]; rfl, by rw [cell_of_row _ _ _ _ _ _ e6]; rfl, by rw [cell_of_row _ _ _ _ _ _ e6]; rfl⟩
theorem lotNew {w5 : World} {T : TypeId} (l : XLot) : LotAt (w5.alloc (.cells #[.string l.name, .int .i64 l.ends, .int .i64 l.least, .int .i64 (l.bid 0), .int .i64 (l.bid 1), .int .i64 (l.bid 2), .int .i64 (l.bid 3)] T)) w5.heap.size 0 l := by
  have e := Go.heap_alloc_new w5 (.cells #[.string l.name, .int .i64 l.ends, .int .i64 l.least, .int .i64 (l.bid 0), .int .i64 (l.bid 1), .int .i64 (l.bid 2), .int .i64 (l.bid 3)] T)
  exact ⟨by rw [cell_of_row _ _ _ _ _ _ e]; rfl, by rw [cell_of_row _ _ _ _ _ _ e]; rfl, by rw [cell_of_row _ _ _ _ _ _ e]; rfl, by rw [cell_of_row _ _ _ _ _ _ e]; rfl, by rw [cell_of_row _ _ _ _ _ _ e]; rfl, by rw [cell_of_row _ _ _ _ _ _ e]; rfl, by rw [cell_of_row _ _ _ _ _ _ e]; rfl⟩
def lotG (X : XW) (ls : List SLot) : XW := X.ghost ls (fun _ p => (p.bids, p.news))
theorem lotG_pls (X : XW) (ls : List SLot) : (lotG X ls).pls = X.pls := by
  apply List.ext_getElem?
  intro i
  simp only [lotG, XW.ghost, List.getElem?_mapIdx]
  cases X.pls[i]? <;> rfl
def newLot (nm : ByteArray) (least ends : Int) : XLot := ⟨nm, ends, least, fun _ => 0⟩

set_option maxRecDepth 100000 in
set_option maxHeartbeats 8000000 in
theorem xoffer_any (w : World) (X : XW) (nm : ByteArray) (least ticks : Int) (hr : RepX w X) (hO : OkX X) (hg : GoodL X.S) (hs : nm.size ≤ 2000000) (hcase : X.lots = [] ∨ openB X.lots nm = true) :
    Calls Tryz.prog 19 #[.pointer (some ⟨X.b, 0, none⟩), .string nm, .int .i64 least, .int .i64 ticks] w fun e w' => e = .returned (.int .i64 (offerS X.S nm least ticks).1) ∧ ∃ X', TurnX w X w' X' ∧ OkX X' ∧ X'.S = (offerS X.S nm least ticks).2 ∧ X'.sales = X.sales ∧ X'.pls = X.pls := by
  have hap : Apart X.lots := hg.lw.apart
  have hol : X.opens.length ≤ 4 := by rw [hO.lot.len]; exact hg.lw.len
  have HI := hidOf (isName_any nm w hs)
  have HS : Hid (∀ wx, Below w.heap.size w wx → Calls Tryz.prog 40 #[.pointer (some ⟨X.b, 0, none⟩), .string nm] wx fun e w' => e = .returned (.tuple #[.int .i64 (placeX X.opens nm), .bool (foundX X.opens nm)]) ∧ Below wx.heap.size wx w') := fun wx h => seek_any wx X nm (hr.below h) (hO.lot.asc hap) hol
  have HT : Hid (∀ wx, Below w.heap.size w wx → TurnX w X wx X) := fun wx h => (TurnX.refl hr).below h
  have HO := hidOf hO
  have hoff : offerS X.S nm least ticks = if nameB nm.data.toList then (if openB X.lots nm then (4, X.S) else if inB least 0 100000 && inB ticks 1 1000 then (if 4 ≤ X.lots.length then (6, X.S) else (0, { X.S with lots := X.lots ++ [⟨nm, least, X.S.now + ticks⟩] })) else (1, X.S)) else (2, X.S) := rfl
  have HOf := hidOf hoff
  have HFo := hidOf (offer_found hO hap nm)
  have HG := hidOf hg
  clear hr hO hoff hap hg
  cases hn : nameB nm.data.toList
  · rw [hn] at HI
    have HE : Hid (offerS X.S nm least ticks = (2, X.S)) := by unfold Hid; rw [HOf.out, hn]; rfl
    go_enter Tryz.func19, Tryz.ntmps19
    go_wp2_with fail
    refine HI.out.mono ?_
    rintro e w1 ⟨rfl, hb⟩
    have T := HT.out w1 hb
    clear hb HI
    go_wp2
    go_ret
    exact ⟨by rw [HE.out]; rfl, X, T, HO.out, by rw [HE.out], rfl, rfl⟩
  · rw [hn] at HI
    go_enter Tryz.func19, Tryz.ntmps19
    go_wp2_with fail
    refine HI.out.mono ?_
    rintro e w1 ⟨rfl, hb1⟩
    have B1 := hidOf hb1
    have HS1 := hidOf (HS.out w1 hb1)
    clear hb1 HI HS
    go_wp2_with fail
    refine HS1.out.mono ?_
    rintro e w2 ⟨rfl, hb2⟩
    have B2 := hidOf (B1.out.trans (hb2.mono B1.out.size))
    clear hb2 HS1 B1
    rw [HFo.out]
    cases ho : openB X.lots nm
    · have hlz : X.lots = [] := by
        rcases hcase with h | h
        · exact h
        · rw [ho] at h; cases h
      have hoz : X.opens = [] := List.eq_nil_of_length_eq_zero (by rw [HO.out.lot.len, hlz]; rfl)
      have hpz : placeX X.opens nm = 0 := by rw [hoz]; rfl
      rw [hpz]
      cases hb : (inB least 0 100000 && inB ticks 1 1000)
      · have HE : Hid (offerS X.S nm least ticks = (1, X.S)) := by unfold Hid; rw [HOf.out, hn, ho, hb]; rfl
        have T := hidOf (HT.out w2 B2.out)
        have HBt : Hid (∀ n lo hi (wx : World), Calls Tryz.prog 41 #[.int .i64 n, .int .i64 lo, .int .i64 hi] wx fun e w' => e = .returned (.bool (inB n lo hi)) ∧ w' = wx) := fun n lo hi wx => between_any n lo hi wx
        cases h1 : inB least 0 100000
        · go_wp2_with fail
          refine (HBt.out least 0 100000 _).mono ?_
          rintro e w' ⟨rfl, h⟩
          rw [h, h1]
          clear h w'
          go_wp2
          go_ret
          exact ⟨by rw [HE.out]; rfl, X, T.out, HO.out, by rw [HE.out], rfl, rfl⟩
        · have h2 : inB ticks 1 1000 = false := by rw [h1] at hb; simpa using hb
          go_wp2_with fail
          refine (HBt.out least 0 100000 _).mono ?_
          rintro e w' ⟨rfl, h⟩
          rw [h, h1]
          clear h w'
          go_wp2_with fail
          refine (HBt.out ticks 1 1000 _).mono ?_
          rintro e w' ⟨rfl, h⟩
          rw [h, h2]
          clear h w'
          go_wp2
          go_ret
          exact ⟨by rw [HE.out]; rfl, X, T.out, HO.out, by rw [HE.out], rfl, rfl⟩
      · have h1 : inB least 0 100000 = true := by cases h : inB least 0 100000 <;> simp [h] at hb ⊢
        have h2 : inB ticks 1 1000 = true := by rw [h1] at hb; simpa using hb
        have hle : 0 ≤ least ∧ least ≤ 100000 := by simp only [inB, Bool.and_eq_true, decide_eq_true_eq] at h1; exact h1
        have hti : 1 ≤ ticks ∧ ticks ≤ 1000 := by simp only [inB, Bool.and_eq_true, decide_eq_true_eq] at h2; exact h2
        have hno := HG.out.now
        have HE : Hid (offerS X.S nm least ticks = (0, { X.S with lots := [⟨nm, least, X.S.now + ticks⟩] })) := by unfold Hid; rw [HOf.out, hn, ho, hb, hlz]; rfl
        have HBt : Hid (∀ n lo hi (wx : World), Calls Tryz.prog 41 #[.int .i64 n, .int .i64 lo, .int .i64 hi] wx fun e w' => e = .returned (.bool (inB n lo hi)) ∧ w' = wx) := fun n lo hi wx => between_any n lo hi wx
        have HCn : Hid (∀ wx, Hid (Below w2.heap.size w2 wx) → Calls Tryz.prog 30 #[.string nm] wx fun e w' => e = .returned (.string nm) ∧ Below wx.heap.size wx w') := fun wx _ => clone_any nm wx hs
        obtain ⟨ao, g, cap, hv, hcap, hmax, rd⟩ := own_rd (HT.out w2 B2.out).rep.lot.1
        rw [hoz] at hv
        have c7 : w2.cell? ⟨X.b, 7, none⟩ = some (.slice ao 0 cap) := by
          have := (HT.out w2 B2.out).rep.cellTop (j := 7) (u := X.vOp) rfl
          rw [this, hv]
          rfl
        have c0 : w2.cell? ⟨X.b, 0, none⟩ = some (.int .i64 X.S.now) := (HT.out w2 B2.out).rep.cellTop rfl
        have hbl : X.b < w2.heap.size := (HT.out w2 B2.out).rep.lt _ xfoot_b
        obtain ⟨now, hnw⟩ : ∃ now, now = X.S.now := ⟨_, rfl⟩
        rw [← hnw] at c0 hno
        have hwr : IntKind.i64.wrap (now + ticks) = now + ticks := by rw [IntKind.wrap_i64]; omega
        have HNw := hidOf hnw
        have HV := hidOf hv
        clear hnw hv rd hcap hmax
        go_wp2_with fail
        refine (HBt.out least 0 100000 _).mono ?_
        rintro e w' ⟨rfl, h⟩
        rw [h, h1]
        clear h w'
        go_wp2_with fail
        refine (HBt.out ticks 1 1000 _).mono ?_
        rintro e w' ⟨rfl, h⟩
        rw [h, h2]
        clear h w'
        go_wp2_with fail
        have HC0 : Hid (∀ wx, Hid (Below w2.heap.size w2 wx) → wx.cell? ⟨X.b, 0, none⟩ = some (.int .i64 now)) := fun wx h => (h.out.cell (p := ⟨X.b, 0, none⟩) hbl).trans c0
        have BX : Hid (∀ wx wy, Hid (Below w2.heap.size w2 wx) → Below wx.heap.size wx wy → Hid (Below w2.heap.size w2 wy)) := fun wx wy h h' => h.out.trans (h'.mono h.out.size)
        have HZ : Hid (∀ wx w5 : World, Below wx.heap.size wx w5 → wx = (w2.alloc (.cells #[.string ⟨#[]⟩, .int .i64 0, .int .i64 0, .int .i64 0, .int .i64 0, .int .i64 0, .int .i64 0] 108)).drew → Hid (w5.heap[w2.heap.size]? = some (.cells #[.string ⟨#[]⟩, .int .i64 0, .int .i64 0, .int .i64 0, .int .i64 0, .int .i64 0, .int .i64 0] 108 (0, 0))) ∧ (∀ j, w5.frozen? ⟨w2.heap.size, j, none⟩ = false) ∧ w5.cell? ⟨w2.heap.size, 0, none⟩ = some (.string ⟨#[]⟩) ∧ w5.cell? ⟨w2.heap.size, 1, none⟩ = some (.int .i64 0) ∧ w5.cell? ⟨w2.heap.size, 2, none⟩ = some (.int .i64 0) ∧ w5.cell? ⟨w2.heap.size, 3, none⟩ = some (.int .i64 0) ∧ w5.cell? ⟨w2.heap.size, 4, none⟩ = some (.int .i64 0) ∧ w5.cell? ⟨w2.heap.size, 5, none⟩ = some (.int .i64 0) ∧ w5.cell? ⟨w2.heap.size, 6, none⟩ = some (.int .i64 0)) := fun wx w5 h e => by
          subst e
          have hn := Go.heap_alloc_new w2 (.cells #[.string ⟨#[]⟩, .int .i64 0, .int .i64 0, .int .i64 0, .int .i64 0, .int .i64 0, .int .i64 0] 108)
          have hn2 : w5.heap[w2.heap.size]? = some (.cells #[.string ⟨#[]⟩, .int .i64 0, .int .i64 0, .int .i64 0, .int .i64 0, .int .i64 0, .int .i64 0] 108 (0, 0)) := (h.block w2.heap.size (lt_of_some hn)).trans hn
          exact ⟨hn2, fun j => by simp [World.frozen?, hn2], by rw [cell_of_row _ _ _ _ _ _ hn2]; rfl, by rw [cell_of_row _ _ _ _ _ _ hn2]; rfl, by rw [cell_of_row _ _ _ _ _ _ hn2]; rfl, by rw [cell_of_row _ _ _ _ _ _ hn2]; rfl, by rw [cell_of_row _ _ _ _ _ _ hn2]; rfl, by rw [cell_of_row _ _ _ _ _ _ hn2]; rfl, by rw [cell_of_row _ _ _ _ _ _ hn2]; rfl⟩
        go_cut [11] (fun p wc => ∃ lb, p = .pointer (some ⟨lb, 0, none⟩) ∧ Hid (Below w2.heap.size w2 wc) ∧ LotAt wc lb 0 (newLot nm least (now + ticks)))
        case first =>
          have B5 : Hid (Below w2.heap.size w2 w2.drew) := (Below.refl _ _).drew
          have S5 := HC0.out _ B5
          have BZ : Hid (Below w2.heap.size w2 (w2.alloc (.cells #[.string ⟨#[]⟩, .int .i64 0, .int .i64 0, .int .i64 0, .int .i64 0, .int .i64 0, .int .i64 0] 108)).drew) := ((Below.refl _ _).alloc (Nat.le_refl _) _).drew
          have SZ := HC0.out _ BZ
          have HC1 : Hid (Calls Tryz.prog 30 #[.string nm] w2.drew fun e w' => e = .returned (.string nm) ∧ Hid (Below w2.heap.size w2 w') ∧ w'.cell? ⟨X.b, 0, none⟩ = some (.int .i64 now) ∧ X.b < w'.heap.size) := (clone_any nm w2.drew hs).mono (fun e w' h => ⟨h.1, BX.out _ _ B5 h.2, HC0.out _ (BX.out _ _ B5 h.2), Nat.lt_of_lt_of_le hbl (BX.out _ _ B5 h.2).out.size⟩)
          have HC2 : Hid (Calls Tryz.prog 30 #[.string nm] ((w2.alloc (.cells #[.string ⟨#[]⟩, .int .i64 0, .int .i64 0, .int .i64 0, .int .i64 0, .int .i64 0, .int .i64 0] 108)).drew) fun e w' => e = .returned (.string nm) ∧ Hid (Below w2.heap.size w2 w') ∧ w'.cell? ⟨X.b, 0, none⟩ = some (.int .i64 now) ∧ Hid (w'.heap[w2.heap.size]? = some (.cells #[.string ⟨#[]⟩, .int .i64 0, .int .i64 0, .int .i64 0, .int .i64 0, .int .i64 0, .int .i64 0] 108 (0, 0))) ∧ (∀ j, w'.frozen? ⟨w2.heap.size, j, none⟩ = false) ∧ w'.cell? ⟨w2.heap.size, 0, none⟩ = some (.string ⟨#[]⟩) ∧ w'.cell? ⟨w2.heap.size, 1, none⟩ = some (.int .i64 0) ∧ w'.cell? ⟨w2.heap.size, 2, none⟩ = some (.int .i64 0) ∧ w'.cell? ⟨w2.heap.size, 3, none⟩ = some (.int .i64 0) ∧ w'.cell? ⟨w2.heap.size, 4, none⟩ = some (.int .i64 0) ∧ w'.cell? ⟨w2.heap.size, 5, none⟩ = some (.int .i64 0) ∧ w'.cell? ⟨w2.heap.size, 6, none⟩ = some (.int .i64 0)) := (clone_any nm ((w2.alloc (.cells #[.string ⟨#[]⟩, .int .i64 0, .int .i64 0, .int .i64 0, .int .i64 0, .int .i64 0, .int .i64 0] 108)).drew) hs).mono (fun e w' h => ⟨h.1, BX.out _ _ BZ h.2, HC0.out _ (BX.out _ _ BZ h.2), HZ.out _ _ h.2 rfl⟩)
          have hXw : X.b ≠ w2.heap.size := by omega
          clear HE HV HNw HT HO HG HOf HFo HBt c7 c0 hle hti hno hb h1 h2 ho hlz hoz hpz hol hcase HZ HCn
          go_region_held3 (fun w' => w'.cell? ⟨X.b, 0, none⟩ = some (.int .i64 now)) (first | with_reducible assumption | go_keep | (with_reducible refine (World.cell?_alloc_past _ X.b 0 (by with_reducible assumption)).trans ?_; with_reducible assumption) | (with_reducible refine (far7 hXw _ _ _ _ _ _ _).trans ?_; with_reducible assumption)) (first | (go_at_call 30; with_reducible refine HC1.out.mono ?_; rintro e w5 ⟨rfl, B6, S6, hx6⟩) | (go_at_call 30; with_reducible refine HC2.out.mono ?_; rintro e w5 ⟨rfl, B6, S6, zz, zf, z0, z1, z2, z3, z4, z5, z6⟩))
          · go_wp2_with fail
            go_meet
            exact ⟨_, rfl, BX.out _ _ B6 ((Below.refl _ _).alloc (Nat.le_refl _) _), lotNew (newLot nm least (now + ticks))⟩
          · go_wp2_with fail
            go_meet
            exact ⟨_, rfl, ((((((B6.out.setCell (p := ⟨w2.heap.size, 0, none⟩) (Nat.le_refl _) _).setCell (p := ⟨w2.heap.size, 1, none⟩) (Nat.le_refl _) _).setCell (p := ⟨w2.heap.size, 2, none⟩) (Nat.le_refl _) _).setCell (p := ⟨w2.heap.size, 3, none⟩) (Nat.le_refl _) _).setCell (p := ⟨w2.heap.size, 4, none⟩) (Nat.le_refl _) _).setCell (p := ⟨w2.heap.size, 5, none⟩) (Nat.le_refl _) _).setCell (p := ⟨w2.heap.size, 6, none⟩) (Nat.le_refl _) _, lot7 zz.out (newLot nm least (now + ticks))⟩
        case rest =>
          obtain ⟨lb, rfl, Bc, LA⟩ := hcut
          obtain ⟨l0, l1, l2, l3, l4, l5, l6⟩ := LA
          simp only [newLot] at l0 l1 l2 l3 l4 l5 l6
          have hbw : X.b < wc.heap.size := Nat.lt_of_lt_of_le hbl Bc.out.size
          have k7 : wc.cell? ⟨X.b, 7, none⟩ = some (.slice ao 0 cap) := (Bc.out.cell (p := ⟨X.b, 7, none⟩) hbl).trans c7
          have a7 : ∀ o, (wc.drew.alloc o).cell? ⟨X.b, 7, none⟩ = some (.slice ao 0 cap) := fun o => (World.cell?_alloc_past (w := wc.drew) o X.b 7 hbw).trans k7
          have Tc := hidOf ((HT.out w2 B2.out).below Bc.out)
          have f7 : wc.frozen? ⟨X.b, 7, none⟩ = false := Tc.out.rep.frozenTop 7
          have HW : Hid (∀ o, TurnX w X (wc.drew.alloc o) X) := fun o => Tc.out.drew.below ((Below.refl _ _).alloc (Nat.le_refl _) _)
          have HFin : Hid (∀ (o : Obj) (gr cp : Nat) (w6 : World), w6.ownsRow 0 108 7 (.slice (some ⟨gr, 0, none⟩) (0 + 1) cp) (0 + 1) ([] ++ xlotCells (newLot nm least (now + ticks))) → (wc.drew.alloc o).grownBy w6 (Value.slice ao 0 cap).ownBlock → ((Value.slice ao 0 cap).ownBlock = some gr ∨ gr = (wc.drew.alloc o).heap.size) → ∃ X', TurnX w X (w6.setCell ⟨X.b, 7, none⟩ (.slice (some ⟨gr, 0, none⟩) (0 + 1) cp)) X' ∧ OkX X' ∧ X'.S = (offerS X.S nm least ticks).2 ∧ X'.sales = X.sales ∧ X'.pls = X.pls) := fun o gr cp w6 h1 h2 h3 => by
            have hv := HV.out
            have T6 := (HW.out o).addLot (newLot nm least (now + ticks)) (gr := gr) (cap := cp) (w6 := w6) (by rw [hv]; exact h2) (by rw [hoz]; exact h1) (by rw [hv]; exact h3.imp id (fun e => Nat.le_of_eq e.symm))
            rw [hoz] at T6
            have hpl : ∀ Y : XW, (lotG Y (X.lots ++ [⟨nm, least, now + ticks⟩])).pls = Y.pls := fun Y => lotG_pls Y _
            refine ⟨lotG _ (X.lots ++ [⟨nm, least, now + ticks⟩]), T6.ghost _ _, ⟨?_, HO.out.ore, HO.out.dist, ?_⟩, ?_, rfl, hpl _⟩
            · rw [hpl]
              exact HO.out.st
            · rw [hpl]
              have := HO.out.lot.offer (now := X.S.now) (by have := HG.out.lw; simpa [XW.S, Function.comp_def] using this) nm least (now + ticks) (openB_no ho)
              rw [hoz] at this
              exact this
            · rw [HE.out]
              have e1 : (lotG (X.withL (.slice (some ⟨gr, 0, none⟩) (([] : List XLot).length + 1) cp) ([] ++ [newLot nm least (now + ticks)]) X.vCl X.sales (opnR1 X gr)) (X.lots ++ [⟨nm, least, now + ticks⟩])).S.players = X.S.players := by
                show List.map _ _ = List.map _ _
                rw [hpl]
                rfl
              have e2 : (lotG (X.withL (.slice (some ⟨gr, 0, none⟩) (([] : List XLot).length + 1) cp) ([] ++ [newLot nm least (now + ticks)]) X.vCl X.sales (opnR1 X gr)) (X.lots ++ [⟨nm, least, now + ticks⟩])).S = { X.S with players := (lotG (X.withL (.slice (some ⟨gr, 0, none⟩) (([] : List XLot).length + 1) cp) ([] ++ [newLot nm least (now + ticks)]) X.vCl X.sales (opnR1 X gr)) (X.lots ++ [⟨nm, least, now + ticks⟩])).S.players, lots := X.lots ++ [⟨nm, least, now + ticks⟩] } := rfl
              rw [e2, e1, hlz, HNw.out]
              rfl
          have hown0 : Hid (∀ o, (wc.drew.alloc o).ownsRow 0 108 7 (.slice ao 0 cap) 0 []) := fun o => by
            have := (HW.out o).rep.lot.1
            rw [HV.out, hoz] at this
            exact this
          have hneX : Hid ((Value.slice ao 0 cap).ownBlock ≠ some X.b) := by
            intro e
            have e1 := Tc.out.rep.roles.lot.1 X.b (by rw [HV.out]; show X.b ∈ blk (Value.slice ao 0 cap); simp [blk, e])
            rw [Tc.out.rep.roles.b] at e1
            cases e1
          have HIn : Hid (∀ wx, wx = wc.drew.alloc (.cells #[.string nm, .int .i64 (now + ticks), .int .i64 least, .int .i64 0, .int .i64 0, .int .i64 0, .int .i64 0] 108) → Calls Tryz.prog 42 #[.slice ao 0 cap, .int .i64 0, .slice (some ⟨wc.heap.size, 0, none⟩) 1 1] wx fun e w' => ∃ gr cp, e = .returned (.slice (some ⟨gr, 0, none⟩) (0 + 1) cp) ∧ w'.cell? ⟨X.b, 7, none⟩ = some (.slice ao 0 cap) ∧ w'.frozen? ⟨X.b, 7, none⟩ = false ∧ Hid (∃ X', TurnX w X (w'.setCell ⟨X.b, 7, none⟩ (.slice (some ⟨gr, 0, none⟩) (0 + 1) cp)) X' ∧ OkX X' ∧ X'.S = (offerS X.S nm least ticks).2 ∧ X'.sales = X.sales ∧ X'.pls = X.pls)) := fun wx hwx => by
            subst hwx
            have hn : (wc.drew.alloc (.cells #[.string nm, .int .i64 (now + ticks), .int .i64 least, .int .i64 0, .int .i64 0, .int .i64 0, .int .i64 0] 108)).heap[wc.heap.size]? = some (.cells #[.string nm, .int .i64 (now + ticks), .int .i64 least, .int .i64 0, .int .i64 0, .int .i64 0, .int .i64 0] 108 (0, 0)) := Go.heap_alloc_new wc.drew (.cells #[.string nm, .int .i64 (now + ticks), .int .i64 least, .int .i64 0, .int .i64 0, .int .i64 0, .int .i64 0] 108)
            refine (insert_end _ ao 0 cap wc.heap.size [] (xlotCells (newLot nm least (now + ticks))) (hown0.out _) (by omega) rfl (fun j u hu => by rw [cell_of_row _ _ _ _ _ _ hn]; simpa [xlotCells, newLot] using hu) (by intro u hu; simp [xlotCells] at hu; rcases hu with rfl | rfl | rfl | rfl | rfl | rfl | rfl <;> rfl)).mono ?_
            rintro e w' ⟨gr, cp, rfl, h1, h2, h3⟩
            obtain ⟨q1, q2⟩ := keepOther (w5 := wc) (((Below.refl _ wc).drew).alloc (Nat.le_refl _) (.cells #[.string nm, .int .i64 (now + ticks), .int .i64 least, .int .i64 0, .int .i64 0, .int .i64 0, .int .i64 0] 108)) h2 hbw (Ne.symm hneX.out) 7
            exact ⟨gr, cp, rfl, q1.trans k7, q2.trans f7, HFin.out _ gr cp w' h1 h2 h3⟩
          clear HFin hown0 hneX HW Tc HT HO HG HOf
          go_wp2_with fail
          go_region_with (go_at_call 42; refine (HIn.out _ rfl).mono ?_; rintro e w6 ⟨gr, cp, rfl, q1, q2, HX6⟩)
          all_goals
            go_wp2
            go_ret
            exact ⟨by rw [HE.out]; rfl, HX6.out⟩
    · have HE : Hid (offerS X.S nm least ticks = (4, X.S)) := by unfold Hid; rw [HOf.out, hn, ho]; rfl
      have T := hidOf (HT.out w2 B2.out)
      go_wp2
      go_ret
      exact ⟨by rw [HE.out]; rfl, X, T.out, HO.out, by rw [HE.out], rfl, rfl⟩
end Go.Proofs.YtlafddeoheambaaGreatDoor
