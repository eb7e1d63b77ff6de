/-
  The function Insert of package slices, at a list's end; a lot more, at the end.
-/
import Derived.Test.YtlafddeoheambaaDoorT22
import Derived.Test.YtlafddeoheambaaDoorT16
import Derived.Lib.Atoi
set_option linter.unusedVariables false
namespace Go.Proofs.YtlafddeoheambaaDoor
open Go.RowKit

set_option maxRecDepth 100000 in
set_option maxHeartbeats 2000000 in
theorem insert_end (w : World) (ao : Option Addr) (n cap gn : Nat) (xs ys : List Value) (hown : w.ownsRow 0 93 7 (.slice ao n cap) n xs) (hn : n ≤ 4) (hy : ys.length = 7) (hc : ∀ (j : Nat) u, ys[j]? = some u → w.cell? ⟨gn, j, none⟩ = some u) (h1 : ∀ u ∈ ys, u.oneCell' = true) :
    Calls Tryd.prog 34 #[.slice ao n cap, .int .i64 n, .slice (some ⟨gn, 0, none⟩) 1 1] w fun e w' => ∃ gr cp, e = .returned (.slice (some ⟨gr, 0, none⟩) (n + 1) cp) ∧ w'.ownsRow 0 93 7 (.slice (some ⟨gr, 0, none⟩) (n + 1) cp) (n + 1) (xs ++ ys) ∧ w.grownBy w' (Value.slice ao n cap).ownBlock ∧ ((Value.slice ao n cap).ownBlock = some gr ∨ gr = w.heap.size) := by
  obtain ⟨i0, hi0, hz0, hz1, hz2⟩ := info_parts Tryd.infoLot
  have hcm : n ≤ cap ∧ cap ≤ 9223372036854775807 := by
    rcases own_form hown with ⟨h, h0, _⟩ | ⟨g', c', h, h1, h2, _⟩
    · injection h with _ _ h
      exact ⟨by omega, by omega⟩
    · injection h with _ _ h
      unfold maxLen at h2
      exact ⟨by omega, by omega⟩
  obtain ⟨hcm1, hcm2⟩ := hcm
  have HOw := hidOf hown
  have HY := hidOf hc
  have H1 := hidOf h1
  have hnn : ((n : Int) == (n : Int)) = true := by simp
  clear hown hc h1
  rcases own_form HOw.out with ⟨h, h0, hx⟩ | ⟨g', c', h, _, _, _⟩
  · injection h with ha _ hcc
    subst ha h0 hx
    go_enter Tryd.func34, Tryd.ntmps34
    go_wp2_with (at_builtin; refine wpList_append_lies _ rfl _ _ _ rfl 0 93 i0 _ 7 64 Tryd.underlying70 hi0 hz0 hz1 hz2 rfl (by omega) (.slice none 0 cap) 0 [] rfl (by exact HOw.out) ⟨gn, 0, none⟩ 1 1 ys rfl (by rw [hy]) (by intro j u hu; rw [Lib.add_plain, Nat.zero_add]; exact HY.out j u hu) (by exact H1.out) (by omega) (by unfold maxLen; omega) (by omega) (by omega) w.heap.size rfl ?_; intro gr cp w6 hown1 hgrow hat hlt6)
    all_goals
      go_ret
      exact ⟨gr, cp, rfl, hown1, hgrow, hat⟩
  · injection h with ha _ hcc
    subst ha
    go_enter Tryd.func34, Tryd.ntmps34
    go_wp2_with (at_builtin; refine wpList_append_lies _ rfl _ _ _ rfl 0 93 i0 _ 7 64 Tryd.underlying70 hi0 hz0 hz1 hz2 rfl (by omega) (.slice (some ⟨g', 0, none⟩) n cap) n xs rfl (by exact HOw.out) ⟨gn, 0, none⟩ 1 1 ys rfl (by rw [hy]) (by intro j u hu; rw [Lib.add_plain, Nat.zero_add]; exact HY.out j u hu) (by exact H1.out) (by omega) (by unfold maxLen; omega) (by omega) (by omega) w.heap.size rfl ?_; intro gr cp w6 hown1 hgrow hat hlt6)
    all_goals
      go_ret
      exact ⟨gr, cp, rfl, hown1, hgrow, hat⟩
def opnR1 (X : XW) (g : Nat) : Nat → Role := fun r => if r = g then .opn else X.R r
/-- A lot more, at the end of the list. -/
theorem TurnX.addLot {w0 w w6 : World} {X0 X : XW} (T : TurnX w0 X0 w X) (l : XLot) {gr cap : Nat} (hg : w.grownBy w6 X.vOp.ownBlock)
    (ho : w6.ownsRow 0 93 7 (.slice (some ⟨gr, 0, none⟩) (X.opens.length + 1) cap) (X.opens.length + 1) (X.opens.flatMap xlotCells ++ xlotCells l)) (hat : X.vOp.ownBlock = some gr ∨ w.heap.size ≤ gr) :
    TurnX w0 X0 (w6.setCell ⟨X.b, 7, none⟩ (.slice (some ⟨gr, 0, none⟩) (X.opens.length + 1) cap)) (X.withL (.slice (some ⟨gr, 0, none⟩) (X.opens.length + 1) cap) (X.opens ++ [l]) X.vCl X.sales (opnR1 X gr)) := by
  have R := T.rep.roles
  have lt := T.rep.lt
  have hop : gr ∈ blk X.vOp ∨ w.heap.size ≤ gr := hat.imp (fun h => by simp [blk, h]) id
  have ngr : ∀ r ∈ X.foot, r ∉ blk X.vOp → r ≠ gr := by
    rintro r hr hn rfl
    rcases hop with h | h
    · exact hn h
    · have := lt r hr; omega
  have nb : X.b ∉ blk X.vOp := fun hm => by have := R.lot.1 _ hm; rw [R.b] at this; cases this
  have ncl : ∀ r ∈ blk X.vCl, r ∉ blk X.vOp ∧ r ≠ X.b ∧ r ∈ X.foot := by
    intro r hr
    have h1 := R.lot.2 r hr
    refine ⟨(fun hm => by have := R.lot.1 _ hm; rw [h1] at this; cases this), ?_, by simp [XW.foot, hr]⟩
    rintro rfl
    rw [R.b] at h1
    cases h1
  have old : ∀ r, r < w.heap.size → r ∉ blk X.vOp → w6.heap[r]? = w.heap[r]? := fun r hr hn => hg.block r hr (fun e => hn (by simp [blk, ← e]))
  have ht : (w6.setCell ⟨X.b, 7, none⟩ (.slice (some ⟨gr, 0, none⟩) (X.opens.length + 1) cap)).heap[X.b]? = some (.cells (X.withL (.slice (some ⟨gr, 0, none⟩) (X.opens.length + 1) cap) (X.opens ++ [l]) X.vCl X.sales (opnR1 X gr)).cells 73 (0, 0)) := by
    rw [cells_set (show w6.heap[X.b]? = some (.cells X.cells 73 (0, 0)) by rw [old _ (lt _ xfoot_b) nb]; exact T.rep.top)]
    rfl
  have hrep := T.rep.withL (v := .slice (some ⟨gr, 0, none⟩) (X.opens.length + 1) cap) (l := X.opens ++ [l]) (v' := X.vCl) (l' := X.sales) (R' := opnR1 X gr)
    (w' := w6.setCell ⟨X.b, 7, none⟩ (.slice (some ⟨gr, 0, none⟩) (X.opens.length + 1) cap))
    (fun r hr hb hn _ => by rw [setCell_far _ _ _ _ r hb, old r (lt r hr) hn]) ht
    ⟨by
      have e1 : (X.opens ++ [l]).length = X.opens.length + 1 := by simp
      have e2 : (X.opens ++ [l]).flatMap xlotCells = X.opens.flatMap xlotCells ++ xlotCells l := by simp
      rw [e1, e2]
      refine own_same ho (fun r hr => setCell_far _ _ _ _ r ?_)
      have : r = gr := by simpa [blk_slice] using hr
      rw [this]
      exact Ne.symm (ngr _ xfoot_b nb), own_same T.rep.lot.2 (fun r hr => by obtain ⟨h1, h2, h3⟩ := ncl r hr; rw [setCell_far _ _ _ _ r h2, old r (lt r h3) h1])⟩
    (fun r hr hn _ => by unfold opnR1; rw [if_neg (ngr r hr hn)])
    ⟨fun r hr => by
      have : r = gr := by simpa [blk_slice] using hr
      unfold opnR1
      rw [if_pos this], fun r hr => by unfold opnR1; rw [if_neg (ngr r (ncl r hr).2.2 (ncl r hr).1)]; exact R.lot.2 r hr⟩
  refine T.withL hrep ⟨hg.os, hg.tape, hg.output, ?_, fun k hk hn => ?_⟩ (fun r hr => ?_) (fun r hr => .inl (ncl r hr).2.2)
  · show w.heap.size ≤ (w6.setCell _ _).heap.size
    rw [World.setCell]
    simp only [Array.size_modify]
    exact hg.size
  · have h1 : k ≠ X.b := fun e => hn (by rw [e]; exact xfoot_b)
    rw [setCell_far _ _ _ _ k h1, old k hk (fun hm => hn (by simp [XW.foot, hm]))]
  · have : r = gr := by simpa [blk_slice] using hr
    rw [this]
    rcases hop with h | h
    · exact .inl (by simp [XW.foot, h])
    · exact .inr h
end Go.Proofs.YtlafddeoheambaaDoor

/-
  The function Tick of package haze, where lots may be open; what a keep holds of such a world.
-/
namespace Go.Proofs.YtlafddeoheambaaDoor
open Go.RowKit

/-- What closeLots does at a Tick's end. -/
def CloseSale (s : SWorld) : Prop := ∀ w1 X1, RepX w1 X1 → OkX X1 → X1.S = s → (∀ p ∈ s.players, p.news = []) →
  Calls Tryd.prog 25 #[.pointer (some ⟨X1.b, 0, none⟩)] w1 fun e w' => e = .returned (.tuple #[]) ∧ ∃ X', TurnX w1 X1 w' X' ∧ OkX X' ∧ X'.S = closeS s ∧ NewsOK X' ∧ SaleOK X'.sales
theorem closeSale_any {s : SWorld} (h : GoodL s) (hn : s.now < 1000) : CloseSale (midS s) := by
  intro w1 X1 hr hO hS hnw
  have hm := h.mid
  have hlots : (midS s).lots = s.lots := (tickTo_len s s.players.length).2.2
  have hl : X1.lots = s.lots := by
    have : X1.S.lots = (midS s).lots := by rw [hS]
    exact this.trans hlots
  have hpl : X1.S.players.length = X1.pls.length := by simp [XW.S]
  have hbss : X1.pls.map (·.1.bids) = X1.S.players.map (·.bids) := by simp [XW.S, Function.comp_def]
  have hbd : ∀ l ∈ X1.opens, ∀ i, 0 ≤ l.bid i ∧ l.bid i ≤ 100000 := by
    intro l hl' i
    rw [hO.lot.bid l hl' i, hbss]
    unfold bidAt
    cases hq : (X1.S.players.map (·.bids))[i]? with
    | none => simp [bidI]
    | some bs =>
      obtain ⟨p, hp, rfl⟩ := List.mem_map.1 (List.mem_of_getElem? hq)
      rw [hS] at hp
      exact bidI_le (hm.bo p hp) l.name
  have hwf : WFS X1.S (100 + 1800 * (s.now + 1)) := by rw [hS]; exact hm.wf
  have hno := h.now
  have hA : ClA X1 := by
    refine ⟨by rw [← hpl]; exact hwf.pl, fun p hp => ?_, by rw [hl]; exact h.lw.apart, by rw [hl]; exact h.lw.len, by rw [hl]; exact h.lw.lst, fun l hl' => ?_, hbd⟩
    · have := (hwf.each p hp).mo
      omega
    · rw [hl] at hl'
      have := h.lw.ends l hl'
      rw [hS]
      show s.now + 1 ≤ l.ends
      omega
  refine (xclose_any w1 X1 hr hO (by rw [hS]; exact hnw) hA).mono ?_
  rintro e w' ⟨rfl, X', T, O, S, N, L⟩
  refine ⟨rfl, X', T, O, by rw [S, hS], N, ?_⟩
  rw [L]
  have hsub : ∀ l ∈ dueTo X1.opens X1.S.now X1.opens.length, l ∈ X1.opens := fun l hl' => List.mem_of_mem_take (List.mem_filter.1 hl').1
  refine ⟨?_, fun x hx => ?_⟩
  · rw [List.length_map]
    unfold dueTo
    have h1 := List.length_filter_le (fun l => !openX X1.S.now l) (X1.opens.take X1.opens.length)
    have h2 := List.length_take_le X1.opens.length X1.opens
    have h3 := hO.lot.len
    rw [hl] at h3
    have := h.lw.len
    omega
  · obtain ⟨l, hl', rfl⟩ := List.mem_map.1 hx
    have hlo := hsub l hl'
    have hll := hO.lot.mem hlo
    rw [hl] at hll
    have hb4 := close_bd l.bid l.least 4
    have h0 := fun i => (hbd l hlo i).1
    obtain ⟨c1, c2, c3, c4⟩ := close_high (bid := l.bid) (least := l.least) h0 4
    have hle := h.lw.lst _ hll
    have hnmz := h.nm.l _ hll
    refine ⟨hb4.1, ?_, ?_, ?_, hnmz⟩
    · show (closeTo l.bid l.least 4).1 ≤ 4
      omega
    · show 0 ≤ (closeTo l.bid l.least 4).2.1
      rcases winI_form l.bid l.least 4 with hw | ⟨k, _, hw, _, _⟩
      · rw [c4 (by omega)]
        omega
      · rw [c3 (by omega)]
        have := pays_le hw
        have h3 : (lotOf l).least = l.least := rfl
        omega
    · show (closeTo l.bid l.least 4).2.1 ≤ 100000
      rcases winI_form l.bid l.least 4 with hw | ⟨k, _, hw, _, _⟩
      · rw [c4 (by omega)]
        omega
      · rw [c3 (by omega)]
        have := pays_le hw
        have := hbd l hlo k
        omega

set_option maxRecDepth 100000 in
set_option maxHeartbeats 8000000 in
theorem xtick_close (w : World) (X : XW) (M : Int) (hr : RepX w X) (hA : AllX X M) (hM : M ≤ 1000000000) (hn : 0 ≤ X.now ∧ X.now < 1000) (hcd : CloseSale { tickTo X.S X.S.players.length with now := X.S.now + 1 }) :
    Calls Tryd.prog 10 #[.pointer (some ⟨X.b, 0, none⟩)] w fun e w' => e = .returned (.int .i64 0) ∧ ∃ X', TurnX w X w' X' ∧ OkX X' ∧ X'.S = tickS X.S ∧ NewsOK X' ∧ SaleOK X'.sales := by
  have HCD := hidOf hcd
  clear hcd
  obtain ⟨hn0, hn1⟩ := hn
  have c3 : w.cell? ⟨X.b, 0, none⟩ = some (.int .i64 X.now) := hr.cellTop rfl
  have hpl : X.S.players.length = X.pls.length := by simp [XW.S]
  have h4 := hA.wf.pl
  rw [hpl] at h4
  obtain ⟨pb0, pcap0, hvp0, hpc0, hpm0⟩ := hr.plForm h4.1
  have c50 : w.cell? ⟨X.b, 6, none⟩ = some (.slice (some ⟨pb0, 0, none⟩) X.pls.length pcap0) := by rw [← hvp0]; exact hr.cellTop rfl
  have hc0 : (X.now == 1000) = false := beq_eq_false_iff_ne.2 (by omega)
  have HA := hidOf hA
  clear hA hvp0
  go_enter Tryd.func10, Tryd.ntmps10
  go_wp2
  go_loopw [3, 5, 16] (fun _ _ i w' => ∃ (k : Nat) (Xk : XW), k ≤ X.pls.length ∧ i = .int .i64 k ∧ TurnX w X w' Xk ∧ OkX Xk ∧ Hid (Xk.S = tickTo X.S k)) (fun _ _ i _ => X.pls.length + 1 - (intOf i).toNat)
  case atStart => exact ⟨0, X, Nat.zero_le _, rfl, TurnX.refl hr, HA.out.ok, rfl⟩
  case round =>
    clear c3 c50
    obtain ⟨k, Xp, hk, rfl, T, O, HS⟩ := hrel
    by_cases hlt : k < X.pls.length
    · obtain ⟨Xk, hXk⟩ : ∃ Xk, Xk = Xp.clearG k := ⟨_, rfl⟩
      have HSc : Hid (Xk.S = clearN (tickTo X.S k) k) := by unfold Hid; rw [hXk, clearG_S, HS.out]
      have Tc : TurnX w X wr Xk := by rw [hXk]; exact T.ghost _ _
      have Oc : OkX Xk := by rw [hXk]; exact O.clearG k
      clear hXk T O HS
      have hlen : Xk.pls.length = X.pls.length := by
        have e := (clearN_len (tickTo X.S k) k).1.trans (tickTo_len X.S k).1
        rw [← HSc.out] at e
        simpa [XW.S] using e
      have hb : Xk.b = X.b := Tc.b
      obtain ⟨pb, pcap, hvp, hpc, hpm⟩ := Tc.rep.plForm (by omega)
      unfold maxLen at hpm
      have c5 : wr.cell? ⟨X.b, 6, none⟩ = some (.slice (some ⟨pb, 0, none⟩) X.pls.length pcap) := by rw [← hb, ← hlen, ← hvp]; exact Tc.rep.cellTop rfl
      obtain ⟨p, v, hq⟩ := xat_of_lt (X := Xk) (n := k) (by omega)
      have hm1 := (Tc.rep.plCell hq hvp).2
      have hwk : WFS Xk.S (M + 450 * k) := by rw [HSc.out]; exact (HA.out.wf.tickTo k).clearN k
      have HAk : Hid (AllX Xk (M + 450 * k)) := ⟨hwk, Oc, lw_S HA.out.lw (by rw [HSc.out]; exact (clearN_bids _ k).trans (tickTo_bids X.S k)) (by rw [HSc.out]; exact (clearN_len _ k).2.2.trans (tickTo_len X.S k).2.2) (by rw [HSc.out]; exact (clearN_len _ k).2.1.trans (tickTo_len X.S k).2.1)⟩
      have hun := (hwk.each p (List.mem_of_getElem? (XS_at hq))).un
      have hle := (Tc.rep.each k _ hq).len
      simp only at hle
      rcases own_form (Tc.rep.each k _ hq).row with ⟨_, h0, _⟩ | ⟨ub, ucap, hvu, huc, hum, hub⟩
      · simp only at h0; omega
      simp only at hvu huc
      unfold maxLen at hum
      rw [hvu] at hm1
      have HVU := hidOf hvu
      have HQ := hidOf hq
      have HT := hidOf (show tickTo X.S (k + 1) = playerS (tickTo X.S k) k from rfl)
      have HR := hidOf Tc.rep
      have HLE := hidOf hle
      have HB := hidOf hb
      clear hwk hvp hvu hq hpl hlen hle hb
      go_wp2
      go_loopw [5, 28] (fun _ i w' => ∃ (j : Nat) (Xj : XW), j ≤ v.us.length ∧ i = .int .i64 j ∧ TurnX wr Xk w' Xj ∧ OkX Xj ∧ Hid (Xj.S = unitsTo Xk.S k j)) (fun _ i _ => v.us.length + 1 - (intOf i).toNat)
      case atStart => exact ⟨0, Xk, Nat.zero_le _, rfl, TurnX.refl Tc.rep, Oc, rfl⟩
      case round =>
        clear c5 hm1
        obtain ⟨j, Xj, hj, rfl, Tj, Oj, HSj⟩ := hrel
        by_cases hlt1 : j < v.us.length
        · obtain ⟨xg, hcell, HD0⟩ := tickRound (X := X) HR.out HAk.out (by omega) HQ.out HVU.out hlt1 Tj HSj.out Oj (Tj.b.trans HB.out)
          have HD := hidOf HD0
          clear HD0
          go_wp2_with (go_at_call 24; refine HD.out.mono ?_; rintro e w' ⟨rfl, X', T', O', HS'⟩)
          exact ⟨⟨j + 1, X', by omega, by go_num, T', O', HS'⟩, by simp [intOf]; omega⟩
        · have hjm : j = v.us.length := by omega
          have HE : Hid (Xj.S = tickTo X.S (k + 1)) := by
            unfold Hid
            rw [HT.out, HSj.out]
            unfold playerS
            rw [← HSc.out]
            have e : unitsN Xk.S k = v.us.length := by
              unfold unitsN
              rw [XS_at HQ.out]
              exact HLE.out.symm
            rw [e, hjm]
          clear hjm
          go_wp2
          exact ⟨⟨k + 1, Xj, by omega, by go_num, Tc.trans Tj, Oj, HE⟩, by simp [intOf]; omega⟩
    · have hkl : k = X.pls.length := by omega
      have hlen : Xp.pls.length = X.pls.length := by
        have e := (tickTo_len X.S k).1
        rw [← HS.out] at e
        simpa [XW.S] using e
      have hb : Xp.b = X.b := T.b
      have e2 := tickTo_len X.S k
      have hnow : Xp.now = X.now := by rw [← HS.out] at e2; exact e2.2.1
      have c3 : wr.cell? ⟨X.b, 0, none⟩ = some (.int .i64 X.now) := by rw [← hb, ← hnow]; exact T.rep.cellTop rfl
      have fz : wr.frozen? ⟨X.b, 0, none⟩ = false := by rw [← hb]; exact T.rep.frozenTop 0
      have HE : Hid ((Xp.withNow (X.now + 1)).S = { tickTo X.S X.S.players.length with now := X.S.now + 1 }) := by
        unfold Hid
        rw [hpl, ← hkl, ← HS.out]
        rfl
      have T9 := hidOf (T.now1 (X.now + 1))
      rw [hb] at T9
      have HC := hidOf (HCD.out _ _ T9.out.rep ⟨O.st, O.ore, O.dist, O.lot⟩ HE.out (tickTo_all X.S))
      have e9 : (Xp.withNow (X.now + 1)).b = X.b := hb
      rw [e9] at HC
      clear hkl e2 hnow hb hlen e9
      go_wp2_with (go_at_call 25; refine HC.out.mono ?_; rintro e w' ⟨rfl, X', T', O', S', N', L'⟩)
      go_ret
      exact ⟨rfl, X', T9.out.trans T', O', S', N', L'⟩
theorem GoodL.allX {X : XW} (h : GoodL X.S) (ho : OkX X) : AllX X (100 + 1800 * X.S.now) := ⟨h.wf, ho, by have := h.lw; simpa [XW.S, Function.comp_def] using this⟩
theorem GoodL.tickN {s : SWorld} (h : GoodL s) : GoodL (tickN s) := by
  unfold Proofs.YtlafddeoheambaaDoor.tickN
  split
  · exact h
  · exact h.tick (by have := h.now.2; omega)
theorem xtick_l (w : World) (X : XW) (hr : RepX w X) (ho : OkX X) (hg : GoodL X.S) (hN : NewsOK X) (hsl : SaleOK X.sales) :
    Calls Tryd.prog 10 #[.pointer (some ⟨X.b, 0, none⟩)] w fun e w' => e = .returned (.int .i64 (tickC X.S)) ∧ ∃ X', TurnX w X w' X' ∧ OkX X' ∧ X'.S = tickN X.S ∧ NewsOK X' ∧ SaleOK X'.sales := by
  unfold tickC tickN
  have hn := hg.now
  have e : X.S.now = X.now := rfl
  by_cases h : X.S.now = 1000
  · rw [if_pos h, if_pos h]
    refine (xtick_full w X hr h).mono ?_
    rintro e w' ⟨rfl, rfl⟩
    exact ⟨rfl, X, TurnX.refl hr, ho, rfl, hN, hsl⟩
  · rw [if_neg h, if_neg h]
    exact xtick_close w X _ hr (hg.allX ho) (by omega) (by omega) (closeSale_any hg (by omega))
end Go.Proofs.YtlafddeoheambaaDoor

/-
  The function Offer of package haze, where no lot is open, or one of that name is.
-/
namespace Go.Proofs.YtlafddeoheambaaDoor
open Go.RowKit

theorem offer_found {X : XW} (hO : OkX X) (hA : Apart X.lots) (nm : ByteArray) : foundX X.opens nm = openB X.lots nm := by
  rw [Bool.eq_iff_iff, openB_place hO.lot hA nm]
  unfold foundX
  cases h : X.opens[placeX X.opens nm]? with
  | none => simp
  | some l => simp
theorem far7 {w5 : World} {g b : Nat} (hne : b ≠ g) (v0 v1 v2 v3 v4 v5 v6 : Value) : (((((((w5.setCell ⟨g, 0, none⟩ v0).setCell ⟨g, 1, none⟩ v1).setCell ⟨g, 2, none⟩ v2).setCell ⟨g, 3, none⟩ v3).setCell ⟨g, 4, none⟩ v4).setCell ⟨g, 5, none⟩ v5).setCell ⟨g, 6, none⟩ v6).cell? ⟨b, 0, none⟩ = w5.cell? ⟨b, 0, none⟩ :=
  World.cell?_of_block (by simp only [setCell_far _ _ _ _ _ hne])
theorem lot7 {w5 : World} {g : Nat} {T : TypeId} {c0 c1 c2 c3 c4 c5 c6 : Value} (h : w5.heap[g]? = some (.cells #[c0, c1, c2, c3, c4, c5, c6] T (0, 0))) (l : XLot) : LotAt (((((((w5.setCell ⟨g, 0, none⟩ (.string l.name)).setCell ⟨g, 1, none⟩ (.int .i64 l.ends)).setCell ⟨g, 2, none⟩ (.int .i64 l.least)).setCell ⟨g, 3, none⟩ (.int .i64 (l.bid 0))).setCell ⟨g, 4, none⟩ (.int .i64 (l.bid 1))).setCell ⟨g, 5, none⟩ (.int .i64 (l.bid 2))).setCell ⟨g, 6, none⟩ (.int .i64 (l.bid 3))) g 0 l := by
  have e0 : (w5.setCell ⟨g, 0, none⟩ (.string l.name)).heap[g]? = some (.cells #[(.string l.name), c1, c2, c3, c4, c5, c6] T (0, 0)) := cells_set h
  have e1 : ((w5.setCell ⟨g, 0, none⟩ (.string l.name)).setCell ⟨g, 1, none⟩ (.int .i64 l.ends)).heap[g]? = some (.cells #[(.string l.name), (.int .i64 l.ends), c2, c3, c4, c5, c6] T (0, 0)) := cells_set e0
  have e2 : (((w5.setCell ⟨g, 0, none⟩ (.string l.name)).setCell ⟨g, 1, none⟩ (.int .i64 l.ends)).setCell ⟨g, 2, none⟩ (.int .i64 l.least)).heap[g]? = some (.cells #[(.string l.name), (.int .i64 l.ends), (.int .i64 l.least), c3, c4, c5, c6] T (0, 0)) := cells_set e1
  have e3 : ((((w5.setCell ⟨g, 0, none⟩ (.string l.name)).setCell ⟨g, 1, none⟩ (.int .i64 l.ends)).setCell ⟨g, 2, none⟩ (.int .i64 l.least)).setCell ⟨g, 3, none⟩ (.int .i64 (l.bid 0))).heap[g]? = some (.cells #[(.string l.name), (.int .i64 l.ends), (.int .i64 l.least), (.int .i64 (l.bid 0)), c4, c5, c6] T (0, 0)) := cells_set e2
  have e4 : (((((w5.setCell ⟨g, 0, none⟩ (.string l.name)).setCell ⟨g, 1, none⟩ (.int .i64 l.ends)).setCell ⟨g, 2, none⟩ (.int .i64 l.least)).setCell ⟨g, 3, none⟩ (.int .i64 (l.bid 0))).setCell ⟨g, 4, none⟩ (.int .i64 (l.bid 1))).heap[g]? = some (.cells #[(.string l.name), (.int .i64 l.ends), (.int .i64 l.least), (.int .i64 (l.bid 0)), (.int .i64 (l.bid 1)), c5, c6] T (0, 0)) := cells_set e3
  have e5 : ((((((w5.setCell ⟨g, 0, none⟩ (.string l.name)).setCell ⟨g, 1, none⟩ (.int .i64 l.ends)).setCell ⟨g, 2, none⟩ (.int .i64 l.least)).setCell ⟨g, 3, none⟩ (.int .i64 (l.bid 0))).setCell ⟨g, 4, none⟩ (.int .i64 (l.bid 1))).setCell ⟨g, 5, none⟩ (.int .i64 (l.bid 2))).heap[g]? = some (.cells #[(.string l.name), (.int .i64 l.ends), (.int .i64 l.least), (.int .i64 (l.bid 0)), (.int .i64 (l.bid 1)), (.int .i64 (l.bid 2)), c6] T (0, 0)) := cells_set e4
  have e6 : (((((((w5.setCell ⟨g, 0, none⟩ (.string l.name)).setCell ⟨g, 1, none⟩ (.int .i64 l.ends)).setCell ⟨g, 2, none⟩ (.int .i64 l.least)).setCell ⟨g, 3, none⟩ (.int .i64 (l.bid 0))).setCell ⟨g, 4, none⟩ (.int .i64 (l.bid 1))).setCell ⟨g, 5, none⟩ (.int .i64 (l.bid 2))).setCell ⟨g, 6, none⟩ (.int .i64 (l.bid 3))).heap[g]? = some (.cells #[(.string l.name), (.int .i64 l.ends), (.int .i64 l.least), (.int .i64 (l.bid 0)), (.int .i64 (l.bid 1)), (.int .i64 (l.bid 2)), (.int .i64 (l.bid 3))] T (0, 0)) := cells_set e5
  exact ⟨by rw [cell_of_row _ _ _ _ _ _ e6]; rfl, by rw [cell_of_row _ _ _ _ _ _ e6]; rfl, by rw [cell_of_row _ _ _ _ _ _ e6]; rfl, by rw [cell_of_row _ _ _ _ _ _ e6]; rfl, by rw [cell_of_row _ _ _ _ _ _ e6]; rfl, by rw [cell_of_row _ _ _ _ _ _ e6]; rfl, by rw [cell_of_row _ _ _ _ _ _ e6]; rfl⟩
theorem lotNew {w5 : World} {T : TypeId} (l : XLot) : LotAt (w5.alloc (.cells #[.string l.name, .int .i64 l.ends, .int .i64 l.least, .int .i64 (l.bid 0), .int .i64 (l.bid 1), .int .i64 (l.bid 2), .int .i64 (l.bid 3)] T)) w5.heap.size 0 l := by
  have e := Go.heap_alloc_new w5 (.cells #[.string l.name, .int .i64 l.ends, .int .i64 l.least, .int .i64 (l.bid 0), .int .i64 (l.bid 1), .int .i64 (l.bid 2), .int .i64 (l.bid 3)] T)
  exact ⟨by rw [cell_of_row _ _ _ _ _ _ e]; rfl, by rw [cell_of_row _ _ _ _ _ _ e]; rfl, by rw [cell_of_row _ _ _ _ _ _ e]; rfl, by rw [cell_of_row _ _ _ _ _ _ e]; rfl, by rw [cell_of_row _ _ _ _ _ _ e]; rfl, by rw [cell_of_row _ _ _ _ _ _ e]; rfl, by rw [cell_of_row _ _ _ _ _ _ e]; rfl⟩
def lotG (X : XW) (ls : List SLot) : XW := X.ghost ls (fun _ p => (p.bids, p.news))
theorem lotG_pls (X : XW) (ls : List SLot) : (lotG X ls).pls = X.pls := by
  apply List.ext_getElem?
  intro i
  simp only [lotG, XW.ghost, List.getElem?_mapIdx]
  cases X.pls[i]? <;> rfl
def newLot (nm : ByteArray) (least ends : Int) : XLot := ⟨nm, ends, least, fun _ => 0⟩

set_option maxRecDepth 100000 in
set_option maxHeartbeats 8000000 in
theorem xoffer_any (w : World) (X : XW) (nm : ByteArray) (least ticks : Int) (hr : RepX w X) (hO : OkX X) (hg : GoodL X.S) (hs : nm.size ≤ 2000000) (hcase : X.lots = [] ∨ openB X.lots nm = true) :
    Calls Tryd.prog 15 #[.pointer (some ⟨X.b, 0, none⟩), .string nm, .int .i64 least, .int .i64 ticks] w fun e w' => e = .returned (.int .i64 (offerS X.S nm least ticks).1) ∧ ∃ X', TurnX w X w' X' ∧ OkX X' ∧ X'.S = (offerS X.S nm least ticks).2 ∧ X'.sales = X.sales ∧ X'.pls = X.pls := by
  have hap : Apart X.lots := hg.lw.apart
  have hol : X.opens.length ≤ 4 := by rw [hO.lot.len]; exact hg.lw.len
  have HI := hidOf (isName_any nm w hs)
  have HS : Hid (∀ wx, Below w.heap.size w wx → Calls Tryd.prog 32 #[.pointer (some ⟨X.b, 0, none⟩), .string nm] wx fun e w' => e = .returned (.tuple #[.int .i64 (placeX X.opens nm), .bool (foundX X.opens nm)]) ∧ Below wx.heap.size wx w') := fun wx h => seek_any wx X nm (hr.below h) (hO.lot.asc hap) hol
  have HT : Hid (∀ wx, Below w.heap.size w wx → TurnX w X wx X) := fun wx h => (TurnX.refl hr).below h
  have HO := hidOf hO
  have hoff : offerS X.S nm least ticks = if nameB nm.data.toList then (if openB X.lots nm then (4, X.S) else if inB least 0 100000 && inB ticks 1 1000 then (if 4 ≤ X.lots.length then (6, X.S) else (0, { X.S with lots := X.lots ++ [⟨nm, least, X.S.now + ticks⟩] })) else (1, X.S)) else (2, X.S) := rfl
  have HOf := hidOf hoff
  have HFo := hidOf (offer_found hO hap nm)
  have HG := hidOf hg
  clear hr hO hoff hap hg
  cases hn : nameB nm.data.toList
  · rw [hn] at HI
    have HE : Hid (offerS X.S nm least ticks = (2, X.S)) := by unfold Hid; rw [HOf.out, hn]; rfl
    go_enter Tryd.func15, Tryd.ntmps15
    go_wp2_with fail
    refine HI.out.mono ?_
    rintro e w1 ⟨rfl, hb⟩
    have T := HT.out w1 hb
    clear hb HI
    go_wp2
    go_ret
    exact ⟨by rw [HE.out]; rfl, X, T, HO.out, by rw [HE.out], rfl, rfl⟩
  · rw [hn] at HI
    go_enter Tryd.func15, Tryd.ntmps15
    go_wp2_with fail
    refine HI.out.mono ?_
    rintro e w1 ⟨rfl, hb1⟩
    have B1 := hidOf hb1
    have HS1 := hidOf (HS.out w1 hb1)
    clear hb1 HI HS
    go_wp2_with fail
    refine HS1.out.mono ?_
    rintro e w2 ⟨rfl, hb2⟩
    have B2 := hidOf (B1.out.trans (hb2.mono B1.out.size))
    clear hb2 HS1 B1
    rw [HFo.out]
    cases ho : openB X.lots nm
    · have hlz : X.lots = [] := by
        rcases hcase with h | h
        · exact h
        · rw [ho] at h; cases h
      have hoz : X.opens = [] := List.eq_nil_of_length_eq_zero (by rw [HO.out.lot.len, hlz]; rfl)
      have hpz : placeX X.opens nm = 0 := by rw [hoz]; rfl
      rw [hpz]
      cases hb : (inB least 0 100000 && inB ticks 1 1000)
      · have HE : Hid (offerS X.S nm least ticks = (1, X.S)) := by unfold Hid; rw [HOf.out, hn, ho, hb]; rfl
        have T := hidOf (HT.out w2 B2.out)
        have HBt : Hid (∀ n lo hi (wx : World), Calls Tryd.prog 33 #[.int .i64 n, .int .i64 lo, .int .i64 hi] wx fun e w' => e = .returned (.bool (inB n lo hi)) ∧ w' = wx) := fun n lo hi wx => between_any n lo hi wx
        cases h1 : inB least 0 100000
        · go_wp2_with fail
          refine (HBt.out least 0 100000 _).mono ?_
          rintro e w' ⟨rfl, h⟩
          rw [h, h1]
          clear h w'
          go_wp2
          go_ret
          exact ⟨by rw [HE.out]; rfl, X, T.out, HO.out, by rw [HE.out], rfl, rfl⟩
        · have h2 : inB ticks 1 1000 = false := by rw [h1] at hb; simpa using hb
          go_wp2_with fail
          refine (HBt.out least 0 100000 _).mono ?_
          rintro e w' ⟨rfl, h⟩
          rw [h, h1]
          clear h w'
          go_wp2_with fail
          refine (HBt.out ticks 1 1000 _).mono ?_
          rintro e w' ⟨rfl, h⟩
          rw [h, h2]
          clear h w'
          go_wp2
          go_ret
          exact ⟨by rw [HE.out]; rfl, X, T.out, HO.out, by rw [HE.out], rfl, rfl⟩
      · have h1 : inB least 0 100000 = true := by cases h : inB least 0 100000 <;> simp [h] at hb ⊢
        have h2 : inB ticks 1 1000 = true := by rw [h1] at hb; simpa using hb
        have hle : 0 ≤ least ∧ least ≤ 100000 := by simp only [inB, Bool.and_eq_true, decide_eq_true_eq] at h1; exact h1
        have hti : 1 ≤ ticks ∧ ticks ≤ 1000 := by simp only [inB, Bool.and_eq_true, decide_eq_true_eq] at h2; exact h2
        have hno := HG.out.now
        have HE : Hid (offerS X.S nm least ticks = (0, { X.S with lots := [⟨nm, least, X.S.now + ticks⟩] })) := by unfold Hid; rw [HOf.out, hn, ho, hb, hlz]; rfl
        have HBt : Hid (∀ n lo hi (wx : World), Calls Tryd.prog 33 #[.int .i64 n, .int .i64 lo, .int .i64 hi] wx fun e w' => e = .returned (.bool (inB n lo hi)) ∧ w' = wx) := fun n lo hi wx => between_any n lo hi wx
        have HCn : Hid (∀ wx, Hid (Below w2.heap.size w2 wx) → Calls Tryd.prog 23 #[.string nm] wx fun e w' => e = .returned (.string nm) ∧ Below wx.heap.size wx w') := fun wx _ => clone_any nm wx hs
        obtain ⟨ao, g, cap, hv, hcap, hmax, rd⟩ := own_rd (HT.out w2 B2.out).rep.lot.1
        rw [hoz] at hv
        have c7 : w2.cell? ⟨X.b, 7, none⟩ = some (.slice ao 0 cap) := by
          have := (HT.out w2 B2.out).rep.cellTop (j := 7) (u := X.vOp) rfl
          rw [this, hv]
          rfl
        have c0 : w2.cell? ⟨X.b, 0, none⟩ = some (.int .i64 X.S.now) := (HT.out w2 B2.out).rep.cellTop rfl
        have hbl : X.b < w2.heap.size := (HT.out w2 B2.out).rep.lt _ xfoot_b
        obtain ⟨now, hnw⟩ : ∃ now, now = X.S.now := ⟨_, rfl⟩
        rw [← hnw] at c0 hno
        have hwr : IntKind.i64.wrap (now + ticks) = now + ticks := by rw [IntKind.wrap_i64]; omega
        have HNw := hidOf hnw
        have HV := hidOf hv
        clear hnw hv rd hcap hmax
        go_wp2_with fail
        refine (HBt.out least 0 100000 _).mono ?_
        rintro e w' ⟨rfl, h⟩
        rw [h, h1]
        clear h w'
        go_wp2_with fail
        refine (HBt.out ticks 1 1000 _).mono ?_
        rintro e w' ⟨rfl, h⟩
        rw [h, h2]
        clear h w'
        go_wp2_with fail
        have HC0 : Hid (∀ wx, Hid (Below w2.heap.size w2 wx) → wx.cell? ⟨X.b, 0, none⟩ = some (.int .i64 now)) := fun wx h => (h.out.cell (p := ⟨X.b, 0, none⟩) hbl).trans c0
        have BX : Hid (∀ wx wy, Hid (Below w2.heap.size w2 wx) → Below wx.heap.size wx wy → Hid (Below w2.heap.size w2 wy)) := fun wx wy h h' => h.out.trans (h'.mono h.out.size)
        have HZ : Hid (∀ wx w5 : World, Below wx.heap.size wx w5 → wx = (w2.alloc (.cells #[.string ⟨#[]⟩, .int .i64 0, .int .i64 0, .int .i64 0, .int .i64 0, .int .i64 0, .int .i64 0] 93)).drew → Hid (w5.heap[w2.heap.size]? = some (.cells #[.string ⟨#[]⟩, .int .i64 0, .int .i64 0, .int .i64 0, .int .i64 0, .int .i64 0, .int .i64 0] 93 (0, 0))) ∧ (∀ j, w5.frozen? ⟨w2.heap.size, j, none⟩ = false) ∧ w5.cell? ⟨w2.heap.size, 0, none⟩ = some (.string ⟨#[]⟩) ∧ w5.cell? ⟨w2.heap.size, 1, none⟩ = some (.int .i64 0) ∧ w5.cell? ⟨w2.heap.size, 2, none⟩ = some (.int .i64 0) ∧ w5.cell? ⟨w2.heap.size, 3, none⟩ = some (.int .i64 0) ∧ w5.cell? ⟨w2.heap.size, 4, none⟩ = some (.int .i64 0) ∧ w5.cell? ⟨w2.heap.size, 5, none⟩ = some (.int .i64 0) ∧ w5.cell? ⟨w2.heap.size, 6, none⟩ = some (.int .i64 0)) := fun wx w5 h e => by
          subst e
          have hn := Go.heap_alloc_new w2 (.cells #[.string ⟨#[]⟩, .int .i64 0, .int .i64 0, .int .i64 0, .int .i64 0, .int .i64 0, .int .i64 0] 93)
          have hn2 : w5.heap[w2.heap.size]? = some (.cells #[.string ⟨#[]⟩, .int .i64 0, .int .i64 0, .int .i64 0, .int .i64 0, .int .i64 0, .int .i64 0] 93 (0, 0)) := (h.block w2.heap.size (lt_of_some hn)).trans hn
          exact ⟨hn2, fun j => by simp [World.frozen?, hn2], by rw [cell_of_row _ _ _ _ _ _ hn2]; rfl, by rw [cell_of_row _ _ _ _ _ _ hn2]; rfl, by rw [cell_of_row _ _ _ _ _ _ hn2]; rfl, by rw [cell_of_row _ _ _ _ _ _ hn2]; rfl, by rw [cell_of_row _ _ _ _ _ _ hn2]; rfl, by rw [cell_of_row _ _ _ _ _ _ hn2]; rfl, by rw [cell_of_row _ _ _ _ _ _ hn2]; rfl⟩
        go_cut [11] (fun p wc => ∃ lb, p = .pointer (some ⟨lb, 0, none⟩) ∧ Hid (Below w2.heap.size w2 wc) ∧ LotAt wc lb 0 (newLot nm least (now + ticks)))
        case first =>
          have B5 : Hid (Below w2.heap.size w2 w2.drew) := (Below.refl _ _).drew
          have S5 := HC0.out _ B5
          have BZ : Hid (Below w2.heap.size w2 (w2.alloc (.cells #[.string ⟨#[]⟩, .int .i64 0, .int .i64 0, .int .i64 0, .int .i64 0, .int .i64 0, .int .i64 0] 93)).drew) := ((Below.refl _ _).alloc (Nat.le_refl _) _).drew
          have SZ := HC0.out _ BZ
          have HC1 : Hid (Calls Tryd.prog 23 #[.string nm] w2.drew fun e w' => e = .returned (.string nm) ∧ Hid (Below w2.heap.size w2 w') ∧ w'.cell? ⟨X.b, 0, none⟩ = some (.int .i64 now) ∧ X.b < w'.heap.size) := (clone_any nm w2.drew hs).mono (fun e w' h => ⟨h.1, BX.out _ _ B5 h.2, HC0.out _ (BX.out _ _ B5 h.2), Nat.lt_of_lt_of_le hbl (BX.out _ _ B5 h.2).out.size⟩)
          have HC2 : Hid (Calls Tryd.prog 23 #[.string nm] ((w2.alloc (.cells #[.string ⟨#[]⟩, .int .i64 0, .int .i64 0, .int .i64 0, .int .i64 0, .int .i64 0, .int .i64 0] 93)).drew) fun e w' => e = .returned (.string nm) ∧ Hid (Below w2.heap.size w2 w') ∧ w'.cell? ⟨X.b, 0, none⟩ = some (.int .i64 now) ∧ Hid (w'.heap[w2.heap.size]? = some (.cells #[.string ⟨#[]⟩, .int .i64 0, .int .i64 0, .int .i64 0, .int .i64 0, .int .i64 0, .int .i64 0] 93 (0, 0))) ∧ (∀ j, w'.frozen? ⟨w2.heap.size, j, none⟩ = false) ∧ w'.cell? ⟨w2.heap.size, 0, none⟩ = some (.string ⟨#[]⟩) ∧ w'.cell? ⟨w2.heap.size, 1, none⟩ = some (.int .i64 0) ∧ w'.cell? ⟨w2.heap.size, 2, none⟩ = some (.int .i64 0) ∧ w'.cell? ⟨w2.heap.size, 3, none⟩ = some (.int .i64 0) ∧ w'.cell? ⟨w2.heap.size, 4, none⟩ = some (.int .i64 0) ∧ w'.cell? ⟨w2.heap.size, 5, none⟩ = some (.int .i64 0) ∧ w'.cell? ⟨w2.heap.size, 6, none⟩ = some (.int .i64 0)) := (clone_any nm ((w2.alloc (.cells #[.string ⟨#[]⟩, .int .i64 0, .int .i64 0, .int .i64 0, .int .i64 0, .int .i64 0, .int .i64 0] 93)).drew) hs).mono (fun e w' h => ⟨h.1, BX.out _ _ BZ h.2, HC0.out _ (BX.out _ _ BZ h.2), HZ.out _ _ h.2 rfl⟩)
          have hXw : X.b ≠ w2.heap.size := by omega
          clear HE HV HNw HT HO HG HOf HFo HBt c7 c0 hle hti hno hb h1 h2 ho hlz hoz hpz hol hcase HZ HCn
          go_region_held3 (fun w' => w'.cell? ⟨X.b, 0, none⟩ = some (.int .i64 now)) (first | with_reducible assumption | go_keep | (with_reducible refine (World.cell?_alloc_past _ X.b 0 (by with_reducible assumption)).trans ?_; with_reducible assumption) | (with_reducible refine (far7 hXw _ _ _ _ _ _ _).trans ?_; with_reducible assumption)) (first | (go_at_call 23; with_reducible refine HC1.out.mono ?_; rintro e w5 ⟨rfl, B6, S6, hx6⟩) | (go_at_call 23; with_reducible refine HC2.out.mono ?_; rintro e w5 ⟨rfl, B6, S6, zz, zf, z0, z1, z2, z3, z4, z5, z6⟩))
          · go_wp2_with fail
            go_meet
            exact ⟨_, rfl, BX.out _ _ B6 ((Below.refl _ _).alloc (Nat.le_refl _) _), lotNew (newLot nm least (now + ticks))⟩
          · go_wp2_with fail
            go_meet
            exact ⟨_, rfl, ((((((B6.out.setCell (p := ⟨w2.heap.size, 0, none⟩) (Nat.le_refl _) _).setCell (p := ⟨w2.heap.size, 1, none⟩) (Nat.le_refl _) _).setCell (p := ⟨w2.heap.size, 2, none⟩) (Nat.le_refl _) _).setCell (p := ⟨w2.heap.size, 3, none⟩) (Nat.le_refl _) _).setCell (p := ⟨w2.heap.size, 4, none⟩) (Nat.le_refl _) _).setCell (p := ⟨w2.heap.size, 5, none⟩) (Nat.le_refl _) _).setCell (p := ⟨w2.heap.size, 6, none⟩) (Nat.le_refl _) _, lot7 zz.out (newLot nm least (now + ticks))⟩
        case rest =>
          obtain ⟨lb, rfl, Bc, LA⟩ := hcut
          obtain ⟨l0, l1, l2, l3, l4, l5, l6⟩ := LA
          simp only [newLot] at l0 l1 l2 l3 l4 l5 l6
          have hbw : X.b < wc.heap.size := Nat.lt_of_lt_of_le hbl Bc.out.size
          have k7 : wc.cell? ⟨X.b, 7, none⟩ = some (.slice ao 0 cap) := (Bc.out.cell (p := ⟨X.b, 7, none⟩) hbl).trans c7
          have a7 : ∀ o, (wc.drew.alloc o).cell? ⟨X.b, 7, none⟩ = some (.slice ao 0 cap) := fun o => (World.cell?_alloc_past (w := wc.drew) o X.b 7 hbw).trans k7
          have Tc := hidOf ((HT.out w2 B2.out).below Bc.out)
          have f7 : wc.frozen? ⟨X.b, 7, none⟩ = false := Tc.out.rep.frozenTop 7
          have HW : Hid (∀ o, TurnX w X (wc.drew.alloc o) X) := fun o => Tc.out.drew.below ((Below.refl _ _).alloc (Nat.le_refl _) _)
          have HFin : Hid (∀ (o : Obj) (gr cp : Nat) (w6 : World), w6.ownsRow 0 93 7 (.slice (some ⟨gr, 0, none⟩) (0 + 1) cp) (0 + 1) ([] ++ xlotCells (newLot nm least (now + ticks))) → (wc.drew.alloc o).grownBy w6 (Value.slice ao 0 cap).ownBlock → ((Value.slice ao 0 cap).ownBlock = some gr ∨ gr = (wc.drew.alloc o).heap.size) → ∃ X', TurnX w X (w6.setCell ⟨X.b, 7, none⟩ (.slice (some ⟨gr, 0, none⟩) (0 + 1) cp)) X' ∧ OkX X' ∧ X'.S = (offerS X.S nm least ticks).2 ∧ X'.sales = X.sales ∧ X'.pls = X.pls) := fun o gr cp w6 h1 h2 h3 => by
            have hv := HV.out
            have T6 := (HW.out o).addLot (newLot nm least (now + ticks)) (gr := gr) (cap := cp) (w6 := w6) (by rw [hv]; exact h2) (by rw [hoz]; exact h1) (by rw [hv]; exact h3.imp id (fun e => Nat.le_of_eq e.symm))
            rw [hoz] at T6
            have hpl : ∀ Y : XW, (lotG Y (X.lots ++ [⟨nm, least, now + ticks⟩])).pls = Y.pls := fun Y => lotG_pls Y _
            refine ⟨lotG _ (X.lots ++ [⟨nm, least, now + ticks⟩]), T6.ghost _ _, ⟨?_, HO.out.ore, HO.out.dist, ?_⟩, ?_, rfl, hpl _⟩
            · rw [hpl]
              exact HO.out.st
            · rw [hpl]
              have := HO.out.lot.offer (now := X.S.now) (by have := HG.out.lw; simpa [XW.S, Function.comp_def] using this) nm least (now + ticks) (openB_no ho)
              rw [hoz] at this
              exact this
            · rw [HE.out]
              have e1 : (lotG (X.withL (.slice (some ⟨gr, 0, none⟩) (([] : List XLot).length + 1) cp) ([] ++ [newLot nm least (now + ticks)]) X.vCl X.sales (opnR1 X gr)) (X.lots ++ [⟨nm, least, now + ticks⟩])).S.players = X.S.players := by
                show List.map _ _ = List.map _ _
                rw [hpl]
                rfl
              have e2 : (lotG (X.withL (.slice (some ⟨gr, 0, none⟩) (([] : List XLot).length + 1) cp) ([] ++ [newLot nm least (now + ticks)]) X.vCl X.sales (opnR1 X gr)) (X.lots ++ [⟨nm, least, now + ticks⟩])).S = { X.S with players := (lotG (X.withL (.slice (some ⟨gr, 0, none⟩) (([] : List XLot).length + 1) cp) ([] ++ [newLot nm least (now + ticks)]) X.vCl X.sales (opnR1 X gr)) (X.lots ++ [⟨nm, least, now + ticks⟩])).S.players, lots := X.lots ++ [⟨nm, least, now + ticks⟩] } := rfl
              rw [e2, e1, hlz, HNw.out]
              rfl
          have hown0 : Hid (∀ o, (wc.drew.alloc o).ownsRow 0 93 7 (.slice ao 0 cap) 0 []) := fun o => by
            have := (HW.out o).rep.lot.1
            rw [HV.out, hoz] at this
            exact this
          have hneX : Hid ((Value.slice ao 0 cap).ownBlock ≠ some X.b) := by
            intro e
            have e1 := Tc.out.rep.roles.lot.1 X.b (by rw [HV.out]; show X.b ∈ blk (Value.slice ao 0 cap); simp [blk, e])
            rw [Tc.out.rep.roles.b] at e1
            cases e1
          have HIn : Hid (∀ wx, wx = wc.drew.alloc (.cells #[.string nm, .int .i64 (now + ticks), .int .i64 least, .int .i64 0, .int .i64 0, .int .i64 0, .int .i64 0] 93) → Calls Tryd.prog 34 #[.slice ao 0 cap, .int .i64 0, .slice (some ⟨wc.heap.size, 0, none⟩) 1 1] wx fun e w' => ∃ gr cp, e = .returned (.slice (some ⟨gr, 0, none⟩) (0 + 1) cp) ∧ w'.cell? ⟨X.b, 7, none⟩ = some (.slice ao 0 cap) ∧ w'.frozen? ⟨X.b, 7, none⟩ = false ∧ Hid (∃ X', TurnX w X (w'.setCell ⟨X.b, 7, none⟩ (.slice (some ⟨gr, 0, none⟩) (0 + 1) cp)) X' ∧ OkX X' ∧ X'.S = (offerS X.S nm least ticks).2 ∧ X'.sales = X.sales ∧ X'.pls = X.pls)) := fun wx hwx => by
            subst hwx
            have hn : (wc.drew.alloc (.cells #[.string nm, .int .i64 (now + ticks), .int .i64 least, .int .i64 0, .int .i64 0, .int .i64 0, .int .i64 0] 93)).heap[wc.heap.size]? = some (.cells #[.string nm, .int .i64 (now + ticks), .int .i64 least, .int .i64 0, .int .i64 0, .int .i64 0, .int .i64 0] 93 (0, 0)) := Go.heap_alloc_new wc.drew (.cells #[.string nm, .int .i64 (now + ticks), .int .i64 least, .int .i64 0, .int .i64 0, .int .i64 0, .int .i64 0] 93)
            refine (insert_end _ ao 0 cap wc.heap.size [] (xlotCells (newLot nm least (now + ticks))) (hown0.out _) (by omega) rfl (fun j u hu => by rw [cell_of_row _ _ _ _ _ _ hn]; simpa [xlotCells, newLot] using hu) (by intro u hu; simp [xlotCells] at hu; rcases hu with rfl | rfl | rfl | rfl | rfl | rfl | rfl <;> rfl)).mono ?_
            rintro e w' ⟨gr, cp, rfl, h1, h2, h3⟩
            obtain ⟨q1, q2⟩ := keepOther (w5 := wc) (((Below.refl _ wc).drew).alloc (Nat.le_refl _) (.cells #[.string nm, .int .i64 (now + ticks), .int .i64 least, .int .i64 0, .int .i64 0, .int .i64 0, .int .i64 0] 93)) h2 hbw (Ne.symm hneX.out) 7
            exact ⟨gr, cp, rfl, q1.trans k7, q2.trans f7, HFin.out _ gr cp w' h1 h2 h3⟩
          clear HFin hown0 hneX HW Tc HT HO HG HOf
          go_wp2_with fail
          go_region_with (go_at_call 34; refine (HIn.out _ rfl).mono ?_; rintro e w6 ⟨gr, cp, rfl, q1, q2, HX6⟩)
          all_goals
            go_wp2
            go_ret
            exact ⟨by rw [HE.out]; rfl, HX6.out⟩
    · have HE : Hid (offerS X.S nm least ticks = (4, X.S)) := by unfold Hid; rw [HOf.out, hn, ho]; rfl
      have T := hidOf (HT.out w2 B2.out)
      go_wp2
      go_ret
      exact ⟨by rw [HE.out]; rfl, X, T.out, HO.out, by rw [HE.out], rfl, rfl⟩
end Go.Proofs.YtlafddeoheambaaDoor

/-
  A world with lots that a keep holds; two of them side by side.
-/
namespace Go.Proofs.YtlafddeoheambaaDoor
open Go.RowKit

structure KInL (w wx : World) (X : XW) : Prop where
  b : Below w.heap.size w wx
  rep : RepX wx X
  ok : OkX X
  g : GoodL X.S
  n : NewsOK X
  sl : SaleOK X.sales
  foot : ∀ r ∈ X.foot, w.heap.size ≤ r
theorem KInL.below {w wx w' : World} {X : XW} (h : KInL w wx X) (hb : Below wx.heap.size wx w') : KInL w w' X :=
  ⟨h.b.trans (hb.mono h.b.size), h.rep.below hb, h.ok, h.g, h.n, h.sl, h.foot⟩
theorem KInL.turn {w wx w' : World} {X X' : XW} (h : KInL w wx X) (T : TurnX wx X w' X') (ok : OkX X') (g : GoodL X'.S) (n : NewsOK X') (sl : SaleOK X'.sales) : KInL w w' X' := by
  refine ⟨⟨T.kept.os.trans h.b.os, T.kept.tape.trans h.b.tape, T.kept.output.trans h.b.output, Nat.le_trans h.b.size T.kept.size, fun k hk => ?_⟩, T.rep, ok, g, n, sl, fun r hr => ?_⟩
  · rw [T.kept.block k (Nat.lt_of_lt_of_le hk h.b.size) (fun hm => by have := h.foot k hm; omega), h.b.block k hk]
  · rcases T.ext r hr with h' | h'
    · exact h.foot r h'
    · have := h.b.size; omega
theorem KInL.kept {w wx w' : World} {X : XW} {F : List Nat} (h : KInL w wx X) (K : Kept F wx w') (hF : ∀ r ∈ F, r ∉ X.foot ∧ w.heap.size ≤ r) : KInL w w' X := by
  refine ⟨⟨K.os.trans h.b.os, K.tape.trans h.b.tape, K.output.trans h.b.output, Nat.le_trans h.b.size K.size, fun k hk => ?_⟩, h.rep.same (fun r hr => K.block r (h.rep.lt r hr) (fun hm => (hF r hm).1 hr)), h.ok, h.g, h.n, h.sl, h.foot⟩
  rw [K.block k (Nat.lt_of_lt_of_le hk h.b.size) (fun hm => by have := (hF k hm).2; omega), h.b.block k hk]
theorem KInL.order2 {w wx : World} {X : XW} (h : KInL w wx X) (n : Int) (t : ByteArray) (hs : t.size ≤ 2000000) :
    Calls Tryd.prog 9 #[.pointer (some ⟨X.b, 0, none⟩), .int .i64 n, .string t] wx fun e w' => e = .returned (.int .i64 (orderS X.S n t.data.toList).1) ∧ ∃ X', TurnX wx X w' X' ∧ KInL w w' X' ∧ X'.S = (orderS X.S n t.data.toList).2 := by
  refine (xorder_any wx X _ n t h.rep (h.g.allX h.ok) (by have := h.g.now.2; omega) hs).mono ?_
  rintro e w' ⟨rfl, X', T, O, S, L⟩
  exact ⟨rfl, X', T, h.turn T O (by rw [S]; exact h.g.order n t.data.toList (by rw [Array.length_toList]; exact hs)) (h.n.of (by rw [S]; exact order_news X.S n t.data.toList) L) (by rw [L]; exact h.sl), S⟩
theorem KInL.tick2 {w wx : World} {X : XW} (h : KInL w wx X) :
    Calls Tryd.prog 10 #[.pointer (some ⟨X.b, 0, none⟩)] wx fun e w' => e = .returned (.int .i64 (tickC X.S)) ∧ ∃ X', TurnX wx X w' X' ∧ KInL w w' X' ∧ X'.S = tickN X.S := by
  refine (xtick_l wx X h.rep h.ok h.g h.n h.sl).mono ?_
  rintro e w' ⟨rfl, X', T, ok, hS, n', sl⟩
  exact ⟨rfl, X', T, h.turn T ok (by rw [hS]; exact h.g.tickN) n' sl, hS⟩
theorem KInL.offer2 {w wx : World} {X : XW} (h : KInL w wx X) (nm : ByteArray) (least ticks : Int) (hs : nm.size ≤ 2000000) (hc : X.S.lots = [] ∨ openB X.S.lots nm = true) :
    Calls Tryd.prog 15 #[.pointer (some ⟨X.b, 0, none⟩), .string nm, .int .i64 least, .int .i64 ticks] wx fun e w' => e = .returned (.int .i64 (offerS X.S nm least ticks).1) ∧ ∃ X', TurnX wx X w' X' ∧ KInL w w' X' ∧ X'.S = (offerS X.S nm least ticks).2 := by
  refine (xoffer_any wx X nm least ticks h.rep h.ok h.g hs hc).mono ?_
  rintro e w' ⟨rfl, X', T, O, S, L, P⟩
  refine ⟨rfl, X', T, h.turn T O (by rw [S]; exact h.g.offer nm least ticks hs) (fun i q hq => ?_) (by rw [L]; exact h.sl), S⟩
  rw [L]
  rw [P] at hq
  exact h.n i q hq
set_option maxRecDepth 100000 in
set_option maxHeartbeats 1000000 in
theorem kview_l (w : World) (X : XW) (n : Int) (hr : RepX w X) (ht : Tab w) (ho : OkX X) (hg : GoodL X.S) (hN : NewsOK X) (hsl : SaleOK X.sales) :
    Calls Tryd.prog 12 #[.pointer (some ⟨X.b, 0, none⟩), .int .i64 n] w fun e w' => e = .returned (.string (viewS X.S n).1) ∧ Below w.heap.size w w' := by
  have HV := hidOf (xview_any w X _ n hr ht (hg.allX ho) (by have := hg.now.2; omega) hg.now hg.nm hN hsl)
  have h1 : (viewS X.S n).2 = 0 ∨ ((viewS X.S n).2 = 1 ∧ (viewS X.S n).1 = ⟨#[]⟩) := by
    unfold viewS
    repeat' split
    all_goals simp
  clear hr ht ho hg hN hsl
  go_enter Tryd.func12, Tryd.ntmps12
  go_wp2_with fail
  refine HV.out.mono ?_
  rintro e w1 ⟨rfl, hb⟩
  rcases h1 with h1 | ⟨h1, h2⟩
  · rw [h1]
    go_wp2
    go_ret
    exact ⟨rfl, hb⟩
  · rw [h1, h2]
    go_wp2
    go_ret
    exact ⟨by rw [h2]; rfl, hb⟩
theorem KInL.view2 {w wx : World} {X : XW} (h : KInL w wx X) (n : Int) (ht : Tab w) :
    Calls Tryd.prog 12 #[.pointer (some ⟨X.b, 0, none⟩), .int .i64 n] wx fun e w' => e = .returned (.string (viewS X.S n).1) ∧ Below wx.heap.size wx w' :=
  kview_l wx X n h.rep (ht.below h.b ht.lt) h.ok h.g h.n h.sl
theorem begun_inL (w : World) (side sight : Int) (k : Nat) (hs : 3 ≤ side ∧ side ≤ 10) (hk : 2 ≤ k ∧ k ≤ 4) (hN : newB side side sight (oreOf (side - 1)) ((cornersOf (side - 1)).take k) = true) :
    Calls Tryd.prog 7 #[.int .i64 side, .int .i64 sight, .int .i64 k] w fun e w' => ∃ X : XW, e = .returned (.pointer (some ⟨X.b, 0, none⟩)) ∧ KInL w w' X ∧ X.S = begunS side sight k := by
  refine (begun_any w side sight k hs hk hN).mono ?_
  rintro e w' ⟨hb, X, rfl, hr, ok, hS, hsl, hf⟩
  exact ⟨X, rfl, ⟨hb, hr, ok, by rw [hS]; exact GoodL.new hN, news_new hS hsl, by rw [hsl]; exact SaleOK.nil, hf⟩, hS⟩

/-- TwoL worlds apart from one another. -/
structure TwoL (w wx : World) (X Z : XW) : Prop where
  x : KInL w wx X
  z : KInL w wx Z
  d : ∀ r ∈ X.foot, r ∉ Z.foot
theorem TwoL.swap {w wx : World} {X Z : XW} (h : TwoL w wx X Z) : TwoL w wx Z X := ⟨h.z, h.x, fun r hr hm => h.d r hm hr⟩
theorem TwoL.below {w wx w' : World} {X Z : XW} (h : TwoL w wx X Z) (hb : Below wx.heap.size wx w') : TwoL w w' X Z := ⟨h.x.below hb, h.z.below hb, h.d⟩
theorem TwoL.turn {w wx w' : World} {X X' Z : XW} (h : TwoL w wx X Z) (T : TurnX wx X w' X') (K : KInL w w' X') : TwoL w w' X' Z := by
  refine ⟨K, h.z.kept T.kept (fun r hr => ⟨h.d r hr, h.x.foot r hr⟩), fun r hr hm => ?_⟩
  rcases T.ext r hr with h' | h'
  · exact h.d r h' hm
  · have := h.z.rep.lt r hm
    omega
theorem TwoL.kept {w wx w' : World} {X Z : XW} {F : List Nat} (h : TwoL w wx X Z) (K : Kept F wx w') (hF : ∀ r ∈ F, r ∉ X.foot ∧ r ∉ Z.foot ∧ w.heap.size ≤ r) : TwoL w w' X Z :=
  ⟨h.x.kept K (fun r hr => ⟨(hF r hr).1, (hF r hr).2.2⟩), h.z.kept K (fun r hr => ⟨(hF r hr).2.1, (hF r hr).2.2⟩), h.d⟩

theorem twoL_first {w w1 w2 : World} {X Z : XW} (K0 : KInL w w1 X) (K1 : KInL w1 w2 Z) : TwoL w w2 X Z := by
  refine ⟨K0.below K1.b, ⟨K0.b.trans (K1.b.mono K0.b.size), K1.rep, K1.ok, K1.g, K1.n, K1.sl, fun r hr => Nat.le_trans K0.b.size (K1.foot r hr)⟩, fun r hr hm => ?_⟩
  have := K0.rep.lt r hr
  have := K1.foot r hm
  omega
section
variable {w wx : World} {X Z : XW} {b : Nat}
theorem TwoL.orderL (h : TwoL w wx X Z) (hb : X.b = b) (n : Int) (t : ByteArray) (hs : t.size ≤ 2000000) :
    Calls Tryd.prog 9 #[.pointer (some ⟨b, 0, none⟩), .int .i64 n, .string t] wx fun e w' => e = .returned (.int .i64 (orderS X.S n t.data.toList).1) ∧ ∃ X', TwoL w w' X' Z ∧ X'.b = b ∧ X'.S = (orderS X.S n t.data.toList).2 := by
  subst hb
  refine (h.x.order2 n t hs).mono ?_
  rintro e w' ⟨rfl, X', T, K, hS⟩
  exact ⟨rfl, X', h.turn T K, T.b, hS⟩
theorem TwoL.orderR (h : TwoL w wx X Z) (hb : Z.b = b) (n : Int) (t : ByteArray) (hs : t.size ≤ 2000000) :
    Calls Tryd.prog 9 #[.pointer (some ⟨b, 0, none⟩), .int .i64 n, .string t] wx fun e w' => e = .returned (.int .i64 (orderS Z.S n t.data.toList).1) ∧ ∃ Z', TwoL w w' X Z' ∧ Z'.b = b ∧ Z'.S = (orderS Z.S n t.data.toList).2 := by
  refine (h.swap.orderL hb n t hs).mono ?_
  rintro e w' ⟨rfl, Z', T, hb', hS⟩
  exact ⟨rfl, Z', T.swap, hb', hS⟩
theorem TwoL.tickL (h : TwoL w wx X Z) (hb : X.b = b) :
    Calls Tryd.prog 10 #[.pointer (some ⟨b, 0, none⟩)] wx fun e w' => e = .returned (.int .i64 (tickC X.S)) ∧ ∃ X', TwoL w w' X' Z ∧ X'.b = b ∧ X'.S = tickN X.S := by
  subst hb
  refine h.x.tick2.mono ?_
  rintro e w' ⟨rfl, X', T, K, hS⟩
  exact ⟨rfl, X', h.turn T K, T.b, hS⟩
theorem TwoL.tickR (h : TwoL w wx X Z) (hb : Z.b = b) :
    Calls Tryd.prog 10 #[.pointer (some ⟨b, 0, none⟩)] wx fun e w' => e = .returned (.int .i64 (tickC Z.S)) ∧ ∃ Z', TwoL w w' X Z' ∧ Z'.b = b ∧ Z'.S = tickN Z.S := by
  refine (h.swap.tickL hb).mono ?_
  rintro e w' ⟨rfl, Z', T, hb', hS⟩
  exact ⟨rfl, Z', T.swap, hb', hS⟩
theorem TwoL.viewL (h : TwoL w wx X Z) (hb : X.b = b) (n : Int) (ht : Tab w) :
    Calls Tryd.prog 12 #[.pointer (some ⟨b, 0, none⟩), .int .i64 n] wx fun e w' => e = .returned (.string (viewS X.S n).1) ∧ TwoL w w' X Z := by
  subst hb
  refine (h.x.view2 n ht).mono ?_
  rintro e w' ⟨rfl, hb⟩
  exact ⟨rfl, h.below hb⟩
theorem TwoL.offerL (h : TwoL w wx X Z) (hb : X.b = b) (nm : ByteArray) (least ticks : Int) (hs : nm.size ≤ 2000000) (hc : X.S.lots = [] ∨ openB X.S.lots nm = true) :
    Calls Tryd.prog 15 #[.pointer (some ⟨b, 0, none⟩), .string nm, .int .i64 least, .int .i64 ticks] wx fun e w' => e = .returned (.int .i64 (offerS X.S nm least ticks).1) ∧ ∃ X', TwoL w w' X' Z ∧ X'.b = b ∧ X'.S = (offerS X.S nm least ticks).2 := by
  subst hb
  refine (h.x.offer2 nm least ticks hs hc).mono ?_
  rintro e w' ⟨rfl, X', T, K, hS⟩
  exact ⟨rfl, X', h.turn T K, T.b, hS⟩
end
end Go.Proofs.YtlafddeoheambaaDoor

/-
  That names have neither blanks nor ends of lines in them; decimal numerals, their digits and what they are read as.
-/
namespace Go.Proofs.YtlafddeoheambaaDoor
open Go.RowKit

/-- No blank, no end of a line. -/
def ClnL (l : List UInt8) : Prop := ∀ c ∈ l, c ≠ 10 ∧ c ≠ 32
def Cln (b : ByteArray) : Prop := ClnL b.data.toList
theorem cln_of {c : UInt8} (h : 33 ≤ c.toNat) : c ≠ 10 ∧ c ≠ 32 := by
  constructor
  · rintro rfl
    revert h
    decide
  · rintro rfl
    revert h
    decide
theorem ClnL.nil : ClnL [] := fun c hc => by cases hc
theorem ClnL.cons {c : UInt8} {l : List UInt8} (hc : 33 ≤ c.toNat) (h : ClnL l) : ClnL (c :: l) := by
  intro d hd
  rcases List.mem_cons.1 hd with rfl | hd
  · exact cln_of hc
  · exact h d hd
theorem ClnL.app {a b : List UInt8} (ha : ClnL a) (hb : ClnL b) : ClnL (a ++ b) := by
  intro d hd
  rcases List.mem_append.1 hd with hd | hd
  · exact ha d hd
  · exact hb d hd
theorem low_ge {c : Nat} (h : lowB c = true) : 33 ≤ c := by
  simp only [lowB, Bool.and_eq_true, decide_eq_true_eq] at h
  omega
theorem grk_ge {c d : Nat} (h : grkB c d = true) : 33 ≤ c ∧ 33 ≤ d := by
  simp only [grkB, Bool.and_eq_true, Bool.or_eq_true, decide_eq_true_eq] at h
  omega
theorem runes_cln : ∀ (l : List UInt8) (n : Nat), runesL l = some n → ClnL l
  | [], _, _ => ClnL.nil
  | [c], n, h => by
    simp only [runesL] at h
    split at h
    · rename_i hc
      exact ClnL.cons (low_ge hc) ClnL.nil
    · cases h
  | c :: d :: r, n, h => by
    simp only [runesL] at h
    split at h
    · rename_i hc
      rw [Option.map_eq_some_iff] at h
      obtain ⟨m, hm, _⟩ := h
      exact ClnL.cons (low_ge hc) (runes_cln (d :: r) m hm)
    · split at h
      · rename_i hg
        rw [Option.map_eq_some_iff] at h
        obtain ⟨m, hm, _⟩ := h
        have := grk_ge hg
        exact ClnL.cons this.1 (ClnL.cons this.2 (runes_cln r m hm))
      · cases h
theorem name_cln {l : List UInt8} (h : nameB l = true) : ClnL l := by
  unfold nameB runesN at h
  cases hr : runesL l with
  | none => rw [hr] at h; simp at h
  | some n => exact runes_cln l n hr

def ClnU (u : SUnit) : Prop := Cln u.name ∧ Cln u.arg
def ClnP (p : SPlayer) : Prop := ∀ u ∈ p.units, ClnU u
def ClnS (s : SWorld) : Prop := ∀ p ∈ s.players, ClnP p
theorem cln_empty : Cln emptyB := ClnL.nil
theorem ClnS.setPl {s : SWorld} (h : ClnS s) (n : Nat) {p : SPlayer} (hp : ClnP p) : ClnS (s.setPl n p) := by
  intro q hq
  rcases List.mem_or_eq_of_mem_set hq with h' | rfl
  · exact h q h'
  · exact hp
theorem ClnP.setU {p : SPlayer} (h : ClnP p) (k : Nat) {u : SUnit} (hu : ClnU u) (m : Int) : ClnP { p with money := m, units := p.units.set k u } := by
  intro v hv
  rcases List.mem_or_eq_of_mem_set hv with h' | rfl
  · exact h v h'
  · exact hu
theorem ClnS.act {s : SWorld} (h : ClnS s) (n k : Nat) {p : SPlayer} {u : SUnit} (hp : ClnP p) (hu : ClnU u) (what arg : ByteArray) (ha : Cln arg) : ClnS (actS s n k p u what arg) := by
  unfold actS
  simp only
  split
  · split
    · exact h.setPl n (hp.setU k (u := { u with x := u.x + dxI u.head, y := u.y + dyI u.head }) hu p.money)
    · exact h
  split
  · exact h.setPl n (hp.setU k (u := { u with head := (u.head + 1) % 4 }) hu p.money)
  split
  · exact h.setPl n (hp.setU k (u := { u with head := (u.head + 2) % 4 }) hu p.money)
  split
  · exact h.setPl n (hp.setU k (u := { u with head := (u.head + 3) % 4 }) hu p.money)
  split
  · split
    · split
      · exact h.setPl n (hp.setU k (u := { u with cargo := u.cargo + 1 }) hu p.money)
      · exact h
    · exact h
  split
  · exact h.setPl n (hp.setU k (u := { u with cargo := 0 }) hu _)
  split
  · split
    · exact h.setPl n (hp.setU k (u := { u with name := arg }) ⟨ha, hu.2⟩ p.money)
    · exact h
  split
  · split
    · refine h.setPl n (fun v hv => ?_)
      rcases List.mem_append.1 hv with h5 | h5
      · exact hp v h5
      · simp at h5
        rw [h5]
        exact ⟨ha, cln_empty⟩
    · exact h
  · exact h
theorem ClnS.does {s : SWorld} (h : ClnS s) (n k : Nat) : ClnS (doesS s n k) := by
  unfold doesS
  split
  · exact h
  · rename_i p hp
    have hpn := h p (List.mem_of_getElem? hp)
    split
    · exact h
    · rename_i u hu
      have hun := hpn u (List.mem_of_getElem? hu)
      have hu0 : ClnU { u with what := emptyB, arg := emptyB } := ⟨hun.1, cln_empty⟩
      have hp0 := hpn.setU k hu0 p.money
      exact (h.setPl n hp0).act n k hp0 hu0 u.what u.arg hun.2
theorem ClnS.unitsTo {s : SWorld} (h : ClnS s) (n j : Nat) : ClnS (unitsTo s n j) := by
  induction j with
  | zero => exact h
  | succ j ih => exact ih.does n j
theorem ClnS.clearN {s : SWorld} (h : ClnS s) (n : Nat) : ClnS (clearN s n) := by
  unfold Proofs.YtlafddeoheambaaDoor.clearN
  split
  · exact h
  · rename_i p hp
    exact h.setPl n (p := { p with news := [] }) (fun u hu => h p (List.mem_of_getElem? hp) u hu)
theorem ClnS.tickTo {s : SWorld} (h : ClnS s) (n : Nat) : ClnS (tickTo s n) := by
  induction n with
  | zero => exact h
  | succ n ih => exact (ih.clearN n).unitsTo n _
theorem ClnS.tell {s : SWorld} (h : ClnS s) (k : Nat) (p : SPlayer) (a b c : List UInt8) (hp : s.players[k]? = some p) (hc : ClnL c) : ClnS (tellS s k p a b c).2 := by
  unfold tellS
  split
  · exact h
  · split
    · exact h
    · rename_i u hu
      have hpn := h p (List.mem_of_getElem? hp)
      have hun := hpn u (List.mem_of_getElem? hu)
      refine h.setPl k (hpn.setU _ (u := { u with what := bytesOf b, arg := bytesOf c }) ⟨hun.1, ?_⟩ p.money)
      unfold Cln
      rw [bytesOf_toList]
      exact hc
theorem ClnS.order {s : SWorld} (h : ClnS s) (n : Int) (t : List UInt8) : ClnS (orderS s n t).2 := by
  unfold orderS
  split
  · split
    · exact h
    · rename_i p hp
      have bid : ∀ nm k, ClnS (bidS s n.toNat p nm k).2 := by
        intro nm k
        unfold bidS
        repeat' split
        all_goals first
          | exact h
          | exact h.setPl _ (p := { p with bids := setB p.bids nm k }) (fun u hu => h p (List.mem_of_getElem? hp) u hu)
      unfold wordsS
      split
      · split
        · exact h.tell _ _ _ _ _ hp ClnL.nil
        · exact h
      · rename_i a b c e
        split
        · exact bid _ _
        · split
          · rename_i hc
            simp only [Bool.and_eq_true] at hc
            exact h.tell _ _ _ _ _ hp (name_cln hc.1.2)
          · exact h
      · exact h
  · exact h
theorem ClnS.new {W H S : Int} {ore starts : List SSpot} : ClnS (newS W H S ore starts) := by
  intro p hp u hu
  simp only [newS, List.mem_map] at hp
  obtain ⟨s, _, rfl⟩ := hp
  simp only [firstP, List.mem_singleton] at hu
  subst hu
  exact ⟨ClnL.cons (by decide) ClnL.nil, cln_empty⟩

theorem digit_nat {k : Nat} (h : k < 10) : (UInt8.ofNat (48 + k)).toNat = 48 + k := by
  rw [UInt8.toNat_ofNat']
  omega
theorem digits_cln (u : Nat) : ClnL (Lib.decDigits u) := by
  induction u using Nat.strongRecOn with
  | ind u ih =>
    rw [Lib.decDigits]
    split
    · rename_i h
      exact ClnL.cons (by rw [digit_nat h]; omega) ClnL.nil
    · exact (ih (u / 10) (by omega)).app (ClnL.cons (by rw [digit_nat (Nat.mod_lt _ (by omega))]; omega) ClnL.nil)
theorem itoa_cln (n : Int) : ClnL (Lib.itoa n) := by
  unfold Lib.itoa
  split
  · exact ClnL.cons (by decide) (digits_cln _)
  · exact digits_cln _
theorem itoaB_cln (n : Int) : Cln (itoaB n) := by
  unfold Cln itoaB
  exact itoa_cln n
theorem decFrom_snoc (l : List UInt8) (b : UInt8) (d : Nat) (hd : Lib.digitVal b = some d) : ∀ (acc m : Nat), Lib.decFrom acc l = some m → Lib.decFrom acc (l ++ [b]) = some (m * 10 + d) := by
  induction l with
  | nil =>
    intro acc m h
    simp only [Lib.decFrom, Option.some.injEq] at h
    subst h
    simp [Lib.decFrom, hd]
  | cons c r ih =>
    intro acc m h
    simp only [List.cons_append, Lib.decFrom] at h ⊢
    cases hc : Lib.digitVal c with
    | none => rw [hc] at h; cases h
    | some e =>
      rw [hc] at h
      exact ih _ _ h
theorem digit_val {k : Nat} (h : k < 10) : Lib.digitVal (UInt8.ofNat (48 + k)) = some k := by
  unfold Lib.digitVal
  rw [digit_nat h, if_pos (by omega)]
  congr 1
  omega
theorem digits_val (u : Nat) : Lib.decFrom 0 (Lib.decDigits u) = some u := by
  induction u using Nat.strongRecOn with
  | ind u ih =>
    rw [Lib.decDigits]
    split
    · rename_i h
      unfold Lib.decFrom
      rw [digit_val h]
      simp [Lib.decFrom]
    · rw [decFrom_snoc _ _ _ (digit_val (Nat.mod_lt u (by omega))) _ _ (ih (u / 10) (by omega))]
      congr 1
      omega
theorem digits_ne (u : Nat) : Lib.decDigits u ≠ [] := by
  rw [Lib.decDigits]
  split <;> simp
theorem digits_ge (u : Nat) : ∀ c ∈ Lib.decDigits u, 48 ≤ c.toNat ∧ c.toNat ≤ 57 := by
  induction u using Nat.strongRecOn with
  | ind u ih =>
    intro c hc
    rw [Lib.decDigits] at hc
    split at hc
    · rename_i h
      obtain rfl := List.mem_singleton.1 hc
      rw [digit_nat h]
      omega
    · rcases List.mem_append.1 hc with hc | hc
      · exact ih (u / 10) (by omega) c hc
      · obtain rfl := List.mem_singleton.1 hc
        have := Nat.mod_lt u (show 0 < 10 by omega)
        rw [digit_nat this]
        omega
theorem atoi_itoa (n : Int) (h : 0 ≤ n) : Lib.atoi (Lib.itoa n) = some n := by
  obtain ⟨u, rfl⟩ := Int.eq_ofNat_of_zero_le h
  have e : Lib.itoa (u : Int) = Lib.decDigits u := by unfold Lib.itoa; rw [if_neg (by omega)]; simp
  rw [e]
  have hv := digits_val u
  have hg := digits_ge u
  cases hd : Lib.decDigits u with
  | nil => exact absurd hd (digits_ne u)
  | cons b r =>
    rw [hd] at hv hg
    have hb := hg b (by simp)
    unfold Lib.atoi
    have n1 : (b == 45) = false := by
      rw [beq_eq_false_iff_ne]
      rintro rfl
      revert hb
      decide
    have n2 : (b == 43) = false := by
      rw [beq_eq_false_iff_ne]
      rintro rfl
      revert hb
      decide
    simp only [n1, n2, Bool.false_eq_true, if_false]
    unfold Lib.decNat
    simp [hv]
end Go.Proofs.YtlafddeoheambaaDoor

/-
  The lines of a view, and the words of a line, said plainly.
-/
namespace Go.Proofs.YtlafddeoheambaaDoor
open Go.RowKit

/-- One byte more: the lines so far, and what stands behind the last of them. -/
def cutStep (z : List (List UInt8) × List UInt8) (c : UInt8) : List (List UInt8) × List UInt8 := if c = 10 then (z.1 ++ [z.2], []) else (z.1, z.2 ++ [c])
def cutL (l : List UInt8) : List (List UInt8) × List UInt8 := l.foldl cutStep ([], [])
def linesB (l : List UInt8) : List (List UInt8) := (cutL l).1
theorem cut_snoc (l : List UInt8) (c : UInt8) : cutL (l ++ [c]) = cutStep (cutL l) c := by simp [cutL, List.foldl_append]
/-- The text is these lines. -/
def Lns (t : List UInt8) (ls : List (List UInt8)) : Prop := ∀ l0, t.foldl cutStep (l0, []) = (l0 ++ ls, [])
theorem Lns.nil : Lns [] [] := fun l0 => by simp
theorem Lns.app {a b : List UInt8} {x y : List (List UInt8)} (h : Lns a x) (h' : Lns b y) : Lns (a ++ b) (x ++ y) := fun l0 => by
  rw [List.foldl_append, h, h', List.append_assoc]
theorem cut_plain (l : List UInt8) (h : ∀ c ∈ l, c ≠ 10) : ∀ l0 cur, l.foldl cutStep (l0, cur) = (l0, cur ++ l) := by
  induction l with
  | nil => intro l0 cur; simp
  | cons c r ih =>
    intro l0 cur
    have hc := h c (by simp)
    rw [List.foldl_cons]
    have e : cutStep (l0, cur) c = (l0, cur ++ [c]) := by unfold cutStep; rw [if_neg hc]
    rw [e, ih (fun d hd => h d (by simp [hd]))]
    simp
theorem Lns.line {l : List UInt8} (h : ∀ c ∈ l, c ≠ 10) : Lns (l ++ [10]) [l] := fun l0 => by
  rw [List.foldl_append, cut_plain l h]
  simp [cutStep]
theorem Lns.flat {α : Type} {f : α → List UInt8} {g : α → List (List UInt8)} {l : List α} (h : ∀ a ∈ l, Lns (f a) (g a)) : Lns (l.flatMap f) (l.flatMap g) := by
  induction l with
  | nil => exact Lns.nil
  | cons a r ih =>
    simp only [List.flatMap_cons]
    exact (h a (by simp)).app (ih (fun b hb => h b (by simp [hb])))
theorem Lns.lines {t : List UInt8} {ls : List (List UInt8)} (h : Lns t ls) : linesB t = ls := by
  unfold linesB cutL
  rw [h []]
  simp
/-- A line of words, without its end. -/
def lineT (xs : List ByteArray) : List UInt8 := Lib.join (xs.map (·.data.toList)) [32]
theorem joinTail_no (sep : List UInt8) (q : UInt8 → Prop) (hs : ∀ c ∈ sep, q c) : ∀ xs : List (List UInt8), (∀ x ∈ xs, ∀ c ∈ x, q c) → ∀ c ∈ Lib.joinTail sep xs, q c := by
  intro xs
  induction xs with
  | nil => intro _ c hc; simp [Lib.joinTail] at hc
  | cons y r ih =>
    intro h c hc
    simp only [Lib.joinTail, List.map_cons, List.flatten_cons, List.mem_append] at hc
    rcases hc with (hc | hc) | hc
    · exact hs c hc
    · exact h y (by simp) c hc
    · exact ih (fun x hx => h x (by simp [hx])) c hc
theorem join_no (sep : List UInt8) (q : UInt8 → Prop) (hs : ∀ c ∈ sep, q c) (xs : List (List UInt8)) (h : ∀ x ∈ xs, ∀ c ∈ x, q c) : ∀ c ∈ Lib.join xs sep, q c := by
  cases xs with
  | nil => intro c hc; simp [Lib.join_nil] at hc
  | cons y r =>
    intro c hc
    rw [Lib.join_cons, List.mem_append] at hc
    rcases hc with hc | hc
    · exact h y (by simp) c hc
    · exact joinTail_no sep q hs r (fun x hx => h x (by simp [hx])) c hc
/-- No end of a line. -/
def NoE (b : ByteArray) : Prop := ∀ c ∈ b.data.toList, c ≠ 10
theorem Cln.noE {b : ByteArray} (h : Cln b) : NoE b := fun c hc => (h c hc).1
theorem Lns.words {xs : List ByteArray} (h : ∀ x ∈ xs, NoE x) : Lns (lineL xs) [lineT xs] := by
  refine Lns.line (join_no [32] (· ≠ 10) (by decide) _ (fun x hx => ?_))
  obtain ⟨b, hb, rfl⟩ := List.mem_map.1 hx
  exact h b hb
theorem whereB_no (x y : Int) : NoE (whereB x y) := by
  intro c hc
  unfold whereB at hc
  simp only [ByteArray.data_append, Array.toList_append, List.mem_append] at hc
  rcases hc with (hc | hc) | hc
  · exact (itoaB_cln x c hc).1
  · have : c = 32 := by simpa [blankB] using hc
    rw [this]; decide
  · exact (itoaB_cln y c hc).1
theorem letterB_cln (h : Int) : Cln (letterB h) := by
  unfold letterB
  repeat' split
  all_goals exact ClnL.cons (by decide) ClnL.nil

theorem split_one (a : List UInt8) (h : ∀ c ∈ a, c ≠ 32) : splitB a = [a] := by
  induction a with
  | nil => rfl
  | cons c r ih =>
    have hc := h c (by simp)
    simp only [splitB]
    rw [if_neg hc, ih (fun d hd => h d (by simp [hd]))]
theorem split_app (a b : List UInt8) (h : ∀ c ∈ a, c ≠ 32) : splitB (a ++ 32 :: b) = a :: splitB b := by
  induction a with
  | nil => simp [splitB]
  | cons c r ih =>
    have hc := h c (by simp)
    simp only [List.cons_append, splitB]
    rw [if_neg hc, ih (fun d hd => h d (by simp [hd]))]
theorem split_join : ∀ (xs : List (List UInt8)), xs ≠ [] → (∀ x ∈ xs, ∀ c ∈ x, c ≠ 32) → splitB (Lib.join xs [32]) = xs
  | [], h, _ => absurd rfl h
  | [a], _, h => by
    rw [Lib.join_cons]
    simp only [Lib.joinTail, List.map_nil, List.flatten_nil, List.append_nil]
    exact split_one a (h a (by simp))
  | a :: b :: r, _, h => by
    have ih := split_join (b :: r) (by simp) (fun x hx => h x (by simp [hx]))
    have e : Lib.join (a :: b :: r) [32] = a ++ 32 :: Lib.join (b :: r) [32] := by
      rw [Lib.join_cons, Lib.join_cons]
      simp [Lib.joinTail]
    rw [e, split_app _ _ (h a (by simp)), ih]

/-- The words of a unit's line. -/
def unitWs (u : SUnit) : List (List UInt8) := [wUnit.data.toList, u.name.data.toList, Lib.itoa u.x, Lib.itoa u.y, (letterB u.head).data.toList, wCargo.data.toList, Lib.itoa u.cargo]
def unitT (u : SUnit) : List UInt8 := lineT [wUnit, u.name, whereB u.x u.y, letterB u.head, wCargo, itoaB u.cargo]
theorem unitT_words {u : SUnit} (h : Cln u.name) : splitB (unitT u) = unitWs u := by
  have e : unitT u = Lib.join (unitWs u) [32] := by
    unfold unitT lineT unitWs
    simp only [List.map_cons, List.map_nil, Lib.join_cons, Lib.joinTail, List.flatten_cons, List.flatten_nil, whereB, ByteArray.data_append, Array.toList_append, blankB, itoaB, List.append_assoc]
  rw [e]
  refine split_join _ (by simp [unitWs]) ?_
  intro x hx
  simp only [unitWs, List.mem_cons, List.not_mem_nil, or_false] at hx
  rcases hx with rfl | rfl | rfl | rfl | rfl | rfl | rfl
  · decide
  · exact fun c hc => (h c hc).2
  · exact fun c hc => (itoa_cln _ c hc).2
  · exact fun c hc => (itoa_cln _ c hc).2
  · exact fun c hc => (letterB_cln _ c hc).2
  · decide
  · exact fun c hc => (itoa_cln _ c hc).2

/-- Does a text begin with another one? -/
def begB (s t : List UInt8) : Bool := decide (t.length ≤ s.length) && (s.take t.length == t)
theorem beg_app (a b : List UInt8) : begB (a ++ b) a = true := by simp [begB]
theorem beg_no {a b : UInt8} {s t : List UInt8} (h : a ≠ b) : begB (a :: s) (b :: t) = false := by simp [begB, h]

/-- The lines of what is seen at a spot. -/
def oreLs (o : List SSpot) (x y : Int) : List (List UInt8) := match oreAt o x y with
  | none => []
  | some a => [lineT [wOre, whereB x y, itoaB a]]
def otherLs (ps : List SPlayer) (n : Nat) (x y : Int) : List (List UInt8) := if 0 ≤ holderI ps x y ∧ holderI ps x y ≠ n then [lineT [wOther, whereB x y, itoaB (holderI ps x y)]] else []
def seenLs (s : SWorld) (n : Nat) (us : List SUnit) (x y : Int) : List (List UInt8) := if seesB us s.sight x y then oreLs s.ore x y ++ otherLs s.players n x y else []
def rowLs (s : SWorld) (n : Nat) (us : List SUnit) (y : Int) (k : Nat) : List (List UInt8) := (List.range k).flatMap (fun (x : Nat) => seenLs s n us x y)
def rowsLs (s : SWorld) (n : Nat) (us : List SUnit) (k : Nat) : List (List UInt8) := (List.range k).flatMap (fun (y : Nat) => rowLs s n us y s.width.toNat)
def lotT (p : SPlayer) (l : SLot) : List UInt8 := lineT (lotWs (bidI p.bids l.name) l)
def viewLs (s : SWorld) (n : Nat) (p : SPlayer) : List (List UInt8) :=
  [lineT [wTick, itoaB s.now, wMoney, itoaB p.money]] ++ p.units.flatMap (fun u => [unitT u]) ++ rowsLs s n p.units s.height.toNat ++ (sortL s.lots).flatMap (fun l => [lotT p l]) ++ p.news.flatMap (fun m => [m.data.toList])
theorem no_lit {l : List UInt8} (h : (l.all (fun c => decide (c ≠ 10))) = true) : ∀ c ∈ l, c ≠ 10 := fun c hc => by
  have := List.all_eq_true.1 h c hc
  exact of_decide_eq_true this
theorem seen_lns (s : SWorld) (n : Nat) (us : List SUnit) (x y : Int) : Lns (seenL s n us x y) (seenLs s n us x y) := by
  unfold seenL seenLs
  split
  · refine Lns.app ?_ ?_
    · unfold oreL oreLs
      cases oreAt s.ore x y
      · exact Lns.nil
      · refine Lns.words (fun z hz => ?_)
        simp only [List.mem_cons, List.not_mem_nil, or_false] at hz
        rcases hz with rfl | rfl | rfl
        · exact no_lit (by decide)
        · exact whereB_no _ _
        · exact (itoaB_cln _).noE
    · unfold otherL otherLs
      split
      · refine Lns.words (fun z hz => ?_)
        simp only [List.mem_cons, List.not_mem_nil, or_false] at hz
        rcases hz with rfl | rfl | rfl
        · exact no_lit (by decide)
        · exact whereB_no _ _
        · exact (itoaB_cln _).noE
      · exact Lns.nil
  · exact Lns.nil
theorem view_lns (s : SWorld) (n : Nat) (p : SPlayer) (hu : ∀ u ∈ p.units, Cln u.name) (hl : ∀ l ∈ sortL s.lots, NoE l.name) (hm : ∀ m ∈ p.news, NoE m) : Lns (viewL s n p) (viewLs s n p) := by
  unfold viewL viewLs ownL
  refine Lns.app (Lns.app (Lns.app (Lns.app ?_ ?_) ?_) ?_) ?_
  · refine Lns.words (fun z hz => ?_)
    simp only [List.mem_cons, List.not_mem_nil, or_false] at hz
    rcases hz with rfl | rfl | rfl | rfl
    · exact no_lit (by decide)
    · exact (itoaB_cln _).noE
    · exact no_lit (by decide)
    · exact (itoaB_cln _).noE
  · refine Lns.flat (fun u h => ?_)
    refine Lns.words (fun z hz => ?_)
    simp only [List.mem_cons, List.not_mem_nil, or_false] at hz
    rcases hz with rfl | rfl | rfl | rfl | rfl | rfl
    · exact no_lit (by decide)
    · exact (hu u h).noE
    · exact whereB_no _ _
    · exact (letterB_cln _).noE
    · exact no_lit (by decide)
    · exact (itoaB_cln _).noE
  · unfold rowsTo rowsLs
    refine Lns.flat (fun y _ => ?_)
    unfold rowTo rowLs
    exact Lns.flat (fun x _ => seen_lns s n p.units x y)
  · unfold lotsL lotT
    refine Lns.flat (fun l h => ?_)
    refine Lns.words (fun z hz => ?_)
    unfold lotWs at hz
    rw [List.mem_append] at hz
    rcases hz with hz | hz
    · simp only [List.mem_cons, List.not_mem_nil, or_false] at hz
      rcases hz with rfl | rfl | rfl | rfl | rfl | rfl
      · exact no_lit (by decide)
      · exact hl l h
      · exact no_lit (by decide)
      · exact (itoaB_cln _).noE
      · exact no_lit (by decide)
      · exact (itoaB_cln _).noE
    · split at hz
      · simp only [List.mem_cons, List.not_mem_nil, or_false] at hz
        rcases hz with rfl | rfl
        · exact no_lit (by decide)
        · exact (itoaB_cln _).noE
      · cases hz
  · unfold newsL
    exact Lns.flat (fun m h => Lns.line (hm m h))

/-- The word unit and a blank. -/
def unitP : List UInt8 := [117, 110, 105, 116, 32]
theorem beg_hd (l r : List UInt8) (a : UInt8) (l' : List UInt8) (hl : l = a :: l') (h : a ≠ 117) : begB (l ++ r) unitP = false := by
  subst hl
  exact beg_no h
/-- The lines of units of a view, in words. -/
def unitsB (t : List UInt8) : List (List (List UInt8)) := ((linesB t).filter (fun l => begB l unitP)).map splitB
theorem lineT_cons (a : ByteArray) (r : List ByteArray) : lineT (a :: r) = a.data.toList ++ Lib.joinTail [32] (r.map (·.data.toList)) := by
  unfold lineT
  rw [List.map_cons, Lib.join_cons]
theorem filter_flat {α β : Type} (p : β → Bool) (f : α → List β) (l : List α) (h : ∀ a ∈ l, ∀ b ∈ f a, p b = false) : (l.flatMap f).filter p = [] := by
  rw [List.filter_eq_nil_iff]
  intro b hb
  obtain ⟨a, ha, hb⟩ := List.mem_flatMap.1 hb
  rw [h a ha b hb]
  simp
theorem units_words (us : List SUnit) : (∀ u ∈ us, Cln u.name) → (us.flatMap (fun u => [unitT u])).map splitB = us.map unitWs := by
  induction us with
  | nil => intro _; rfl
  | cons u r ih =>
    intro hu
    simp only [List.flatMap_cons, List.map_cons, List.singleton_append]
    rw [unitT_words (hu u (by simp)), ih (fun v hv => hu v (by simp [hv]))]
theorem units_view (s : SWorld) (n : Nat) (p : SPlayer) (hu : ∀ u ∈ p.units, Cln u.name) (hl : ∀ l ∈ sortL s.lots, NoE l.name) (hm : ∀ m ∈ p.news, NoE m ∧ begB m.data.toList unitP = false) : unitsB (viewL s n p) = p.units.map unitWs := by
  unfold unitsB
  rw [(view_lns s n p hu hl (fun m h => (hm m h).1)).lines]
  unfold viewLs
  rw [List.filter_append, List.filter_append, List.filter_append, List.filter_append]
  have f1 : [lineT [wTick, itoaB s.now, wMoney, itoaB p.money]].filter (fun l => begB l unitP) = [] := by
    rw [List.filter_cons, lineT_cons]
    rfl
  have f3 : (rowsLs s n p.units s.height.toNat).filter (fun l => begB l unitP) = [] := by
    unfold rowsLs
    refine filter_flat _ _ _ (fun y _ b hb => ?_)
    unfold rowLs at hb
    obtain ⟨x, _, hb⟩ := List.mem_flatMap.1 hb
    unfold seenLs at hb
    split at hb
    · rcases List.mem_append.1 hb with hb | hb
      · unfold oreLs at hb
        split at hb
        · cases hb
        · obtain rfl := List.mem_singleton.1 hb
          rw [lineT_cons]
          exact beg_hd _ _ 111 _ rfl (by decide)
      · unfold otherLs at hb
        split at hb
        · obtain rfl := List.mem_singleton.1 hb
          rw [lineT_cons]
          exact beg_hd _ _ 111 _ rfl (by decide)
        · cases hb
    · cases hb
  have f4 : ((sortL s.lots).flatMap (fun l => [lotT p l])).filter (fun l => begB l unitP) = [] := by
    refine filter_flat _ _ _ (fun l _ b hb => ?_)
    obtain rfl := List.mem_singleton.1 hb
    unfold lotT lotWs
    rw [List.cons_append, lineT_cons]
    exact beg_hd _ _ 108 _ rfl (by decide)
  have f5 : (p.news.flatMap (fun m => [m.data.toList])).filter (fun l => begB l unitP) = [] := by
    refine filter_flat _ _ _ (fun m h b hb => ?_)
    obtain rfl := List.mem_singleton.1 hb
    exact (hm m h).2
  have f2 : (p.units.flatMap (fun u => [unitT u])).filter (fun l => begB l unitP) = p.units.flatMap (fun u => [unitT u]) := by
    rw [List.filter_eq_self]
    intro b hb
    obtain ⟨u, _, hb⟩ := List.mem_flatMap.1 hb
    obtain rfl := List.mem_singleton.1 hb
    have e : unitT u = unitP ++ (u.name.data.toList ++ Lib.joinTail [32] ([whereB u.x u.y, letterB u.head, wCargo, itoaB u.cargo].map (·.data.toList))) := by
      unfold unitT
      rw [lineT_cons, List.map_cons]
      simp only [Lib.joinTail, List.map_cons, List.flatten_cons]
      rfl
    rw [e]
    exact beg_app _ _
  rw [f1, f2, f3, f4, f5]
  simp only [List.nil_append, List.append_nil]
  exact units_words p.units hu
end Go.Proofs.YtlafddeoheambaaDoor
