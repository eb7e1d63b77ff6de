/-
  What holds of a world with lots, and stays so: every player has as much as it bids; and what Offer comes to, said plainly.
-/
import Derived.Test.YtlafddeoheambaaGreatDoorT37
import Derived.Test.YtlafddeoheambaaGreatDoorT33
import Derived.Deep.RegionHeld3
import Derived.BigQuiet
import Derived.Deep.AppendLies
set_option linter.unusedVariables false
namespace Go.Proofs.YtlafddeoheambaaGreatDoor
open Go.RowKit

def CovP (p : SPlayer) : Prop := stakedI p.bids emptyB ≤ p.money
def Cov (s : SWorld) : Prop := ∀ p ∈ s.players, CovP p
theorem Cov.setPl {s : SWorld} (h : Cov s) (n : Nat) {p : SPlayer} (hp : CovP p) : Cov (s.setPl n p) := by
  intro q hq
  rcases List.mem_or_eq_of_mem_set hq with h' | rfl
  · exact h q h'
  · exact hp
theorem Cov.act {s : SWorld} (h : Cov s) (n k : Nat) {p : SPlayer} {u : SUnit} (hp : CovP p) (hu : 0 ≤ u.cargo) (what arg : ByteArray) : Cov (actS s n k p u what arg) := by
  unfold CovP at hp
  unfold actS
  simp only
  repeat' split
  all_goals first
    | exact h
    | exact h.setPl n (show stakedI p.bids emptyB ≤ p.money from hp)
    | exact h.setPl n (show stakedI p.bids emptyB ≤ p.money + 10 * u.cargo by omega)
    | (rename_i hc; exact h.setPl n (show stakedI p.bids emptyB ≤ p.money - 50 by omega))
theorem Cov.does {s : SWorld} {M : Int} (h : Cov s) (hw : WFS s M) (n k : Nat) : Cov (doesS s n k) := by
  unfold doesS
  split
  · exact h
  · rename_i p hp
    have hm := List.mem_of_getElem? hp
    split
    · exact h
    · rename_i u hu
      have uk := (hw.each p hm).each u (List.mem_of_getElem? hu)
      have hp0 : CovP { p with units := p.units.set k { u with what := emptyB, arg := emptyB } } := h p hm
      exact (h.setPl n hp0).act n k (u := { u with what := emptyB, arg := emptyB }) hp0 (show 0 ≤ u.cargo from uk.cargo.1) u.what u.arg
theorem Cov.unitsTo {s : SWorld} {M : Int} (h : Cov s) (hw : WFS s M) (n j : Nat) : Cov (unitsTo s n j) := by
  induction j with
  | zero => exact h
  | succ j ih => exact ih.does (hw.unitsTo n j) n j
theorem Cov.clearN {s : SWorld} (h : Cov s) (n : Nat) : Cov (clearN s n) := by
  unfold Proofs.YtlafddeoheambaaGreatDoor.clearN
  split
  · exact h
  · rename_i p hp
    exact h.setPl n (p := { p with news := [] }) (h p (List.mem_of_getElem? hp))
theorem Cov.tickTo {s : SWorld} {M : Int} (h : Cov s) (hw : WFS s M) (n : Nat) : Cov (tickTo s n) := by
  induction n with
  | zero => exact h
  | succ n ih => exact (ih.clearN n).unitsTo ((hw.tickTo n).clearN n) n _

theorem staked_drop {bs : List SBid} (h : ∀ b ∈ bs, b.lot ≠ emptyB) (lot : ByteArray) : stakedI (bs.filter (fun b => !eqS b.lot lot)) emptyB = stakedI bs lot := by
  induction bs with
  | nil => rfl
  | cons b r ih =>
    have ih := ih (fun x hx => h x (by simp [hx]))
    have e1 : eqS b.lot emptyB = false := by
      cases e2 : eqS b.lot emptyB
      · rfl
      · exact absurd (eqS_iff.1 e2) (h b (by simp))
    simp only [List.filter_cons, stakedI]
    cases e : eqS b.lot lot
    · simp only [Bool.not_false, if_true, stakedI, e1, Bool.false_eq_true, if_false, ih]
    · simp only [Bool.not_true, Bool.false_eq_true, if_false, if_true, ih]
      omega
theorem bids_ne {names : List ByteArray} (he : emptyB ∉ names) {bs : List SBid} (h : BidsOK names bs) : ∀ b ∈ bs, b.lot ≠ emptyB := fun b hb e => he (e ▸ h.mem b hb)
theorem staked_set {names : List ByteArray} (he : emptyB ∉ names) {bs : List SBid} (h : BidsOK names bs) {lot : ByteArray} (hl : lot ≠ emptyB) {n : Int} (hn : 0 ≤ n) : stakedI (setB bs lot n) emptyB = stakedI bs lot + n := by
  unfold setB
  have hd := staked_drop (bids_ne he h) lot
  split
  · rw [stakedI_snoc, hd]
    have e1 : eqS lot emptyB = false := by
      cases e2 : eqS lot emptyB
      · rfl
      · exact absurd (eqS_iff.1 e2) hl
    simp [e1]
  · rw [List.append_nil, hd]
    omega
theorem bidI_le {names : List ByteArray} {bs : List SBid} (h : BidsOK names bs) (lot : ByteArray) : 0 ≤ bidI bs lot ∧ bidI bs lot ≤ 100000 := by
  induction bs with
  | nil => simp [bidI]
  | cons b r ih =>
    have ih := ih ⟨fun x hx => h.mem x (by simp [hx]), (List.pairwise_cons.1 h.dist).2, fun x hx => h.pos x (by simp [hx])⟩
    have hp := h.pos b (by simp)
    simp only [bidI]
    split <;> omega
theorem nodup_len : ∀ (a b : List ByteArray), a.Nodup → (∀ x ∈ a, x ∈ b) → a.length ≤ b.length := by
  intro a
  induction a with
  | nil => intro b _ _; simp
  | cons x r ih =>
    intro b hd hs
    have hd' := List.nodup_cons.1 hd
    have h1 := ih (b.filter (fun y => !eqS y x)) hd'.2 (fun y hy => List.mem_filter.2 ⟨hs y (by simp [hy]), by
      cases e : eqS y x
      · rfl
      · exact absurd (eqS_iff.1 e ▸ hy) hd'.1⟩)
    have h2 : (b.filter (fun y => !eqS y x)).length < b.length := by
      rw [List.length_filter_lt_length_iff_exists]
      exact ⟨x, hs x (by simp), by simp [eqS]⟩
    simp only [List.length_cons]
    omega
theorem BidsOK.len {names : List ByteArray} {bs : List SBid} (h : BidsOK names bs) : bs.length ≤ names.length := by
  have := nodup_len (bs.map (·.lot)) names (List.pairwise_map.2 h.dist) (fun x hx => by
    obtain ⟨b, hb, rfl⟩ := List.mem_map.1 hx
    exact h.mem b hb)
  simpa using this

/-- What stays while lots are sold. -/
structure SellInv (t : SWorld) (M : Int) (names D : List ByteArray) : Prop where
  wf : WFS t M
  cov : Cov t
  bo : ∀ p ∈ t.players, BidsOK names p.bids
  out : ∀ p ∈ t.players, ∀ b ∈ p.bids, b.lot ∉ D
theorem sell_mem {t : SWorld} {l : SLot} {q : SPlayer} (h : q ∈ (sellS t l).players) : ∃ (i : Nat) (p : SPlayer), t.players[i]? = some p ∧ q = soldP l (winI (bidsOf t.players l.name) l.least t.players.length) (paysI (bidsOf t.players l.name) l.least t.players.length) i p := by
  obtain ⟨i, hi⟩ := List.getElem?_of_mem h
  unfold sellS at hi
  simp only [List.getElem?_mapIdx, Option.map_eq_some_iff] at hi
  obtain ⟨p, h1, h2⟩ := hi
  exact ⟨i, p, h1, h2.symm⟩
theorem SellInv.sell {t : SWorld} {M : Int} {names D : List ByteArray} (h : SellInv t M names D) (he : emptyB ∉ names) (l : SLot) (hl : 0 ≤ l.least) (hn : l.name ∈ names) : SellInv (sellS t l) M names (l.name :: D) := by
  have hne : l.name ≠ emptyB := fun e => he (e ▸ hn)
  have key : ∀ (i : Nat) (p : SPlayer), t.players[i]? = some p → CovP (soldP l (winI (bidsOf t.players l.name) l.least t.players.length) (paysI (bidsOf t.players l.name) l.least t.players.length) i p) ∧ (soldP l (winI (bidsOf t.players l.name) l.least t.players.length) (paysI (bidsOf t.players l.name) l.least t.players.length) i p).money ≤ p.money := by
    intro i p hp
    have hm := List.mem_of_getElem? hp
    have hb := h.bo p hm
    have hc := h.cov p hm
    unfold CovP at hc ⊢
    have e1 : stakedI (setB p.bids l.name 0) emptyB = stakedI p.bids emptyB - bidI p.bids l.name := by
      rw [staked_set he hb hne (Int.le_refl 0), staked_but he hb l.name]
      omega
    have e2 := bidI_le hb l.name
    unfold soldP
    show stakedI (setB p.bids l.name 0) emptyB ≤ (if (i : Int) = _ then p.money - _ else p.money) ∧ (if (i : Int) = _ then p.money - _ else p.money) ≤ p.money
    rw [e1]
    split
    · rename_i hw
      have := pays_le (bid := bidsOf t.players l.name) (least := l.least) (n := t.players.length) (k := i) hw.symm
      have e3 : bidsOf t.players l.name i = bidI p.bids l.name := by unfold bidsOf; rw [hp]
      omega
    · omega
  refine ⟨⟨?_, h.wf.wd, h.wf.ht, h.wf.orn, h.wf.ora, fun q hq => ?_⟩, fun q hq => ?_, fun q hq => ?_, fun q hq b hb => ?_⟩
  · have := h.wf.pl
    have e : (sellS t l).players.length = t.players.length := sell_len t l
    omega
  · obtain ⟨i, p, hp, rfl⟩ := sell_mem hq
    have hm := List.mem_of_getElem? hp
    have pk := h.wf.each p hm
    obtain ⟨k1, k2⟩ := key i p hp
    have hb2 : BidsOK names (setB p.bids l.name 0) := (h.bo p hm).set hn (by omega)
    refine ⟨pk.un, pk.each, ⟨?_, by have := pk.mo.2; omega⟩, ⟨fun b hb => ?_, ?_⟩⟩
    · have := staked_nonneg hb2 emptyB
      unfold CovP at k1
      exact Int.le_trans this k1
    · have := hb2.pos b hb
      omega
    · have h1 := hb2.len
      show (setB p.bids l.name 0).length ≤ 1000
      have h2 := pk.bi.2
      rw [setB_zero]
      exact Nat.le_trans (List.length_filter_le _ _) h2
  · obtain ⟨i, p, hp, rfl⟩ := sell_mem hq
    exact (key i p hp).1
  · obtain ⟨i, p, hp, rfl⟩ := sell_mem hq
    exact (h.bo p (List.mem_of_getElem? hp)).set hn (by omega)
  · obtain ⟨i, p, hp, rfl⟩ := sell_mem hq
    have hb' : b ∈ setB p.bids l.name 0 := hb
    rw [setB_zero, List.mem_filter] at hb'
    intro hm
    rcases List.mem_cons.1 hm with e | hm
    · have : eqS b.lot l.name = true := eqS_iff.2 e
      rw [this] at hb'
      simp at hb'
    · exact h.out p (List.mem_of_getElem? hp) b hb'.1 hm
theorem SellInv.fold {M : Int} {names : List ByteArray} (he : emptyB ∉ names) : ∀ (Q : List SLot) (D : List ByteArray) (t : SWorld), (∀ l ∈ Q, 0 ≤ l.least ∧ l.name ∈ names) → SellInv t M names D → SellInv (Q.foldl sellS t) M names ((Q.map (·.name)).reverse ++ D) := by
  intro Q
  induction Q with
  | nil => intro D t _ h; exact h
  | cons l r ih =>
    intro D t hq h
    rw [List.foldl_cons]
    have h1 := hq l (by simp)
    have := ih (l.name :: D) (sellS t l) (fun x hx => hq x (by simp [hx])) (h.sell he l h1.1 h1.2)
    simpa using this
theorem sell_nm {t : SWorld} (h : NmS t) (l : SLot) : NmS (sellS t l) := by
  refine ⟨fun q hq u hu => ?_, h.l⟩
  obtain ⟨i, p, hp, rfl⟩ := sell_mem hq
  exact h.u p (List.mem_of_getElem? hp) u hu
theorem fold_nm : ∀ (Q : List SLot) (t : SWorld), NmS t → NmS (Q.foldl sellS t) := by
  intro Q
  induction Q with
  | nil => intro t h; exact h
  | cons l r ih => intro t h; exact ih _ (sell_nm h l)
theorem fold_keep : ∀ (Q : List SLot) (t : SWorld), (Q.foldl sellS t).now = t.now ∧ (Q.foldl sellS t).lots = t.lots := by
  intro Q
  induction Q with
  | nil => intro t; exact ⟨rfl, rfl⟩
  | cons l r ih => intro t; exact ih (sellS t l)

/-- What holds of a world with lots. -/
structure GoodL (s : SWorld) : Prop where
  now : 0 ≤ s.now ∧ s.now ≤ 1000
  wf : WFS s (100 + 1800 * s.now)
  lw : LotWF s.lots (s.players.map (·.bids)) s.now
  nm : NmS s
  cov : Cov s
theorem lots_noempty {lots : List SLot} {bss : List (List SBid)} {now : Int} (h : LotWF lots bss now) : emptyB ∉ lots.map (·.name) := fun hm => by
  obtain ⟨l, hl, e⟩ := List.mem_map.1 hm
  exact h.nm l hl e
theorem GoodL.new {W H S : Int} {ore starts : List SSpot} (h : newB W H S ore starts = true) : GoodL (newS W H S ore starts) := by
  have g := GoodS.new h
  refine ⟨g.now, g.wf, g.lw, g.nm, fun p hp => ?_⟩
  simp only [newS, List.mem_map] at hp
  obtain ⟨s, _, rfl⟩ := hp
  show (0 : Int) ≤ 100
  omega
/-- The world between the units' doings and the lots' closing. -/
def midS (s : SWorld) : SWorld := { tickTo s s.players.length with now := s.now + 1 }
theorem GoodL.mid {s : SWorld} (h : GoodL s) : SellInv (midS s) (100 + 1800 * (s.now + 1)) (s.lots.map (·.name)) [] := by
  have hp := h.wf.pl
  have hw : WFS (tickTo s s.players.length) (100 + 1800 * (s.now + 1)) := (h.wf.tickTo s.players.length).mono (by omega)
  refine ⟨⟨hw.pl, hw.wd, hw.ht, hw.orn, hw.ora, hw.each⟩, h.cov.tickTo h.wf s.players.length, fun p hp' => ?_, fun _ _ _ _ => by simp⟩
  have hb := tickTo_bids s s.players.length
  have : p.bids ∈ (tickTo s s.players.length).players.map (·.bids) := List.mem_map_of_mem hp'
  rw [hb] at this
  exact h.lw.bids p.bids this
theorem GoodL.tick {s : SWorld} (h : GoodL s) (hn : s.now < 1000) : GoodL (tickS s) := by
  have hm := h.mid
  have hl := tickTo_len s s.players.length
  have hlots : (midS s).lots = s.lots := hl.2.2
  have he := lots_noempty h.lw
  have hdue : ∀ l ∈ dueL (midS s).lots (midS s).now, 0 ≤ l.least ∧ l.name ∈ s.lots.map (·.name) := by
    intro l hl'
    have h1 := (List.mem_filter.1 hl').1
    rw [sortL_mem, hlots] at h1
    exact ⟨(h.lw.lst l h1).1, List.mem_map_of_mem h1⟩
  have hf := SellInv.fold he (dueL (midS s).lots (midS s).now) [] (midS s) hdue hm
  have hk := fold_keep (dueL (midS s).lots (midS s).now) (midS s)
  have hnm : NmS (midS s) := ⟨(h.nm.tickTo s.players.length).u, by rw [hlots]; exact h.nm.l⟩
  have hfn := fold_nm (dueL (midS s).lots (midS s).now) (midS s) hnm
  have et : tickS s = { (dueL (midS s).lots (midS s).now).foldl sellS (midS s) with lots := (midS s).lots.filter (fun l => !decide (l.ends = (midS s).now)) } := rfl
  have hnow : (midS s).now = s.now + 1 := rfl
  rw [et]
  refine ⟨⟨?_, ?_⟩, ?_, ?_, ⟨hfn.u, fun l hl' => ?_⟩, hf.cov⟩
  · show 0 ≤ ((dueL (midS s).lots (midS s).now).foldl sellS (midS s)).now
    rw [hk.1, hnow]
    have := h.now.1
    omega
  · show ((dueL (midS s).lots (midS s).now).foldl sellS (midS s)).now ≤ 1000
    rw [hk.1, hnow]
    omega
  · show WFS _ (100 + 1800 * ((dueL (midS s).lots (midS s).now).foldl sellS (midS s)).now)
    rw [hk.1, hnow]
    exact ⟨hf.wf.pl, hf.wf.wd, hf.wf.ht, hf.wf.orn, hf.wf.ora, hf.wf.each⟩
  · show LotWF ((midS s).lots.filter (fun l => !decide (l.ends = (midS s).now))) (((dueL (midS s).lots (midS s).now).foldl sellS (midS s)).players.map (·.bids)) ((dueL (midS s).lots (midS s).now).foldl sellS (midS s)).now
    rw [hk.1, hlots]
    have sub : ∀ l ∈ s.lots.filter (fun l => !decide (l.ends = (midS s).now)), l ∈ s.lots ∧ l.ends ≠ s.now + 1 := fun l hl' => by
      obtain ⟨h1, h2⟩ := List.mem_filter.1 hl'
      refine ⟨h1, fun e => ?_⟩
      rw [hnow, e] at h2
      simp at h2
    refine ⟨h.lw.apart.filter _, fun l hl' => h.lw.nm l (sub l hl').1, fun l hl' => h.lw.lst l (sub l hl').1, fun l hl' => ?_, Nat.le_trans (List.length_filter_le _ _) h.lw.len, fun bs hbs => ?_⟩
    · have h1 := h.lw.ends l (sub l hl').1
      have h2 := (sub l hl').2
      rw [hnow]
      omega
    · rw [← hlots] at hbs
      obtain ⟨p, hp, rfl⟩ := List.mem_map.1 hbs
      have hb := hf.bo p hp
      have ho := hf.out p hp
      refine ⟨fun b hb' => ?_, hb.dist, hb.pos⟩
      obtain ⟨l, hl', e⟩ := List.mem_map.1 (hb.mem b hb')
      have hno := ho b hb'
      refine List.mem_map.2 ⟨l, List.mem_filter.2 ⟨hl', ?_⟩, e⟩
      cases hd : decide (l.ends = (midS s).now)
      · rfl
      · exfalso
        apply hno
        rw [List.append_nil, List.mem_reverse]
        refine List.mem_map.2 ⟨l, List.mem_filter.2 ⟨?_, hd⟩, e⟩
        rw [sortL_mem, hlots]
        exact hl'
  · have h1 := (List.mem_filter.1 hl').1
    rw [hlots] at h1
    exact h.nm.l l h1
theorem number_le (c : List UInt8) : numberI c ≤ 100000 := by
  unfold numberI
  repeat' split
  all_goals omega
theorem GoodL.order {s : SWorld} (h : GoodL s) (n : Int) (t : List UInt8) (ht : t.length ≤ 2000000) : GoodL (orderS s n t).2 := by
  have hnm := h.nm.order n t ht
  revert hnm
  have tell : ∀ (k : Nat) (p : SPlayer) a b c, s.players[k]? = some p → NmS (tellS s k p a b c).2 → GoodL (tellS s k p a b c).2 := by
    intro k p a b c hp hnm
    obtain ⟨h1, h2, h3⟩ := tell_bn s k p a b c hp
    refine ⟨by rw [h3]; exact h.now, by rw [h3]; exact h.wf.tell k p a b c hp, ?_, hnm, ?_⟩
    · rw [bn_bids h1, h2, h3]
      exact h.lw
    · unfold tellS
      repeat' split
      all_goals first
        | exact h.cov
        | exact h.cov.setPl k (show stakedI p.bids emptyB ≤ p.money from h.cov p (List.mem_of_getElem? hp))
  have bid : ∀ (k : Nat) (p : SPlayer) (nm : ByteArray) (x : Int), s.players[k]? = some p → 0 ≤ x → x ≤ 100000 → NmS (bidS s k p nm x).2 → GoodL (bidS s k p nm x).2 := by
    intro k p nm x hp hx0 hx1
    unfold bidS
    split
    · rename_i ho
      split
      · exact fun _ => h
      · rename_i hmon
        intro hnm
        have hmem := List.mem_of_getElem? hp
        have pk := h.wf.each p hmem
        have hnl : nm ∈ s.lots.map (·.name) := by
          unfold openB at ho
          rw [List.any_eq_true] at ho
          obtain ⟨l, hl, e⟩ := ho
          exact List.mem_map.2 ⟨l, hl, eqS_iff.1 e⟩
        have he := lots_noempty h.lw
        have hbo : BidsOK (s.lots.map (·.name)) p.bids := h.lw.bids p.bids (List.mem_map_of_mem hmem)
        have hb2 := hbo.set hnl hx1
        have hne : nm ≠ emptyB := fun e => he (e ▸ hnl)
        refine ⟨h.now, h.wf.setPl k ⟨pk.un, pk.each, pk.mo, ⟨fun b hb => ?_, ?_⟩⟩, ?_, hnm, h.cov.setPl k ?_⟩
        · have := hb2.pos b hb
          omega
        · have h1 := hb2.len
          have h2 := h.lw.len
          rw [List.length_map] at h1
          show (setB p.bids nm x).length ≤ 1000
          omega
        · have e : (s.setPl k { p with bids := setB p.bids nm x }).players.map (·.bids) = (s.players.map (·.bids)).set k (setB p.bids nm x) := by simp [SWorld.setPl, List.map_set]
          show LotWF s.lots ((s.setPl k { p with bids := setB p.bids nm x }).players.map (·.bids)) s.now
          rw [e]
          exact h.lw.setBid (by simp [hp]) hnl hx1
        · show stakedI (setB p.bids nm x) emptyB ≤ p.money
          rw [staked_set he hbo hne hx0]
          omega
    · exact fun _ => h
  unfold orderS
  split
  · split
    · exact fun _ => h
    · rename_i p hp
      unfold wordsS
      split
      · split
        · exact fun hnm => tell _ _ _ _ _ hp hnm
        · exact fun _ => h
      · rename_i a b c e
        split
        · rename_i hc
          simp only [Bool.and_eq_true, decide_eq_true_eq] at hc
          exact fun hnm => bid _ _ _ _ hp hc.2 (number_le c) hnm
        · split
          · exact fun hnm => tell _ _ _ _ _ hp hnm
          · exact fun _ => h
      · exact fun _ => h
  · exact fun _ => h
/-- What Offer answers, and the world behind it. -/
def offerS (s : SWorld) (nm : ByteArray) (least ticks : Int) : Int × SWorld :=
  if nameB nm.data.toList then (if openB s.lots nm then (4, s) else if inB least 0 100000 && inB ticks 1 1000 then (if 4 ≤ s.lots.length then (6, s) else (0, { s with lots := s.lots ++ [⟨nm, least, s.now + ticks⟩] })) else (1, s)) else (2, s)
theorem name_ne {nm : ByteArray} (h : nameB nm.data.toList = true) : nm ≠ emptyB := by
  rintro rfl
  exact absurd h (by decide)
theorem openB_no {ls : List SLot} {nm : ByteArray} (h : openB ls nm = false) : ∀ l ∈ ls, l.name ≠ nm := by
  intro l hl e
  unfold openB at h
  rw [List.any_eq_false] at h
  exact h l hl (eqS_iff.2 e)
theorem GoodL.offer {s : SWorld} (h : GoodL s) (nm : ByteArray) (least ticks : Int) (hs : nm.size ≤ 2000000) : GoodL (offerS s nm least ticks).2 := by
  unfold offerS
  split
  · rename_i hnm
    split
    · exact h
    · rename_i ho
      split
      · rename_i hb
        split
        · exact h
        · rename_i h4
          simp only [inB, Bool.and_eq_true, decide_eq_true_eq] at hb
          refine ⟨h.now, ⟨h.wf.pl, h.wf.wd, h.wf.ht, h.wf.orn, h.wf.ora, h.wf.each⟩, ?_, ⟨h.nm.u, fun l hl => ?_⟩, h.cov⟩
          · exact h.lw.offer (openB_no (by simpa using ho)) (name_ne hnm) ⟨hb.1.1, hb.1.2⟩ ⟨hb.2.1, hb.2.2⟩ (by omega)
          · rcases List.mem_append.1 hl with hl | hl
            · exact h.nm.l l hl
            · obtain rfl := List.mem_singleton.1 hl
              exact hs
      · exact h
  · exact h
end Go.Proofs.YtlafddeoheambaaGreatDoor

/-
  The function Close of package lots: who gets a lot, and for how much, in one pass.
-/
namespace Go.Proofs.YtlafddeoheambaaGreatDoor
open Go.RowKit

/-- A lot's cells. -/
structure LotAt (w : World) (g o : Nat) (l : XLot) : Prop where
  c0 : w.cell? ⟨g, o, none⟩ = some (.string l.name)
  c1 : w.cell? ⟨g, o + 1, none⟩ = some (.int .i64 l.ends)
  c2 : w.cell? ⟨g, o + 2, none⟩ = some (.int .i64 l.least)
  c3 : w.cell? ⟨g, o + 3, none⟩ = some (.int .i64 (l.bid 0))
  c4 : w.cell? ⟨g, o + 4, none⟩ = some (.int .i64 (l.bid 1))
  c5 : w.cell? ⟨g, o + 5, none⟩ = some (.int .i64 (l.bid 2))
  c6 : w.cell? ⟨g, o + 6, none⟩ = some (.int .i64 (l.bid 3))
theorem LotAt.below {w w' : World} {g o : Nat} {l : XLot} (h : LotAt w g o l) (hb : Below w.heap.size w w') : LotAt w' g o l := by
  have lt := block_lt_of_cell h.c0
  exact ⟨(hb.cell (p := ⟨g, o, none⟩) lt).trans h.c0, (hb.cell (p := ⟨g, o + 1, none⟩) lt).trans h.c1, (hb.cell (p := ⟨g, o + 2, none⟩) lt).trans h.c2, (hb.cell (p := ⟨g, o + 3, none⟩) lt).trans h.c3, (hb.cell (p := ⟨g, o + 4, none⟩) lt).trans h.c4, (hb.cell (p := ⟨g, o + 5, none⟩) lt).trans h.c5, (hb.cell (p := ⟨g, o + 6, none⟩) lt).trans h.c6⟩
theorem lot_at {w : World} {g cap : Nat} {l : List XLot} (h : w.ownsRow 0 108 7 (.slice (some ⟨g, 0, none⟩) l.length cap) l.length (l.flatMap xlotCells)) {k : Nat} {x : XLot} (hk : l[k]? = some x) : LotAt w g (k * 7) x := by
  obtain ⟨hl, rfl⟩ := at_some hk
  have f := fun j (hj : j < 7) => flat_at xlotCells 7 (fun _ => rfl) l k j hl hj
  have c := fun j (hj : j < 7) u (hu : (xlotCells l[k])[j]? = some u) => own_cell h ((f j hj).trans hu)
  exact ⟨c 0 (by omega) _ rfl, c 1 (by omega) _ rfl, c 2 (by omega) _ rfl, c 3 (by omega) _ rfl, c 4 (by omega) _ rfl, c 5 (by omega) _ rfl, c 6 (by omega) _ rfl⟩
/-- The sale so far, in a block of its own. -/
structure SaleAt (w w' : World) (nm : ByteArray) (who price : Int) : Prop where
  b : Below w.heap.size w w'
  s : w'.heap[w.heap.size + 1]? = some (.cells #[.string nm, .int .i64 who, .int .i64 price] 137 (0, 0))
  z : w'.heap[w.heap.size]? = some (.cells #[.string ⟨#[]⟩, .int .i64 0, .int .i64 0] 137 (0, 0))
theorem SaleAt.drewN {w w' : World} {nm : ByteArray} {who price : Int} (h : SaleAt w w' nm who price) (n : Nat) : SaleAt w (w'.drewN n) nm who price := ⟨⟨h.b.os, h.b.tape, h.b.output, h.b.size, h.b.block⟩, h.s, h.z⟩
theorem SaleAt.first (w : World) (nm : ByteArray) : SaleAt w ((w.alloc (.cells #[.string ⟨#[]⟩, .int .i64 0, .int .i64 0] 137)).alloc (.cells #[.string nm, .int .i64 (-1), .int .i64 0] 137)) nm (-1) 0 := by
  have s1 : (w.alloc (.cells #[.string ⟨#[]⟩, .int .i64 0, .int .i64 0] 137)).heap.size = w.heap.size + 1 := by simp
  have h1 := Go.heap_alloc_new w (.cells #[.string ⟨#[]⟩, .int .i64 0, .int .i64 0] 137)
  have h2 := Go.heap_alloc_new (w.alloc (.cells #[.string ⟨#[]⟩, .int .i64 0, .int .i64 0] 137)) (.cells #[.string nm, .int .i64 (-1), .int .i64 0] 137)
  rw [s1] at h2
  exact ⟨((Below.refl _ w).alloc (Nat.le_refl _) _).alloc (by simp) _, h2, by rw [Below.heap_alloc _ _ _ (by simp), h1]⟩
theorem SaleAt.cells {w w' : World} {nm : ByteArray} {who price : Int} (h : SaleAt w w' nm who price) : w'.cell? ⟨w.heap.size + 1, 0, none⟩ = some (.string nm) ∧ w'.cell? ⟨w.heap.size + 1, 1, none⟩ = some (.int .i64 who) ∧ w'.cell? ⟨w.heap.size + 1, 2, none⟩ = some (.int .i64 price) ∧ (∀ j, w'.frozen? ⟨w.heap.size + 1, j, none⟩ = false) ∧ (∀ j, w'.frozen? ⟨w.heap.size, j, none⟩ = false) ∧ w'.cell? ⟨w.heap.size, 0, none⟩ = some (.string ⟨#[]⟩) ∧ w'.cell? ⟨w.heap.size, 1, none⟩ = some (.int .i64 0) ∧ w'.cell? ⟨w.heap.size, 2, none⟩ = some (.int .i64 0) :=
  ⟨by rw [cell_of_row _ _ _ _ _ _ h.s]; rfl, by rw [cell_of_row _ _ _ _ _ _ h.s]; rfl, by rw [cell_of_row _ _ _ _ _ _ h.s]; rfl, fun j => by simp [World.frozen?, h.s], fun j => by simp [World.frozen?, h.z], by rw [cell_of_row _ _ _ _ _ _ h.z]; rfl, by rw [cell_of_row _ _ _ _ _ _ h.z]; rfl, by rw [cell_of_row _ _ _ _ _ _ h.z]; rfl⟩
theorem SaleAt.set {w w' : World} {nm : ByteArray} {who price : Int} (h : SaleAt w w' nm who price) (a b : Int) : SaleAt w ((w'.setCell ⟨w.heap.size + 1, 1, none⟩ (.int .i64 a)).setCell ⟨w.heap.size + 1, 2, none⟩ (.int .i64 b)) nm a b := by
  refine ⟨(h.b.setCell (p := ⟨w.heap.size + 1, 1, none⟩) (by show w.heap.size ≤ w.heap.size + 1; omega) _).setCell (p := ⟨w.heap.size + 1, 2, none⟩) (by show w.heap.size ≤ w.heap.size + 1; omega) _, ?_, ?_⟩
  · rw [cells_set (cells_set h.s)]
    rfl
  · rw [setCell_far _ _ _ _ _ (by omega), setCell_far _ _ _ _ _ (by omega), h.z]
theorem SaleAt.set2 {w w' : World} {nm : ByteArray} {who price : Int} (h : SaleAt w w' nm who price) (b : Int) : SaleAt w (w'.setCell ⟨w.heap.size + 1, 2, none⟩ (.int .i64 b)) nm who b := by
  refine ⟨h.b.setCell (p := ⟨w.heap.size + 1, 2, none⟩) (by show w.heap.size ≤ w.heap.size + 1; omega) _, ?_, ?_⟩
  · rw [cells_set h.s]
    rfl
  · rw [setCell_far _ _ _ _ _ (by omega), h.z]
theorem close_bd (bid : Nat → Int) (least : Int) (n : Nat) : -1 ≤ (closeTo bid least n).1 ∧ (closeTo bid least n).1 < n := by
  induction n with
  | zero => exact ⟨Int.le_refl _, show (-1 : Int) < 0 by omega⟩
  | succ n ih =>
    simp only [closeTo]
    repeat' split
    all_goals (push_cast; omega)

theorem Tryz.sizeSale : (Tryz.prog.info? 137).map (·.size) = some 3 := by kernel_rfl
theorem ix0_any (a b c d : Int) (w : World) : (Instr.index 106 (.agg #[.int .i64 a, .int .i64 b, .int .i64 c, .int .i64 d]) (.int .i64 0)).run Tryz.prog w = .ok (.int .i64 a) w := by
  simp [Instr.index, run_underlying Tryz.underlying106, asIntOf, go_sem]
theorem ix1_any (a b c d : Int) (w : World) : (Instr.index 106 (.agg #[.int .i64 a, .int .i64 b, .int .i64 c, .int .i64 d]) (.int .i64 1)).run Tryz.prog w = .ok (.int .i64 b) w := by
  simp [Instr.index, run_underlying Tryz.underlying106, asIntOf, go_sem]
theorem ix2_any (a b c d : Int) (w : World) : (Instr.index 106 (.agg #[.int .i64 a, .int .i64 b, .int .i64 c, .int .i64 d]) (.int .i64 2)).run Tryz.prog w = .ok (.int .i64 c) w := by
  simp [Instr.index, run_underlying Tryz.underlying106, asIntOf, go_sem]
theorem ix3_any (a b c d : Int) (w : World) : (Instr.index 106 (.agg #[.int .i64 a, .int .i64 b, .int .i64 c, .int .i64 d]) (.int .i64 3)).run Tryz.prog w = .ok (.int .i64 d) w := by
  simp [Instr.index, run_underlying Tryz.underlying106, asIntOf, go_sem]

set_option maxRecDepth 100000 in
set_option maxHeartbeats 8000000 in
theorem lclose_any (w : World) (g o : Nat) (l : XLot) (h : LotAt w g o l) :
    Calls Tryz.prog 73 #[.pointer (some ⟨g, o, none⟩)] w fun e w' => e = .returned (.agg #[.string l.name, .int .i64 (closeTo l.bid l.least 4).1, .int .i64 (closeTo l.bid l.least 4).2.1]) ∧ Below w.heap.size w w' := by
  have HL : Hid (∀ wx, Below w.heap.size w wx → LotAt wx g o l) := fun wx hb => h.below hb
  obtain ⟨c0, c1, c2, c3, c4, c5, c6⟩ := h
  have HF := hidOf (SaleAt.first w l.name)
  have hgl := block_lt_of_cell c0
  go_enter Tryz.func73, Tryz.ntmps73
  go_wp2_with fail
  clear c0 c1 c2 c3 c4 c5 c6
  go_loopw [4, 5, 6, 16, 20, 31, 43, 52] (fun hi _ _ i _ _ _ _ w' => ∃ m : Nat, m ≤ 4 ∧ i = .int .i64 m ∧ hi = .int .i64 (closeTo l.bid l.least m).2.2 ∧ Hid (SaleAt w w' l.name (closeTo l.bid l.least m).1 (closeTo l.bid l.least m).2.1)) (fun _ _ _ i _ _ _ _ _ => 5 - (intOf i).toNat)
  case atStart => exact ⟨0, by omega, rfl, rfl, HF⟩
  case round =>
    obtain ⟨m, hm, rfl, rfl, hS⟩ := hrel
    clear HF
    obtain ⟨s0, s1, s2, sf, zf, z0, z1, z2⟩ := hS.out.cells
    have c2 := (HL.out wr hS.out.b).c2
    by_cases hm4 : m < 4
    · have hm4' : (m : Int) < 4 := by omega
      have hstep : closeTo l.bid l.least (m + 1) = (if l.bid m = 0 ∨ l.bid m < l.least then closeTo l.bid l.least m else if (closeTo l.bid l.least m).1 = -1 then ((m : Int), l.least, l.bid m) else if (closeTo l.bid l.least m).2.2 < l.bid m then ((m : Int), (closeTo l.bid l.least m).2.2, l.bid m) else if (closeTo l.bid l.least m).2.1 < l.bid m then ((closeTo l.bid l.least m).1, l.bid m, (closeTo l.bid l.least m).2.2) else closeTo l.bid l.least m) := rfl
      obtain ⟨⟨wh, pr, hg⟩, hr⟩ : ∃ r, r = closeTo l.bid l.least m := ⟨_, rfl⟩
      rw [← hr] at hstep hS s1 s2
      rw [← hr]
      simp only at hstep hS s1 s2 ⊢
      have HStep := hidOf hstep
      have HR := hidOf hr
      clear hr hstep
      have hcs : m = 0 ∨ m = 1 ∨ m = 2 ∨ m = 3 := by omega
      rcases hcs with rfl | rfl | rfl | rfl
      · have HStep : Hid (closeTo l.bid l.least (0 + 1) = (if l.bid 0 = 0 ∨ l.bid 0 < l.least then (wh, pr, hg) else if wh = -1 then (((0 : Nat) : Int), l.least, l.bid 0) else if hg < l.bid 0 then (((0 : Nat) : Int), hg, l.bid 0) else if pr < l.bid 0 then (wh, l.bid 0, hg) else (wh, pr, hg))) := HStep
        go_wp2_with fail
        rw [ix0_any]
        by_cases h0 : (l.bid 0) = 0
        · have HN : Hid (closeTo l.bid l.least (0 + 1) = (wh, pr, hg)) := by unfold Hid; rw [HStep.out, if_pos (.inl h0)]
          have e0 : ((l.bid 0) == 0) = true := by simpa using h0
          clear HStep h0
          go_wp2
          exact ⟨⟨0 + 1, by omega, by go_num, by rw [HN.out], by rw [HN.out]; exact hS⟩, by simp [intOf]⟩
        · have e0 : ((l.bid 0) == 0) = false := by simpa using h0
          by_cases h1 : (l.bid 0) < l.least
          · have HN : Hid (closeTo l.bid l.least (0 + 1) = (wh, pr, hg)) := by unfold Hid; rw [HStep.out, if_pos (.inr h1)]
            have e1 : decide ((l.bid 0) < l.least) = true := decide_eq_true h1
            clear HStep h0 h1
            go_wp2
            exact ⟨⟨0 + 1, by omega, by go_num, by rw [HN.out], by rw [HN.out]; exact hS⟩, by simp [intOf]⟩
          · have e1 : decide ((l.bid 0) < l.least) = false := decide_eq_false h1
            have HStep2 : Hid (closeTo l.bid l.least (0 + 1) = (if wh = -1 then (((0 : Nat) : Int), l.least, (l.bid 0)) else if hg < (l.bid 0) then (((0 : Nat) : Int), hg, (l.bid 0)) else if pr < (l.bid 0) then (wh, (l.bid 0), hg) else (wh, pr, hg))) := by unfold Hid; rw [HStep.out, if_neg (by omega)]
            clear HStep h0 h1
            by_cases h2 : wh = -1
            · have HN : Hid (closeTo l.bid l.least (0 + 1) = (((0 : Nat) : Int), l.least, (l.bid 0))) := by unfold Hid; rw [HStep2.out, if_pos h2]
              subst h2
              have hS2 := hidOf (hS.out.set 0 l.least)
              clear HStep2
              go_wp2_with fail
              go_region
              all_goals
                go_wp2
                exact ⟨⟨0 + 1, by omega, by go_num, by rw [HN.out], by rw [HN.out]; exact hS2.out.drewN _⟩, by simp [intOf]⟩
            · have e2 : (wh == -1) = false := by simpa using h2
              by_cases h3 : hg < (l.bid 0)
              · have HN : Hid (closeTo l.bid l.least (0 + 1) = (((0 : Nat) : Int), hg, (l.bid 0))) := by unfold Hid; rw [HStep2.out, if_neg h2, if_pos h3]
                have e3 : decide (hg < (l.bid 0)) = true := decide_eq_true h3
                have hS2 := hidOf (hS.out.set 0 hg)
                clear HStep2 h2 h3
                go_wp2
                exact ⟨⟨0 + 1, by omega, by go_num, by rw [HN.out], by rw [HN.out]; exact hS2⟩, by simp [intOf]⟩
              · have e3 : decide (hg < (l.bid 0)) = false := decide_eq_false h3
                by_cases h4 : pr < (l.bid 0)
                · have HN : Hid (closeTo l.bid l.least (0 + 1) = (wh, (l.bid 0), hg)) := by unfold Hid; rw [HStep2.out, if_neg h2, if_neg h3, if_pos h4]
                  have e4 : decide (pr < (l.bid 0)) = true := decide_eq_true h4
                  have hS2 := hidOf (hS.out.set2 (l.bid 0))
                  clear HStep2 h2 h3 h4
                  go_wp2
                  exact ⟨⟨0 + 1, by omega, by go_num, by rw [HN.out], by rw [HN.out]; exact hS2⟩, by simp [intOf]⟩
                · have HN : Hid (closeTo l.bid l.least (0 + 1) = (wh, pr, hg)) := by unfold Hid; rw [HStep2.out, if_neg h2, if_neg h3, if_neg h4]
                  have e4 : decide (pr < (l.bid 0)) = false := decide_eq_false h4
                  clear HStep2 h2 h3 h4
                  go_wp2
                  exact ⟨⟨0 + 1, by omega, by go_num, by rw [HN.out], by rw [HN.out]; exact hS⟩, by simp [intOf]⟩
      · have HStep : Hid (closeTo l.bid l.least (1 + 1) = (if l.bid 1 = 0 ∨ l.bid 1 < l.least then (wh, pr, hg) else if wh = -1 then (((1 : Nat) : Int), l.least, l.bid 1) else if hg < l.bid 1 then (((1 : Nat) : Int), hg, l.bid 1) else if pr < l.bid 1 then (wh, l.bid 1, hg) else (wh, pr, hg))) := HStep
        go_wp2_with fail
        rw [ix1_any]
        by_cases h0 : (l.bid 1) = 0
        · have HN : Hid (closeTo l.bid l.least (1 + 1) = (wh, pr, hg)) := by unfold Hid; rw [HStep.out, if_pos (.inl h0)]
          have e0 : ((l.bid 1) == 0) = true := by simpa using h0
          clear HStep h0
          go_wp2
          exact ⟨⟨1 + 1, by omega, by go_num, by rw [HN.out], by rw [HN.out]; exact hS⟩, by simp [intOf]⟩
        · have e0 : ((l.bid 1) == 0) = false := by simpa using h0
          by_cases h1 : (l.bid 1) < l.least
          · have HN : Hid (closeTo l.bid l.least (1 + 1) = (wh, pr, hg)) := by unfold Hid; rw [HStep.out, if_pos (.inr h1)]
            have e1 : decide ((l.bid 1) < l.least) = true := decide_eq_true h1
            clear HStep h0 h1
            go_wp2
            exact ⟨⟨1 + 1, by omega, by go_num, by rw [HN.out], by rw [HN.out]; exact hS⟩, by simp [intOf]⟩
          · have e1 : decide ((l.bid 1) < l.least) = false := decide_eq_false h1
            have HStep2 : Hid (closeTo l.bid l.least (1 + 1) = (if wh = -1 then (((1 : Nat) : Int), l.least, (l.bid 1)) else if hg < (l.bid 1) then (((1 : Nat) : Int), hg, (l.bid 1)) else if pr < (l.bid 1) then (wh, (l.bid 1), hg) else (wh, pr, hg))) := by unfold Hid; rw [HStep.out, if_neg (by omega)]
            clear HStep h0 h1
            by_cases h2 : wh = -1
            · have HN : Hid (closeTo l.bid l.least (1 + 1) = (((1 : Nat) : Int), l.least, (l.bid 1))) := by unfold Hid; rw [HStep2.out, if_pos h2]
              subst h2
              have hS2 := hidOf (hS.out.set 1 l.least)
              clear HStep2
              go_wp2_with fail
              go_region
              all_goals
                go_wp2
                exact ⟨⟨1 + 1, by omega, by go_num, by rw [HN.out], by rw [HN.out]; exact hS2.out.drewN _⟩, by simp [intOf]⟩
            · have e2 : (wh == -1) = false := by simpa using h2
              by_cases h3 : hg < (l.bid 1)
              · have HN : Hid (closeTo l.bid l.least (1 + 1) = (((1 : Nat) : Int), hg, (l.bid 1))) := by unfold Hid; rw [HStep2.out, if_neg h2, if_pos h3]
                have e3 : decide (hg < (l.bid 1)) = true := decide_eq_true h3
                have hS2 := hidOf (hS.out.set 1 hg)
                clear HStep2 h2 h3
                go_wp2
                exact ⟨⟨1 + 1, by omega, by go_num, by rw [HN.out], by rw [HN.out]; exact hS2⟩, by simp [intOf]⟩
              · have e3 : decide (hg < (l.bid 1)) = false := decide_eq_false h3
                by_cases h4 : pr < (l.bid 1)
                · have HN : Hid (closeTo l.bid l.least (1 + 1) = (wh, (l.bid 1), hg)) := by unfold Hid; rw [HStep2.out, if_neg h2, if_neg h3, if_pos h4]
                  have e4 : decide (pr < (l.bid 1)) = true := decide_eq_true h4
                  have hS2 := hidOf (hS.out.set2 (l.bid 1))
                  clear HStep2 h2 h3 h4
                  go_wp2
                  exact ⟨⟨1 + 1, by omega, by go_num, by rw [HN.out], by rw [HN.out]; exact hS2⟩, by simp [intOf]⟩
                · have HN : Hid (closeTo l.bid l.least (1 + 1) = (wh, pr, hg)) := by unfold Hid; rw [HStep2.out, if_neg h2, if_neg h3, if_neg h4]
                  have e4 : decide (pr < (l.bid 1)) = false := decide_eq_false h4
                  clear HStep2 h2 h3 h4
                  go_wp2
                  exact ⟨⟨1 + 1, by omega, by go_num, by rw [HN.out], by rw [HN.out]; exact hS⟩, by simp [intOf]⟩
      · have HStep : Hid (closeTo l.bid l.least (2 + 1) = (if l.bid 2 = 0 ∨ l.bid 2 < l.least then (wh, pr, hg) else if wh = -1 then (((2 : Nat) : Int), l.least, l.bid 2) else if hg < l.bid 2 then (((2 : Nat) : Int), hg, l.bid 2) else if pr < l.bid 2 then (wh, l.bid 2, hg) else (wh, pr, hg))) := HStep
        go_wp2_with fail
        rw [ix2_any]
        by_cases h0 : (l.bid 2) = 0
        · have HN : Hid (closeTo l.bid l.least (2 + 1) = (wh, pr, hg)) := by unfold Hid; rw [HStep.out, if_pos (.inl h0)]
          have e0 : ((l.bid 2) == 0) = true := by simpa using h0
          clear HStep h0
          go_wp2
          exact ⟨⟨2 + 1, by omega, by go_num, by rw [HN.out], by rw [HN.out]; exact hS⟩, by simp [intOf]⟩
        · have e0 : ((l.bid 2) == 0) = false := by simpa using h0
          by_cases h1 : (l.bid 2) < l.least
          · have HN : Hid (closeTo l.bid l.least (2 + 1) = (wh, pr, hg)) := by unfold Hid; rw [HStep.out, if_pos (.inr h1)]
            have e1 : decide ((l.bid 2) < l.least) = true := decide_eq_true h1
            clear HStep h0 h1
            go_wp2
            exact ⟨⟨2 + 1, by omega, by go_num, by rw [HN.out], by rw [HN.out]; exact hS⟩, by simp [intOf]⟩
          · have e1 : decide ((l.bid 2) < l.least) = false := decide_eq_false h1
            have HStep2 : Hid (closeTo l.bid l.least (2 + 1) = (if wh = -1 then (((2 : Nat) : Int), l.least, (l.bid 2)) else if hg < (l.bid 2) then (((2 : Nat) : Int), hg, (l.bid 2)) else if pr < (l.bid 2) then (wh, (l.bid 2), hg) else (wh, pr, hg))) := by unfold Hid; rw [HStep.out, if_neg (by omega)]
            clear HStep h0 h1
            by_cases h2 : wh = -1
            · have HN : Hid (closeTo l.bid l.least (2 + 1) = (((2 : Nat) : Int), l.least, (l.bid 2))) := by unfold Hid; rw [HStep2.out, if_pos h2]
              subst h2
              have hS2 := hidOf (hS.out.set 2 l.least)
              clear HStep2
              go_wp2_with fail
              go_region
              all_goals
                go_wp2
                exact ⟨⟨2 + 1, by omega, by go_num, by rw [HN.out], by rw [HN.out]; exact hS2.out.drewN _⟩, by simp [intOf]⟩
            · have e2 : (wh == -1) = false := by simpa using h2
              by_cases h3 : hg < (l.bid 2)
              · have HN : Hid (closeTo l.bid l.least (2 + 1) = (((2 : Nat) : Int), hg, (l.bid 2))) := by unfold Hid; rw [HStep2.out, if_neg h2, if_pos h3]
                have e3 : decide (hg < (l.bid 2)) = true := decide_eq_true h3
                have hS2 := hidOf (hS.out.set 2 hg)
                clear HStep2 h2 h3
                go_wp2
                exact ⟨⟨2 + 1, by omega, by go_num, by rw [HN.out], by rw [HN.out]; exact hS2⟩, by simp [intOf]⟩
              · have e3 : decide (hg < (l.bid 2)) = false := decide_eq_false h3
                by_cases h4 : pr < (l.bid 2)
                · have HN : Hid (closeTo l.bid l.least (2 + 1) = (wh, (l.bid 2), hg)) := by unfold Hid; rw [HStep2.out, if_neg h2, if_neg h3, if_pos h4]
                  have e4 : decide (pr < (l.bid 2)) = true := decide_eq_true h4
                  have hS2 := hidOf (hS.out.set2 (l.bid 2))
                  clear HStep2 h2 h3 h4
                  go_wp2
                  exact ⟨⟨2 + 1, by omega, by go_num, by rw [HN.out], by rw [HN.out]; exact hS2⟩, by simp [intOf]⟩
                · have HN : Hid (closeTo l.bid l.least (2 + 1) = (wh, pr, hg)) := by unfold Hid; rw [HStep2.out, if_neg h2, if_neg h3, if_neg h4]
                  have e4 : decide (pr < (l.bid 2)) = false := decide_eq_false h4
                  clear HStep2 h2 h3 h4
                  go_wp2
                  exact ⟨⟨2 + 1, by omega, by go_num, by rw [HN.out], by rw [HN.out]; exact hS⟩, by simp [intOf]⟩
      · have HStep : Hid (closeTo l.bid l.least (3 + 1) = (if l.bid 3 = 0 ∨ l.bid 3 < l.least then (wh, pr, hg) else if wh = -1 then (((3 : Nat) : Int), l.least, l.bid 3) else if hg < l.bid 3 then (((3 : Nat) : Int), hg, l.bid 3) else if pr < l.bid 3 then (wh, l.bid 3, hg) else (wh, pr, hg))) := HStep
        go_wp2_with fail
        rw [ix3_any]
        by_cases h0 : (l.bid 3) = 0
        · have HN : Hid (closeTo l.bid l.least (3 + 1) = (wh, pr, hg)) := by unfold Hid; rw [HStep.out, if_pos (.inl h0)]
          have e0 : ((l.bid 3) == 0) = true := by simpa using h0
          clear HStep h0
          go_wp2
          exact ⟨⟨3 + 1, by omega, by go_num, by rw [HN.out], by rw [HN.out]; exact hS⟩, by simp [intOf]⟩
        · have e0 : ((l.bid 3) == 0) = false := by simpa using h0
          by_cases h1 : (l.bid 3) < l.least
          · have HN : Hid (closeTo l.bid l.least (3 + 1) = (wh, pr, hg)) := by unfold Hid; rw [HStep.out, if_pos (.inr h1)]
            have e1 : decide ((l.bid 3) < l.least) = true := decide_eq_true h1
            clear HStep h0 h1
            go_wp2
            exact ⟨⟨3 + 1, by omega, by go_num, by rw [HN.out], by rw [HN.out]; exact hS⟩, by simp [intOf]⟩
          · have e1 : decide ((l.bid 3) < l.least) = false := decide_eq_false h1
            have HStep2 : Hid (closeTo l.bid l.least (3 + 1) = (if wh = -1 then (((3 : Nat) : Int), l.least, (l.bid 3)) else if hg < (l.bid 3) then (((3 : Nat) : Int), hg, (l.bid 3)) else if pr < (l.bid 3) then (wh, (l.bid 3), hg) else (wh, pr, hg))) := by unfold Hid; rw [HStep.out, if_neg (by omega)]
            clear HStep h0 h1
            by_cases h2 : wh = -1
            · have HN : Hid (closeTo l.bid l.least (3 + 1) = (((3 : Nat) : Int), l.least, (l.bid 3))) := by unfold Hid; rw [HStep2.out, if_pos h2]
              subst h2
              have hS2 := hidOf (hS.out.set 3 l.least)
              clear HStep2
              go_wp2_with fail
              go_region
              all_goals
                go_wp2
                exact ⟨⟨3 + 1, by omega, by go_num, by rw [HN.out], by rw [HN.out]; exact hS2.out.drewN _⟩, by simp [intOf]⟩
            · have e2 : (wh == -1) = false := by simpa using h2
              by_cases h3 : hg < (l.bid 3)
              · have HN : Hid (closeTo l.bid l.least (3 + 1) = (((3 : Nat) : Int), hg, (l.bid 3))) := by unfold Hid; rw [HStep2.out, if_neg h2, if_pos h3]
                have e3 : decide (hg < (l.bid 3)) = true := decide_eq_true h3
                have hS2 := hidOf (hS.out.set 3 hg)
                clear HStep2 h2 h3
                go_wp2
                exact ⟨⟨3 + 1, by omega, by go_num, by rw [HN.out], by rw [HN.out]; exact hS2⟩, by simp [intOf]⟩
              · have e3 : decide (hg < (l.bid 3)) = false := decide_eq_false h3
                by_cases h4 : pr < (l.bid 3)
                · have HN : Hid (closeTo l.bid l.least (3 + 1) = (wh, (l.bid 3), hg)) := by unfold Hid; rw [HStep2.out, if_neg h2, if_neg h3, if_pos h4]
                  have e4 : decide (pr < (l.bid 3)) = true := decide_eq_true h4
                  have hS2 := hidOf (hS.out.set2 (l.bid 3))
                  clear HStep2 h2 h3 h4
                  go_wp2
                  exact ⟨⟨3 + 1, by omega, by go_num, by rw [HN.out], by rw [HN.out]; exact hS2⟩, by simp [intOf]⟩
                · have HN : Hid (closeTo l.bid l.least (3 + 1) = (wh, pr, hg)) := by unfold Hid; rw [HStep2.out, if_neg h2, if_neg h3, if_neg h4]
                  have e4 : decide (pr < (l.bid 3)) = false := decide_eq_false h4
                  clear HStep2 h2 h3 h4
                  go_wp2
                  exact ⟨⟨3 + 1, by omega, by go_num, by rw [HN.out], by rw [HN.out]; exact hS⟩, by simp [intOf]⟩
    · have hm5 : m = 4 := by omega
      subst hm5
      obtain ⟨⟨wh, pr, hg⟩, hr⟩ : ∃ r, r = closeTo l.bid l.least 4 := ⟨_, rfl⟩
      rw [← hr] at hS s1 s2 ⊢
      simp only at hS s1 s2 ⊢
      have HBl := hidOf hS.out.b
      have hlt : decide ((((4 : Nat) : Int)) < 4) = false := by decide
      have h3 : Hid ((((wr.setCell ⟨w.heap.size, 0, none⟩ (.string l.name)).setCell ⟨w.heap.size, 1, none⟩ (.int .i64 wh)).setCell ⟨w.heap.size, 2, none⟩ (.int .i64 pr)).heap[w.heap.size]? = some (.cells #[.string l.name, .int .i64 wh, .int .i64 pr] 137 (0, 0))) := by
        unfold Hid
        rw [cells_set (cells_set (cells_set hS.out.z))]
        rfl
      have HR := hidOf hr
      clear hr
      go_wp2
      refine bodyPost_ret (results_cell_row rfl _ _ w.heap.size 137 _ (0, 0) _ rfl h3.out Tryz.underlying137 rfl Tryz.sizeSale) rfl ?_
      refine ⟨by rw [← HR.out], ?_⟩
      exact ((HBl.out.setCell (p := ⟨w.heap.size, 0, none⟩) (Nat.le_refl _) _).setCell (p := ⟨w.heap.size, 1, none⟩) (Nat.le_refl _) _).setCell (p := ⟨w.heap.size, 2, none⟩) (Nat.le_refl _) _
end Go.Proofs.YtlafddeoheambaaGreatDoor

/-
  The function closeLots of package haze.
-/
namespace Go.Proofs.YtlafddeoheambaaGreatDoor
open Go.RowKit

theorem Tryz.infoLot : (Tryz.prog.info? 108).map (fun i => (i.zero, i.size, i.bytes)) = some (some (.agg #[.string ⟨#[]⟩, .int .i64 0, .int .i64 0, .int .i64 0, .int .i64 0, .int .i64 0, .int .i64 0]), 7, 64) := by kernel_rfl
theorem Tryz.infoSale : (Tryz.prog.info? 137).map (fun i => (i.zero, i.size, i.bytes)) = some (some (.agg #[.string ⟨#[]⟩, .int .i64 0, .int .i64 0]), 3, 32) := by kernel_rfl
/-- What closeLots asks of the world. -/
structure ClA (X : XW) : Prop where
  pl : 2 ≤ X.pls.length ∧ X.pls.length ≤ 4
  mo : ∀ p ∈ X.S.players, -1000000000000 ≤ p.money ∧ p.money ≤ 1000000000000
  ap : Apart X.lots
  len : X.lots.length ≤ 4
  lst : ∀ l ∈ X.lots, 0 ≤ l.least ∧ l.least ≤ 100000
  en : ∀ l ∈ X.lots, X.S.now ≤ l.ends
  bd : ∀ l ∈ X.opens, ∀ i, 0 ≤ l.bid i ∧ l.bid i ≤ 100000
theorem clK_first {w : World} {X : XW} (hr : RepX w X) (hO : OkX X) (hn : ∀ p ∈ X.S.players, p.news = []) : ClK w X (w.setCell ⟨X.b, 8, none⟩ (.slice none 0 0)) 0 (X.withL X.vOp X.opens (.slice none 0 0) [] X.R) (.slice none 0 0) := by
  have hb0 : blk (.slice none 0 0) = [] := rfl
  have R := hr.roles
  have nop : ∀ r ∈ blk X.vOp, r ≠ X.b := fun r hr' e => by
    have h1 := R.lot.1 r hr'
    rw [e, R.b] at h1
    cases h1
  have ht : (w.setCell ⟨X.b, 8, none⟩ (.slice none 0 0)).heap[X.b]? = some (.cells (X.withL X.vOp X.opens (.slice none 0 0) [] X.R).cells 84 (0, 0)) := by
    rw [cells_set hr.top]
    rfl
  have hrep := hr.withL (v := X.vOp) (v' := .slice none 0 0) (l := X.opens) (l' := []) (R' := X.R) (w' := w.setCell ⟨X.b, 8, none⟩ (.slice none 0 0)) (fun r _ hb _ _ => setCell_far _ _ _ _ r hb) ht
    ⟨own_same hr.lot.1 (fun r hr' => setCell_far _ _ _ _ r (nop r hr')), ⟨rfl, .inl ⟨rfl, rfl⟩⟩⟩ (fun _ _ _ _ => rfl) ⟨fun r hr' => R.lot.1 r hr', by simp [hb0]⟩
  refine ⟨(TurnX.refl hr).withL hrep ((Kept.refl _ _).setCell _ _ _ (.inl xfoot_b)) (fun r hr' => .inl (by simp [XW.foot, hr'])) (by simp [hb0]), rfl, rfl, rfl, rfl, fun i q hq => ?_, hO.st, hO.ore, hO.dist, World.ownsRow_nil _ _ _ _, by simp [hb0]⟩
  have : q.1 ∈ X.S.players := List.mem_map_of_mem (List.mem_of_getElem? hq)
  exact hn _ this
theorem bel_drewN {B : Nat} {w w' : World} (h : Below B w w') (n : Nat) : Below B w (w'.drewN n) := ⟨h.os, h.tape, h.output, h.size, h.block⟩
theorem mem_mapIdx' {α β : Type} {f : Nat → α → β} {l : List α} {b : β} (h : b ∈ l.mapIdx f) : ∃ i a, l[i]? = some a ∧ b = f i a := by
  obtain ⟨i, hi⟩ := List.getElem?_of_mem h
  rw [List.getElem?_mapIdx, Option.map_eq_some_iff] at hi
  obtain ⟨a, h1, h2⟩ := hi
  exact ⟨i, a, h1, h2.symm⟩
/-- No player has more than it had, or much less. -/
theorem ClK.money {w : World} {X : XW} (hO : OkX X) (hA : ClA X) : ∀ (k : Nat), k ≤ X.opens.length → ∀ (w1 : World) (Xk : XW) (v : Value), ClK w X w1 k Xk v → ∀ p ∈ Xk.S.players, -1000000000000 - 100000 * (k : Int) ≤ p.money ∧ p.money ≤ 1000000000000 := by
  intro k
  have gen : ∀ k, k ≤ X.opens.length → (∀ p ∈ (soldTo X.S X.opens k).players, -1000000000000 - 100000 * (k : Int) ≤ p.money ∧ p.money ≤ 1000000000000) := by
    intro k
    induction k with
    | zero => intro _ p hp; have := hA.mo p hp; push_cast; omega
    | succ k ih =>
      intro hk p hp
      have ih' := ih (by omega)
      obtain ⟨l, hl⟩ : ∃ l, X.opens[k]? = some l := ⟨X.opens[k], by simp [show k < X.opens.length by omega]⟩
      cases ho : openX X.S.now l
      · rw [sold_yes hl ho] at hp
        have hm := List.mem_of_getElem? hl
        have hb : ∀ i, bidsOf (soldTo X.S X.opens k).players l.name i = l.bid i := by
          intro i
          have hn : l.name ∉ (dueTo X.opens X.S.now k).map (·.name) := by
            intro hm'
            obtain ⟨x, hx, e⟩ := List.mem_map.1 hm'
            have hx2 : x ∈ X.opens.take k := (List.mem_filter.1 hx).1
            have := opens_inj hO hA.ap (List.mem_of_mem_take hx2) hm e
            subst this
            obtain ⟨j, hj⟩ := List.getElem?_of_mem hx2
            rw [List.getElem?_take] at hj
            split at hj
            · rename_i hjk
              have hd := asc_names (hO.lot.asc hA.ap)
              obtain ⟨hjo, ej⟩ := at_some hj
              obtain ⟨hko, ek⟩ := at_some hl
              have := List.pairwise_iff_getElem.1 hd j k (by simpa using hjo) (by simpa using hko) hjk
              apply this
              simp only [List.getElem_map, ej, ek]
            · cases hj
          unfold soldTo
          rw [fold_bids _ i hn, bidsOf_at, hO.lot.bid l hm i]
          congr 1
          simp [XW.S, Function.comp_def]
        have h4 : (soldTo X.S X.opens k).players.length ≤ 4 := by
          have := (fold_len (dueTo X.opens X.S.now k) X.S).1
          have e : X.S.players.length = X.pls.length := by simp [XW.S]
          have := hA.pl
          unfold soldTo
          omega
        obtain ⟨e1, e2⟩ := sell_eq hb (fun i => (hA.bd l hm i).1) h4
        rw [e1] at hp
        obtain ⟨i, q, hq, rfl⟩ := mem_mapIdx' hp
        have hq' := ih' q (List.mem_of_getElem? hq)
        have hpr : 0 ≤ (saleOf l).price ∧ (saleOf l).price ≤ 100000 := by
          rcases e2 with ⟨_, h⟩ | ⟨j, _, _, h1, h2⟩
          · omega
          · have := hA.lst (lotOf l) (hO.lot.mem hm)
            have := hA.bd l hm j
            have h3 : (lotOf l).least = l.least := rfl
            omega
        unfold soldX
        push_cast
        show _ ≤ (if (i : Int) = (saleOf l).who then q.money - (saleOf l).price else q.money) ∧ (if (i : Int) = (saleOf l).who then q.money - (saleOf l).price else q.money) ≤ _
        split <;> omega
      · rw [sold_no hl ho] at hp
        have := ih' p hp
        push_cast
        omega
  intro hk w1 Xk v h p hp
  rw [h.s] at hp
  exact gen k hk p hp

set_option maxRecDepth 100000 in
set_option maxHeartbeats 8000000 in
theorem xclose_any (w : World) (X : XW) (hr : RepX w X) (hO : OkX X) (hn : ∀ p ∈ X.S.players, p.news = []) (hA : ClA X) :
    Calls Tryz.prog 32 #[.pointer (some ⟨X.b, 0, none⟩)] w fun e w' => e = .returned (.tuple #[]) ∧ ∃ X', TurnX w X w' X' ∧ OkX X' ∧ X'.S = closeS X.S ∧ NewsOK X' ∧ X'.sales = (dueTo X.opens X.S.now X.opens.length).map saleOf := by
  obtain ⟨ao, g, cap, hv, hcap, hmax, rd⟩ := own_rd hr.lot.1
  unfold maxLen at hmax
  have c7 : w.cell? ⟨X.b, 7, none⟩ = some (.slice ao X.opens.length cap) := by rw [← hv]; exact hr.cellTop rfl
  have c8 : w.cell? ⟨X.b, 8, none⟩ = some X.vCl := hr.cellTop rfl
  have f8 : w.frozen? ⟨X.b, 8, none⟩ = false := hr.frozenTop 8
  have hol : X.opens.length ≤ 4 := by rw [hO.lot.len]; exact hA.len
  have HF := hidOf (clK_first hr hO hn)
  have HE : Hid (∀ (w1 : World) (Xk : XW) (v : Value), ClK w X w1 X.opens.length Xk v → ∃ X', TurnX w X (w1.setCell ⟨Xk.b, 7, none⟩ v) X' ∧ OkX X' ∧ X'.S = closeS X.S ∧ NewsOK X' ∧ X'.sales = (dueTo X.opens X.S.now X.opens.length).map saleOf) := fun w1 Xk v h => closed_all h hO hA.ap hA.en
  have HA := hidOf hA
  have HO := hidOf hO
  have HV := hidOf hv
  have HB0 := hidOf rd.base
  obtain ⟨i0, hi0, hz0, hz1, hz2⟩ := info_parts Tryz.infoLot
  obtain ⟨j0, hj0, hy0, hy1, hy2⟩ := info_parts Tryz.infoSale
  clear hr hO hn hA hv rd
  go_enter Tryz.func32, Tryz.ntmps32
  go_wp2_with fail
  go_loopw [2, 3, 4, 5, 14] (fun o _ _ _ i w' => ∃ (k c : Nat) (a : Option Addr) (Xk : XW), k ≤ X.opens.length ∧ i = .int .i64 k ∧ o = .slice a (keepTo X.opens X.S.now k).length c ∧ Hid (ClK w X w' k Xk (.slice a (keepTo X.opens X.S.now k).length c))) (fun _ _ _ _ i _ => X.opens.length + 1 - (intOf i).toNat)
  case atStart => exact ⟨0, 0, none, _, Nat.zero_le _, rfl, rfl, HF⟩
  case round =>
    clear c7 c8 f8 HF
    obtain ⟨k, c, a, Xk, hk, rfl, rfl, K⟩ := hrel
    have hb : Xk.b = X.b := K.out.t.b
    have c7 : wr.cell? ⟨X.b, 7, none⟩ = some (.slice ao X.opens.length cap) := by rw [← hb, ← HV.out, ← K.out.vo]; exact K.out.t.rep.cellTop rfl
    have f7 : wr.frozen? ⟨X.b, 7, none⟩ = false := by rw [← hb]; exact K.out.t.rep.frozenTop 7
    have hn4 : (keepTo X.opens X.S.now k).length ≤ 4 := by
      unfold keepTo
      have h1 := List.length_filter_le (openX X.S.now) (X.opens.take k)
      have h2 := List.length_take_le k X.opens
      omega
    by_cases hlt : k < X.opens.length
    · have hlt' : (k : Int) < (X.opens.length : Int) := by omega
      obtain ⟨l, hl⟩ : ∃ l, X.opens[k]? = some l := ⟨X.opens[k], by simp [hlt]⟩
      have eao : ao = some ⟨g, 0, none⟩ := HB0.out (by omega)
      subst eao
      have LA : Hid (∀ wx, Below wr.heap.size wr wx → LotAt wx g (k * 7) l) := fun wx hbx => by
        have hrow := K.out.t.rep.lot.1
        rw [K.out.vo, K.out.op, HV.out] at hrow
        exact (lot_at hrow hl).below hbx
      have hnow : Xk.now = X.S.now := by
        have e : Xk.S.now = (soldTo X.S X.opens k).now := by rw [K.out.s]
        exact e.trans (fold_len _ _).2.1
      have c0 : wr.cell? ⟨X.b, 0, none⟩ = some (.int .i64 X.S.now) := by rw [← hb, ← hnow]; exact K.out.t.rep.cellTop rfl
      obtain ⟨l0, l1, l2, l3, l4, l5, l6⟩ := LA.out wr (Below.refl _ _)
      have HL := hidOf hl
      clear hnow hl
      obtain ⟨now, hnw⟩ : ∃ now, now = X.S.now := ⟨_, rfl⟩
      rw [← hnw] at c0
      have HNw := hidOf hnw
      cases hop : openX X.S.now l
      · have e1 : decide (now < l.ends) = false := by rw [hnw]; exact hop
        have HOp := hidOf hop
        have hm := List.mem_of_getElem? HL.out
        have hpls : Xk.S.players.length = Xk.pls.length := by simp [XW.S]
        have hlenp : Xk.pls.length = X.pls.length := by
          have e : Xk.S.players.length = (soldTo X.S X.opens k).players.length := by rw [K.out.s]
          have e2 := (fold_len (dueTo X.opens X.S.now k) X.S).1
          have e3 : X.S.players.length = X.pls.length := by simp [XW.S]
          unfold soldTo at e
          omega
        have hp4 := HA.out.pl
        obtain ⟨se, sw⟩ := sell_eq (K.out.bid HO.out HA.out.ap HL.out) (fun i => (HA.out.bd l hm i).1) (by omega)
        have HSe := hidOf se
        have hpb : 0 ≤ (saleOf l).price ∧ (saleOf l).price ≤ 100000 := by
          rcases sw with ⟨_, h⟩ | ⟨j, _, _, h1, h2⟩
          · omega
          · have := HA.out.lst (lotOf l) (HO.out.lot.mem hm)
            have := HA.out.bd l hm j
            have h3 : (lotOf l).least = l.least := rfl
            omega
        have HCl : Hid (∀ wx, Below wr.heap.size wr wx → Calls Tryz.prog 73 #[.pointer (some ⟨g, k * 7, none⟩)] wx fun e w' => e = .returned (.agg #[.string l.name, .int .i64 (saleOf l).who, .int .i64 (saleOf l).price]) ∧ Below wx.heap.size wx w') := fun wx h => lclose_any wx g (k * 7) l (LA.out wx h)
        have hkeq : Hid (keepTo X.opens X.S.now (k + 1) = keepTo X.opens X.S.now k) := keep_no HL.out HOp.out
        have hsc : Hid (xsaleCells (saleOf l) = [.string l.name, .int .i64 (saleOf l).who, .int .i64 (saleOf l).price]) := rfl
        obtain ⟨wh, hwh⟩ : ∃ wh, wh = (saleOf l).who := ⟨_, rfl⟩
        obtain ⟨pr, hpr⟩ : ∃ pr, pr = (saleOf l).price := ⟨_, rfl⟩
        rw [← hwh, ← hpr] at HCl hsc
        rw [← hpr] at hpb
        have HWh := hidOf hwh
        have HPr := hidOf hpr
        have hdl : Hid ((dueTo X.opens X.S.now k).length ≤ 4) := by
          unfold Hid dueTo
          have h1 := List.length_filter_le (fun l => !openX X.S.now l) (X.opens.take k)
          have h2 := List.length_take_le k X.opens
          omega
        clear hop hnw hm se hpls hpr
        go_wp2_with fail
        go_quiet (fail)
        go_wp2_with fail
        refine (HCl.out (wr.drewN nq) (bel_drewN (Below.refl _ _) nq)).mono ?_
        rintro e w1 ⟨rfl, hb1⟩
        have B1 : Hid (Below wr.heap.size wr w1) := (bel_drewN (Below.refl _ _) nq).trans hb1
        have B2 : Hid (Below w1.heap.size w1 (w1.alloc (.cells #[.string l.name, .int .i64 wh, .int .i64 pr] 137))) := (Below.refl _ _).alloc (Nat.le_refl _) _
        have hnew := Go.heap_alloc_new w1 (.cells #[.string l.name, .int .i64 wh, .int .i64 pr] 137)
        have HNew := hidOf hnew
        clear hb1 HCl hnew c7 c0 l0 l1 l2 l3 l4 l5 l6 f7
        have K2 := hidOf ((K.out.below B1.out).below B2.out)
        have HKp2 := hidOf (K.out.below B1.out)
        clear K
        rcases sw with ⟨hw1, _⟩ | ⟨j, hj, hwj, _, _⟩
        · have hwm : wh = -1 := hwh.trans hw1
          clear hwh
          subst hwm
          have M3 := hidOf (K2.out.sell0 HL.out HOp.out hw1 HSe.out)
          obtain ⟨Xm, hXm⟩ : ∃ Xm, Xm = saleG Xk l := ⟨_, rfl⟩
          have hbm : Xm.b = X.b := M3.out.t.b ▸ (by rw [hXm])
          rw [← hXm] at M3
          clear hXm K2
          go_wp2_with fail
          obtain ⟨w3, hw3⟩ : ∃ w3, w3 = w1.alloc (.cells #[.string l.name, .int .i64 (-1), .int .i64 pr] 137) := ⟨_, rfl⟩
          rw [← hw3] at M3 HNew B2
          rw [← hw3]
          clear hw3
          have t0 : w3.cell? ⟨w1.heap.size, 0, none⟩ = some (.string l.name) := by rw [cell_of_row _ _ _ _ _ _ HNew.out]; rfl
          have t1 : w3.cell? ⟨w1.heap.size, 1, none⟩ = some (.int .i64 (-1)) := by rw [cell_of_row _ _ _ _ _ _ HNew.out]; rfl
          have t2 : w3.cell? ⟨w1.heap.size, 2, none⟩ = some (.int .i64 pr) := by rw [cell_of_row _ _ _ _ _ _ HNew.out]; rfl
          obtain ⟨wq, hwq⟩ : ∃ wq : Int, wq = -1 := ⟨_, rfl⟩
          rw [← hwq] at hsc t1
          rw [← hwq]
          clear hwq
          obtain ⟨a8, g8, c8n, hv8, hc8, hm8, _⟩ := own_rd M3.out.t.rep.lot.2
          unfold maxLen at hm8
          have c8 : w3.cell? ⟨X.b, 8, none⟩ = some (.slice a8 Xm.sales.length c8n) := by rw [← hbm, ← hv8]; exact M3.out.t.rep.cellTop rfl
          have f8 : w3.frozen? ⟨X.b, 8, none⟩ = false := by rw [← hbm]; exact M3.out.t.rep.frozenTop 8
          have hs4 : Xm.sales.length ≤ 4 := by rw [M3.out.sl, List.length_map]; exact hdl.out
          have hownX : Hid (∀ (wx : World) (o : Obj), wx.heap = w3.heap.push o → wx.ownsRow 0 137 3 (.slice a8 Xm.sales.length c8n) Xm.sales.length (Xm.sales.flatMap xsaleCells)) := by
            intro wx o hxx
            have h1 := M3.out.t.rep.lot.2
            rw [hv8] at h1
            refine own_same h1 (fun r hr => ?_)
            have := own_lt h1 r hr
            rw [hxx]
            simp [Array.getElem?_push, Nat.ne_of_lt this]
          have hlX : Hid (X.b < w3.heap.size) := by rw [← hbm]; exact M3.out.t.rep.lt _ xfoot_b
          have hneX : Hid ((Value.slice a8 Xm.sales.length c8n).ownBlock ≠ some X.b) := by
            intro e
            have e1 := M3.out.t.rep.roles.lot.2 X.b (by rw [hv8]; simp [blk, e])
            rw [← hbm, M3.out.t.rep.roles.b] at e1
            cases e1
          have a8' : ∀ o, (w3.alloc o).cell? ⟨X.b, 8, none⟩ = some (.slice a8 Xm.sales.length c8n) := fun o => by rw [World.cell?_alloc_past _ _ _ hlX.out]; exact c8
          have HV8 := hidOf hv8
          have HDn : Hid (∀ (o : Obj) (gr cp : Nat) (w6 : World), (w3.alloc o).drew.grownBy w6 (some gr) → w6.ownsRow 0 137 3 (.slice (some ⟨gr, 0, none⟩) (Xm.sales.length + 1) cp) (Xm.sales.length + 1) (Xm.sales.flatMap xsaleCells ++ [.string l.name, .int .i64 wq, .int .i64 pr]) → ((Value.slice a8 Xm.sales.length c8n).ownBlock = some gr ∨ gr = w3.heap.size + 1) → ∃ Xn, Hid (ClK w X (w6.setCell ⟨X.b, 8, none⟩ (.slice (some ⟨gr, 0, none⟩) (Xm.sales.length + 1) cp)) (k + 1) Xn (.slice a (keepTo X.opens X.S.now (k + 1)).length c))) := fun o gr cp w6 h1 h2 h3 => by
            rw [← hsc.out] at h2
            have := M3.out.done HL.out HOp.out h1 h2 (by rw [HV8.out]; exact h3)
            rw [hbm] at this
            rw [hkeq.out]
            exact ⟨_, this⟩
          obtain ⟨m8, hm8e⟩ : ∃ m8, m8 = Xm.sales.length := ⟨_, rfl⟩
          obtain ⟨xs8, hx8⟩ : ∃ xs8, xs8 = Xm.sales.flatMap xsaleCells := ⟨_, rfl⟩
          rw [← hm8e, ← hx8] at HDn hownX
          rw [← hm8e] at a8' c8 hs4 hc8
          rw [← hm8e] at hneX
          clear hv8 HV8 hm8e hx8 M3
          go_region_law (refine step_append_only (by rfl) _ _ _ (by rfl) 0 137 j0 _ 3 32 Tryz.underlying82 hj0 hy0 hy1 hy2 (by rfl) (by omega) (.slice a8 m8 c8n) m8 xs8 (by rfl) (by exact hownX.out _ _ rfl) ⟨w3.heap.size, 0, none⟩ 1 1 [.string l.name, .int .i64 wq, .int .i64 pr] (by rfl) (by rfl) (by exact World.news_of_block (Go.heap_alloc_new w3 _)) (by intro u hu; simp at hu; rcases hu with rfl | rfl | rfl <;> rfl) (by omega) (by unfold maxLen; omega) (by omega) (by omega) (w3.heap.size + 1) (by simp) ?_; intro gr cp6 w6 hown6 hgrow hat hgrow2; obtain ⟨q1, q2⟩ := keepOther (((Below.refl _ w3).alloc (Nat.le_refl _) _).drew) hgrow hlX.out (Ne.symm hneX.out) 8; rw [c8] at q1; rw [f8] at q2)
          all_goals
            obtain ⟨Xn, KN⟩ := HDn.out _ gr cp6 w6 hgrow2 hown6 hat
            clear hgrow2 hown6 hat hgrow
            go_wp2
            exact ⟨⟨k + 1, c, a, Xn, by omega, by go_num, by rw [hkeq.out], KN⟩, by simp [intOf]; omega⟩
        · have hwm : wh = (j : Int) := hwh.trans hwj
          clear hwh
          subst hwm
          have hjl : j < Xk.pls.length := by
            have : Xk.S.players.length = Xk.pls.length := by simp [XW.S]
            omega
          obtain ⟨p, u, hq⟩ := xat_of_lt hjl
          obtain ⟨pb, pcap, hvp, hpc, hpm⟩ := K2.out.t.rep.plForm (by omega)
          unfold maxLen at hpm
          have hmo := ClK.money HO.out HA.out k (by omega) _ _ _ K2.out p (List.mem_of_getElem? (XS_at hq))
          have M2 := hidOf (K2.out.sell1 HL.out HOp.out hwj HSe.out hq hvp)
          rw [← HPr.out] at M2
          obtain ⟨Xm, hXm⟩ : ∃ Xm, Xm = saleG (Xk.setQ j ({ p with money := p.money - pr }, u)) l := ⟨_, rfl⟩
          have hbm : Xm.b = X.b := by rw [hXm]; exact hb
          rw [← hXm] at M2
          have c6 : (w1.alloc (.cells #[.string l.name, .int .i64 (j : Int), .int .i64 pr] 137)).cell? ⟨X.b, 6, none⟩ = some (.slice (some ⟨pb, 0, none⟩) Xk.pls.length pcap) := by rw [← hb, ← hvp]; exact K2.out.t.rep.cellTop rfl
          have m0 : (w1.alloc (.cells #[.string l.name, .int .i64 (j : Int), .int .i64 pr] 137)).cell? ⟨pb, j * 2, none⟩ = some (.int .i64 p.money) := (K2.out.t.rep.plCell hq hvp).1
          have fz : (w1.alloc (.cells #[.string l.name, .int .i64 (j : Int), .int .i64 pr] 137)).frozen? ⟨pb, j * 2, none⟩ = false := K2.out.t.rep.plFrozen hvp (j * 2)
          have t0 : (w1.alloc (.cells #[.string l.name, .int .i64 (j : Int), .int .i64 pr] 137)).cell? ⟨w1.heap.size, 0, none⟩ = some (.string l.name) := by rw [cell_of_row _ _ _ _ _ _ HNew.out]; rfl
          have t1 : (w1.alloc (.cells #[.string l.name, .int .i64 (j : Int), .int .i64 pr] 137)).cell? ⟨w1.heap.size, 1, none⟩ = some (.int .i64 (j : Int)) := by rw [cell_of_row _ _ _ _ _ _ HNew.out]; rfl
          have t2 : (w1.alloc (.cells #[.string l.name, .int .i64 (j : Int), .int .i64 pr] 137)).cell? ⟨w1.heap.size, 2, none⟩ = some (.int .i64 pr) := by rw [cell_of_row _ _ _ _ _ _ HNew.out]; rfl
          have hpbw : pb ≠ w1.heap.size := by
            have h1 := HKp2.out.t.rep.lt pb (xfoot_pl (by rw [hvp]; simp [blk_slice]))
            omega
          have hwr : IntKind.i64.wrap (p.money - pr) = p.money - pr := by rw [IntKind.wrap_i64]; omega
          have e2 : ((j : Int) == -1) = false := by rw [beq_eq_false_iff_ne]; omega
          have hjl' : (j : Int) < (Xk.pls.length : Int) := by omega
          clear hXm hvp hq hmo K2
          go_wp2_with fail
          go_region
          have HN3 : Hid (((w1.alloc (.cells #[.string l.name, .int .i64 (j : Int), .int .i64 pr] 137)).setCell ⟨pb, j * 2, none⟩ (.int .i64 (p.money - pr))).drew.heap[w1.heap.size]? = some (.cells #[.string l.name, .int .i64 (j : Int), .int .i64 pr] 137 (0, 0))) := by
            unfold Hid
            show ((w1.alloc (.cells #[.string l.name, .int .i64 (j : Int), .int .i64 pr] 137)).setCell ⟨pb, j * 2, none⟩ (.int .i64 (p.money - pr))).heap[w1.heap.size]? = _
            rw [setCell_far _ _ _ _ _ (Ne.symm hpbw)]
            exact HNew.out
          have M3 : Hid (ClM w X ((w1.alloc (.cells #[.string l.name, .int .i64 (j : Int), .int .i64 pr] 137)).setCell ⟨pb, j * 2, none⟩ (.int .i64 (p.money - pr))).drew k Xm (.slice a (keepTo X.opens X.S.now k).length c) l) := M2.out.below (bel_drewN (Below.refl _ _) 1)
          clear M2 c6 m0 fz t0 t1 t2 HNew
          go_wp2_with fail
          obtain ⟨w3, hw3⟩ : ∃ w3, w3 = ((w1.alloc (.cells #[.string l.name, .int .i64 (j : Int), .int .i64 pr] 137)).setCell ⟨pb, j * 2, none⟩ (.int .i64 (p.money - pr))).drew := ⟨_, rfl⟩
          rw [← hw3] at M3 HN3
          rw [← hw3]
          have t0 : w3.cell? ⟨w1.heap.size, 0, none⟩ = some (.string l.name) := by rw [cell_of_row _ _ _ _ _ _ HN3.out]; rfl
          have t1 : w3.cell? ⟨w1.heap.size, 1, none⟩ = some (.int .i64 (j : Int)) := by rw [cell_of_row _ _ _ _ _ _ HN3.out]; rfl
          have t2 : w3.cell? ⟨w1.heap.size, 2, none⟩ = some (.int .i64 pr) := by rw [cell_of_row _ _ _ _ _ _ HN3.out]; rfl
          clear hw3
          obtain ⟨wq, hwq⟩ : ∃ wq : Int, wq = (j : Int) := ⟨_, rfl⟩
          rw [← hwq] at hsc t1
          rw [← hwq]
          clear hwq
          obtain ⟨a8, g8, c8n, hv8, hc8, hm8, _⟩ := own_rd M3.out.t.rep.lot.2
          unfold maxLen at hm8
          have c8 : w3.cell? ⟨X.b, 8, none⟩ = some (.slice a8 Xm.sales.length c8n) := by rw [← hbm, ← hv8]; exact M3.out.t.rep.cellTop rfl
          have f8 : w3.frozen? ⟨X.b, 8, none⟩ = false := by rw [← hbm]; exact M3.out.t.rep.frozenTop 8
          have hs4 : Xm.sales.length ≤ 4 := by rw [M3.out.sl, List.length_map]; exact hdl.out
          have hownX : Hid (∀ (wx : World) (o : Obj), wx.heap = w3.heap.push o → wx.ownsRow 0 137 3 (.slice a8 Xm.sales.length c8n) Xm.sales.length (Xm.sales.flatMap xsaleCells)) := by
            intro wx o hxx
            have h1 := M3.out.t.rep.lot.2
            rw [hv8] at h1
            refine own_same h1 (fun r hr => ?_)
            have := own_lt h1 r hr
            rw [hxx]
            simp [Array.getElem?_push, Nat.ne_of_lt this]
          have hlX : Hid (X.b < w3.heap.size) := by rw [← hbm]; exact M3.out.t.rep.lt _ xfoot_b
          have hneX : Hid ((Value.slice a8 Xm.sales.length c8n).ownBlock ≠ some X.b) := by
            intro e
            have e1 := M3.out.t.rep.roles.lot.2 X.b (by rw [hv8]; simp [blk, e])
            rw [← hbm, M3.out.t.rep.roles.b] at e1
            cases e1
          have a8' : ∀ o, (w3.alloc o).cell? ⟨X.b, 8, none⟩ = some (.slice a8 Xm.sales.length c8n) := fun o => by rw [World.cell?_alloc_past _ _ _ hlX.out]; exact c8
          have HV8 := hidOf hv8
          have HDn : Hid (∀ (o : Obj) (gr cp : Nat) (w6 : World), (w3.alloc o).drew.grownBy w6 (some gr) → w6.ownsRow 0 137 3 (.slice (some ⟨gr, 0, none⟩) (Xm.sales.length + 1) cp) (Xm.sales.length + 1) (Xm.sales.flatMap xsaleCells ++ [.string l.name, .int .i64 wq, .int .i64 pr]) → ((Value.slice a8 Xm.sales.length c8n).ownBlock = some gr ∨ gr = w3.heap.size + 1) → ∃ Xn, Hid (ClK w X (w6.setCell ⟨X.b, 8, none⟩ (.slice (some ⟨gr, 0, none⟩) (Xm.sales.length + 1) cp)) (k + 1) Xn (.slice a (keepTo X.opens X.S.now (k + 1)).length c))) := fun o gr cp w6 h1 h2 h3 => by
            rw [← hsc.out] at h2
            have := M3.out.done HL.out HOp.out h1 h2 (by rw [HV8.out]; exact h3)
            rw [hbm] at this
            rw [hkeq.out]
            exact ⟨_, this⟩
          obtain ⟨m8, hm8e⟩ : ∃ m8, m8 = Xm.sales.length := ⟨_, rfl⟩
          obtain ⟨xs8, hx8⟩ : ∃ xs8, xs8 = Xm.sales.flatMap xsaleCells := ⟨_, rfl⟩
          rw [← hm8e, ← hx8] at HDn hownX
          rw [← hm8e] at a8' c8 hs4 hc8
          rw [← hm8e] at hneX
          clear hv8 HV8 hm8e hx8 M3
          go_region_law (refine step_append_only (by rfl) _ _ _ (by rfl) 0 137 j0 _ 3 32 Tryz.underlying82 hj0 hy0 hy1 hy2 (by rfl) (by omega) (.slice a8 m8 c8n) m8 xs8 (by rfl) (by exact hownX.out _ _ rfl) ⟨w3.heap.size, 0, none⟩ 1 1 [.string l.name, .int .i64 wq, .int .i64 pr] (by rfl) (by rfl) (by exact World.news_of_block (Go.heap_alloc_new w3 _)) (by intro u hu; simp at hu; rcases hu with rfl | rfl | rfl <;> rfl) (by omega) (by unfold maxLen; omega) (by omega) (by omega) (w3.heap.size + 1) (by simp) ?_; intro gr cp6 w6 hown6 hgrow hat hgrow2; obtain ⟨q1, q2⟩ := keepOther (((Below.refl _ w3).alloc (Nat.le_refl _) _).drew) hgrow hlX.out (Ne.symm hneX.out) 8; rw [c8] at q1; rw [f8] at q2)
          all_goals
            obtain ⟨Xn, KN⟩ := HDn.out _ gr cp6 w6 hgrow2 hown6 hat
            clear hgrow2 hown6 hat hgrow
            go_wp2
            exact ⟨⟨k + 1, c, a, Xn, by omega, by go_num, by rw [hkeq.out], KN⟩, by simp [intOf]; omega⟩
      · have e1 : decide (now < l.ends) = true := by rw [hnw]; exact hop
        have HOp := hidOf hop
        clear hop hnw
        have HO2 : Hid (∀ o nq, ((wr.drewN nq).alloc o).ownsRow w.heap.size 108 7 (.slice a (keepTo X.opens X.S.now k).length c) (keepTo X.opens X.S.now k).length ((keepTo X.opens X.S.now k).flatMap xlotCells)) := fun o nq => ownsRow_alloc (own_same2 K.out.row (fun _ _ => rfl)) o
        have HBs := hidOf K.out.t.kept.size
        have HKp : Hid (∀ (o : Obj) (w2 : World) (g' cap' nq : Nat), ((wr.drewN nq).alloc o).grownBy w2 (Value.slice a (keepTo X.opens X.S.now k).length c).ownBlock → ((Value.slice a (keepTo X.opens X.S.now k).length c).ownBlock = some g' ∨ g' = wr.heap.size + 1) → w2.ownsRow w.heap.size 108 7 (.slice (some ⟨g', 0, none⟩) ((keepTo X.opens X.S.now k).length + 1) cap') ((keepTo X.opens X.S.now k).length + 1) ((keepTo X.opens X.S.now k).flatMap xlotCells ++ xlotCells l) → Hid (ClK w X w2 (k + 1) Xk (.slice (some ⟨g', 0, none⟩) (keepTo X.opens X.S.now (k + 1)).length cap'))) := fun o w2 g' cap' nq hg hat ho => by
          have hsz : ((wr.drewN nq).alloc o).heap.size = wr.heap.size + 1 := by
            show ((wr.drewN nq).heap.push _).size = _
            rw [Array.size_push]
            rfl
          have hK : ClK w X (wr.drewN nq) k Xk (.slice a (keepTo X.opens X.S.now k).length c) := K.out.below ⟨rfl, rfl, rfl, Nat.le_refl _, fun _ _ => rfl⟩
          exact hK.keep HL.out HOp.out hg (hat.imp id (fun e => by omega)) ho
        have hlen : Hid ((keepTo X.opens X.S.now (k + 1)).length = (keepTo X.opens X.S.now k).length + 1) := by unfold Hid; rw [keep_yes HL.out HOp.out]; simp
        have hgw : g < wr.heap.size := block_lt_of_cell l0
        clear K
        go_wp2_with fail
        go_quiet (fail)
        go_wp2_with (at_builtin; refine wpList_append_lies _ rfl _ _ _ rfl w.heap.size 108 i0 _ 7 64 Tryz.underlying81 hi0 hz0 hz1 hz2 rfl (by omega) (.slice a (keepTo X.opens X.S.now k).length c) (keepTo X.opens X.S.now k).length ((keepTo X.opens X.S.now k).flatMap xlotCells) rfl (by exact HO2.out _ _) ⟨wr.heap.size, 0, none⟩ 1 1 (xlotCells l) rfl rfl (by exact World.news_of_block (Go.heap_alloc_new _ _)) (by intro u hu; simp [xlotCells] at hu; rcases hu with rfl | rfl | rfl | rfl | rfl | rfl | rfl <;> rfl) (by omega) (by unfold maxLen; omega) (by omega) (by have := HBs.out; simp; omega) (wr.heap.size + 1) (by simp) ?_; intro g' cap' w2 hown1 hgrow hat hlt2)
        have K2 := HKp.out _ w2 g' cap' _ hgrow hat hown1
        exact ⟨⟨k + 1, cap', _, Xk, by omega, by go_num, by rw [hlen.out], K2⟩, by simp [intOf]; omega⟩
    · have hlt' : decide ((k : Int) < (X.opens.length : Int)) = false := decide_eq_false (by omega)
      have hke : k = X.opens.length := by omega
      have HEk : Hid (∃ X', TurnX w X (wr.setCell ⟨X.b, 7, none⟩ (.slice a (keepTo X.opens X.S.now k).length c)) X' ∧ OkX X' ∧ X'.S = closeS X.S ∧ NewsOK X' ∧ X'.sales = (dueTo X.opens X.S.now X.opens.length).map saleOf) := by
        have := HE.out wr Xk _ (by rw [← hke]; exact K.out)
        rw [hb] at this
        exact this
      clear hke K
      go_wp2
      go_end0
      exact ⟨rfl, HEk.out⟩
end Go.Proofs.YtlafddeoheambaaGreatDoor

/-
  The function Insert of package slices, at a list's end; a lot more, at the end.
-/
namespace Go.Proofs.YtlafddeoheambaaGreatDoor
open Go.RowKit

set_option maxRecDepth 100000 in
set_option maxHeartbeats 2000000 in
theorem insert_end (w : World) (ao : Option Addr) (n cap gn : Nat) (xs ys : List Value) (hown : w.ownsRow 0 108 7 (.slice ao n cap) n xs) (hn : n ≤ 4) (hy : ys.length = 7) (hc : ∀ (j : Nat) u, ys[j]? = some u → w.cell? ⟨gn, j, none⟩ = some u) (h1 : ∀ u ∈ ys, u.oneCell' = true) :
    Calls Tryz.prog 42 #[.slice ao n cap, .int .i64 n, .slice (some ⟨gn, 0, none⟩) 1 1] w fun e w' => ∃ gr cp, e = .returned (.slice (some ⟨gr, 0, none⟩) (n + 1) cp) ∧ w'.ownsRow 0 108 7 (.slice (some ⟨gr, 0, none⟩) (n + 1) cp) (n + 1) (xs ++ ys) ∧ w.grownBy w' (Value.slice ao n cap).ownBlock ∧ ((Value.slice ao n cap).ownBlock = some gr ∨ gr = w.heap.size) := by
  obtain ⟨i0, hi0, hz0, hz1, hz2⟩ := info_parts Tryz.infoLot
  have hcm : n ≤ cap ∧ cap ≤ 9223372036854775807 := by
    rcases own_form hown with ⟨h, h0, _⟩ | ⟨g', c', h, h1, h2, _⟩
    · injection h with _ _ h
      exact ⟨by omega, by omega⟩
    · injection h with _ _ h
      unfold maxLen at h2
      exact ⟨by omega, by omega⟩
  obtain ⟨hcm1, hcm2⟩ := hcm
  have HOw := hidOf hown
  have HY := hidOf hc
  have H1 := hidOf h1
  have hnn : ((n : Int) == (n : Int)) = true := by simp
  clear hown hc h1
  rcases own_form HOw.out with ⟨h, h0, hx⟩ | ⟨g', c', h, _, _, _⟩
  · injection h with ha _ hcc
    subst ha h0 hx
    go_enter Tryz.func42, Tryz.ntmps42
    go_wp2_with (at_builtin; refine wpList_append_lies _ rfl _ _ _ rfl 0 108 i0 _ 7 64 Tryz.underlying81 hi0 hz0 hz1 hz2 rfl (by omega) (.slice none 0 cap) 0 [] rfl (by exact HOw.out) ⟨gn, 0, none⟩ 1 1 ys rfl (by rw [hy]) (by intro j u hu; rw [Lib.add_plain, Nat.zero_add]; exact HY.out j u hu) (by exact H1.out) (by omega) (by unfold maxLen; omega) (by omega) (by omega) w.heap.size rfl ?_; intro gr cp w6 hown1 hgrow hat hlt6)
    all_goals
      go_ret
      exact ⟨gr, cp, rfl, hown1, hgrow, hat⟩
  · injection h with ha _ hcc
    subst ha
    go_enter Tryz.func42, Tryz.ntmps42
    go_wp2_with (at_builtin; refine wpList_append_lies _ rfl _ _ _ rfl 0 108 i0 _ 7 64 Tryz.underlying81 hi0 hz0 hz1 hz2 rfl (by omega) (.slice (some ⟨g', 0, none⟩) n cap) n xs rfl (by exact HOw.out) ⟨gn, 0, none⟩ 1 1 ys rfl (by rw [hy]) (by intro j u hu; rw [Lib.add_plain, Nat.zero_add]; exact HY.out j u hu) (by exact H1.out) (by omega) (by unfold maxLen; omega) (by omega) (by omega) w.heap.size rfl ?_; intro gr cp w6 hown1 hgrow hat hlt6)
    all_goals
      go_ret
      exact ⟨gr, cp, rfl, hown1, hgrow, hat⟩
def opnR1 (X : XW) (g : Nat) : Nat → Role := fun r => if r = g then .opn else X.R r
/-- A lot more, at the end of the list. -/
theorem TurnX.addLot {w0 w w6 : World} {X0 X : XW} (T : TurnX w0 X0 w X) (l : XLot) {gr cap : Nat} (hg : w.grownBy w6 X.vOp.ownBlock)
    (ho : w6.ownsRow 0 108 7 (.slice (some ⟨gr, 0, none⟩) (X.opens.length + 1) cap) (X.opens.length + 1) (X.opens.flatMap xlotCells ++ xlotCells l)) (hat : X.vOp.ownBlock = some gr ∨ w.heap.size ≤ gr) :
    TurnX w0 X0 (w6.setCell ⟨X.b, 7, none⟩ (.slice (some ⟨gr, 0, none⟩) (X.opens.length + 1) cap)) (X.withL (.slice (some ⟨gr, 0, none⟩) (X.opens.length + 1) cap) (X.opens ++ [l]) X.vCl X.sales (opnR1 X gr)) := by
  have R := T.rep.roles
  have lt := T.rep.lt
  have hop : gr ∈ blk X.vOp ∨ w.heap.size ≤ gr := hat.imp (fun h => by simp [blk, h]) id
  have ngr : ∀ r ∈ X.foot, r ∉ blk X.vOp → r ≠ gr := by
    rintro r hr hn rfl
    rcases hop with h | h
    · exact hn h
    · have := lt r hr; omega
  have nb : X.b ∉ blk X.vOp := fun hm => by have := R.lot.1 _ hm; rw [R.b] at this; cases this
  have ncl : ∀ r ∈ blk X.vCl, r ∉ blk X.vOp ∧ r ≠ X.b ∧ r ∈ X.foot := by
    intro r hr
    have h1 := R.lot.2 r hr
    refine ⟨(fun hm => by have := R.lot.1 _ hm; rw [h1] at this; cases this), ?_, by simp [XW.foot, hr]⟩
    rintro rfl
    rw [R.b] at h1
    cases h1
  have old : ∀ r, r < w.heap.size → r ∉ blk X.vOp → w6.heap[r]? = w.heap[r]? := fun r hr hn => hg.block r hr (fun e => hn (by simp [blk, ← e]))
  have ht : (w6.setCell ⟨X.b, 7, none⟩ (.slice (some ⟨gr, 0, none⟩) (X.opens.length + 1) cap)).heap[X.b]? = some (.cells (X.withL (.slice (some ⟨gr, 0, none⟩) (X.opens.length + 1) cap) (X.opens ++ [l]) X.vCl X.sales (opnR1 X gr)).cells 84 (0, 0)) := by
    rw [cells_set (show w6.heap[X.b]? = some (.cells X.cells 84 (0, 0)) by rw [old _ (lt _ xfoot_b) nb]; exact T.rep.top)]
    rfl
  have hrep := T.rep.withL (v := .slice (some ⟨gr, 0, none⟩) (X.opens.length + 1) cap) (l := X.opens ++ [l]) (v' := X.vCl) (l' := X.sales) (R' := opnR1 X gr)
    (w' := w6.setCell ⟨X.b, 7, none⟩ (.slice (some ⟨gr, 0, none⟩) (X.opens.length + 1) cap))
    (fun r hr hb hn _ => by rw [setCell_far _ _ _ _ r hb, old r (lt r hr) hn]) ht
    ⟨by
      have e1 : (X.opens ++ [l]).length = X.opens.length + 1 := by simp
      have e2 : (X.opens ++ [l]).flatMap xlotCells = X.opens.flatMap xlotCells ++ xlotCells l := by simp
      rw [e1, e2]
      refine own_same ho (fun r hr => setCell_far _ _ _ _ r ?_)
      have : r = gr := by simpa [blk_slice] using hr
      rw [this]
      exact Ne.symm (ngr _ xfoot_b nb), own_same T.rep.lot.2 (fun r hr => by obtain ⟨h1, h2, h3⟩ := ncl r hr; rw [setCell_far _ _ _ _ r h2, old r (lt r h3) h1])⟩
    (fun r hr hn _ => by unfold opnR1; rw [if_neg (ngr r hr hn)])
    ⟨fun r hr => by
      have : r = gr := by simpa [blk_slice] using hr
      unfold opnR1
      rw [if_pos this], fun r hr => by unfold opnR1; rw [if_neg (ngr r (ncl r hr).2.2 (ncl r hr).1)]; exact R.lot.2 r hr⟩
  refine T.withL hrep ⟨hg.os, hg.tape, hg.output, ?_, fun k hk hn => ?_⟩ (fun r hr => ?_) (fun r hr => .inl (ncl r hr).2.2)
  · show w.heap.size ≤ (w6.setCell _ _).heap.size
    rw [World.setCell]
    simp only [Array.size_modify]
    exact hg.size
  · have h1 : k ≠ X.b := fun e => hn (by rw [e]; exact xfoot_b)
    rw [setCell_far _ _ _ _ k h1, old k hk (fun hm => hn (by simp [XW.foot, hm]))]
  · have : r = gr := by simpa [blk_slice] using hr
    rw [this]
    rcases hop with h | h
    · exact .inl (by simp [XW.foot, h])
    · exact .inr h
end Go.Proofs.YtlafddeoheambaaGreatDoor

/-
  The function Tick of package haze, where lots may be open; what a keep holds of such a world.
-/
namespace Go.Proofs.YtlafddeoheambaaGreatDoor
open Go.RowKit

/-- What closeLots does at a Tick's end. -/
def CloseSale (s : SWorld) : Prop := ∀ w1 X1, RepX w1 X1 → OkX X1 → X1.S = s → (∀ p ∈ s.players, p.news = []) →
  Calls Tryz.prog 32 #[.pointer (some ⟨X1.b, 0, none⟩)] w1 fun e w' => e = .returned (.tuple #[]) ∧ ∃ X', TurnX w1 X1 w' X' ∧ OkX X' ∧ X'.S = closeS s ∧ NewsOK X' ∧ SaleOK X'.sales
theorem closeSale_any {s : SWorld} (h : GoodL s) (hn : s.now < 1000) : CloseSale (midS s) := by
  intro w1 X1 hr hO hS hnw
  have hm := h.mid
  have hlots : (midS s).lots = s.lots := (tickTo_len s s.players.length).2.2
  have hl : X1.lots = s.lots := by
    have : X1.S.lots = (midS s).lots := by rw [hS]
    exact this.trans hlots
  have hpl : X1.S.players.length = X1.pls.length := by simp [XW.S]
  have hbss : X1.pls.map (·.1.bids) = X1.S.players.map (·.bids) := by simp [XW.S, Function.comp_def]
  have hbd : ∀ l ∈ X1.opens, ∀ i, 0 ≤ l.bid i ∧ l.bid i ≤ 100000 := by
    intro l hl' i
    rw [hO.lot.bid l hl' i, hbss]
    unfold bidAt
    cases hq : (X1.S.players.map (·.bids))[i]? with
    | none => simp [bidI]
    | some bs =>
      obtain ⟨p, hp, rfl⟩ := List.mem_map.1 (List.mem_of_getElem? hq)
      rw [hS] at hp
      exact bidI_le (hm.bo p hp) l.name
  have hwf : WFS X1.S (100 + 1800 * (s.now + 1)) := by rw [hS]; exact hm.wf
  have hno := h.now
  have hA : ClA X1 := by
    refine ⟨by rw [← hpl]; exact hwf.pl, fun p hp => ?_, by rw [hl]; exact h.lw.apart, by rw [hl]; exact h.lw.len, by rw [hl]; exact h.lw.lst, fun l hl' => ?_, hbd⟩
    · have := (hwf.each p hp).mo
      omega
    · rw [hl] at hl'
      have := h.lw.ends l hl'
      rw [hS]
      show s.now + 1 ≤ l.ends
      omega
  refine (xclose_any w1 X1 hr hO (by rw [hS]; exact hnw) hA).mono ?_
  rintro e w' ⟨rfl, X', T, O, S, N, L⟩
  refine ⟨rfl, X', T, O, by rw [S, hS], N, ?_⟩
  rw [L]
  have hsub : ∀ l ∈ dueTo X1.opens X1.S.now X1.opens.length, l ∈ X1.opens := fun l hl' => List.mem_of_mem_take (List.mem_filter.1 hl').1
  refine ⟨?_, fun x hx => ?_⟩
  · rw [List.length_map]
    unfold dueTo
    have h1 := List.length_filter_le (fun l => !openX X1.S.now l) (X1.opens.take X1.opens.length)
    have h2 := List.length_take_le X1.opens.length X1.opens
    have h3 := hO.lot.len
    rw [hl] at h3
    have := h.lw.len
    omega
  · obtain ⟨l, hl', rfl⟩ := List.mem_map.1 hx
    have hlo := hsub l hl'
    have hll := hO.lot.mem hlo
    rw [hl] at hll
    have hb4 := close_bd l.bid l.least 4
    have h0 := fun i => (hbd l hlo i).1
    obtain ⟨c1, c2, c3, c4⟩ := close_high (bid := l.bid) (least := l.least) h0 4
    have hle := h.lw.lst _ hll
    have hnmz := h.nm.l _ hll
    refine ⟨hb4.1, ?_, ?_, ?_, hnmz⟩
    · show (closeTo l.bid l.least 4).1 ≤ 4
      omega
    · show 0 ≤ (closeTo l.bid l.least 4).2.1
      rcases winI_form l.bid l.least 4 with hw | ⟨k, _, hw, _, _⟩
      · rw [c4 (by omega)]
        omega
      · rw [c3 (by omega)]
        have := pays_le hw
        have h3 : (lotOf l).least = l.least := rfl
        omega
    · show (closeTo l.bid l.least 4).2.1 ≤ 100000
      rcases winI_form l.bid l.least 4 with hw | ⟨k, _, hw, _, _⟩
      · rw [c4 (by omega)]
        omega
      · rw [c3 (by omega)]
        have := pays_le hw
        have := hbd l hlo k
        omega

set_option maxRecDepth 100000 in
set_option maxHeartbeats 8000000 in
theorem xtick_close (w : World) (X : XW) (M : Int) (hr : RepX w X) (hA : AllX X M) (hM : M ≤ 1000000000) (hn : 0 ≤ X.now ∧ X.now < 1000) (hcd : CloseSale { tickTo X.S X.S.players.length with now := X.S.now + 1 }) :
    Calls Tryz.prog 11 #[.pointer (some ⟨X.b, 0, none⟩)] w fun e w' => e = .returned (.int .i64 0) ∧ ∃ X', TurnX w X w' X' ∧ OkX X' ∧ X'.S = tickS X.S ∧ NewsOK X' ∧ SaleOK X'.sales := by
  have HCD := hidOf hcd
  clear hcd
  obtain ⟨hn0, hn1⟩ := hn
  have c3 : w.cell? ⟨X.b, 0, none⟩ = some (.int .i64 X.now) := hr.cellTop rfl
  have hpl : X.S.players.length = X.pls.length := by simp [XW.S]
  have h4 := hA.wf.pl
  rw [hpl] at h4
  obtain ⟨pb0, pcap0, hvp0, hpc0, hpm0⟩ := hr.plForm h4.1
  have c50 : w.cell? ⟨X.b, 6, none⟩ = some (.slice (some ⟨pb0, 0, none⟩) X.pls.length pcap0) := by rw [← hvp0]; exact hr.cellTop rfl
  have hc0 : (X.now == 1000) = false := beq_eq_false_iff_ne.2 (by omega)
  have HA := hidOf hA
  clear hA hvp0
  go_enter Tryz.func11, Tryz.ntmps11
  go_wp2
  go_loopw [3, 5, 16] (fun _ _ i w' => ∃ (k : Nat) (Xk : XW), k ≤ X.pls.length ∧ i = .int .i64 k ∧ TurnX w X w' Xk ∧ OkX Xk ∧ Hid (Xk.S = tickTo X.S k)) (fun _ _ i _ => X.pls.length + 1 - (intOf i).toNat)
  case atStart => exact ⟨0, X, Nat.zero_le _, rfl, TurnX.refl hr, HA.out.ok, rfl⟩
  case round =>
    clear c3 c50
    obtain ⟨k, Xp, hk, rfl, T, O, HS⟩ := hrel
    by_cases hlt : k < X.pls.length
    · obtain ⟨Xk, hXk⟩ : ∃ Xk, Xk = Xp.clearG k := ⟨_, rfl⟩
      have HSc : Hid (Xk.S = clearN (tickTo X.S k) k) := by unfold Hid; rw [hXk, clearG_S, HS.out]
      have Tc : TurnX w X wr Xk := by rw [hXk]; exact T.ghost _ _
      have Oc : OkX Xk := by rw [hXk]; exact O.clearG k
      clear hXk T O HS
      have hlen : Xk.pls.length = X.pls.length := by
        have e := (clearN_len (tickTo X.S k) k).1.trans (tickTo_len X.S k).1
        rw [← HSc.out] at e
        simpa [XW.S] using e
      have hb : Xk.b = X.b := Tc.b
      obtain ⟨pb, pcap, hvp, hpc, hpm⟩ := Tc.rep.plForm (by omega)
      unfold maxLen at hpm
      have c5 : wr.cell? ⟨X.b, 6, none⟩ = some (.slice (some ⟨pb, 0, none⟩) X.pls.length pcap) := by rw [← hb, ← hlen, ← hvp]; exact Tc.rep.cellTop rfl
      obtain ⟨p, v, hq⟩ := xat_of_lt (X := Xk) (n := k) (by omega)
      have hm1 := (Tc.rep.plCell hq hvp).2
      have hwk : WFS Xk.S (M + 450 * k) := by rw [HSc.out]; exact (HA.out.wf.tickTo k).clearN k
      have HAk : Hid (AllX Xk (M + 450 * k)) := ⟨hwk, Oc, lw_S HA.out.lw (by rw [HSc.out]; exact (clearN_bids _ k).trans (tickTo_bids X.S k)) (by rw [HSc.out]; exact (clearN_len _ k).2.2.trans (tickTo_len X.S k).2.2) (by rw [HSc.out]; exact (clearN_len _ k).2.1.trans (tickTo_len X.S k).2.1)⟩
      have hun := (hwk.each p (List.mem_of_getElem? (XS_at hq))).un
      have hle := (Tc.rep.each k _ hq).len
      simp only at hle
      rcases own_form (Tc.rep.each k _ hq).row with ⟨_, h0, _⟩ | ⟨ub, ucap, hvu, huc, hum, hub⟩
      · simp only at h0; omega
      simp only at hvu huc
      unfold maxLen at hum
      rw [hvu] at hm1
      have HVU := hidOf hvu
      have HQ := hidOf hq
      have HT := hidOf (show tickTo X.S (k + 1) = playerS (tickTo X.S k) k from rfl)
      have HR := hidOf Tc.rep
      have HLE := hidOf hle
      have HB := hidOf hb
      clear hwk hvp hvu hq hpl hlen hle hb
      go_wp2
      go_loopw [5, 28] (fun _ i w' => ∃ (j : Nat) (Xj : XW), j ≤ v.us.length ∧ i = .int .i64 j ∧ TurnX wr Xk w' Xj ∧ OkX Xj ∧ Hid (Xj.S = unitsTo Xk.S k j)) (fun _ i _ => v.us.length + 1 - (intOf i).toNat)
      case atStart => exact ⟨0, Xk, Nat.zero_le _, rfl, TurnX.refl Tc.rep, Oc, rfl⟩
      case round =>
        clear c5 hm1
        obtain ⟨j, Xj, hj, rfl, Tj, Oj, HSj⟩ := hrel
        by_cases hlt1 : j < v.us.length
        · obtain ⟨xg, hcell, HD0⟩ := tickRound (X := X) HR.out HAk.out (by omega) HQ.out HVU.out hlt1 Tj HSj.out Oj (Tj.b.trans HB.out)
          have HD := hidOf HD0
          clear HD0
          go_wp2_with (go_at_call 31; refine HD.out.mono ?_; rintro e w' ⟨rfl, X', T', O', HS'⟩)
          exact ⟨⟨j + 1, X', by omega, by go_num, T', O', HS'⟩, by simp [intOf]; omega⟩
        · have hjm : j = v.us.length := by omega
          have HE : Hid (Xj.S = tickTo X.S (k + 1)) := by
            unfold Hid
            rw [HT.out, HSj.out]
            unfold playerS
            rw [← HSc.out]
            have e : unitsN Xk.S k = v.us.length := by
              unfold unitsN
              rw [XS_at HQ.out]
              exact HLE.out.symm
            rw [e, hjm]
          clear hjm
          go_wp2
          exact ⟨⟨k + 1, Xj, by omega, by go_num, Tc.trans Tj, Oj, HE⟩, by simp [intOf]; omega⟩
    · have hkl : k = X.pls.length := by omega
      have hlen : Xp.pls.length = X.pls.length := by
        have e := (tickTo_len X.S k).1
        rw [← HS.out] at e
        simpa [XW.S] using e
      have hb : Xp.b = X.b := T.b
      have e2 := tickTo_len X.S k
      have hnow : Xp.now = X.now := by rw [← HS.out] at e2; exact e2.2.1
      have c3 : wr.cell? ⟨X.b, 0, none⟩ = some (.int .i64 X.now) := by rw [← hb, ← hnow]; exact T.rep.cellTop rfl
      have fz : wr.frozen? ⟨X.b, 0, none⟩ = false := by rw [← hb]; exact T.rep.frozenTop 0
      have HE : Hid ((Xp.withNow (X.now + 1)).S = { tickTo X.S X.S.players.length with now := X.S.now + 1 }) := by
        unfold Hid
        rw [hpl, ← hkl, ← HS.out]
        rfl
      have T9 := hidOf (T.now1 (X.now + 1))
      rw [hb] at T9
      have HC := hidOf (HCD.out _ _ T9.out.rep ⟨O.st, O.ore, O.dist, O.lot⟩ HE.out (tickTo_all X.S))
      have e9 : (Xp.withNow (X.now + 1)).b = X.b := hb
      rw [e9] at HC
      clear hkl e2 hnow hb hlen e9
      go_wp2_with (go_at_call 32; refine HC.out.mono ?_; rintro e w' ⟨rfl, X', T', O', S', N', L'⟩)
      go_ret
      exact ⟨rfl, X', T9.out.trans T', O', S', N', L'⟩
theorem GoodL.allX {X : XW} (h : GoodL X.S) (ho : OkX X) : AllX X (100 + 1800 * X.S.now) := ⟨h.wf, ho, by have := h.lw; simpa [XW.S, Function.comp_def] using this⟩
theorem GoodL.tickN {s : SWorld} (h : GoodL s) : GoodL (tickN s) := by
  unfold Proofs.YtlafddeoheambaaGreatDoor.tickN
  split
  · exact h
  · exact h.tick (by have := h.now.2; omega)
theorem xtick_l (w : World) (X : XW) (hr : RepX w X) (ho : OkX X) (hg : GoodL X.S) (hN : NewsOK X) (hsl : SaleOK X.sales) :
    Calls Tryz.prog 11 #[.pointer (some ⟨X.b, 0, none⟩)] w fun e w' => e = .returned (.int .i64 (tickC X.S)) ∧ ∃ X', TurnX w X w' X' ∧ OkX X' ∧ X'.S = tickN X.S ∧ NewsOK X' ∧ SaleOK X'.sales := by
  unfold tickC tickN
  have hn := hg.now
  have e : X.S.now = X.now := rfl
  by_cases h : X.S.now = 1000
  · rw [if_pos h, if_pos h]
    refine (xtick_full w X hr h).mono ?_
    rintro e w' ⟨rfl, rfl⟩
    exact ⟨rfl, X, TurnX.refl hr, ho, rfl, hN, hsl⟩
  · rw [if_neg h, if_neg h]
    exact xtick_close w X _ hr (hg.allX ho) (by omega) (by omega) (closeSale_any hg (by omega))
end Go.Proofs.YtlafddeoheambaaGreatDoor

/-
  The function Offer of package haze, where no lot is open, or one of that name is.
-/
namespace Go.Proofs.YtlafddeoheambaaGreatDoor
open Go.RowKit

theorem offer_found {X : XW} (hO : OkX X) (hA : Apart X.lots) (nm : ByteArray) : foundX X.opens nm = openB X.lots nm := by
  rw [Bool.eq_iff_iff, openB_place hO.lot hA nm]
  unfold foundX
  cases h : X.opens[placeX X.opens nm]? with
  | none => simp
  | some l => simp
theorem far7 {w5 : World} {g b : Nat} (hne : b ≠ g) (v0 v1 v2 v3 v4 v5 v6 : Value) : (((((((w5.setCell ⟨g, 0, none⟩ v0).setCell ⟨g, 1, none⟩ v1).setCell ⟨g, 2, none⟩ v2).setCell ⟨g, 3, none⟩ v3).setCell ⟨g, 4, none⟩ v4).setCell ⟨g, 5, none⟩ v5).setCell ⟨g, 6, none⟩ v6).cell? ⟨b, 0, none⟩ = w5.cell? ⟨b, 0, none⟩ :=
  World.cell?_of_block (by simp only [setCell_far _ _ _ _ _ hne])
theorem lot7 {w5 : World} {g : Nat} {T : TypeId} {c0 c1 c2 c3 c4 c5 c6 : Value} (h : w5.heap[g]? = some (.cells #[c0, c1, c2, c3, c4, c5, c6] T (0, 0))) (l : XLot) : LotAt (((((((w5.setCell ⟨g, 0, none⟩ (.string l.name)).setCell ⟨g, 1, none⟩ (.int .i64 l.ends)).setCell ⟨g, 2, none⟩ (.int .i64 l.least)).setCell ⟨g, 3, none⟩ (.int .i64 (l.bid 0))).setCell ⟨g, 4, none⟩ (.int .i64 (l.bid 1))).setCell ⟨g, 5, none⟩ (.int .i64 (l.bid 2))).setCell ⟨g, 6, none⟩ (.int .i64 (l.bid 3))) g 0 l := by
  have e0 : (w5.setCell ⟨g, 0, none⟩ (.string l.name)).heap[g]? = some (.cells #[(.string l.name), c1, c2, c3, c4, c5, c6] T (0, 0)) := cells_set h
  have e1 : ((w5.setCell ⟨g, 0, none⟩ (.string l.name)).setCell ⟨g, 1, none⟩ (.int .i64 l.ends)).heap[g]? = some (.cells #[(.string l.name), (.int .i64 l.ends), c2, c3, c4, c5, c6] T (0, 0)) := cells_set e0
  have e2 : (((w5.setCell ⟨g, 0, none⟩ (.string l.name)).setCell ⟨g, 1, none⟩ (.int .i64 l.ends)).setCell ⟨g, 2, none⟩ (.int .i64 l.least)).heap[g]? = some (.cells #[(.string l.name), (.int .i64 l.ends), (.int .i64 l.least), c3, c4, c5, c6] T (0, 0)) := cells_set e1
  have e3 : ((((w5.setCell ⟨g, 0, none⟩ (.string l.name)).setCell ⟨g, 1, none⟩ (.int .i64 l.ends)).setCell ⟨g, 2, none⟩ (.int .i64 l.least)).setCell ⟨g, 3, none⟩ (.int .i64 (l.bid 0))).heap[g]? = some (.cells #[(.string l.name), (.int .i64 l.ends), (.int .i64 l.least), (.int .i64 (l.bid 0)), c4, c5, c6] T (0, 0)) := cells_set e2
  have e4 : (((((w5.setCell ⟨g, 0, none⟩ (.string l.name)).setCell ⟨g, 1, none⟩ (.int .i64 l.ends)).setCell ⟨g, 2, none⟩ (.int .i64 l.least)).setCell ⟨g, 3, none⟩ (.int .i64 (l.bid 0))).setCell ⟨g, 4, none⟩ (.int .i64 (l.bid 1))).heap[g]? = some (.cells #[(.string l.name), (.int .i64 l.ends), (.int .i64 l.least), (.int .i64 (l.bid 0)), (.int .i64 (l.bid 1)), c5, c6] T (0, 0)) := cells_set e3
  have e5 : ((((((w5.setCell ⟨g, 0, none⟩ (.string l.name)).setCell ⟨g, 1, none⟩ (.int .i64 l.ends)).setCell ⟨g, 2, none⟩ (.int .i64 l.least)).setCell ⟨g, 3, none⟩ (.int .i64 (l.bid 0))).setCell ⟨g, 4, none⟩ (.int .i64 (l.bid 1))).setCell ⟨g, 5, none⟩ (.int .i64 (l.bid 2))).heap[g]? = some (.cells #[(.string l.name), (.int .i64 l.ends), (.int .i64 l.least), (.int .i64 (l.bid 0)), (.int .i64 (l.bid 1)), (.int .i64 (l.bid 2)), c6] T (0, 0)) := cells_set e4
  have e6 : (((((((w5.setCell ⟨g, 0, none⟩ (.string l.name)).setCell ⟨g, 1, none⟩ (.int .i64 l.ends)).setCell ⟨g, 2, none⟩ (.int .i64 l.least)).setCell ⟨g, 3, none⟩ (.int .i64 (l.bid 0))).setCell ⟨g, 4, none⟩ (.int .i64 (l.bid 1))).setCell ⟨g, 5, none⟩ (.int .i64 (l.bid 2))).setCell ⟨g, 6, none⟩ (.int .i64 (l.bid 3))).heap[g]? = some (.cells #[(.string l.name), (.int .i64 l.ends), (.int .i64 l.least), (.int .i64 (l.bid 0)), (.int .i64 (l.bid 1)), (.int .i64 (l.bid 2)), (.int .i64 (l.bid 3))] T (0, 0)) := cells_set e5
  exact ⟨by rw [cell_of_row _ _ _ _ _ _ e6]; rfl, by rw [cell_of_row _ _ _ _ _ _ e6]; rfl, by rw [cell_of_row _ _ _ _ _ _ e6]; rfl, by rw [cell_of_row _ _ _ _ _ _ e6]; rfl, by rw [cell_of_row _ _ _ _ _ _ e6]; rfl, by rw [cell_of_row _ _ _ _ _ _ e6]; rfl, by rw [cell_of_row _ _ _ _ _ _ e6]; rfl⟩
theorem lotNew {w5 : World} {T : TypeId} (l : XLot) : LotAt (w5.alloc (.cells #[.string l.name, .int .i64 l.ends, .int .i64 l.least, .int .i64 (l.bid 0), .int .i64 (l.bid 1), .int .i64 (l.bid 2), .int .i64 (l.bid 3)] T)) w5.heap.size 0 l := by
  have e := Go.heap_alloc_new w5 (.cells #[.string l.name, .int .i64 l.ends, .int .i64 l.least, .int .i64 (l.bid 0), .int .i64 (l.bid 1), .int .i64 (l.bid 2), .int .i64 (l.bid 3)] T)
  exact ⟨by rw [cell_of_row _ _ _ _ _ _ e]; rfl, by rw [cell_of_row _ _ _ _ _ _ e]; rfl, by rw [cell_of_row _ _ _ _ _ _ e]; rfl, by rw [cell_of_row _ _ _ _ _ _ e]; rfl, by rw [cell_of_row _ _ _ _ _ _ e]; rfl, by rw [cell_of_row _ _ _ _ _ _ e]; rfl, by rw [cell_of_row _ _ _ _ _ _ e]; rfl⟩
def lotG (X : XW) (ls : List SLot) : XW := X.ghost ls (fun _ p => (p.bids, p.news))
theorem lotG_pls (X : XW) (ls : List SLot) : (lotG X ls).pls = X.pls := by
  apply List.ext_getElem?
  intro i
  simp only [lotG, XW.ghost, List.getElem?_mapIdx]
  cases X.pls[i]? <;> rfl
def newLot (nm : ByteArray) (least ends : Int) : XLot := ⟨nm, ends, least, fun _ => 0⟩

set_option maxRecDepth 100000 in
set_option maxHeartbeats 8000000 in
theorem xoffer_any (w : World) (X : XW) (nm : ByteArray) (least ticks : Int) (hr : RepX w X) (hO : OkX X) (hg : GoodL X.S) (hs : nm.size ≤ 2000000) (hcase : X.lots = [] ∨ openB X.lots nm = true) :
    Calls Tryz.prog 19 #[.pointer (some ⟨X.b, 0, none⟩), .string nm, .int .i64 least, .int .i64 ticks] w fun e w' => e = .returned (.int .i64 (offerS X.S nm least ticks).1) ∧ ∃ X', TurnX w X w' X' ∧ OkX X' ∧ X'.S = (offerS X.S nm least ticks).2 ∧ X'.sales = X.sales ∧ X'.pls = X.pls := by
  have hap : Apart X.lots := hg.lw.apart
  have hol : X.opens.length ≤ 4 := by rw [hO.lot.len]; exact hg.lw.len
  have HI := hidOf (isName_any nm w hs)
  have HS : Hid (∀ wx, Below w.heap.size w wx → Calls Tryz.prog 40 #[.pointer (some ⟨X.b, 0, none⟩), .string nm] wx fun e w' => e = .returned (.tuple #[.int .i64 (placeX X.opens nm), .bool (foundX X.opens nm)]) ∧ Below wx.heap.size wx w') := fun wx h => seek_any wx X nm (hr.below h) (hO.lot.asc hap) hol
  have HT : Hid (∀ wx, Below w.heap.size w wx → TurnX w X wx X) := fun wx h => (TurnX.refl hr).below h
  have HO := hidOf hO
  have hoff : offerS X.S nm least ticks = if nameB nm.data.toList then (if openB X.lots nm then (4, X.S) else if inB least 0 100000 && inB ticks 1 1000 then (if 4 ≤ X.lots.length then (6, X.S) else (0, { X.S with lots := X.lots ++ [⟨nm, least, X.S.now + ticks⟩] })) else (1, X.S)) else (2, X.S) := rfl
  have HOf := hidOf hoff
  have HFo := hidOf (offer_found hO hap nm)
  have HG := hidOf hg
  clear hr hO hoff hap hg
  cases hn : nameB nm.data.toList
  · rw [hn] at HI
    have HE : Hid (offerS X.S nm least ticks = (2, X.S)) := by unfold Hid; rw [HOf.out, hn]; rfl
    go_enter Tryz.func19, Tryz.ntmps19
    go_wp2_with fail
    refine HI.out.mono ?_
    rintro e w1 ⟨rfl, hb⟩
    have T := HT.out w1 hb
    clear hb HI
    go_wp2
    go_ret
    exact ⟨by rw [HE.out]; rfl, X, T, HO.out, by rw [HE.out], rfl, rfl⟩
  · rw [hn] at HI
    go_enter Tryz.func19, Tryz.ntmps19
    go_wp2_with fail
    refine HI.out.mono ?_
    rintro e w1 ⟨rfl, hb1⟩
    have B1 := hidOf hb1
    have HS1 := hidOf (HS.out w1 hb1)
    clear hb1 HI HS
    go_wp2_with fail
    refine HS1.out.mono ?_
    rintro e w2 ⟨rfl, hb2⟩
    have B2 := hidOf (B1.out.trans (hb2.mono B1.out.size))
    clear hb2 HS1 B1
    rw [HFo.out]
    cases ho : openB X.lots nm
    · have hlz : X.lots = [] := by
        rcases hcase with h | h
        · exact h
        · rw [ho] at h; cases h
      have hoz : X.opens = [] := List.eq_nil_of_length_eq_zero (by rw [HO.out.lot.len, hlz]; rfl)
      have hpz : placeX X.opens nm = 0 := by rw [hoz]; rfl
      rw [hpz]
      cases hb : (inB least 0 100000 && inB ticks 1 1000)
      · have HE : Hid (offerS X.S nm least ticks = (1, X.S)) := by unfold Hid; rw [HOf.out, hn, ho, hb]; rfl
        have T := hidOf (HT.out w2 B2.out)
        have HBt : Hid (∀ n lo hi (wx : World), Calls Tryz.prog 41 #[.int .i64 n, .int .i64 lo, .int .i64 hi] wx fun e w' => e = .returned (.bool (inB n lo hi)) ∧ w' = wx) := fun n lo hi wx => between_any n lo hi wx
        cases h1 : inB least 0 100000
        · go_wp2_with fail
          refine (HBt.out least 0 100000 _).mono ?_
          rintro e w' ⟨rfl, h⟩
          rw [h, h1]
          clear h w'
          go_wp2
          go_ret
          exact ⟨by rw [HE.out]; rfl, X, T.out, HO.out, by rw [HE.out], rfl, rfl⟩
        · have h2 : inB ticks 1 1000 = false := by rw [h1] at hb; simpa using hb
          go_wp2_with fail
          refine (HBt.out least 0 100000 _).mono ?_
          rintro e w' ⟨rfl, h⟩
          rw [h, h1]
          clear h w'
          go_wp2_with fail
          refine (HBt.out ticks 1 1000 _).mono ?_
          rintro e w' ⟨rfl, h⟩
          rw [h, h2]
          clear h w'
          go_wp2
          go_ret
          exact ⟨by rw [HE.out]; rfl, X, T.out, HO.out, by rw [HE.out], rfl, rfl⟩
      · have h1 : inB least 0 100000 = true := by cases h : inB least 0 100000 <;> simp [h] at hb ⊢
        have h2 : inB ticks 1 1000 = true := by rw [h1] at hb; simpa using hb
        have hle : 0 ≤ least ∧ least ≤ 100000 := by simp only [inB, Bool.and_eq_true, decide_eq_true_eq] at h1; exact h1
        have hti : 1 ≤ ticks ∧ ticks ≤ 1000 := by simp only [inB, Bool.and_eq_true, decide_eq_true_eq] at h2; exact h2
        have hno := HG.out.now
        have HE : Hid (offerS X.S nm least ticks = (0, { X.S with lots := [⟨nm, least, X.S.now + ticks⟩] })) := by unfold Hid; rw [HOf.out, hn, ho, hb, hlz]; rfl
        have HBt : Hid (∀ n lo hi (wx : World), Calls Tryz.prog 41 #[.int .i64 n, .int .i64 lo, .int .i64 hi] wx fun e w' => e = .returned (.bool (inB n lo hi)) ∧ w' = wx) := fun n lo hi wx => between_any n lo hi wx
        have HCn : Hid (∀ wx, Hid (Below w2.heap.size w2 wx) → Calls Tryz.prog 30 #[.string nm] wx fun e w' => e = .returned (.string nm) ∧ Below wx.heap.size wx w') := fun wx _ => clone_any nm wx hs
        obtain ⟨ao, g, cap, hv, hcap, hmax, rd⟩ := own_rd (HT.out w2 B2.out).rep.lot.1
        rw [hoz] at hv
        have c7 : w2.cell? ⟨X.b, 7, none⟩ = some (.slice ao 0 cap) := by
          have := (HT.out w2 B2.out).rep.cellTop (j := 7) (u := X.vOp) rfl
          rw [this, hv]
          rfl
        have c0 : w2.cell? ⟨X.b, 0, none⟩ = some (.int .i64 X.S.now) := (HT.out w2 B2.out).rep.cellTop rfl
        have hbl : X.b < w2.heap.size := (HT.out w2 B2.out).rep.lt _ xfoot_b
        obtain ⟨now, hnw⟩ : ∃ now, now = X.S.now := ⟨_, rfl⟩
        rw [← hnw] at c0 hno
        have hwr : IntKind.i64.wrap (now + ticks) = now + ticks := by rw [IntKind.wrap_i64]; omega
        have HNw := hidOf hnw
        have HV := hidOf hv
        clear hnw hv rd hcap hmax
        go_wp2_with fail
        refine (HBt.out least 0 100000 _).mono ?_
        rintro e w' ⟨rfl, h⟩
        rw [h, h1]
        clear h w'
        go_wp2_with fail
        refine (HBt.out ticks 1 1000 _).mono ?_
        rintro e w' ⟨rfl, h⟩
        rw [h, h2]
        clear h w'
        go_wp2_with fail
        have HC0 : Hid (∀ wx, Hid (Below w2.heap.size w2 wx) → wx.cell? ⟨X.b, 0, none⟩ = some (.int .i64 now)) := fun wx h => (h.out.cell (p := ⟨X.b, 0, none⟩) hbl).trans c0
        have BX : Hid (∀ wx wy, Hid (Below w2.heap.size w2 wx) → Below wx.heap.size wx wy → Hid (Below w2.heap.size w2 wy)) := fun wx wy h h' => h.out.trans (h'.mono h.out.size)
        have HZ : Hid (∀ wx w5 : World, Below wx.heap.size wx w5 → wx = (w2.alloc (.cells #[.string ⟨#[]⟩, .int .i64 0, .int .i64 0, .int .i64 0, .int .i64 0, .int .i64 0, .int .i64 0] 108)).drew → Hid (w5.heap[w2.heap.size]? = some (.cells #[.string ⟨#[]⟩, .int .i64 0, .int .i64 0, .int .i64 0, .int .i64 0, .int .i64 0, .int .i64 0] 108 (0, 0))) ∧ (∀ j, w5.frozen? ⟨w2.heap.size, j, none⟩ = false) ∧ w5.cell? ⟨w2.heap.size, 0, none⟩ = some (.string ⟨#[]⟩) ∧ w5.cell? ⟨w2.heap.size, 1, none⟩ = some (.int .i64 0) ∧ w5.cell? ⟨w2.heap.size, 2, none⟩ = some (.int .i64 0) ∧ w5.cell? ⟨w2.heap.size, 3, none⟩ = some (.int .i64 0) ∧ w5.cell? ⟨w2.heap.size, 4, none⟩ = some (.int .i64 0) ∧ w5.cell? ⟨w2.heap.size, 5, none⟩ = some (.int .i64 0) ∧ w5.cell? ⟨w2.heap.size, 6, none⟩ = some (.int .i64 0)) := fun wx w5 h e => by
          subst e
          have hn := Go.heap_alloc_new w2 (.cells #[.string ⟨#[]⟩, .int .i64 0, .int .i64 0, .int .i64 0, .int .i64 0, .int .i64 0, .int .i64 0] 108)
          have hn2 : w5.heap[w2.heap.size]? = some (.cells #[.string ⟨#[]⟩, .int .i64 0, .int .i64 0, .int .i64 0, .int .i64 0, .int .i64 0, .int .i64 0] 108 (0, 0)) := (h.block w2.heap.size (lt_of_some hn)).trans hn
          exact ⟨hn2, fun j => by simp [World.frozen?, hn2], by rw [cell_of_row _ _ _ _ _ _ hn2]; rfl, by rw [cell_of_row _ _ _ _ _ _ hn2]; rfl, by rw [cell_of_row _ _ _ _ _ _ hn2]; rfl, by rw [cell_of_row _ _ _ _ _ _ hn2]; rfl, by rw [cell_of_row _ _ _ _ _ _ hn2]; rfl, by rw [cell_of_row _ _ _ _ _ _ hn2]; rfl, by rw [cell_of_row _ _ _ _ _ _ hn2]; rfl⟩
        go_cut [11] (fun p wc => ∃ lb, p = .pointer (some ⟨lb, 0, none⟩) ∧ Hid (Below w2.heap.size w2 wc) ∧ LotAt wc lb 0 (newLot nm least (now + ticks)))
        case first =>
          have B5 : Hid (Below w2.heap.size w2 w2.drew) := (Below.refl _ _).drew
          have S5 := HC0.out _ B5
          have BZ : Hid (Below w2.heap.size w2 (w2.alloc (.cells #[.string ⟨#[]⟩, .int .i64 0, .int .i64 0, .int .i64 0, .int .i64 0, .int .i64 0, .int .i64 0] 108)).drew) := ((Below.refl _ _).alloc (Nat.le_refl _) _).drew
          have SZ := HC0.out _ BZ
          have HC1 : Hid (Calls Tryz.prog 30 #[.string nm] w2.drew fun e w' => e = .returned (.string nm) ∧ Hid (Below w2.heap.size w2 w') ∧ w'.cell? ⟨X.b, 0, none⟩ = some (.int .i64 now) ∧ X.b < w'.heap.size) := (clone_any nm w2.drew hs).mono (fun e w' h => ⟨h.1, BX.out _ _ B5 h.2, HC0.out _ (BX.out _ _ B5 h.2), Nat.lt_of_lt_of_le hbl (BX.out _ _ B5 h.2).out.size⟩)
          have HC2 : Hid (Calls Tryz.prog 30 #[.string nm] ((w2.alloc (.cells #[.string ⟨#[]⟩, .int .i64 0, .int .i64 0, .int .i64 0, .int .i64 0, .int .i64 0, .int .i64 0] 108)).drew) fun e w' => e = .returned (.string nm) ∧ Hid (Below w2.heap.size w2 w') ∧ w'.cell? ⟨X.b, 0, none⟩ = some (.int .i64 now) ∧ Hid (w'.heap[w2.heap.size]? = some (.cells #[.string ⟨#[]⟩, .int .i64 0, .int .i64 0, .int .i64 0, .int .i64 0, .int .i64 0, .int .i64 0] 108 (0, 0))) ∧ (∀ j, w'.frozen? ⟨w2.heap.size, j, none⟩ = false) ∧ w'.cell? ⟨w2.heap.size, 0, none⟩ = some (.string ⟨#[]⟩) ∧ w'.cell? ⟨w2.heap.size, 1, none⟩ = some (.int .i64 0) ∧ w'.cell? ⟨w2.heap.size, 2, none⟩ = some (.int .i64 0) ∧ w'.cell? ⟨w2.heap.size, 3, none⟩ = some (.int .i64 0) ∧ w'.cell? ⟨w2.heap.size, 4, none⟩ = some (.int .i64 0) ∧ w'.cell? ⟨w2.heap.size, 5, none⟩ = some (.int .i64 0) ∧ w'.cell? ⟨w2.heap.size, 6, none⟩ = some (.int .i64 0)) := (clone_any nm ((w2.alloc (.cells #[.string ⟨#[]⟩, .int .i64 0, .int .i64 0, .int .i64 0, .int .i64 0, .int .i64 0, .int .i64 0] 108)).drew) hs).mono (fun e w' h => ⟨h.1, BX.out _ _ BZ h.2, HC0.out _ (BX.out _ _ BZ h.2), HZ.out _ _ h.2 rfl⟩)
          have hXw : X.b ≠ w2.heap.size := by omega
          clear HE HV HNw HT HO HG HOf HFo HBt c7 c0 hle hti hno hb h1 h2 ho hlz hoz hpz hol hcase HZ HCn
          go_region_held3 (fun w' => w'.cell? ⟨X.b, 0, none⟩ = some (.int .i64 now)) (first | with_reducible assumption | go_keep | (with_reducible refine (World.cell?_alloc_past _ X.b 0 (by with_reducible assumption)).trans ?_; with_reducible assumption) | (with_reducible refine (far7 hXw _ _ _ _ _ _ _).trans ?_; with_reducible assumption)) (first | (go_at_call 30; with_reducible refine HC1.out.mono ?_; rintro e w5 ⟨rfl, B6, S6, hx6⟩) | (go_at_call 30; with_reducible refine HC2.out.mono ?_; rintro e w5 ⟨rfl, B6, S6, zz, zf, z0, z1, z2, z3, z4, z5, z6⟩))
          · go_wp2_with fail
            go_meet
            exact ⟨_, rfl, BX.out _ _ B6 ((Below.refl _ _).alloc (Nat.le_refl _) _), lotNew (newLot nm least (now + ticks))⟩
          · go_wp2_with fail
            go_meet
            exact ⟨_, rfl, ((((((B6.out.setCell (p := ⟨w2.heap.size, 0, none⟩) (Nat.le_refl _) _).setCell (p := ⟨w2.heap.size, 1, none⟩) (Nat.le_refl _) _).setCell (p := ⟨w2.heap.size, 2, none⟩) (Nat.le_refl _) _).setCell (p := ⟨w2.heap.size, 3, none⟩) (Nat.le_refl _) _).setCell (p := ⟨w2.heap.size, 4, none⟩) (Nat.le_refl _) _).setCell (p := ⟨w2.heap.size, 5, none⟩) (Nat.le_refl _) _).setCell (p := ⟨w2.heap.size, 6, none⟩) (Nat.le_refl _) _, lot7 zz.out (newLot nm least (now + ticks))⟩
        case rest =>
          obtain ⟨lb, rfl, Bc, LA⟩ := hcut
          obtain ⟨l0, l1, l2, l3, l4, l5, l6⟩ := LA
          simp only [newLot] at l0 l1 l2 l3 l4 l5 l6
          have hbw : X.b < wc.heap.size := Nat.lt_of_lt_of_le hbl Bc.out.size
          have k7 : wc.cell? ⟨X.b, 7, none⟩ = some (.slice ao 0 cap) := (Bc.out.cell (p := ⟨X.b, 7, none⟩) hbl).trans c7
          have a7 : ∀ o, (wc.drew.alloc o).cell? ⟨X.b, 7, none⟩ = some (.slice ao 0 cap) := fun o => (World.cell?_alloc_past (w := wc.drew) o X.b 7 hbw).trans k7
          have Tc := hidOf ((HT.out w2 B2.out).below Bc.out)
          have f7 : wc.frozen? ⟨X.b, 7, none⟩ = false := Tc.out.rep.frozenTop 7
          have HW : Hid (∀ o, TurnX w X (wc.drew.alloc o) X) := fun o => Tc.out.drew.below ((Below.refl _ _).alloc (Nat.le_refl _) _)
          have HFin : Hid (∀ (o : Obj) (gr cp : Nat) (w6 : World), w6.ownsRow 0 108 7 (.slice (some ⟨gr, 0, none⟩) (0 + 1) cp) (0 + 1) ([] ++ xlotCells (newLot nm least (now + ticks))) → (wc.drew.alloc o).grownBy w6 (Value.slice ao 0 cap).ownBlock → ((Value.slice ao 0 cap).ownBlock = some gr ∨ gr = (wc.drew.alloc o).heap.size) → ∃ X', TurnX w X (w6.setCell ⟨X.b, 7, none⟩ (.slice (some ⟨gr, 0, none⟩) (0 + 1) cp)) X' ∧ OkX X' ∧ X'.S = (offerS X.S nm least ticks).2 ∧ X'.sales = X.sales ∧ X'.pls = X.pls) := fun o gr cp w6 h1 h2 h3 => by
            have hv := HV.out
            have T6 := (HW.out o).addLot (newLot nm least (now + ticks)) (gr := gr) (cap := cp) (w6 := w6) (by rw [hv]; exact h2) (by rw [hoz]; exact h1) (by rw [hv]; exact h3.imp id (fun e => Nat.le_of_eq e.symm))
            rw [hoz] at T6
            have hpl : ∀ Y : XW, (lotG Y (X.lots ++ [⟨nm, least, now + ticks⟩])).pls = Y.pls := fun Y => lotG_pls Y _
            refine ⟨lotG _ (X.lots ++ [⟨nm, least, now + ticks⟩]), T6.ghost _ _, ⟨?_, HO.out.ore, HO.out.dist, ?_⟩, ?_, rfl, hpl _⟩
            · rw [hpl]
              exact HO.out.st
            · rw [hpl]
              have := HO.out.lot.offer (now := X.S.now) (by have := HG.out.lw; simpa [XW.S, Function.comp_def] using this) nm least (now + ticks) (openB_no ho)
              rw [hoz] at this
              exact this
            · rw [HE.out]
              have e1 : (lotG (X.withL (.slice (some ⟨gr, 0, none⟩) (([] : List XLot).length + 1) cp) ([] ++ [newLot nm least (now + ticks)]) X.vCl X.sales (opnR1 X gr)) (X.lots ++ [⟨nm, least, now + ticks⟩])).S.players = X.S.players := by
                show List.map _ _ = List.map _ _
                rw [hpl]
                rfl
              have e2 : (lotG (X.withL (.slice (some ⟨gr, 0, none⟩) (([] : List XLot).length + 1) cp) ([] ++ [newLot nm least (now + ticks)]) X.vCl X.sales (opnR1 X gr)) (X.lots ++ [⟨nm, least, now + ticks⟩])).S = { X.S with players := (lotG (X.withL (.slice (some ⟨gr, 0, none⟩) (([] : List XLot).length + 1) cp) ([] ++ [newLot nm least (now + ticks)]) X.vCl X.sales (opnR1 X gr)) (X.lots ++ [⟨nm, least, now + ticks⟩])).S.players, lots := X.lots ++ [⟨nm, least, now + ticks⟩] } := rfl
              rw [e2, e1, hlz, HNw.out]
              rfl
          have hown0 : Hid (∀ o, (wc.drew.alloc o).ownsRow 0 108 7 (.slice ao 0 cap) 0 []) := fun o => by
            have := (HW.out o).rep.lot.1
            rw [HV.out, hoz] at this
            exact this
          have hneX : Hid ((Value.slice ao 0 cap).ownBlock ≠ some X.b) := by
            intro e
            have e1 := Tc.out.rep.roles.lot.1 X.b (by rw [HV.out]; show X.b ∈ blk (Value.slice ao 0 cap); simp [blk, e])
            rw [Tc.out.rep.roles.b] at e1
            cases e1
          have HIn : Hid (∀ wx, wx = wc.drew.alloc (.cells #[.string nm, .int .i64 (now + ticks), .int .i64 least, .int .i64 0, .int .i64 0, .int .i64 0, .int .i64 0] 108) → Calls Tryz.prog 42 #[.slice ao 0 cap, .int .i64 0, .slice (some ⟨wc.heap.size, 0, none⟩) 1 1] wx fun e w' => ∃ gr cp, e = .returned (.slice (some ⟨gr, 0, none⟩) (0 + 1) cp) ∧ w'.cell? ⟨X.b, 7, none⟩ = some (.slice ao 0 cap) ∧ w'.frozen? ⟨X.b, 7, none⟩ = false ∧ Hid (∃ X', TurnX w X (w'.setCell ⟨X.b, 7, none⟩ (.slice (some ⟨gr, 0, none⟩) (0 + 1) cp)) X' ∧ OkX X' ∧ X'.S = (offerS X.S nm least ticks).2 ∧ X'.sales = X.sales ∧ X'.pls = X.pls)) := fun wx hwx => by
            subst hwx
            have hn : (wc.drew.alloc (.cells #[.string nm, .int .i64 (now + ticks), .int .i64 least, .int .i64 0, .int .i64 0, .int .i64 0, .int .i64 0] 108)).heap[wc.heap.size]? = some (.cells #[.string nm, .int .i64 (now + ticks), .int .i64 least, .int .i64 0, .int .i64 0, .int .i64 0, .int .i64 0] 108 (0, 0)) := Go.heap_alloc_new wc.drew (.cells #[.string nm, .int .i64 (now + ticks), .int .i64 least, .int .i64 0, .int .i64 0, .int .i64 0, .int .i64 0] 108)
            refine (insert_end _ ao 0 cap wc.heap.size [] (xlotCells (newLot nm least (now + ticks))) (hown0.out _) (by omega) rfl (fun j u hu => by rw [cell_of_row _ _ _ _ _ _ hn]; simpa [xlotCells, newLot] using hu) (by intro u hu; simp [xlotCells] at hu; rcases hu with rfl | rfl | rfl | rfl | rfl | rfl | rfl <;> rfl)).mono ?_
            rintro e w' ⟨gr, cp, rfl, h1, h2, h3⟩
            obtain ⟨q1, q2⟩ := keepOther (w5 := wc) (((Below.refl _ wc).drew).alloc (Nat.le_refl _) (.cells #[.string nm, .int .i64 (now + ticks), .int .i64 least, .int .i64 0, .int .i64 0, .int .i64 0, .int .i64 0] 108)) h2 hbw (Ne.symm hneX.out) 7
            exact ⟨gr, cp, rfl, q1.trans k7, q2.trans f7, HFin.out _ gr cp w' h1 h2 h3⟩
          clear HFin hown0 hneX HW Tc HT HO HG HOf
          go_wp2_with fail
          go_region_with (go_at_call 42; refine (HIn.out _ rfl).mono ?_; rintro e w6 ⟨gr, cp, rfl, q1, q2, HX6⟩)
          all_goals
            go_wp2
            go_ret
            exact ⟨by rw [HE.out]; rfl, HX6.out⟩
    · have HE : Hid (offerS X.S nm least ticks = (4, X.S)) := by unfold Hid; rw [HOf.out, hn, ho]; rfl
      have T := hidOf (HT.out w2 B2.out)
      go_wp2
      go_ret
      exact ⟨by rw [HE.out]; rfl, X, T.out, HO.out, by rw [HE.out], rfl, rfl⟩
end Go.Proofs.YtlafddeoheambaaGreatDoor
