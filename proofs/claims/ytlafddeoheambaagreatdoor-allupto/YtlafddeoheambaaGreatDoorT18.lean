/-
  The function bid of package haze.
-/
import Derived.Test.YtlafddeoheambaaGreatDoorT14
import Derived.Test.YtlafddeoheambaaGreatDoorT15
import Derived.Test.YtlafddeoheambaaGreatDoorT17
import Derived.Test.YtlafddeoheambaaGreatDoorT07
import Derived.Shelf.Lay
import Derived.Shelf.Strconv.Clone
import Derived.Test.YtlafddeoheambaaGreatDoorT03
import Derived.Test.YtlafddeoheambaaGreatDoorT12
import Derived.Test.YtlafddeoheambaaGreatDoorT11
import Derived.Deep.QuietTactic
import Derived.BigQuiet
set_option linter.unusedVariables false
namespace Go.Proofs.YtlafddeoheambaaGreatDoor
open Go.RowKit

theorem numberI_le (l : List UInt8) : numberI l ≤ 100000 := by
  unfold numberI
  split
  · split <;> omega
  · omega
theorem bidS_no {s : SWorld} {n : Nat} {p : SPlayer} {nm : ByteArray} {k : Int} (h : openB s.lots nm = false) : bidS s n p nm k = (3, s) := by simp [bidS, h]
theorem found_open {X : XW} (h : OkX X) (hw : Apart X.lots) (nm : ByteArray) : openB X.S.lots nm = foundX X.opens nm := by
  have e := openB_place h.lot hw nm
  unfold foundX
  have e2 : X.S.lots = X.lots := rfl
  rw [e2]
  cases hp : X.opens[placeX X.opens nm]? with
  | none =>
    cases ho : openB X.lots nm
    · rfl
    · obtain ⟨l, hl, _⟩ := e.1 ho
      rw [hp] at hl
      cases hl
  | some l =>
    simp only
    by_cases hn : l.name = nm
    · rw [decide_eq_true hn]
      exact e.2 ⟨l, hp, hn⟩
    · rw [decide_eq_false hn]
      cases ho : openB X.lots nm
      · rfl
      · obtain ⟨l', hl', hn'⟩ := e.1 ho
        rw [hp] at hl'
        injection hl' with hl'
        subst hl'
        exact absurd hn' hn
theorem found_at {s : List XLot} {nm : ByteArray} (h : foundX s nm = true) : ∃ l, s[placeX s nm]? = some l ∧ l.name = nm := by
  unfold foundX at h
  cases hp : s[placeX s nm]? with
  | none => rw [hp] at h; cases h
  | some l =>
    rw [hp] at h
    exact ⟨l, rfl, of_decide_eq_true h⟩
/-- What a lot's bid has to do with all that a player has bid. -/
theorem AllX.bidFacts {X : XW} {M : Int} (hA : AllX X M) {n : Nat} {p : SPlayer} {v : XV} (hq : X.pls[n]? = some (p, v)) {k : Nat} {l : XLot} (hl : X.opens[k]? = some l) :
    stakedI p.bids l.name = stakedI p.bids emptyB - l.bid n ∧ 0 ≤ l.bid n ∧ l.bid n ≤ 100000 := by
  have hm := List.mem_of_getElem? hl
  have hb := hA.ok.lot.bid l hm n
  have hbd := hA.ok.lot.bidBd hA.lw l hm n
  have e' : ((X.pls.map (·.1.bids))[n]?).getD [] = p.bids := by simp [hq]
  unfold bidAt at hb
  rw [e'] at hb
  have hbs : p.bids ∈ X.pls.map (·.1.bids) := List.mem_map.2 ⟨(p, v), List.mem_of_getElem? hq, rfl⟩
  refine ⟨?_, hbd⟩
  rw [hb]
  refine staked_but (fun hm => ?_) (hA.lw.bids _ hbs) l.name
  obtain ⟨l, hl, he⟩ := List.mem_map.1 hm
  exact hA.lw.nm l hl he
structure BoxO (w w1 : World) (u nm : ByteArray) (num : Int) : Prop where
  b : Below w.heap.size w w1
  c : w1.heap[w.heap.size]? = some (.cells #[.int .i64 9, .string u, .string nm, .int .i64 num] 69 (0, 0))
theorem BoxO.first (w : World) (u nm : ByteArray) (num : Int) : BoxO w (w.alloc (.cells #[.int .i64 9, .string u, .string nm, .int .i64 num] 69)) u nm num := ⟨(Below.refl _ w).alloc (Nat.le_refl _) _, Go.heap_alloc_new w _⟩
theorem BoxO.below {w w1 w2 : World} {u nm : ByteArray} {num : Int} (h : BoxO w w1 u nm num) (hb : Below w1.heap.size w1 w2) : BoxO w w2 u nm num := ⟨h.b.trans (hb.mono h.b.size), by rw [hb.block _ (lt_of_some h.c)]; exact h.c⟩

set_option maxRecDepth 100000 in
set_option maxHeartbeats 4000000 in
theorem xbid_no (w : World) (X : XW) (M : Int) (n : Nat) (u nm : ByteArray) (num : Int) (hr : RepX w X) (hA : AllX X M) (hf : foundX X.opens nm = false) :
    Calls Tryz.prog 28 #[.pointer (some ⟨X.b, 0, none⟩), .int .i64 n, .agg #[.int .i64 9, .string u, .string nm, .int .i64 num]] w fun e w' => e = .returned (.int .i64 3) ∧ TurnX w X w' X := by
  have B1 := hidOf (BoxO.first w u nm num)
  have HR := hidOf hr
  have HS := hidOf (seek_any _ X nm (hr.below B1.out.b) (hA.ok.lot.asc hA.lw.apart) (by rw [hA.ok.lot.len]; exact hA.lw.len))
  rw [hf] at HS
  clear hr hA hf
  go_enter Tryz.func28, Tryz.ntmps28
  go_wp2_with (go_at_call 40; refine HS.out.mono ?_; rintro e w2 ⟨rfl, hb2⟩)
  go_ret
  exact ⟨rfl, (TurnX.refl HR.out).below (B1.out.below hb2).b⟩

set_option maxRecDepth 100000 in
set_option maxHeartbeats 8000000 in
theorem xbid_is (w : World) (X : XW) (M : Int) (n : Nat) (p : SPlayer) (v : XV) (u nm : ByteArray) (num : Int) (hr : RepX w X) (hA : AllX X M) (hM : M ≤ 100000000000) (hq : X.pls[n]? = some (p, v)) (hnum : 0 ≤ num ∧ num ≤ 100000) (k : Nat) (l : XLot) (hk : placeX X.opens nm = k) (hl : X.opens[k]? = some l) (hnm : l.name = nm) (hf : foundX X.opens nm = true) :
    Calls Tryz.prog 28 #[.pointer (some ⟨X.b, 0, none⟩), .int .i64 n, .agg #[.int .i64 9, .string u, .string nm, .int .i64 num]] w fun e w' => e = .returned (.int .i64 (if p.money < num + stakedI p.bids nm then 5 else 0)) ∧ ∃ X', TurnX w X w' X' ∧ X' = if p.money < num + stakedI p.bids nm then X else X.withL X.vOp (X.opens.set k (l.setBid n num)) X.vCl X.sales X.R := by
  have hpl : X.S.players.length = X.pls.length := by simp [XW.S]
  have h4 := hA.wf.pl
  rw [hpl] at h4
  obtain ⟨hn, _⟩ := at_some hq
  obtain ⟨hkl, _⟩ := at_some hl
  have hol : X.opens.length ≤ 4 := by rw [hA.ok.lot.len]; exact hA.lw.len
  obtain ⟨f1, f2, f3⟩ := hA.bidFacts hq hl
  rw [hnm] at f1
  obtain ⟨s0, s1⟩ := staked_le hA.ok hA.lw hq
  have pk := hA.wf.each p (List.mem_of_getElem? (XS_at hq))
  obtain ⟨m0, m1⟩ := pk.mo
  have B1 := hidOf (BoxO.first w u nm num)
  have HR := hidOf hr
  have HS := hidOf (seek_any _ X nm (hr.below B1.out.b) (hA.ok.lot.asc hA.lw.apart) hol)
  rw [hf, hk] at HS
  have HSt := hidOf (fun (wx : World) (hx : RepX wx X) => xstaked_ok wx X n p v hx hA.ok hA.lw hq h4.2)
  obtain ⟨st, hst⟩ : ∃ st, st = stakedI p.bids emptyB := ⟨_, rfl⟩
  rw [← hst] at HSt f1 s0 s1
  obtain ⟨bd, hbd⟩ : ∃ bd, bd = l.bid n := ⟨_, rfl⟩
  rw [← hbd] at f1 f2 f3
  have HBD := hidOf hbd
  rw [f1]
  obtain ⟨code, hcode⟩ : ∃ code : Int, code = if p.money < num + (st - bd) then 5 else 0 := ⟨_, rfl⟩
  obtain ⟨Xr, hXr⟩ : ∃ Xr : XW, Xr = if p.money < num + (st - bd) then X else X.withL X.vOp (X.opens.set k (l.setBid n num)) X.vCl X.sales X.R := ⟨_, rfl⟩
  rw [← hcode, ← hXr]
  have HCo := hidOf hcode
  have HXr := hidOf hXr
  clear hcode hXr
  obtain ⟨pb, pcap, hvp, hpc, hpm⟩ := hr.plForm h4.1
  unfold maxLen at hpm
  rcases own_form hr.lot.1 with ⟨_, h0, _⟩ | ⟨g, cap, hv, hc, hcm, _⟩
  · omega
  unfold maxLen at hcm
  have HV := hidOf hv
  have HVP := hidOf hvp
  have HQ := hidOf hq
  have HL := hidOf hl
  have hn4 : n < 4 := by omega
  have hn2 : (n : Int) < X.pls.length := by omega
  have hkl2 : (k : Int) < X.opens.length := by omega
  clear hr hA hf hq hl hk hnm hbd hst hpl hvp hv f1
  go_enter Tryz.func28, Tryz.ntmps28
  go_wp2_with fail
  refine HS.out.mono ?_
  rintro e w2 ⟨rfl, hb2⟩
  have B2 := hidOf (B1.out.below hb2)
  have T2 := hidOf ((TurnX.refl HR.out).below B2.out.b)
  have c7 : w2.cell? ⟨X.b, 7, none⟩ = some (.slice (some ⟨g, 0, none⟩) X.opens.length cap) := by rw [← HV.out]; exact T2.out.rep.cellTop rfl
  have c6 : w2.cell? ⟨X.b, 6, none⟩ = some (.slice (some ⟨pb, 0, none⟩) X.pls.length pcap) := by rw [← HVP.out]; exact T2.out.rep.cellTop rfl
  have m0' : w2.cell? ⟨pb, n * 2, none⟩ = some (.int .i64 p.money) := (T2.out.rep.plCell HQ.out HVP.out).1
  have cb : w2.cell? ⟨g, k * 7 + 3 + n, none⟩ = some (.int .i64 bd) := by
    have o := T2.out.rep.lot.1
    rw [HV.out] at o
    have f := flat_at xlotCells 7 (fun _ => rfl) X.opens k (3 + n) hkl (by omega)
    rw [← Nat.add_assoc, (at_some HL.out).2] at f
    refine own_cell o (f.trans ?_)
    rw [HBD.out]
    rcases (show n = 0 ∨ n = 1 ∨ n = 2 ∨ n = 3 by omega) with rfl | rfl | rfl | rfl <;> rfl
  have fz : w2.frozen? ⟨g, k * 7 + 3 + n, none⟩ = false := by
    have o := T2.out.rep.lot.1
    rw [HV.out] at o
    exact own_frozen o _
  have o3 : w2.cell? ⟨w.heap.size, 3, none⟩ = some (.int .i64 num) := by rw [cell_of_row _ _ _ _ _ _ B2.out.c]; rfl
  have HSt2 : Hid (∀ wx : World, wx.heap = w2.heap → Calls Tryz.prog 65 #[.pointer (some ⟨X.b, 0, none⟩), .int .i64 n] wx fun e w' => e = .returned (.int .i64 st) ∧ w' = wx) := fun wx hx => HSt.out wx (T2.out.rep.heapEq hx)
  clear hb2 HS HSt
  go_wp2_with fail
  go_quiet ((go_at_call 65; exact Calls.quiet_of_same (HSt2.out _ rfl)))
  go_wp2_with fail
  by_cases hp : p.money < num + (st - bd)
  · rw [if_pos hp] at HCo HXr
    go_quiet (fail)
    go_wp2
    go_ret
    exact ⟨ret_int HCo.out.symm, X, (T2.out.drewN _).drewN _, HXr.out.symm⟩
  · rw [if_neg hp] at HCo HXr
    have hp' : decide (p.money < num + (st - bd)) = false := decide_eq_false hp
    go_quiet (fail)
    go_wp2_with fail
    go_region
    all_goals
      go_wp2
      go_ret
      exact ⟨ret_int HCo.out.symm, _, (T2.out.drewN _).setBid HV.out HL.out hn4 num, HXr.out.symm⟩
end Go.Proofs.YtlafddeoheambaaGreatDoor

/-
  strings.Clone: the same bytes (by the shelf's contract).
-/
namespace Go.Proofs.YtlafddeoheambaaGreatDoor
shelf_lay LaysM.n316 Nm 316 at Tryz as Tryz.laysClone
end Go.Proofs.YtlafddeoheambaaGreatDoor
namespace Go.Proofs.YtlafddeoheambaaGreatDoor
open Go.RowKit

theorem lclone_any (s : ByteArray) (w : World) (hs : s.size ≤ 2000000) :
    Calls Tryz.prog 66 #[.string s] w fun e w' => e = .returned (.string s) ∧ Below w.heap.size w w' := Any.stringslite_Clone Tryz.laysClone s w (by omega)

set_option maxRecDepth 100000 in
set_option maxHeartbeats 1000000 in
theorem clone_any (s : ByteArray) (w : World) (hs : s.size ≤ 2000000) :
    Calls Tryz.prog 30 #[.string s] w fun e w' => e = .returned (.string s) ∧ Below w.heap.size w w' := by
  go_enter Tryz.func30, Tryz.ntmps30
  go_wp2_with (go_at_call 66; refine (lclone_any s _ hs).mono ?_; rintro e w1 ⟨rfl, hb⟩)
  go_ret
  exact ⟨rfl, hb⟩
end Go.Proofs.YtlafddeoheambaaGreatDoor

/-
  That the program reads an order as the document does.
-/
namespace Go.Proofs.YtlafddeoheambaaGreatDoor
open Go.RowKit

theorem plain_kind (b : List UInt8) : plainB b = decide (kindP b ≠ 0) := by
  unfold plainB amongB plainW eqS kindP
  simp only [List.map_cons, List.map_nil, List.any_cons, List.any_nil, Lib.toList_data, bytesOf_toList, Bool.or_false]
  by_cases h1 : b = [103, 111]
  · subst h1; rfl
  by_cases h2 : b = [108, 101, 102, 116]
  · subst h2; rfl
  by_cases h3 : b = [114, 105, 103, 104, 116]
  · subst h3; rfl
  by_cases h4 : b = [98, 97, 99, 107]
  · subst h4; rfl
  by_cases h5 : b = [100, 105, 103]
  · subst h5; rfl
  by_cases h6 : b = [115, 101, 108, 108]
  · subst h6; rfl
  simp [h1, h2, h3, h4, h5, h6, Ne.symm h1, Ne.symm h2, Ne.symm h3, Ne.symm h4, Ne.symm h5, Ne.symm h6]
theorem naming_kind (b : List UInt8) : namingB b = decide (kindN b ≠ 0) := by
  unfold namingB kindN
  by_cases h1 : b = [98, 117, 105, 108, 100]
  · subst h1; rfl
  by_cases h2 : b = [99, 97, 108, 108]
  · subst h2; rfl
  simp [h1, h2]
theorem kindP_mem {b : List UInt8} (h : kindP b ≠ 0) : b ∈ whatW ∧ kindW b = kindP b ∧ kindP b ≠ 9 := by
  refine ⟨?_, ?_, ?_⟩
  · unfold kindP at h
    simp only [whatW, List.mem_cons]
    by_cases h1 : b = [103, 111]
    · simp [h1]
    by_cases h2 : b = [108, 101, 102, 116]
    · simp [h2]
    by_cases h3 : b = [114, 105, 103, 104, 116]
    · simp [h3]
    by_cases h4 : b = [98, 97, 99, 107]
    · simp [h4]
    by_cases h5 : b = [100, 105, 103]
    · simp [h5]
    by_cases h6 : b = [115, 101, 108, 108]
    · simp [h6]
    simp [h1, h2, h3, h4, h5, h6] at h
  · unfold kindW; rw [if_neg h]
  · unfold kindP
    repeat' split
    all_goals omega
theorem kindN_mem {b : List UInt8} (h : kindN b ≠ 0) : b ∈ whatW ∧ kindW b = kindN b ∧ kindN b ≠ 9 := by
  have hb : b = [98, 117, 105, 108, 100] ∨ b = [99, 97, 108, 108] := by
    unfold kindN at h
    by_cases h1 : b = [98, 117, 105, 108, 100]
    · exact .inl h1
    by_cases h2 : b = [99, 97, 108, 108]
    · exact .inr h2
    simp [h1, h2] at h
  rcases hb with rfl | rfl
  · exact ⟨by simp [whatW], by decide, by decide⟩
  · exact ⟨by simp [whatW], by decide, by decide⟩

theorem numV_pos {n : Int} (h : 0 ≤ n) : numV n = n := by unfold numV; simp; omega
theorem nameB_nil : nameB [] = false := by decide
/-- What comes of a text's words. -/
theorem parse_words (s : SWorld) (n : Nat) (p : SPlayer) (ws : List (List UInt8)) :
    (parseV ws = #[.agg zeroO, .bool false] ∧ wordsS s n p ws = (2, s)) ∨
    (∃ nm num, parseV ws = #[.agg (ordC 9 ⟨#[]⟩ nm num), .bool true] ∧ wordsS s n p ws = bidS s n p nm num ∧ 0 ≤ num ∧ ∃ b c, ws = [bidW, b, c] ∧ nm = bytesOf b ∧ nameB b = true ∧ num = numberI c) ∨
    (∃ a b c, parseV ws = #[.agg (ordC (kindW b) (bytesOf a) (bytesOf c) 0), .bool true] ∧ wordsS s n p ws = tellS s n p a b c ∧ kindW b ≠ 9 ∧ b ∈ whatW ∧ (c ∈ ws ∨ c = [])) := by
  match ws with
  | [] => exact .inl ⟨rfl, rfl⟩
  | [a] => exact .inl ⟨rfl, rfl⟩
  | [a, b] =>
    simp only [parseV, wordsS, checkV, bytesOf_toList, plain_kind]
    by_cases h : kindP b ≠ 0 ∧ nameB a = true
    · obtain ⟨m1, m2, m3⟩ := kindP_mem h.1
      refine .inr (.inr ⟨a, b, [], ?_, ?_, ?_, m1, .inr rfl⟩)
      · rw [if_pos h, m2]; rfl
      · simp [h.1, h.2]
      · rw [m2]; exact m3
    · refine .inl ⟨by rw [if_neg h], ?_⟩
      rw [if_neg]
      simp only [Bool.and_eq_true, decide_eq_true_eq]
      exact fun h' => h ⟨h'.2, h'.1⟩
  | [a, b, c] =>
    simp only [parseV, wordsS, checkV, bytesOf_toList, naming_kind]
    by_cases h : (decide (0 ≤ numberI c) && (a == bidW && nameB b)) = true
    · have h0 := h
      simp only [Bool.and_eq_true, decide_eq_true_eq, beq_iff_eq] at h0
      refine .inr (.inl ⟨bytesOf b, numberI c, by rw [if_pos h, numV_pos h0.1], ?_, h0.1, b, c, by rw [h0.2.1], rfl, h0.2.2, rfl⟩)
      rw [if_pos]
      simp only [Bool.and_eq_true] at h ⊢
      exact ⟨⟨h.2.1, h.2.2⟩, h.1⟩
    · have h' : ¬ (a == bidW && nameB b && decide (0 ≤ numberI c)) = true := by
        intro h'
        apply h
        simp only [Bool.and_eq_true] at h' ⊢
        exact ⟨h'.2, h'.1.1, h'.1.2⟩
      rw [if_neg h, if_neg h']
      by_cases hc : nameB c = true
      · rw [if_pos hc]
        by_cases hk : kindN b ≠ 0 ∧ nameB a = true
        · obtain ⟨m1, m2, m3⟩ := kindN_mem hk.1
          refine .inr (.inr ⟨a, b, c, ?_, ?_, ?_, m1, .inl (by simp)⟩)
          · rw [if_pos hk, m2]
          · simp [hk.1, hk.2, hc]
          · rw [m2]; exact m3
        · refine .inl ⟨by rw [if_neg hk], ?_⟩
          rw [if_neg]
          simp only [Bool.and_eq_true, decide_eq_true_eq]
          exact fun h'' => hk ⟨h''.2, h''.1.1⟩
      · refine .inl ⟨by rw [if_neg hc], ?_⟩
        rw [if_neg]
        simp only [Bool.and_eq_true]
        exact fun h'' => hc h''.1.2
  | a :: b :: c :: d :: r => exact .inl ⟨rfl, rfl⟩
end Go.Proofs.YtlafddeoheambaaGreatDoor

/-
  The function Order of package haze: no such player; a text that is no order.
-/
namespace Go.Proofs.YtlafddeoheambaaGreatDoor
open Go.RowKit

def toldW (w : World) (g : Nat) (kd : Int) (arg : ByteArray) : World := (((w.setCell ⟨g, 4, none⟩ (.int .i64 kd)).setCell ⟨g, 5, none⟩ (.string ⟨#[]⟩)).setCell ⟨g, 6, none⟩ (.string arg)).setCell ⟨g, 7, none⟩ (.int .i64 0)
theorem told_turn {w w1 : World} {X X1 : XW} (h : TurnX w X w1 X1) {i k : Nat} {p : SPlayer} {v : XV} {u : SUnit} {x : XU} (hq : X1.pls[i]? = some (p, v)) (hu : p.units[k]? = some u) (hx : v.us[k]? = some x) (what arg : ByteArray) (hw : what.toList ∈ whatW) :
    TurnX w X (toldW w1 x.g (kindW what.toList) arg) (X1.setQ i ({ p with units := p.units.set k { u with what := what, arg := arg } }, { v with us := v.us.set k x })) := by
  have hru := (h.rep.each i _ hq).unit k u x hu hx
  have far : ∀ r, r ≠ x.g → (toldW w1 x.g (kindW what.toList) arg).heap[r]? = w1.heap[r]? := fun r h => by
    unfold toldW
    rw [setCell_far _ _ _ _ r h, setCell_far _ _ _ _ r h, setCell_far _ _ _ _ r h, setCell_far _ _ _ _ r h]
  have e : (toldW w1 x.g (kindW what.toList) arg).heap[x.g]? = some (.cells (xuCells { u with what := what, arg := arg } x) 91 (0, 0)) := by
    unfold toldW
    rw [cells_set (cells_set (cells_set (cells_set hru.is)))]
    rfl
  have hr := h.rep.setU hq hu hx far { u with what := what, arg := arg } x rfl ⟨e, hru.head, hw⟩
  have hf := xfoot_setQ X1 i (p, v) ({ p with units := p.units.set k { u with what := what, arg := arg } }, { v with us := v.us.set k x }) hq (xvFoot_setU hx rfl)
  refine h.trans ⟨hr, ?_, fun r hr => .inl (by rw [hf] at hr; exact hr), rfl, RowsX.keep h.rep.rows_lt hr (fun j q0 hj => ?_)⟩
  · unfold toldW
    have hg := xfoot_u hq hx
    exact ((((Kept.refl _ _).setCell _ _ _ (.inl hg)).setCell _ _ _ (.inl hg)).setCell _ _ _ (.inl hg)).setCell _ _ _ (.inl hg)
  · by_cases e' : j = i
    · subst e'
      rw [hq] at hj
      injection hj with hj
      subst hj
      exact ⟨_, set_at hq, rfl, map_set_same (·.g) v.us k x x hx rfl⟩
    · exact ⟨q0, by simp [XW.setQ, Ne.symm e', hj], rfl, rfl⟩

set_option maxRecDepth 100000 in
set_option maxHeartbeats 1000000 in
theorem xorder_none (w : World) (X : XW) (n : Int) (text : ByteArray) (hr : RepX w X) (h2 : 2 ≤ X.pls.length) (hn : ¬ (0 ≤ n ∧ n < X.pls.length)) :
    Calls Tryz.prog 10 #[.pointer (some ⟨X.b, 0, none⟩), .int .i64 n, .string text] w fun e w' => e = .returned (.int .i64 1) ∧ w' = w := by
  obtain ⟨pb, pcap, hvp, hpc, hpm⟩ := hr.plForm h2
  have c5 : w.cell? ⟨X.b, 6, none⟩ = some (.slice (some ⟨pb, 0, none⟩) X.pls.length pcap) := by rw [← hvp]; exact hr.cellTop rfl
  have HH := hidOf (has_any X.b n X.pls.length pcap _ w c5)
  have hi : hasB n X.pls.length = false := by rw [hasB_pl]; exact decide_eq_false hn
  rw [hi] at HH
  clear hn
  go_enter Tryz.func10, Tryz.ntmps10
  go_wp2_with (go_at_call 26; refine HH.out.mono ?_; rintro e w' ⟨rfl, rfl⟩)
  go_ret
  exact ⟨rfl, rfl⟩

set_option maxRecDepth 100000 in
set_option maxHeartbeats 4000000 in
/-- A text that is no order. -/
theorem xorder_no (w : World) (X : XW) (n : Nat) (text : ByteArray) (k' m' : Int) (u' n' : ByteArray) (hr : RepX w X) (h2 : 2 ≤ X.pls.length ∧ X.pls.length ≤ 4) (hn : n < X.pls.length) (hs : text.size ≤ 2000000)
    (hp : parseV (splitB text.data.toList) = #[.agg #[.int .i64 k', .string u', .string n', .int .i64 m'], .bool false]) :
    Calls Tryz.prog 10 #[.pointer (some ⟨X.b, 0, none⟩), .int .i64 n, .string text] w fun e w' => e = .returned (.int .i64 2) ∧ TurnX w X w' X := by
  obtain ⟨pb, pcap, hvp, hpc, hpm⟩ := hr.plForm h2.1
  have c5 : w.cell? ⟨X.b, 6, none⟩ = some (.slice (some ⟨pb, 0, none⟩) X.pls.length pcap) := by rw [← hvp]; exact hr.cellTop rfl
  have HH := hidOf (has_any X.b n X.pls.length pcap _ w c5)
  have hi : hasB (n : Int) X.pls.length = true := by rw [hasB_pl]; simp; omega
  rw [hi] at HH
  have HP := hidOf (xparse_any text w hs)
  rw [hp] at HP
  have HR := hidOf hr
  clear hp hr hvp
  go_enter Tryz.func10, Tryz.ntmps10
  go_wp2_with (first | (go_at_call 26; refine HH.out.mono ?_; rintro e w' ⟨rfl, h⟩; rw [h]; clear h w') | (go_at_call 27; refine HP.out.mono ?_; rintro e w1 ⟨rfl, hb1⟩))
  go_ret
  exact ⟨rfl, (TurnX.refl HR.out).below (hb1.trans ((Below.refl _ w1).alloc hb1.size _))⟩
end Go.Proofs.YtlafddeoheambaaGreatDoor

/-
  The function Order of package haze: a unit is told.
-/
namespace Go.Proofs.YtlafddeoheambaaGreatDoor
open Go.RowKit

set_option maxRecDepth 100000 in
set_option maxHeartbeats 4000000 in
theorem xorder_nobody (w : World) (X : XW) (n : Nat) (p : SPlayer) (v : XV) (text : ByteArray) (k' : Int) (u' n' : ByteArray) (hr : RepX w X) (h2 : 2 ≤ X.pls.length ∧ X.pls.length ≤ 4) (hq : X.pls[n]? = some (p, v)) (hs : text.size ≤ 2000000)
    (hp : parseV (splitB text.data.toList) = #[.agg #[.int .i64 k', .string u', .string n', .int .i64 0], .bool true]) (hk : k' ≠ 9) (hf : unitIx p.units u' < 0) :
    Calls Tryz.prog 10 #[.pointer (some ⟨X.b, 0, none⟩), .int .i64 n, .string text] w fun e w' => e = .returned (.int .i64 3) ∧ TurnX w X w' X := by
  obtain ⟨hn, _⟩ := at_some hq
  obtain ⟨pb, pcap, hvp, hpc, hpm⟩ := hr.plForm h2.1
  unfold maxLen at hpm
  have hi2 : (n : Int) < X.pls.length := by omega
  have c5 : w.cell? ⟨X.b, 6, none⟩ = some (.slice (some ⟨pb, 0, none⟩) X.pls.length pcap) := by rw [← hvp]; exact hr.cellTop rfl
  have HH := hidOf (has_any X.b n X.pls.length pcap _ w c5)
  have hi : hasB (n : Int) X.pls.length = true := by rw [hasB_pl]; simp; omega
  rw [hi] at HH
  have HP := hidOf (xparse_any text w hs)
  rw [hp] at HP
  have HR := hidOf hr
  have HQ := hidOf hq
  have HVP := hidOf hvp
  have hk9 : (k' == 9) = false := beq_eq_false_iff_ne.2 hk
  have HF := hidOf hf
  clear hp hr hvp hk hf hq
  go_enter Tryz.func10, Tryz.ntmps10
  go_wp2_with (first | (go_at_call 26; refine HH.out.mono ?_; rintro e w' ⟨rfl, h⟩; rw [h]; clear h w') | (go_at_call 27; refine HP.out.mono ?_; rintro e w1 ⟨rfl, hb1⟩))
  have T2 := hidOf ((TurnX.refl HR.out).below (hb1.trans ((Below.refl _ w1).alloc hb1.size (.cells #[.int .i64 k', .string u', .string n', .int .i64 0] 69))))
  have kk := Go.heap_alloc_new w1 (.cells #[.int .i64 k', .string u', .string n', .int .i64 0] 69)
  obtain ⟨w2, hw2⟩ : ∃ w2, w2 = w1.alloc (.cells #[.int .i64 k', .string u', .string n', .int .i64 0] 69) := ⟨_, rfl⟩
  rw [← hw2] at T2 kk ⊢
  obtain ⟨⟨k0, k1, k2, _⟩, _⟩ := res4 kk
  clear hw2 c5 kk
  have c5 : w2.cell? ⟨X.b, 6, none⟩ = some (.slice (some ⟨pb, 0, none⟩) X.pls.length pcap) := by rw [← HVP.out]; exact T2.out.rep.cellTop rfl
  have HFd : Hid (∀ wx : World, wx.heap = w2.heap → Calls Tryz.prog 29 #[.pointer (some ⟨pb, n * 2, none⟩), .string u'] wx fun e w' => e = .returned (.pointer (findA p.units v.us u')) ∧ w' = wx) := fun wx hx =>
    find_any pb (n * 2) (p, v) u' wx (((T2.out.rep.heapEq hx).plCell HQ.out HVP.out).2) ((T2.out.rep.heapEq hx).each n _ HQ.out)
  rw [find_none HF.out] at HFd
  go_quiet ((go_at_call 29; exact Calls.quiet_of_same (HFd.out _ rfl)))
  go_wp2
  go_ret
  exact ⟨rfl, T2.out.drewN _⟩
set_option maxRecDepth 100000 in
set_option maxHeartbeats 4000000 in
theorem xorder_told (w : World) (X : XW) (n : Nat) (p : SPlayer) (v : XV) (text : ByteArray) (k' : Int) (u' n' : ByteArray) (hr : RepX w X) (h2 : 2 ≤ X.pls.length ∧ X.pls.length ≤ 4) (hq : X.pls[n]? = some (p, v)) (hs : text.size ≤ 2000000)
    (hp : parseV (splitB text.data.toList) = #[.agg #[.int .i64 k', .string u', .string n', .int .i64 0], .bool true]) (k : Nat) (u : SUnit) (x : XU) (what : ByteArray) (hwh : what.toList ∈ whatW) (hkw : k' = kindW what.toList) (hsn : n'.size ≤ 2000000) (hk : k' ≠ 9) (hf : findA p.units v.us u' = some ⟨x.g, 0, none⟩) (hu : p.units[k]? = some u) (hx : v.us[k]? = some x) :
    Calls Tryz.prog 10 #[.pointer (some ⟨X.b, 0, none⟩), .int .i64 n, .string text] w fun e w' => e = .returned (.int .i64 0) ∧ TurnX w X w' (X.setQ n ({ p with units := p.units.set k { u with what := what, arg := n' } }, { v with us := v.us.set k x })) := by
  obtain ⟨hn, _⟩ := at_some hq
  obtain ⟨pb, pcap, hvp, hpc, hpm⟩ := hr.plForm h2.1
  unfold maxLen at hpm
  have hi2 : (n : Int) < X.pls.length := by omega
  have c5 : w.cell? ⟨X.b, 6, none⟩ = some (.slice (some ⟨pb, 0, none⟩) X.pls.length pcap) := by rw [← hvp]; exact hr.cellTop rfl
  have HH := hidOf (has_any X.b n X.pls.length pcap _ w c5)
  have hi : hasB (n : Int) X.pls.length = true := by rw [hasB_pl]; simp; omega
  rw [hi] at HH
  have HP := hidOf (xparse_any text w hs)
  rw [hp] at HP
  have HR := hidOf hr
  have HQ := hidOf hq
  have HVP := hidOf hvp
  have hk9 : (k' == 9) = false := beq_eq_false_iff_ne.2 hk
  have HF := hidOf hf
  have HU := hidOf hu
  have HX := hidOf hx
  have HK := hidOf hkw
  clear hp hr hvp hk hf hq hu hx hkw
  go_enter Tryz.func10, Tryz.ntmps10
  go_wp2_with (first | (go_at_call 26; refine HH.out.mono ?_; rintro e w' ⟨rfl, h⟩; rw [h]; clear h w') | (go_at_call 27; refine HP.out.mono ?_; rintro e w1 ⟨rfl, hb1⟩))
  have T2 := hidOf ((TurnX.refl HR.out).below (hb1.trans ((Below.refl _ w1).alloc hb1.size (.cells #[.int .i64 k', .string u', .string n', .int .i64 0] 69))))
  have kk := Go.heap_alloc_new w1 (.cells #[.int .i64 k', .string u', .string n', .int .i64 0] 69)
  obtain ⟨w2, hw2⟩ : ∃ w2, w2 = w1.alloc (.cells #[.int .i64 k', .string u', .string n', .int .i64 0] 69) := ⟨_, rfl⟩
  rw [← hw2] at T2 kk ⊢
  obtain ⟨⟨k0, k1, k2, _⟩, _⟩ := res4 kk
  clear hw2 c5 kk
  have c5 : w2.cell? ⟨X.b, 6, none⟩ = some (.slice (some ⟨pb, 0, none⟩) X.pls.length pcap) := by rw [← HVP.out]; exact T2.out.rep.cellTop rfl
  have HFd : Hid (∀ wx : World, wx.heap = w2.heap → Calls Tryz.prog 29 #[.pointer (some ⟨pb, n * 2, none⟩), .string u'] wx fun e w' => e = .returned (.pointer (findA p.units v.us u')) ∧ w' = wx) := fun wx hx =>
    find_any pb (n * 2) (p, v) u' wx (((T2.out.rep.heapEq hx).plCell HQ.out HVP.out).2) ((T2.out.rep.heapEq hx).each n _ HQ.out)
  rw [HF.out] at HFd
  have HCl := hidOf (fun wx => clone_any n' wx hsn)
  go_quiet ((go_at_call 29; exact Calls.quiet_of_same (HFd.out _ rfl)))
  go_wp2_with fail
  have T3 := hidOf (T2.out.drewN nq)
  obtain ⟨w3, hw3⟩ : ∃ w3, w3 = w2.drewN nq := ⟨_, rfl⟩
  have l0 : w3.cell? ⟨w1.heap.size, 0, none⟩ = some (.int .i64 k') := by rw [hw3]; exact k0
  have l2 : w3.cell? ⟨w1.heap.size, 2, none⟩ = some (.string n') := by rw [hw3]; exact k2
  rw [← hw3] at T3 ⊢
  clear hw3 k0 k1 k2 c5 HFd
  go_region_with (go_at_call 30; refine (HCl.out w3.drew).mono ?_; rintro e w4 ⟨rfl, hb4⟩; have T4 := hidOf (T3.out.drew.below hb4); have j0 : w4.cell? ⟨w1.heap.size, 0, none⟩ = some (.int .i64 k') := (hb4.cell (block_lt_of_cell l0)).trans l0; have ru := hidOf ((T4.out.rep.each n _ HQ.out).unit k u x HU.out HX.out); have d4 : w4.cell? ⟨x.g, 4, none⟩ = some (.int .i64 (kindW u.what.toList)) := ru.out.cell rfl; have d5 : w4.cell? ⟨x.g, 5, none⟩ = some (.string ⟨#[]⟩) := ru.out.cell rfl; have d6 : w4.cell? ⟨x.g, 6, none⟩ = some (.string u.arg) := ru.out.cell rfl; have d7 : w4.cell? ⟨x.g, 7, none⟩ = some (.int .i64 0) := ru.out.cell rfl; have z4 : w4.frozen? ⟨x.g, 4, none⟩ = false := ru.out.frozen 4; have z5 : w4.frozen? ⟨x.g, 5, none⟩ = false := ru.out.frozen 5; have z6 : w4.frozen? ⟨x.g, 6, none⟩ = false := ru.out.frozen 6; have z7 : w4.frozen? ⟨x.g, 7, none⟩ = false := ru.out.frozen 7)
  all_goals
    go_wp2
    go_ret
    have T5 := told_turn T4.out HQ.out HU.out HX.out what n' hwh
    rw [← HK.out] at T5
    exact ⟨rfl, T5⟩
end Go.Proofs.YtlafddeoheambaaGreatDoor

/-
  The function closeLots of package haze, where no lot is open.
-/
namespace Go.Proofs.YtlafddeoheambaaGreatDoor
open Go.RowKit

theorem noL_turn {w : World} {X : XW} (hr : RepX w X) (ho : X.opens = []) : TurnX w X ((w.setCell ⟨X.b, 8, none⟩ (.slice none 0 0)).setCell ⟨X.b, 7, none⟩ (.slice none 0 0)) (X.withL (.slice none 0 0) [] (.slice none 0 0) [] X.R) := by
  have hb0 : blk (.slice none 0 0) = [] := rfl
  have ht : ((w.setCell ⟨X.b, 8, none⟩ (.slice none 0 0)).setCell ⟨X.b, 7, none⟩ (.slice none 0 0)).heap[X.b]? = some (.cells (X.withL (.slice none 0 0) [] (.slice none 0 0) [] X.R).cells 84 (0, 0)) := by
    rw [cells_set (cells_set hr.top)]
    rfl
  have hrep := hr.withL (v := .slice none 0 0) (v' := .slice none 0 0) (l := []) (l' := []) (R' := X.R) (fun r _ hb _ _ => by rw [setCell_far _ _ _ _ r hb, setCell_far _ _ _ _ r hb]) ht ⟨⟨rfl, .inl ⟨rfl, rfl⟩⟩, ⟨rfl, .inl ⟨rfl, rfl⟩⟩⟩ (fun _ _ _ _ => rfl) ⟨by simp [hb0], by simp [hb0]⟩
  exact (TurnX.refl hr).withL hrep (((Kept.refl _ _).setCell _ _ _ (.inl xfoot_b)).setCell _ _ _ (.inl xfoot_b)) (by simp [hb0]) (by simp [hb0])

set_option maxRecDepth 100000 in
set_option maxHeartbeats 2000000 in
theorem xclose_nil (w : World) (X : XW) (hr : RepX w X) (ho : X.opens = []) :
    Calls Tryz.prog 32 #[.pointer (some ⟨X.b, 0, none⟩)] w fun e w' => e = .returned (.tuple #[]) ∧ TurnX w X w' (X.withL (.slice none 0 0) [] (.slice none 0 0) [] X.R) := by
  obtain ⟨ao, g, cap, hv, hcap, hmax, rd⟩ := own_rd hr.lot.1
  rw [ho] at hv
  have c7 : w.cell? ⟨X.b, 7, none⟩ = some (.slice ao 0 cap) := by
    have := hr.cellTop (j := 7) (u := X.vOp) rfl
    rw [this, hv]
    rfl
  have c8 : w.cell? ⟨X.b, 8, none⟩ = some X.vCl := hr.cellTop rfl
  have f8 : w.frozen? ⟨X.b, 8, none⟩ = false := hr.frozenTop 8
  have f7 : w.frozen? ⟨X.b, 7, none⟩ = false := hr.frozenTop 7
  have HT := hidOf (noL_turn hr ho)
  clear hr hv rd hcap hmax ho
  go_enter Tryz.func32, Tryz.ntmps32
  go_wp2
  go_loop [2, 3, 4, 5, 14] (fun l _ _ _ i => l = .slice none 0 0 ∧ i = .int .i64 0) (fun _ _ _ _ _ => 0)
  case atStart => exact ⟨rfl, rfl⟩
  case round =>
    obtain ⟨rfl, rfl⟩ := hrel
    go_wp2
    go_end0
    exact ⟨rfl, HT.out⟩

/-- What closeLots does at a Tick's end. -/
def CloseDone (s : SWorld) : Prop := ∀ w1 X1, RepX w1 X1 → OkX X1 → X1.S = s → (∀ p ∈ s.players, p.news = []) →
  Calls Tryz.prog 32 #[.pointer (some ⟨X1.b, 0, none⟩)] w1 fun e w' => e = .returned (.tuple #[]) ∧ ∃ X', TurnX w1 X1 w' X' ∧ OkX X' ∧ X'.S = closeS s ∧ NewsOK X'
theorem closeDone_nil {s : SWorld} (h : s.lots = []) : CloseDone s := by
  intro w1 X1 hr ho hs hn
  have hl : X1.lots = [] := by rw [← hs] at h; exact h
  have hop : X1.opens = [] := List.eq_nil_of_length_eq_zero (by rw [ho.lot.len, hl]; rfl)
  refine (xclose_nil w1 X1 hr hop).mono ?_
  rintro e w' ⟨rfl, T⟩
  refine ⟨rfl, _, T, ⟨ho.st, ho.ore, ho.dist, ?_⟩, ?_, ?_⟩
  · show LotRel [] X1.lots _
    rw [hl]
    exact LotRel.nil _
  · rw [closeS_nil h, ← hs]
    simp [XW.withL, XW.S, hl]
  · intro i q hq
    have : q.1 ∈ s.players := by
      rw [← hs]
      exact List.mem_map_of_mem (List.mem_of_getElem? hq)
    exact hn _ this
end Go.Proofs.YtlafddeoheambaaGreatDoor

/-
  The function Tick of package haze; what closeLots does is put in.
-/
namespace Go.Proofs.YtlafddeoheambaaGreatDoor
open Go.RowKit

theorem lw_S {X X1 : XW} (h : LotWF X.lots (X.pls.map (·.1.bids)) X.now) (hb : X1.S.players.map (·.bids) = X.S.players.map (·.bids)) (hl : X1.S.lots = X.S.lots) (hn : X1.S.now = X.S.now) : LotWF X1.lots (X1.pls.map (·.1.bids)) X1.now := by
  have e1 : X1.pls.map (·.1.bids) = X.pls.map (·.1.bids) := by simpa [XW.S, Function.comp_def] using hb
  have e2 : X1.lots = X.lots := hl
  have e3 : X1.now = X.now := hn
  rw [e1, e2, e3]
  exact h

/-- One round of the inner loop. -/
theorem tickRound {wr w1 : World} {X Xr X1 : XW} {n m : Nat} {p : SPlayer} {v : XV} {M : Int} (hr : RepX wr Xr) (hA : AllX Xr M) (hM : M ≤ 10000000000) (hq : Xr.pls[n]? = some (p, v)) {g cap : Nat} (hv : v.v = .slice (some ⟨g, 0, none⟩) v.us.length cap) (hm : m < v.us.length)
    (T : TurnX wr Xr w1 X1) (hS : X1.S = unitsTo Xr.S n m) (hO : OkX X1) (hb : X1.b = X.b) :
    ∃ x, w1.cell? ⟨g, m, none⟩ = some (.pointer (some ⟨x, 0, none⟩)) ∧ Calls Tryz.prog 31 #[.pointer (some ⟨X.b, 0, none⟩), .int .i64 n, .pointer (some ⟨x, 0, none⟩)] w1 fun e w' => e = .returned (.tuple #[]) ∧ ∃ X', TurnX wr Xr w' X' ∧ OkX X' ∧ X'.S = unitsTo Xr.S n (m + 1) := by
  obtain ⟨q', h1, h2, h3⟩ := T.rows n (p, v) hq
  obtain ⟨r1, _, _⟩ := h3 g (by rw [hv]; rfl)
  have hx : v.us[m]? = some v.us[m] := by simp [hm]
  obtain ⟨x', hx', eg⟩ := h2 m _ hx
  have hc := r1 m _ hx
  refine ⟨x'.g, by rw [hc]; simp [ptrV, eg], ?_⟩
  obtain ⟨p', v'⟩ := q'
  have hlen := (T.rep.each n _ h1).len
  simp only at hlen hx'
  obtain ⟨hml, _⟩ := at_some hx'
  have hu : p'.units[m]? = some (p'.units[m]'(by omega)) := by simp [← hlen, hml]
  have hwf : WFS X1.S (M + 90 * m) := by rw [hS]; exact hA.wf.unitsTo n m
  have hA1 : AllX X1 (M + 90 * m) := ⟨hwf, hO, lw_S hA.lw (by rw [hS]; exact bn_bids (unitsTo_bn Xr.S n m)) (by rw [hS]; exact (unitsTo_len Xr.S n m).2.2.1) (by rw [hS]; exact (unitsTo_len Xr.S n m).2.1)⟩
  have hm5 : m ≤ 5 := by
    have := hwf.each p' (List.mem_of_getElem? (XS_at h1))
    have := this.un.2
    omega
  obtain ⟨y, hy, hcar⟩ := hA1.car T.rep (by omega) h1 hu
  rw [hx'] at hy
  injection hy with hy
  subst hy
  have := carry_any w1 X1 n m p' v' _ x' hcar
  rw [hb] at this
  refine this.mono ?_
  rintro e w' ⟨rfl, X', T', O', S'⟩
  refine ⟨rfl, X', T.trans T', O', ?_⟩
  rw [S', hS]
  rfl

set_option maxRecDepth 100000 in
set_option maxHeartbeats 1000000 in
theorem xtick_full (w : World) (X : XW) (hr : RepX w X) (hn : X.now = 1000) :
    Calls Tryz.prog 11 #[.pointer (some ⟨X.b, 0, none⟩)] w fun e w' => e = .returned (.int .i64 6) ∧ w' = w := by
  have c3 : w.cell? ⟨X.b, 0, none⟩ = some (.int .i64 1000) := by rw [← hn]; exact hr.cellTop rfl
  go_enter Tryz.func11, Tryz.ntmps11
  go_wp2
  go_ret
  exact ⟨rfl, rfl⟩

set_option maxRecDepth 100000 in
set_option maxHeartbeats 8000000 in
theorem xtick_with (w : World) (X : XW) (M : Int) (hr : RepX w X) (hA : AllX X M) (hM : M ≤ 1000000000) (hn : 0 ≤ X.now ∧ X.now < 1000) (hcd : CloseDone { tickTo X.S X.S.players.length with now := X.S.now + 1 }) :
    Calls Tryz.prog 11 #[.pointer (some ⟨X.b, 0, none⟩)] w fun e w' => e = .returned (.int .i64 0) ∧ ∃ X', TurnX w X w' X' ∧ OkX X' ∧ X'.S = tickS X.S ∧ NewsOK X' := by
  have HCD := hidOf hcd
  clear hcd
  obtain ⟨hn0, hn1⟩ := hn
  have c3 : w.cell? ⟨X.b, 0, none⟩ = some (.int .i64 X.now) := hr.cellTop rfl
  have hpl : X.S.players.length = X.pls.length := by simp [XW.S]
  have h4 := hA.wf.pl
  rw [hpl] at h4
  obtain ⟨pb0, pcap0, hvp0, hpc0, hpm0⟩ := hr.plForm h4.1
  have c50 : w.cell? ⟨X.b, 6, none⟩ = some (.slice (some ⟨pb0, 0, none⟩) X.pls.length pcap0) := by rw [← hvp0]; exact hr.cellTop rfl
  have hc0 : (X.now == 1000) = false := beq_eq_false_iff_ne.2 (by omega)
  have HA := hidOf hA
  clear hA hvp0
  go_enter Tryz.func11, Tryz.ntmps11
  go_wp2
  go_loopw [3, 5, 16] (fun _ _ i w' => ∃ (k : Nat) (Xk : XW), k ≤ X.pls.length ∧ i = .int .i64 k ∧ TurnX w X w' Xk ∧ OkX Xk ∧ Hid (Xk.S = tickTo X.S k)) (fun _ _ i _ => X.pls.length + 1 - (intOf i).toNat)
  case atStart => exact ⟨0, X, Nat.zero_le _, rfl, TurnX.refl hr, HA.out.ok, rfl⟩
  case round =>
    clear c3 c50
    obtain ⟨k, Xp, hk, rfl, T, O, HS⟩ := hrel
    by_cases hlt : k < X.pls.length
    · obtain ⟨Xk, hXk⟩ : ∃ Xk, Xk = Xp.clearG k := ⟨_, rfl⟩
      have HSc : Hid (Xk.S = clearN (tickTo X.S k) k) := by unfold Hid; rw [hXk, clearG_S, HS.out]
      have Tc : TurnX w X wr Xk := by rw [hXk]; exact T.ghost _ _
      have Oc : OkX Xk := by rw [hXk]; exact O.clearG k
      clear hXk T O HS
      have hlen : Xk.pls.length = X.pls.length := by
        have e := (clearN_len (tickTo X.S k) k).1.trans (tickTo_len X.S k).1
        rw [← HSc.out] at e
        simpa [XW.S] using e
      have hb : Xk.b = X.b := Tc.b
      obtain ⟨pb, pcap, hvp, hpc, hpm⟩ := Tc.rep.plForm (by omega)
      unfold maxLen at hpm
      have c5 : wr.cell? ⟨X.b, 6, none⟩ = some (.slice (some ⟨pb, 0, none⟩) X.pls.length pcap) := by rw [← hb, ← hlen, ← hvp]; exact Tc.rep.cellTop rfl
      obtain ⟨p, v, hq⟩ := xat_of_lt (X := Xk) (n := k) (by omega)
      have hm1 := (Tc.rep.plCell hq hvp).2
      have hwk : WFS Xk.S (M + 450 * k) := by rw [HSc.out]; exact (HA.out.wf.tickTo k).clearN k
      have HAk : Hid (AllX Xk (M + 450 * k)) := ⟨hwk, Oc, lw_S HA.out.lw (by rw [HSc.out]; exact (clearN_bids _ k).trans (tickTo_bids X.S k)) (by rw [HSc.out]; exact (clearN_len _ k).2.2.trans (tickTo_len X.S k).2.2) (by rw [HSc.out]; exact (clearN_len _ k).2.1.trans (tickTo_len X.S k).2.1)⟩
      have hun := (hwk.each p (List.mem_of_getElem? (XS_at hq))).un
      have hle := (Tc.rep.each k _ hq).len
      simp only at hle
      rcases own_form (Tc.rep.each k _ hq).row with ⟨_, h0, _⟩ | ⟨ub, ucap, hvu, huc, hum, hub⟩
      · simp only at h0; omega
      simp only at hvu huc
      unfold maxLen at hum
      rw [hvu] at hm1
      have HVU := hidOf hvu
      have HQ := hidOf hq
      have HT := hidOf (show tickTo X.S (k + 1) = playerS (tickTo X.S k) k from rfl)
      have HR := hidOf Tc.rep
      have HLE := hidOf hle
      have HB := hidOf hb
      clear hwk hvp hvu hq hpl hlen hle hb
      go_wp2
      go_loopw [5, 28] (fun _ i w' => ∃ (j : Nat) (Xj : XW), j ≤ v.us.length ∧ i = .int .i64 j ∧ TurnX wr Xk w' Xj ∧ OkX Xj ∧ Hid (Xj.S = unitsTo Xk.S k j)) (fun _ i _ => v.us.length + 1 - (intOf i).toNat)
      case atStart => exact ⟨0, Xk, Nat.zero_le _, rfl, TurnX.refl Tc.rep, Oc, rfl⟩
      case round =>
        clear c5 hm1
        obtain ⟨j, Xj, hj, rfl, Tj, Oj, HSj⟩ := hrel
        by_cases hlt1 : j < v.us.length
        · obtain ⟨xg, hcell, HD0⟩ := tickRound (X := X) HR.out HAk.out (by omega) HQ.out HVU.out hlt1 Tj HSj.out Oj (Tj.b.trans HB.out)
          have HD := hidOf HD0
          clear HD0
          go_wp2_with (go_at_call 31; refine HD.out.mono ?_; rintro e w' ⟨rfl, X', T', O', HS'⟩)
          exact ⟨⟨j + 1, X', by omega, by go_num, T', O', HS'⟩, by simp [intOf]; omega⟩
        · have hjm : j = v.us.length := by omega
          have HE : Hid (Xj.S = tickTo X.S (k + 1)) := by
            unfold Hid
            rw [HT.out, HSj.out]
            unfold playerS
            rw [← HSc.out]
            have e : unitsN Xk.S k = v.us.length := by
              unfold unitsN
              rw [XS_at HQ.out]
              exact HLE.out.symm
            rw [e, hjm]
          clear hjm
          go_wp2
          exact ⟨⟨k + 1, Xj, by omega, by go_num, Tc.trans Tj, Oj, HE⟩, by simp [intOf]; omega⟩
    · have hkl : k = X.pls.length := by omega
      have hlen : Xp.pls.length = X.pls.length := by
        have e := (tickTo_len X.S k).1
        rw [← HS.out] at e
        simpa [XW.S] using e
      have hb : Xp.b = X.b := T.b
      have e2 := tickTo_len X.S k
      have hnow : Xp.now = X.now := by rw [← HS.out] at e2; exact e2.2.1
      have c3 : wr.cell? ⟨X.b, 0, none⟩ = some (.int .i64 X.now) := by rw [← hb, ← hnow]; exact T.rep.cellTop rfl
      have fz : wr.frozen? ⟨X.b, 0, none⟩ = false := by rw [← hb]; exact T.rep.frozenTop 0
      have HE : Hid ((Xp.withNow (X.now + 1)).S = { tickTo X.S X.S.players.length with now := X.S.now + 1 }) := by
        unfold Hid
        rw [hpl, ← hkl, ← HS.out]
        rfl
      have T9 := hidOf (T.now1 (X.now + 1))
      rw [hb] at T9
      have HC := hidOf (HCD.out _ _ T9.out.rep ⟨O.st, O.ore, O.dist, O.lot⟩ HE.out (tickTo_all X.S))
      have e9 : (Xp.withNow (X.now + 1)).b = X.b := hb
      rw [e9] at HC
      clear hkl e2 hnow hb hlen e9
      go_wp2_with (go_at_call 32; refine HC.out.mono ?_; rintro e w' ⟨rfl, X', T', O', S', N'⟩)
      go_ret
      exact ⟨rfl, X', T9.out.trans T', O', S', N'⟩
end Go.Proofs.YtlafddeoheambaaGreatDoor

/-
  The function Order of package haze, whole.
-/
namespace Go.Proofs.YtlafddeoheambaaGreatDoor
open Go.RowKit

/-- What Order does with a bid. -/
def BidDone (w : World) (X : XW) (k : Nat) (p : SPlayer) (text : ByteArray) : Prop :=
  ∀ b c, splitB text.data.toList = [bidW, b, c] → nameB b = true → 0 ≤ numberI c → parseV (splitB text.data.toList) = #[.agg (ordC 9 ⟨#[]⟩ (bytesOf b) (numberI c)), .bool true] →
    Calls Tryz.prog 10 #[.pointer (some ⟨X.b, 0, none⟩), .int .i64 k, .string text] w fun e w' => e = .returned (.int .i64 (bidS X.S k p (bytesOf b) (numberI c)).1) ∧ ∃ X', TurnX w X w' X' ∧ OkX X' ∧ X'.S = (bidS X.S k p (bytesOf b) (numberI c)).2 ∧ X'.sales = X.sales
theorem xorder_with (w : World) (X : XW) (M : Int) (n : Int) (text : ByteArray) (hr : RepX w X) (hA : AllX X M) (hs : text.size ≤ 2000000) (hbd : ∀ k p v, n = (k : Nat) → X.pls[k]? = some (p, v) → BidDone w X k p text) :
    Calls Tryz.prog 10 #[.pointer (some ⟨X.b, 0, none⟩), .int .i64 n, .string text] w fun e w' => e = .returned (.int .i64 (orderS X.S n text.data.toList).1) ∧ ∃ X', TurnX w X w' X' ∧ OkX X' ∧ X'.S = (orderS X.S n text.data.toList).2 ∧ X'.sales = X.sales := by
  have hpl : X.S.players.length = X.pls.length := by simp [XW.S]
  have h4 := hA.wf.pl
  rw [hpl] at h4
  by_cases hn : 0 ≤ n ∧ n < X.pls.length
  · obtain ⟨hn0, hn1⟩ := hn
    obtain ⟨k, rfl⟩ := Int.eq_ofNat_of_zero_le hn0
    obtain ⟨p, v, hq⟩ := xat_of_lt (X := X) (n := k) (by omega)
    have e : orderS X.S k text.data.toList = wordsS X.S k p (splitB text.data.toList) := by
      unfold orderS
      rw [if_pos (by rw [hpl]; omega), Int.toNat_natCast, XS_at hq]
    rw [e]
    have hsz := splitB_sizes text.data.toList
    have hlen : text.data.toList.length = text.size := by simp
    rcases parse_words X.S k p (splitB text.data.toList) with ⟨h1, h2⟩ | ⟨nm, num, h1, h2, h0, b, c, hw, rfl, hnb, rfl⟩ | ⟨a, b, c, h1, h2, h3, h5, h6⟩
    · rw [h2]
      refine (xorder_no w X k text 0 0 ⟨#[]⟩ ⟨#[]⟩ hr h4 (by omega) hs h1).mono ?_
      rintro e w' ⟨rfl, T⟩
      exact ⟨rfl, _, T, hA.ok, rfl, rfl⟩
    · rw [h2]
      exact hbd k p v rfl hq b c hw hnb h0 h1
    · rw [h2]
      unfold tellS
      by_cases hu : unitIx p.units (bytesOf a) < 0
      · rw [if_pos hu]
        refine (xorder_nobody w X k p v text (kindW b) (bytesOf a) (bytesOf c) hr h4 hq hs h1 h3 hu).mono ?_
        rintro e w' ⟨rfl, T⟩
        exact ⟨rfl, _, T, hA.ok, rfl, rfl⟩
      · rw [if_neg hu]
        obtain ⟨j, x, hf, hj, hx, hjl⟩ := find_some (hr.each k _ hq).len hu
        simp only at hf hj hx hjl
        have hui : p.units[j]? = some p.units[j] := by simp [hjl]
        have ej : (unitIx p.units (bytesOf a)).toNat = j := by rw [hj]; simp
        have hb : (bytesOf b).toList = b := by rw [Lib.toList_data, bytesOf_toList]
        have hsc : (bytesOf c).size ≤ 2000000 := by
          rw [bytesOf_size]
          rcases h6 with h6 | h6
          · have := hsz c h6; omega
          · rw [h6]; simp
        refine (xorder_told w X k p v text (kindW b) (bytesOf a) (bytesOf c) hr h4 hq hs h1 j p.units[j] x (bytesOf b) (by rw [hb]; exact h5) (by rw [hb]) hsc h3 hf hui hx).mono ?_
        rintro e w' ⟨rfl, T⟩
        rw [ej]
        simp only [hui]
        refine ⟨trivial, _, T, ⟨st_same hA.ok.st hq hui _ _ { p.units[j] with what := bytesOf b, arg := bytesOf c } rfl rfl rfl, hA.ok.ore, hA.ok.dist, lotQ hA.ok.lot hq rfl⟩, ?_, rfl⟩
        rw [XS_setQ]
  · have e : orderS X.S n text.data.toList = (1, X.S) := by
      unfold orderS
      rw [if_neg (by rw [hpl]; exact hn)]
    rw [e]
    refine (xorder_none w X n text hr h4.1 hn).mono ?_
    rintro e w' ⟨rfl, rfl⟩
    exact ⟨rfl, X, TurnX.refl hr, hA.ok, rfl, rfl⟩
end Go.Proofs.YtlafddeoheambaaGreatDoor

/-
  The function Order of package haze, whole: bids too.
-/
namespace Go.Proofs.YtlafddeoheambaaGreatDoor
open Go.RowKit

theorem xbid_any (w : World) (X : XW) (M : Int) (n : Nat) (p : SPlayer) (v : XV) (u nm : ByteArray) (num : Int) (hr : RepX w X) (hA : AllX X M) (hM : M ≤ 100000000000) (hq : X.pls[n]? = some (p, v)) (hnum : 0 ≤ num ∧ num ≤ 100000) :
    Calls Tryz.prog 28 #[.pointer (some ⟨X.b, 0, none⟩), .int .i64 n, .agg #[.int .i64 9, .string u, .string nm, .int .i64 num]] w fun e w' => e = .returned (.int .i64 (bidS X.S n p nm num).1) ∧ ∃ X', TurnX w X w' X' ∧ OkX X' ∧ X'.S = (bidS X.S n p nm num).2 ∧ X'.sales = X.sales := by
  have ho := found_open hA.ok hA.lw.apart nm
  cases hf : foundX X.opens nm
  · rw [hf] at ho
    rw [bidS_no ho]
    refine (xbid_no w X M n u nm num hr hA hf).mono ?_
    rintro e w' ⟨rfl, T⟩
    exact ⟨rfl, X, T, hA.ok, rfl, rfl⟩
  · rw [hf] at ho
    obtain ⟨l, hl, hnm⟩ := found_at hf
    refine (xbid_is w X M n p v u nm num hr hA hM hq hnum _ l rfl hl hnm hf).mono ?_
    rintro e w' ⟨rfl, X', T, hX'⟩
    unfold bidS
    rw [ho]
    simp only [if_true]
    by_cases hp : p.money < num + stakedI p.bids nm
    · rw [if_pos hp] at hX'
      subst hX'
      simp only [if_pos hp]
      exact ⟨trivial, X', T, hA.ok, rfl, rfl⟩
    · rw [if_neg hp] at hX'
      subst hX'
      simp only [if_neg hp]
      refine ⟨trivial, _, T.ghost X.lots (fun i p' => (if i = n then setB p.bids l.name num else p'.bids, p'.news)), hA.ok.setBid hA.lw.apart hl hq hnum.1, ?_, rfl⟩
      have e := bidG_S (X := X.withL X.vOp (X.opens.set (placeX X.opens nm) (l.setBid n num)) X.vCl X.sales X.R) (n := n) (p := p) (v := v) hq (setB p.bids l.name num)
      rw [hnm] at e
      rw [hnm]
      exact e

set_option maxRecDepth 100000 in
set_option maxHeartbeats 4000000 in
theorem bidDone (w : World) (X : XW) (M : Int) (k : Nat) (p : SPlayer) (v : XV) (text : ByteArray) (hr : RepX w X) (hA : AllX X M) (hM : M ≤ 100000000000) (hq : X.pls[k]? = some (p, v)) (hs : text.size ≤ 2000000) : BidDone w X k p text := by
  intro b c hw hnb h0 hpv
  have hpl : X.S.players.length = X.pls.length := by simp [XW.S]
  have h4 := hA.wf.pl
  rw [hpl] at h4
  obtain ⟨hn, _⟩ := at_some hq
  obtain ⟨pb, pcap, hvp, hpc, hpm⟩ := hr.plForm h4.1
  have c5 : w.cell? ⟨X.b, 6, none⟩ = some (.slice (some ⟨pb, 0, none⟩) X.pls.length pcap) := by rw [← hvp]; exact hr.cellTop rfl
  have HH := hidOf (has_any X.b k X.pls.length pcap _ w c5)
  have hi : hasB (k : Int) X.pls.length = true := by rw [hasB_pl]; simp; omega
  rw [hi] at HH
  have HP := hidOf (xparse_any text w hs)
  rw [hpv] at HP
  unfold ordC at HP
  have HR := hidOf hr
  have HB := hidOf (fun (wx : World) (hx : RepX wx X) => xbid_any wx X M k p v ⟨#[]⟩ (bytesOf b) (numberI c) hx hA hM hq ⟨h0, numberI_le c⟩)
  obtain ⟨r, hrs⟩ : ∃ r, r = bidS X.S k p (bytesOf b) (numberI c) := ⟨_, rfl⟩
  rw [← hrs] at HB ⊢
  obtain ⟨nm, hnm⟩ : ∃ nm, nm = bytesOf b := ⟨_, rfl⟩
  obtain ⟨num, hnu⟩ : ∃ num, num = numberI c := ⟨_, rfl⟩
  rw [← hnm, ← hnu] at HB HP
  clear hpv hr hvp hA hq hrs hw hnm hnu hnb h0
  go_enter Tryz.func10, Tryz.ntmps10
  go_wp2_with (first | (go_at_call 26; refine HH.out.mono ?_; rintro e w' ⟨rfl, h⟩; rw [h]; clear h w') | (go_at_call 27; refine HP.out.mono ?_; rintro e w1 ⟨rfl, hb1⟩; have T1 := hidOf ((TurnX.refl HR.out).below (hb1.trans ((Below.refl _ w1).alloc hb1.size (.cells #[.int .i64 9, .string ⟨#[]⟩, .string nm, .int .i64 num] 69))))) | (go_at_call 28; refine (HB.out _ T1.out.rep).mono ?_; rintro e w2 ⟨rfl, X', T', O', S', L'⟩))
  go_ret
  exact ⟨rfl, X', T1.out.trans T', O', S', L'⟩

theorem xorder_any (w : World) (X : XW) (M : Int) (n : Int) (text : ByteArray) (hr : RepX w X) (hA : AllX X M) (hM : M ≤ 100000000000) (hs : text.size ≤ 2000000) :
    Calls Tryz.prog 10 #[.pointer (some ⟨X.b, 0, none⟩), .int .i64 n, .string text] w fun e w' => e = .returned (.int .i64 (orderS X.S n text.data.toList).1) ∧ ∃ X', TurnX w X w' X' ∧ OkX X' ∧ X'.S = (orderS X.S n text.data.toList).2 ∧ X'.sales = X.sales :=
  xorder_with w X M n text hr hA hs (fun k p v _ hq => bidDone w X M k p v text hr hA hM hq hs)
end Go.Proofs.YtlafddeoheambaaGreatDoor

/-
  The function New of package hazeref, whatever it is given: the world that it makes, or none.
-/
namespace Go.Proofs.YtlafddeoheambaaGreatDoor
open Go.RowKit

theorem rnew_any (w : World) (W H S : Int) (vo vs : Value) (ore starts : List SSpot) (ho : SpIn w vo ore) (hs : SpIn w vs starts) (hl : starts.length ≤ 2000000) (hlo : ore.length ≤ 2000000) :
    Calls Tryz.prog 47 #[.agg #[.int .i64 W, .int .i64 H, .int .i64 S, vo, vs]] w fun e w' => NewOut w w' e W H S ore starts := by
  cases h1 : (inB W 3 10 && inB H 3 10 && inB S 1 4 && inB starts.length 2 4 && decide (ore.length ≤ 6))
  · exact rnew_numbers w W H S vo vs ore starts ho hs hl hlo h1
  · simp only [Bool.and_eq_true, decide_eq_true_eq] at h1
    obtain ⟨⟨⟨⟨a, b⟩, c⟩, d⟩, e⟩ := h1
    cases h2 : (apartB ore W H && apartB starts W H)
    · exact rnew_spots w W H S vo vs ore starts ho hs a b c d e h2
    · simp only [Bool.and_eq_true] at h2
      exact rnew_rest w W H S vo vs ore starts ho hs a b c d e h2.1 h2.2

end Go.Proofs.YtlafddeoheambaaGreatDoor

/-
  The function Order of package hazeref, where no lot is open: a text of one word, or of more than three.
-/
namespace Go.Proofs.YtlafddeoheambaaGreatDoor
open Go.RowKit
attribute [local go_sem] Go.wp_at_zero Go.wp_at_succ
set_option maxRecDepth 100000 in
set_option maxHeartbeats 4000000 in
theorem rorder_bad (w : World) (Y : YW) (M : Int) (k : Nat) (p : SPlayer) (v : PV) (text : ByteArray) (hr : RepY w Y) (hf : WFS Y.S M) (hs : text.size ≤ 2000000) (hq : Y.pls[k]? = some (p, v)) (a : List UInt8) (r : List (List UInt8)) (hws : splitB text.data.toList = a :: r) (hrl : r.length = 0 ∨ 2 < r.length) :
    Calls Tryz.prog 52 #[.pointer (some ⟨Y.b, 0, none⟩), .int .i64 k, .string text] w fun e w' => e = .returned (.int .i64 (wordsS Y.S k p (splitB text.data.toList)).1) ∧ ∃ Y', Turn w Y w' Y' ∧ Y'.S = (wordsS Y.S k p (splitB text.data.toList)).2 := by
  have HR : Hid (wordsS Y.S k p (a :: r) = (2, Y.S)) := by
    unfold Hid wordsS
    match r, hrl with
    | [], _ => rfl
    | [_], h => simp at h
    | [_, _], h => simp at h
    | _ :: _ :: _ :: _, _ => rfl
  have hrl' : (r.length : Int) + 1 < 2 ∨ 3 < (r.length : Int) + 1 := by omega
  obtain ⟨hn, he⟩ := at_some hq
  have hmem : (p, v) ∈ Y.pls := by rw [← he]; exact List.getElem_mem hn
  clear he
  have hw := WF.of hf
  rcases own_form hr.pl with ⟨_, h0, _⟩ | ⟨pb, pcap, hvp, hpc, hpm, hpb⟩
  · omega
  unfold maxLen at hpm
  have c5 : w.cell? ⟨Y.b, 5, none⟩ = some (.slice (some ⟨pb, 0, none⟩) Y.pls.length pcap) := by rw [← hvp]; exact hr.cellTop rfl
  have hi : inB (k : Int) 0 ((Y.pls.length : Int) - 1) = true := by rw [inB_pl]; simp; omega
  have h4 := hw.pl
  have HW := hidOf (words_any text w hs)
  rw [hws] at HW
  rw [hws]
  have hsz : ∀ x ∈ splitB text.data.toList, x.length ≤ 2000000 := by
    intro x hx
    have h1 := splitB_sizes _ x hx
    have h2 : text.data.toList.length = text.size := by simp
    omega
  rw [hws] at hsz
  have HQ := hidOf hq
  have HVP := hidOf hvp
  clear hq hvp hws
  go_enter Tryz.func52, Tryz.ntmps52
  go_wp2_with fail
  refine (within_any _ _ _ _).mono ?_
  rintro e w' ⟨rfl, h⟩
  rw [h]
  clear h w'
  go_wp2_with fail
  refine HW.out.mono ?_
  rintro e w1 ⟨g, cap, rfl, hb, hown⟩
  have T1 := hidOf ((Turn.refl hr).below hb)
  have e0 : w1.cell? ⟨g, 0, none⟩ = some (.string (bytesOf a)) := own_cell' hown rfl
  have s0 : (bytesOf a).size ≤ maxLen := by rw [bytesOf_size]; have := hsz a (by simp); unfold maxLen; omega
  clear HW hb
  cases ha : nameB a
  · go_wp2_with fail
    refine (name_any (bytesOf a) _ s0).mono ?_
    rintro e w' ⟨rfl, h⟩
    rw [h, bytesOf_toList, ha]
    clear h w'
    go_wp2
    go_ret
    exact ⟨ret_int (by rw [HR.out]), Y, T1.out, by rw [HR.out]⟩
  · rcases hrl' with hL | hL
    all_goals
      go_wp2_with fail
      refine (name_any (bytesOf a) _ s0).mono ?_
      rintro e w' ⟨rfl, h⟩
      rw [h, bytesOf_toList, ha]
      clear h w'
      go_wp2
      go_ret
      exact ⟨ret_int (by rw [HR.out]), Y, T1.out, by rw [HR.out]⟩
end Go.Proofs.YtlafddeoheambaaGreatDoor
