/-
  The open lots as the program keeps them (in the order of their names, the bids by the players' numbers), and as the document says them: that the one says what the other does, behind each thing that becomes of them. No walk in sight.
-/
import Derived.Test.YtlafddeoheambaaDoorT01
import Derived.Deep.RegionHeld3
import Derived.Deep.DrawnRows
import Derived.Deep.Draws
import Derived.Deep.RegionLaw
import Derived.Deep.QuietTactic
import Derived.BigQuiet
import Derived.Deep.AppendLies
set_option linter.unusedVariables false
namespace Go.Proofs.YtlafddeoheambaaDoor
open Go.RowKit

/-- An open lot, as the program keeps it: the bids by the players' numbers. -/
structure XLot where
  name : ByteArray
  ends : Int
  least : Int
  bid : Nat → Int
/-- How a lot closed. -/
structure XSale where
  name : ByteArray
  who : Int
  price : Int
def lotOf (l : XLot) : SLot := ⟨l.name, l.least, l.ends⟩
def xlotCells (l : XLot) : List Value := [.string l.name, .int .i64 l.ends, .int .i64 l.least, .int .i64 (l.bid 0), .int .i64 (l.bid 1), .int .i64 (l.bid 2), .int .i64 (l.bid 3)]
def xsaleCells (l : XSale) : List Value := [.string l.name, .int .i64 l.who, .int .i64 l.price]

/-- What holds of the lots and the bids between two calls. -/
structure LotWF (lots : List SLot) (bss : List (List SBid)) (now : Int) : Prop where
  apart : Apart lots
  nm : ∀ l ∈ lots, l.name ≠ emptyB
  lst : ∀ l ∈ lots, 0 ≤ l.least ∧ l.least ≤ 100000
  ends : ∀ l ∈ lots, now < l.ends ∧ l.ends ≤ now + 1000
  len : lots.length ≤ 4
  bids : ∀ b ∈ bss, BidsOK (lots.map (·.name)) b
def bidAt (bss : List (List SBid)) (nm : ByteArray) (i : Nat) : Int := bidI ((bss[i]?).getD []) nm
/-- The program's list says what the document's lists say. -/
structure LotRel (opens : List XLot) (lots : List SLot) (bss : List (List SBid)) : Prop where
  eq : opens.map lotOf = sortL lots
  bid : ∀ l ∈ opens, ∀ i, l.bid i = bidAt bss l.name i
theorem bidsOf_at (ps : List SPlayer) (nm : ByteArray) (k : Nat) : bidsOf ps nm k = bidAt (ps.map (·.bids)) nm k := by
  unfold bidsOf bidAt
  rw [List.getElem?_map]
  cases ps[k]? <;> rfl
theorem LotRel.nil (bss : List (List SBid)) : LotRel [] [] bss := ⟨rfl, by simp⟩
theorem LotWF.nil {bss : List (List SBid)} (now : Int) (h : ∀ b ∈ bss, b = []) : LotWF [] bss now := ⟨by simp [Apart], by simp, by simp, by simp, by simp, fun b hb => by rw [h b hb]; exact BidsOK.nil _⟩

theorem LotRel.len {opens : List XLot} {lots : List SLot} {bss : List (List SBid)} (h : LotRel opens lots bss) : opens.length = lots.length := by
  have := congrArg List.length h.eq
  rw [sortL_length] at this
  simpa using this
theorem LotRel.mem {opens : List XLot} {lots : List SLot} {bss : List (List SBid)} (h : LotRel opens lots bss) {l : XLot} (hl : l ∈ opens) : lotOf l ∈ lots := by
  rw [← sortL_mem, ← h.eq]
  exact List.mem_map_of_mem hl
theorem LotRel.has {opens : List XLot} {lots : List SLot} {bss : List (List SBid)} (h : LotRel opens lots bss) {l : SLot} (hl : l ∈ lots) : ∃ x ∈ opens, lotOf x = l := by
  rw [← sortL_mem, ← h.eq] at hl
  simpa using hl
/-- The names in order. -/
def AscX (s : List XLot) : Prop := s.Pairwise (fun a b => ltB a.name b.name = true)
theorem LotRel.asc {opens : List XLot} {lots : List SLot} {bss : List (List SBid)} (h : LotRel opens lots bss) (hw : Apart lots) : AscX opens := by
  have := sortL_asc hw
  rw [← h.eq] at this
  exact List.pairwise_map.1 this
theorem apart_names {lots : List SLot} (h : Apart lots) : (lots.map (·.name)).Nodup := by
  unfold List.Nodup
  exact List.pairwise_map.2 h
theorem asc_names {s : List XLot} (h : AscX s) : (s.map (·.name)).Nodup := by
  unfold List.Nodup
  refine List.pairwise_map.2 (h.imp (fun h => ltB_ne h))
theorem LotRel.names {opens : List XLot} {lots : List SLot} {bss : List (List SBid)} (h : LotRel opens lots bss) (x : ByteArray) : x ∈ opens.map (·.name) ↔ x ∈ lots.map (·.name) := by
  constructor
  · intro hx
    obtain ⟨l, hl, rfl⟩ := List.mem_map.1 hx
    exact List.mem_map.2 ⟨lotOf l, h.mem hl, rfl⟩
  · intro hx
    obtain ⟨l, hl, rfl⟩ := List.mem_map.1 hx
    obtain ⟨y, hy, rfl⟩ := h.has hl
    exact List.mem_map.2 ⟨y, hy, rfl⟩
/-- All that a player has bid. -/
theorem LotRel.staked {opens : List XLot} {lots : List SLot} {bss : List (List SBid)} {now : Int} (h : LotRel opens lots bss) (hw : LotWF lots bss now) (i : Nat) :
    (opens.map (fun l => l.bid i)).sum = stakedI ((bss[i]?).getD []) emptyB := by
  have e : opens.map (fun l => l.bid i) = (opens.map (·.name)).map (bidI ((bss[i]?).getD [])) := by
    rw [List.map_map]
    exact List.map_congr_left (fun l hl => h.bid l hl i)
  rw [e]
  refine sum_bids (asc_names (h.asc hw.apart)) (fun hm => ?_) ?_
  · obtain ⟨l, hl, he⟩ := List.mem_map.1 ((h.names _).1 hm)
    exact hw.nm l hl he
  · cases hb : bss[i]? with
    | none => exact BidsOK.nil _
    | some b => exact (hw.bids b (List.mem_of_getElem? hb)).mono (fun x hx => (h.names x).2 hx)
/-- A lot more. -/
theorem lotOf_take (s : List XLot) (k : Nat) : (s.take k).map lotOf = (s.map lotOf).take k := by simp [List.map_take]
def placeX (s : List XLot) (nm : ByteArray) : Nat := (s.takeWhile (fun a => ltB a.name nm)).length
theorem placeX_eq (s : List XLot) (nm : ByteArray) : placeX s nm = placeL (s.map lotOf) nm := by
  unfold placeX placeL
  induction s with
  | nil => rfl
  | cons a s ih =>
    simp only [List.map_cons, List.takeWhile_cons]
    cases h : ltB a.name nm
    · have : ltB (lotOf a).name nm = false := h
      simp [this]
    · have : ltB (lotOf a).name nm = true := h
      simp only [this, if_true, List.length_cons, ih]
theorem LotRel.offer {opens : List XLot} {lots : List SLot} {bss : List (List SBid)} {now : Int} (h : LotRel opens lots bss) (hw : LotWF lots bss now) (nm : ByteArray) (least ends : Int) (hn : ∀ l ∈ lots, l.name ≠ nm) :
    LotRel (opens.take (placeX opens nm) ++ ⟨nm, ends, least, fun _ => 0⟩ :: opens.drop (placeX opens nm)) (lots ++ [⟨nm, least, ends⟩]) bss := by
  refine ⟨?_, fun l hl i => ?_⟩
  · rw [sortL_snoc, insL_place, ← h.eq, placeX_eq]
    simp [List.map_take, List.map_drop, lotOf]
  · rcases List.mem_append.1 hl with hl | hl
    · exact h.bid l (List.mem_of_mem_take hl) i
    · rcases List.mem_cons.1 hl with rfl | hl
      · simp only [bidAt]
        rw [bidI_none]
        intro b hb e
        cases hbs : bss[i]? with
        | none => rw [hbs] at hb; simp at hb
        | some bs =>
          rw [hbs] at hb
          have := (hw.bids bs (List.mem_of_getElem? hbs)).mem b hb
          obtain ⟨l, hl, he⟩ := List.mem_map.1 this
          exact hn l hl (he.trans e)
      · exact h.bid l (List.mem_of_mem_drop hl) i
theorem LotWF.offer {lots : List SLot} {bss : List (List SBid)} {now : Int} (hw : LotWF lots bss now) {nm : ByteArray} {least ticks : Int} (hn : ∀ l ∈ lots, l.name ≠ nm) (h0 : nm ≠ emptyB) (h1 : 0 ≤ least ∧ least ≤ 100000) (h2 : 1 ≤ ticks ∧ ticks ≤ 1000) (h4 : lots.length < 4) :
    LotWF (lots ++ [⟨nm, least, now + ticks⟩]) bss now := by
  have key : ∀ {P : SLot → Prop}, (∀ l ∈ lots, P l) → P ⟨nm, least, now + ticks⟩ → ∀ l ∈ lots ++ [⟨nm, least, now + ticks⟩], P l := fun ha hb l hl => by
    rcases List.mem_append.1 hl with hl | hl
    · exact ha l hl
    · simp at hl; subst hl; exact hb
  refine ⟨apart_snoc hw.apart hn, key hw.nm h0, key hw.lst h1, key hw.ends ⟨by simp only; omega, by simp only; omega⟩, by simp; omega, fun b hb => (hw.bids b hb).mono (fun x hx => by simp [List.map_append]; exact .inl (by simpa using hx))⟩
/-- A bid set. -/
def XLot.setBid (l : XLot) (n : Nat) (k : Int) : XLot := { l with bid := fun j => if j = n then k else l.bid j }
theorem LotRel.setBid {opens : List XLot} {lots : List SLot} {bss : List (List SBid)} (h : LotRel opens lots bss) (hw : Apart lots) {p n : Nat} {l : XLot} (hl : opens[p]? = some l) {bs : List SBid} (hb : bss[n]? = some bs) {k : Int} (hk : 0 ≤ k) :
    LotRel (opens.set p (l.setBid n k)) lots (bss.set n (setB bs l.name k)) := by
  have hasc := h.asc hw
  obtain ⟨hp, ep⟩ := at_some hl
  obtain ⟨hn, en⟩ := at_some hb
  refine ⟨?_, fun x hx i => ?_⟩
  · rw [← h.eq, List.map_set]
    apply List.ext_getElem
    · simp
    · intro j h1 h2
      simp only [List.getElem_set, List.getElem_map]
      split
      · rename_i e; subst e; rw [ep]; rfl
      · rfl
  · obtain ⟨j, hj⟩ := List.getElem?_of_mem hx
    simp only [bidAt]
    by_cases ej : p = j
    · subst ej
      have ex : x = l.setBid n k := by
        rw [List.getElem?_set_self hp] at hj
        injection hj with hj
        exact hj.symm
      subst ex
      show (if i = n then k else l.bid i) = _
      by_cases ei : i = n
      · subst ei
        rw [if_pos rfl, List.getElem?_set_self hn]
        exact (bidI_set_same bs l.name k hk).symm
      · rw [if_neg ei, List.getElem?_set_ne (Ne.symm ei)]
        exact h.bid l (List.mem_of_getElem? hl) i
    · rw [List.getElem?_set_ne ej] at hj
      have hne : x.name ≠ l.name := by
        obtain ⟨hjl, ejx⟩ := at_some hj
        have := List.pairwise_iff_getElem.1 hasc
        rcases Nat.lt_or_gt_of_ne ej with hlt | hgt
        · have := this p j hp hjl hlt
          rw [ep, ejx] at this
          exact (ltB_ne this).symm
        · have := this j p hjl hp hgt
          rw [ep, ejx] at this
          exact ltB_ne this
      by_cases ei : i = n
      · subst ei
        rw [List.getElem?_set_self hn]
        show _ = bidI (setB bs l.name k) x.name
        rw [bidI_set_other bs k hne, h.bid x (List.mem_of_getElem? hj) i]
        simp [bidAt, hb]
      · rw [List.getElem?_set_ne (Ne.symm ei)]
        exact h.bid x (List.mem_of_getElem? hj) i
theorem LotWF.setBid {lots : List SLot} {bss : List (List SBid)} {now : Int} (hw : LotWF lots bss now) {n : Nat} {bs : List SBid} (hb : bss[n]? = some bs) {nm : ByteArray} {k : Int} (hm : nm ∈ lots.map (·.name)) (hk : k ≤ 100000) :
    LotWF lots (bss.set n (setB bs nm k)) now := by
  refine ⟨hw.apart, hw.nm, hw.lst, hw.ends, hw.len, fun b hb' => ?_⟩
  rcases List.mem_or_eq_of_mem_set hb' with h | rfl
  · exact hw.bids b h
  · exact (hw.bids bs (List.mem_of_getElem? hb)).set hm hk

/-- Where the binary search ends: the lots below the name stand in front. -/
theorem asc_below {s : List XLot} (h : AscX s) (nm : ByteArray) {j : Nat} {l : XLot} (hj : s[j]? = some l) : ltB l.name nm = true ↔ j < placeX s nm := by
  unfold placeX
  induction s generalizing j with
  | nil => simp at hj
  | cons a s ih =>
    have h' := List.pairwise_cons.1 h
    simp only [List.takeWhile_cons]
    cases ha : ltB a.name nm
    · simp only [Bool.false_eq_true, if_false, List.length_nil, Nat.not_lt_zero, iff_false]
      cases j with
      | zero => simp at hj; subst hj; simp [ha]
      | succ j =>
        simp at hj
        intro hl
        have := ltB_trans (h'.1 l (List.mem_of_getElem? hj)) hl
        rw [ha] at this
        cases this
    · simp only [if_true, List.length_cons]
      cases j with
      | zero => simp at hj; subst hj; simp [ha]
      | succ j =>
        simp at hj
        rw [ih h'.2 hj]
        omega
theorem placeX_le (s : List XLot) (nm : ByteArray) : placeX s nm ≤ s.length := by
  unfold placeX
  induction s with
  | nil => simp
  | cons a s ih =>
    simp only [List.takeWhile_cons]
    split
    · simp only [List.length_cons]; omega
    · simp
/-- Is it there? -/
theorem openB_place {opens : List XLot} {lots : List SLot} {bss : List (List SBid)} (h : LotRel opens lots bss) (hw : Apart lots) (nm : ByteArray) :
    openB lots nm = true ↔ ∃ l, opens[placeX opens nm]? = some l ∧ l.name = nm := by
  have hasc := h.asc hw
  unfold openB
  rw [List.any_eq_true]
  constructor
  · rintro ⟨l, hl, e⟩
    have e := eqS_iff.1 e
    obtain ⟨x, hx, rfl⟩ := h.has hl
    have e : x.name = nm := e
    obtain ⟨j, hj⟩ := List.getElem?_of_mem hx
    obtain ⟨hjl, _⟩ := at_some hj
    have h1 : ¬ j < placeX opens nm := fun hlt => by
      have := (asc_below hasc nm hj).2 hlt
      rw [e, ltB_irrefl] at this
      cases this
    have h2 : ¬ placeX opens nm < j := fun hlt => by
      have hpl : placeX opens nm < opens.length := by omega
      have hp : opens[placeX opens nm]? = some opens[placeX opens nm] := by simp [hpl]
      have h3 := List.pairwise_iff_getElem.1 hasc _ j hpl hjl hlt
      have h4 : opens[j] = x := (at_some hj).2
      rw [h4, e] at h3
      exact absurd ((asc_below hasc nm hp).1 h3) (Nat.lt_irrefl _)
    have : placeX opens nm = j := by omega
    rw [this]
    exact ⟨x, hj, e⟩
  · rintro ⟨l, hl, e⟩
    exact ⟨lotOf l, h.mem (List.mem_of_getElem? hl), eqS_iff.2 e⟩
end Go.Proofs.YtlafddeoheambaaDoor

/-
  Small functions of the program's package orders: isSmallLetter, plainKind, namingKind, between.
-/
namespace Go.Proofs.YtlafddeoheambaaDoor
open Go.RowKit

/-- A rune that is a small letter. -/
def letterR (r : Int) : Bool := (decide (97 ≤ r) && decide (r ≤ 122)) || (decide (945 ≤ r) && decide (r ≤ 969))

set_option maxHeartbeats 400000 in
theorem letter_any (r : Int) (w : World) :
    Calls Tryd.prog 58 #[.int .i32 r] w fun e w' => e = .returned (.bool (letterR r)) ∧ w' = w := by
  unfold letterR
  by_cases h1 : 97 ≤ r
  · by_cases h2 : r ≤ 122
    · go_enter Tryd.func58, Tryd.ntmps58
      go_wp2
      go_ret
      exact ⟨ret_bool (by simp [h1, h2]), rfl⟩
    · by_cases h3 : 945 ≤ r
      all_goals
        go_enter Tryd.func58, Tryd.ntmps58
        go_wp2
        go_ret
        exact ⟨ret_bool (by simp; omega), rfl⟩
  · go_enter Tryd.func58, Tryd.ntmps58
    go_wp2
    go_ret
    exact ⟨ret_bool (by simp; omega), rfl⟩

/-- The kind of an order of two words. -/
def kindP (b : List UInt8) : Int :=
  if b == [103, 111] then 1 else if b == [108, 101, 102, 116] then 2 else if b == [114, 105, 103, 104, 116] then 3 else if b == [98, 97, 99, 107] then 4 else if b == [100, 105, 103] then 5 else if b == [115, 101, 108, 108] then 6 else 0
def kindN (b : List UInt8) : Int := if b == [98, 117, 105, 108, 100] then 7 else if b == [99, 97, 108, 108] then 8 else 0

set_option maxHeartbeats 1000000 in
theorem plain_any (s : ByteArray) (w : World) :
    Calls Tryd.prog 40 #[.string s] w fun e w' => e = .returned (.int .i64 (kindP s.toList)) ∧ w' = w := by
  unfold kindP
  cases h1 : (s.toList == [103, 111])
  · cases h2 : (s.toList == [108, 101, 102, 116])
    · cases h3 : (s.toList == [114, 105, 103, 104, 116])
      · cases h4 : (s.toList == [98, 97, 99, 107])
        · cases h5 : (s.toList == [100, 105, 103])
          · cases h6 : (s.toList == [115, 101, 108, 108])
            all_goals
              go_enter Tryd.func40, Tryd.ntmps40
              go_wp2
              go_ret
              exact ⟨rfl, rfl⟩
          · go_enter Tryd.func40, Tryd.ntmps40
            go_wp2
            go_ret
            exact ⟨rfl, rfl⟩
        · go_enter Tryd.func40, Tryd.ntmps40
          go_wp2
          go_ret
          exact ⟨rfl, rfl⟩
      · go_enter Tryd.func40, Tryd.ntmps40
        go_wp2
        go_ret
        exact ⟨rfl, rfl⟩
    · go_enter Tryd.func40, Tryd.ntmps40
      go_wp2
      go_ret
      exact ⟨rfl, rfl⟩
  · go_enter Tryd.func40, Tryd.ntmps40
    go_wp2
    go_ret
    exact ⟨rfl, rfl⟩
set_option maxHeartbeats 1000000 in
theorem naming_any (s : ByteArray) (w : World) :
    Calls Tryd.prog 42 #[.string s] w fun e w' => e = .returned (.int .i64 (kindN s.toList)) ∧ w' = w := by
  unfold kindN
  cases h1 : (s.toList == [98, 117, 105, 108, 100])
  · cases h2 : (s.toList == [99, 97, 108, 108])
    all_goals
      go_enter Tryd.func42, Tryd.ntmps42
      go_wp2
      go_ret
      exact ⟨rfl, rfl⟩
  · go_enter Tryd.func42, Tryd.ntmps42
    go_wp2
    go_ret
    exact ⟨rfl, rfl⟩
end Go.Proofs.YtlafddeoheambaaDoor

/-
  How the program's world (package haze) lies in memory: what its blocks hold, which blocks it owns, and what becomes of it where one of them turns.
-/
namespace Go.Proofs.YtlafddeoheambaaDoor
open Go.RowKit

/-- What a block is there for. -/
structure Role where
  t : Nat
  i : Nat
  k : Nat
abbrev Role.top : Role := ⟨0, 0, 0⟩
abbrev Role.ore : Role := ⟨1, 0, 0⟩
abbrev Role.st : Role := ⟨2, 0, 0⟩
abbrev Role.pls : Role := ⟨3, 0, 0⟩
abbrev Role.row (i : Nat) : Role := ⟨4, i, 0⟩
abbrev Role.unit (i k : Nat) : Role := ⟨5, i, k⟩
abbrev Role.opn : Role := ⟨6, 0, 0⟩
abbrev Role.cls : Role := ⟨7, 0, 0⟩

/-- A unit's block, and the bits of its heading. -/
structure XU where
  g : Nat
  a : Nat
  b : Nat
/-- Where a player's units lie. -/
structure XV where
  v : Value
  us : List XU
/-- The program's world. -/
structure XW where
  b : Nat
  width : Int
  height : Int
  sight : Int
  now : Int
  ore : List SSpot
  lots : List SLot
  mo : Nat
  lo : List CE
  co : Nat
  ms : Nat
  ls : List CE
  cs : Nat
  pls : List (SPlayer × XV)
  vPl : Value
  opens : List XLot
  vOp : Value
  sales : List XSale
  vCl : Value
  R : Nat → Role

def XW.S (X : XW) : SWorld := { width := X.width, height := X.height, sight := X.sight, now := X.now, ore := X.ore, players := X.pls.map (·.1), lots := X.lots }

/-- The kind of what a unit was told. -/
def kindW (b : List UInt8) : Int := if kindP b = 0 then kindN b else kindP b
def whatW : List (List UInt8) := [[], [103, 111], [108, 101, 102, 116], [114, 105, 103, 104, 116], [98, 97, 99, 107], [100, 105, 103], [115, 101, 108, 108], [98, 117, 105, 108, 100], [99, 97, 108, 108]]

def xuCells (u : SUnit) (x : XU) : Array Value := #[.string u.name, .complex .f64 (flI u.x) (flI u.y), .complex .f64 x.a x.b, .int .i64 u.cargo, .int .i64 (kindW u.what.toList), .string ⟨#[]⟩, .string u.arg, .int .i64 0]
def xplCells (q : SPlayer × XV) : List Value := [.int .i64 q.1.money, q.2.v]
def XW.cells (X : XW) : Array Value := #[.int .i64 X.now, .int .i64 X.width, .int .i64 X.height, .int .i64 X.sight, .map (some X.mo), .map (some X.ms), X.vPl, X.vOp, X.vCl]
def xvFoot (q : SPlayer × XV) : List Nat := blk q.2.v ++ q.2.us.map (·.g)
def XW.foot (X : XW) : List Nat := X.b :: X.mo :: X.ms :: (blk X.vPl ++ (X.pls.flatMap xvFoot ++ (blk X.vOp ++ blk X.vCl)))
def ptrV (x : XU) : Value := .pointer (some ⟨x.g, 0, none⟩)

structure RepU (w : World) (u : SUnit) (x : XU) : Prop where
  is : w.heap[x.g]? = some (.cells (xuCells u x) 80 (0, 0))
  head : HeadC u.head x.a x.b
  what : u.what.toList ∈ whatW
structure RepQ (w : World) (q : SPlayer × XV) : Prop where
  row : w.ownsRow 0 62 1 q.2.v q.2.us.length (q.2.us.map ptrV)
  len : q.2.us.length = q.1.units.length
  unit : ∀ (k : Nat) u x, q.1.units[k]? = some u → q.2.us[k]? = some x → RepU w u x
/-- The rows of lots. -/
def RepL (w : World) (v : Value) (l : List XLot) (v' : Value) (l' : List XSale) : Prop := w.ownsRow 0 93 7 v l.length (l.flatMap xlotCells) ∧ w.ownsRow 0 106 3 v' l'.length (l'.flatMap xsaleCells)
def RolesL (R : Nat → Role) (v v' : Value) : Prop := (∀ r ∈ blk v, R r = .opn) ∧ (∀ r ∈ blk v', R r = .cls)
structure Roles (X : XW) : Prop where
  b : X.R X.b = .top
  mo : X.R X.mo = .ore
  ms : X.R X.ms = .st
  pl : ∀ r ∈ blk X.vPl, X.R r = .pls
  lot : RolesL X.R X.vOp X.vCl
  row : ∀ (i : Nat) q, X.pls[i]? = some q → ∀ r ∈ blk q.2.v, X.R r = .row i
  unit : ∀ (i : Nat) q (k : Nat) x, X.pls[i]? = some q → q.2.us[k]? = some x → X.R x.g = .unit i k
structure RepX (w : World) (X : XW) : Prop where
  top : w.heap[X.b]? = some (.cells X.cells 73 (0, 0))
  ore : MapD w X.mo X.lo X.co
  st : MapD w X.ms X.ls X.cs
  pl : w.ownsRow 0 65 2 X.vPl X.pls.length (X.pls.flatMap xplCells)
  lot : RepL w X.vOp X.opens X.vCl X.sales
  each : ∀ (i : Nat) q, X.pls[i]? = some q → RepQ w q
  roles : Roles X

theorem xfoot_b {X : XW} : X.b ∈ X.foot := by simp [XW.foot]
theorem xfoot_mo {X : XW} : X.mo ∈ X.foot := by simp [XW.foot]
theorem xfoot_ms {X : XW} : X.ms ∈ X.foot := by simp [XW.foot]
theorem xfoot_pl {X : XW} {r : Nat} (h : r ∈ blk X.vPl) : r ∈ X.foot := by simp [XW.foot, h]
theorem xfoot_q {X : XW} {i : Nat} {q : SPlayer × XV} (hq : X.pls[i]? = some q) {r : Nat} (h : r ∈ xvFoot q) : r ∈ X.foot := by
  have : q ∈ X.pls := List.mem_of_getElem? hq
  simp only [XW.foot, List.mem_cons, List.mem_append, List.mem_flatMap]
  exact .inr (.inr (.inr (.inr (.inl ⟨q, this, h⟩))))
theorem xfoot_row {X : XW} {i : Nat} {q : SPlayer × XV} (hq : X.pls[i]? = some q) {r : Nat} (h : r ∈ blk q.2.v) : r ∈ X.foot := xfoot_q hq (by simp [xvFoot, h])
theorem xfoot_u {X : XW} {i : Nat} {q : SPlayer × XV} (hq : X.pls[i]? = some q) {k : Nat} {x : XU} (h : q.2.us[k]? = some x) : x.g ∈ X.foot := by
  refine xfoot_q hq ?_
  have := List.mem_of_getElem? h
  simp only [xvFoot, List.mem_append, List.mem_map]
  exact .inr ⟨x, this, rfl⟩

theorem xfoot_op {X : XW} {r : Nat} (h : r ∈ blk X.vOp) : r ∈ X.foot := by simp [XW.foot, h]
theorem xfoot_cl {X : XW} {r : Nat} (h : r ∈ blk X.vCl) : r ∈ X.foot := by simp [XW.foot, h]
theorem RepL.same {w w' : World} {v v' : Value} {l : List XLot} {l' : List XSale} (h : RepL w v l v' l') (h1 : ∀ r ∈ blk v, w'.heap[r]? = w.heap[r]?) (h2 : ∀ r ∈ blk v', w'.heap[r]? = w.heap[r]?) : RepL w' v l v' l' := ⟨own_same h.1 h1, own_same h.2 h2⟩

theorem RepU.same {w w' : World} {u : SUnit} {x : XU} (h : RepU w u x) (e : w'.heap[x.g]? = w.heap[x.g]?) : RepU w' u x := ⟨by rw [e]; exact h.is, h.head, h.what⟩
theorem RepQ.unitAt {w : World} {q : SPlayer × XV} (h : RepQ w q) {k : Nat} {u : SUnit} (hu : q.1.units[k]? = some u) : ∃ x, q.2.us[k]? = some x ∧ RepU w u x := by
  obtain ⟨hk, _⟩ := at_some hu
  have hk' : k < q.2.us.length := by rw [h.len]; exact hk
  exact ⟨q.2.us[k], by simp [hk'], h.unit k u _ hu (by simp [hk'])⟩
theorem RepQ.same {w w' : World} {q : SPlayer × XV} (h : RepQ w q) (hs : ∀ r ∈ xvFoot q, w'.heap[r]? = w.heap[r]?) : RepQ w' q := by
  refine ⟨own_same h.row (fun r hr => hs r (by simp [xvFoot, hr])), h.len, fun k u x hu hx => (h.unit k u x hu hx).same (hs _ ?_)⟩
  have := List.mem_of_getElem? hx
  simp only [xvFoot, List.mem_append, List.mem_map]
  exact .inr ⟨x, this, rfl⟩
theorem RepX.same {w w' : World} {X : XW} (h : RepX w X) (hs : ∀ r ∈ X.foot, w'.heap[r]? = w.heap[r]?) : RepX w' X :=
  ⟨by rw [hs _ xfoot_b]; exact h.top, h.ore.same (hs _ xfoot_mo), h.st.same (hs _ xfoot_ms), own_same h.pl (fun r hr => hs r (xfoot_pl hr)), h.lot.same (fun r hr => hs r (xfoot_op hr)) (fun r hr => hs r (xfoot_cl hr)), fun i q hq => (h.each i q hq).same (fun r hr => hs r (xfoot_q hq hr)), h.roles⟩
theorem lt_of_some {w : World} {r : Nat} {o : Obj} (h : w.heap[r]? = some o) : r < w.heap.size := (Array.getElem?_eq_some_iff.1 h).1
theorem RepX.lt {w : World} {X : XW} (h : RepX w X) : ∀ r ∈ X.foot, r < w.heap.size := by
  intro r hr
  simp only [XW.foot, List.mem_cons, List.mem_append, List.mem_flatMap] at hr
  rcases hr with rfl | rfl | rfl | hr | ⟨q, hq, hr⟩ | hr | hr
  · exact lt_of_some h.top
  · exact lt_of_some h.ore.is.1
  · exact lt_of_some h.st.is.1
  · exact own_lt h.pl r hr
  · obtain ⟨i, hi⟩ := List.getElem?_of_mem hq
    have hq' := h.each i q hi
    simp only [xvFoot, List.mem_append, List.mem_map] at hr
    rcases hr with hr | ⟨x, hx, rfl⟩
    · exact own_lt hq'.row r hr
    · obtain ⟨k, hk⟩ := List.getElem?_of_mem hx
      obtain ⟨hk', _⟩ := at_some hk
      have hu : q.1.units[k]? = some (q.1.units[k]'(by rw [← hq'.len]; exact hk')) := by simp [← hq'.len, hk']
      exact lt_of_some (hq'.unit k _ x hu hk).is
  · exact own_lt h.lot.1 r hr
  · exact own_lt h.lot.2 r hr
theorem RepX.below {w w' : World} {X : XW} (h : RepX w X) (hb : Below w.heap.size w w') : RepX w' X := h.same (fun r hr => hb.block r (h.lt r hr))
theorem RepX.heapEq {w w' : World} {X : XW} (h : RepX w X) (e : w'.heap = w.heap) : RepX w' X := h.same (fun r _ => by rw [e])

/-- Each player's list of units as it was in X can still be read in w', and is still the player's own, or nobody's; the units in front are those that were there. -/
def RowsX (B : Nat) (X : XW) (w' : World) (X' : XW) : Prop := ∀ (i : Nat) q, X.pls[i]? = some q → ∃ q', X'.pls[i]? = some q' ∧ (∀ (j : Nat) x, q.2.us[j]? = some x → ∃ x', q'.2.us[j]? = some x' ∧ x'.g = x.g) ∧
  ∀ g, q.2.v.ownBlock = some g → (∀ (j : Nat) x, q.2.us[j]? = some x → w'.cell? ⟨g, j, none⟩ = some (ptrV x)) ∧ g < B ∧ (q'.2.v.ownBlock = some g ∨ g ∉ X'.foot)
theorem RepX.rows_lt {w : World} {X : XW} (h : RepX w X) (i : Nat) (q : SPlayer × XV) (g : Nat) (hq : X.pls[i]? = some q) (hg : q.2.v.ownBlock = some g) : g < w.heap.size := h.lt g (xfoot_row hq (by simp [blk, hg]))
theorem RowsX.keep {B : Nat} {X X' : XW} {w' : World} (hB : ∀ (i : Nat) q g, X.pls[i]? = some q → q.2.v.ownBlock = some g → g < B) (hr : RepX w' X') (h : ∀ (i : Nat) q, X.pls[i]? = some q → ∃ q', X'.pls[i]? = some q' ∧ q'.2.v = q.2.v ∧ q'.2.us.map (·.g) = q.2.us.map (·.g)) : RowsX B X w' X' := by
  intro i q hq
  obtain ⟨q', h1, h2, h3⟩ := h i q hq
  have pre : ∀ (j : Nat) x, q.2.us[j]? = some x → ∃ x', q'.2.us[j]? = some x' ∧ x'.g = x.g := by
    intro j x hx
    have e : (q'.2.us.map (·.g))[j]? = some x.g := by rw [h3]; simp [hx]
    simp only [List.getElem?_map, Option.map_eq_some_iff] at e
    exact e
  refine ⟨q', h1, pre, fun g hg => ?_⟩
  have hrow := (hr.each i q' h1).row
  have hgB := hB i q g hq hg
  rw [← h2] at hg
  rcases own_form hrow with ⟨e, _⟩ | ⟨g', cap, e, _, _, _⟩
  · rw [e] at hg; simp [Value.ownBlock] at hg
  · have e' : g' = g := by rw [e] at hg; simpa [Value.ownBlock] using hg
    subst e'
    refine ⟨fun j x hx => ?_, hgB, .inl hg⟩
    obtain ⟨x', hx', eg⟩ := pre j x hx
    rw [e] at hrow
    have := own_cell hrow (j := j) (u := ptrV x') (by simp [hx'])
    rw [this]
    simp [ptrV, eg]
theorem RowsX.trans {B B1 : Nat} {X X1 X2 : XW} {w1 w2 : World} (h : RowsX B X w1 X1) (h1 : RowsX B1 X1 w2 X2) (hk : Kept X1.foot w1 w2) (hB : B ≤ w1.heap.size) (hx : ∀ r ∈ X2.foot, r ∈ X1.foot ∨ B ≤ r) : RowsX B X w2 X2 := by
  intro i q hq
  obtain ⟨q1, a1, a2, a3⟩ := h i q hq
  obtain ⟨q2, b1, b2, b3⟩ := h1 i q1 a1
  refine ⟨q2, b1, fun j x hj => ?_, fun g hg => ?_⟩
  · obtain ⟨x1, c1, c2⟩ := a2 j x hj
    obtain ⟨x2, d1, d2⟩ := b2 j x1 c1
    exact ⟨x2, d1, d2.trans c2⟩
  · obtain ⟨r1, r2, r3⟩ := a3 g hg
    rcases r3 with r3 | r3
    · obtain ⟨s1, s2, s3⟩ := b3 g r3
      refine ⟨fun j x hj => ?_, r2, s3⟩
      obtain ⟨x1, c1, c2⟩ := a2 j x hj
      rw [s1 j x1 c1]
      simp [ptrV, c2]
    · refine ⟨fun j x hj => ?_, r2, .inr (fun hm => ?_)⟩
      · have := r1 j x hj
        rw [World.cell?_of_block (w := w1) (a := ⟨g, j, none⟩) (hk.block g (Nat.lt_of_lt_of_le r2 hB) r3)]
        exact this
      · rcases hx g hm with h' | h'
        · exact r3 h'
        · omega
theorem RowsX.refl {B : Nat} {X : XW} {w : World} (hB : ∀ (i : Nat) q g, X.pls[i]? = some q → q.2.v.ownBlock = some g → g < B) (hr : RepX w X) : RowsX B X w X := RowsX.keep hB hr (fun _ q hq => ⟨q, hq, rfl, rfl⟩)

/-- The program's world turns from X in w to X' in w'. -/
structure TurnX (w : World) (X : XW) (w' : World) (X' : XW) : Prop where
  rep : RepX w' X'
  kept : Kept X.foot w w'
  ext : ∀ r ∈ X'.foot, r ∈ X.foot ∨ w.heap.size ≤ r
  b : X'.b = X.b
  rows : RowsX w.heap.size X w' X'
theorem TurnX.refl {w : World} {X : XW} (h : RepX w X) : TurnX w X w X := ⟨h, Kept.refl _ _, fun _ h => .inl h, rfl, RowsX.refl h.rows_lt h⟩
theorem TurnX.trans {w w1 w2 : World} {X X1 X2 : XW} (h : TurnX w X w1 X1) (h1 : TurnX w1 X1 w2 X2) : TurnX w X w2 X2 := by
  refine ⟨h1.rep, h.kept.trans h1.kept h.ext, fun r hr => ?_, h1.b.trans h.b, h.rows.trans h1.rows h1.kept h.kept.size (fun r hr => (h1.ext r hr).elim .inl (fun h' => .inr (Nat.le_trans h.kept.size h')))⟩
  rcases h1.ext r hr with h' | h'
  · exact h.ext r h'
  · exact .inr (Nat.le_trans h.kept.size h')
theorem TurnX.below {w w1 w2 : World} {X X1 : XW} (h : TurnX w X w1 X1) (hb : Below w1.heap.size w1 w2) : TurnX w X w2 X1 :=
  h.trans ⟨h.rep.below hb, Kept.of_below hb, fun _ h => .inl h, rfl, RowsX.refl h.rep.rows_lt (h.rep.below hb)⟩
theorem TurnX.heapEq {w w1 w2 : World} {X X1 : XW} (h : TurnX w X w1 X1) (e : w2.heap = w1.heap) (h1 : w2.os = w1.os) (h2 : w2.tape = w1.tape) (h3 : w2.output = w1.output) : TurnX w X w2 X1 :=
  h.trans ⟨h.rep.heapEq e, ⟨h1, h2, h3, by rw [e]; exact Nat.le_refl _, fun _ _ _ => by rw [e]⟩, fun _ h => .inl h, rfl, RowsX.refl h.rep.rows_lt (h.rep.heapEq e)⟩
theorem TurnX.drewN {w w1 : World} {X X1 : XW} (h : TurnX w X w1 X1) (n : Nat) : TurnX w X (w1.drewN n) X1 := h.heapEq rfl rfl rfl rfl
theorem TurnX.drew {w w1 : World} {X X1 : XW} (h : TurnX w X w1 X1) : TurnX w X w1.drew X1 := h.heapEq rfl rfl rfl rfl

def XW.setQ (X : XW) (i : Nat) (q : SPlayer × XV) : XW := { X with pls := X.pls.set i q }
def XW.withNow (X : XW) (m : Int) : XW := { X with now := m }
def XW.withOre (X : XW) (l : List SSpot) : XW := { X with ore := l }
def XW.withLo (X : XW) (l : List CE) (c : Nat) : XW := { X with lo := l, co := c }
def XW.withLs (X : XW) (l : List CE) (c : Nat) : XW := { X with ls := l, cs := c }
theorem XS_setQ (X : XW) (n : Nat) (q : SPlayer × XV) : (X.setQ n q).S = X.S.setPl n q.1 := by simp [XW.S, XW.setQ, SWorld.setPl, List.map_set]
theorem XS_at {X : XW} {i : Nat} {p : SPlayer} {v : XV} (hq : X.pls[i]? = some (p, v)) : X.S.players[i]? = some p := by simp [XW.S, hq]

theorem setQ_get {X : XW} {i j : Nat} {q q' : SPlayer × XV} (hq : X.pls[i]? = some q) (q0 : SPlayer × XV) (h : (X.setQ i q').pls[j]? = some q0) : (j = i ∧ q0 = q') ∨ (j ≠ i ∧ X.pls[j]? = some q0) := by
  obtain ⟨hi, _⟩ := at_some hq
  simp only [XW.setQ, List.getElem?_set] at h
  split at h
  · rename_i e
    subst e
    injection h with h
    exact .inl ⟨rfl, h.symm⟩
  · rename_i e
    exact .inr ⟨Ne.symm e, h⟩
theorem set_get {α : Type} {l : List α} {k j : Nat} {a b c : α} (hk : l[k]? = some a) (h : (l.set k b)[j]? = some c) : (j = k ∧ c = b) ∨ (j ≠ k ∧ l[j]? = some c) := by
  obtain ⟨hi, _⟩ := at_some hk
  simp only [List.getElem?_set] at h
  split at h
  · rename_i e
    subst e
    injection h with h
    exact .inl ⟨rfl, h.symm⟩
  · rename_i e
    exact .inr ⟨Ne.symm e, h⟩
theorem xfoot_setQ (X : XW) (i : Nat) (q q' : SPlayer × XV) (hq : X.pls[i]? = some q) (h : xvFoot q' = xvFoot q) : (X.setQ i q').foot = X.foot := by
  obtain ⟨hi, rfl⟩ := at_some hq
  have : (X.pls.set i q').flatMap xvFoot = X.pls.flatMap xvFoot := by
    rw [List.flatMap_def, List.flatMap_def, List.map_set, h]
    have : (X.pls.map xvFoot).set i (xvFoot X.pls[i]) = X.pls.map xvFoot := by
      apply List.ext_getElem
      · simp
      · intro n h1 h2
        simp only [List.getElem_set, List.getElem_map]
        split
        · rename_i e; subst e; rfl
        · rfl
    rw [this]
  simp only [XW.foot, XW.setQ, this]

end Go.Proofs.YtlafddeoheambaaDoor

/-
  What becomes of the program's world in memory where one cell of a unit, a player's money, the tick or a map turns.
-/
namespace Go.Proofs.YtlafddeoheambaaDoor
open Go.RowKit

/-- All but the block r stays: what still holds. -/
theorem RepX.farU {w w' : World} {X : XW} (h : RepX w X) {i k : Nat} {q : SPlayer × XV} {x : XU} (hq : X.pls[i]? = some q) (hx : q.2.us[k]? = some x) (hs : ∀ r, r ≠ x.g → w'.heap[r]? = w.heap[r]?) :
    w'.heap[X.b]? = some (.cells X.cells 73 (0, 0)) ∧ MapD w' X.mo X.lo X.co ∧ MapD w' X.ms X.ls X.cs ∧ w'.ownsRow 0 65 2 X.vPl X.pls.length (X.pls.flatMap xplCells) ∧ RepL w' X.vOp X.opens X.vCl X.sales ∧
    (∀ (j : Nat) q', X.pls[j]? = some q' → w'.ownsRow 0 62 1 q'.2.v q'.2.us.length (q'.2.us.map ptrV)) ∧
    (∀ (j : Nat) q' (m : Nat) u y, X.pls[j]? = some q' → q'.1.units[m]? = some u → q'.2.us[m]? = some y → ¬ (j = i ∧ m = k) → RepU w' u y) := by
  have R := h.roles
  have e := R.unit i q k x hq hx
  have ne : ∀ r ρ, X.R r = ρ → ρ ≠ .unit i k → r ≠ x.g := fun r ρ hr hne hx => hne (by rw [← hr, hx, e])
  refine ⟨by rw [hs _ (ne _ _ R.b (by simp))]; exact h.top, h.ore.same (hs _ (ne _ _ R.mo (by simp))), h.st.same (hs _ (ne _ _ R.ms (by simp))), own_same h.pl (fun r hr => hs r (ne _ _ (R.pl r hr) (by simp))), h.lot.same (fun r hr => hs r (ne _ _ (R.lot.1 r hr) (by simp))) (fun r hr => hs r (ne _ _ (R.lot.2 r hr) (by simp))), fun j q' hq' => own_same (h.each j q' hq').row (fun r hr => hs r (ne _ _ (R.row j q' hq' r hr) (by simp))), fun j q' m u y hq' hu hy hn => ((h.each j q' hq').unit m u y hu hy).same (hs _ (ne _ _ (R.unit j q' m y hq' hy) (fun e => hn (by injection e with _ e1 e2; exact ⟨e1, e2⟩))))⟩

theorem xpl_set (X : XW) (i : Nat) (q q' : SPlayer × XV) (hq : X.pls[i]? = some q) (h : xplCells q' = xplCells q) : (X.pls.set i q').flatMap xplCells = X.pls.flatMap xplCells := by
  obtain ⟨hi, rfl⟩ := at_some hq
  rw [List.flatMap_def, List.flatMap_def, List.map_set, h]
  have : (X.pls.map xplCells).set i (xplCells X.pls[i]) = X.pls.map xplCells := by
    apply List.ext_getElem
    · simp
    · intro n h1 h2
      simp only [List.getElem_set, List.getElem_map]
      split
      · rename_i e; subst e; rfl
      · rfl
  rw [this]
theorem map_set_same {α β : Type} (f : α → β) (l : List α) (k : Nat) (a b : α) (hk : l[k]? = some a) (h : f b = f a) : (l.set k b).map f = l.map f := by
  obtain ⟨hk', rfl⟩ := at_some hk
  apply List.ext_getElem
  · simp
  · intro n h1 h2
    simp only [List.getElem_map, List.getElem_set]
    split
    · rename_i e; subst e; exact h
    · rfl

/-- One block of a unit turned. -/
theorem RepX.setU {w w' : World} {X : XW} (h : RepX w X) {i k : Nat} {p : SPlayer} {v : XV} {u : SUnit} {x : XU} (hq : X.pls[i]? = some (p, v)) (hu : p.units[k]? = some u) (hx : v.us[k]? = some x)
    (hs : ∀ r, r ≠ x.g → w'.heap[r]? = w.heap[r]?) (u' : SUnit) (x' : XU) (hg : x'.g = x.g) (hn : RepU w' u' x') :
    RepX w' (X.setQ i ({ p with units := p.units.set k u' }, { v with us := v.us.set k x' })) := by
  obtain ⟨f1, f2, f3, f4, f4l, f5, f6⟩ := h.farU (q := (p, v)) hq hx hs
  have R := h.roles
  have eq1 : ({ v with us := v.us.set k x' } : XV).us.map ptrV = v.us.map ptrV := map_set_same ptrV v.us k x x' hx (by simp [ptrV, hg])
  refine ⟨f1, f2, f3, ?_, f4l, ?_, ⟨R.b, R.mo, R.ms, R.pl, R.lot, ?_, ?_⟩⟩
  · have e := xpl_set X i (p, v) ({ p with units := p.units.set k u' }, { v with us := v.us.set k x' }) hq rfl
    simp only [XW.setQ, List.length_set]
    rw [e]
    exact f4
  · intro j q0 hj
    rcases setQ_get hq q0 hj with ⟨rfl, rfl⟩ | ⟨hne, hj'⟩
    · refine ⟨?_, by simpa using (h.each j _ hq).len, ?_⟩
      · have := f5 j (p, v) hq
        rw [eq1]
        simpa using this
      · intro m u0 y hu0 hy
        rcases set_get hu hu0 with ⟨rfl, rfl⟩ | ⟨hm, hu0'⟩
        · rcases set_get hx hy with ⟨_, rfl⟩ | ⟨hm, _⟩
          · exact hn
          · exact absurd rfl hm
        · rcases set_get hx hy with ⟨hm', _⟩ | ⟨_, hy'⟩
          · exact absurd hm' hm
          · exact f6 j (p, v) m u0 y hq hu0' hy' (fun e => hm e.2)
    · exact ⟨f5 j q0 hj', (h.each j q0 hj').len, fun m u0 y hu0 hy => f6 j q0 m u0 y hj' hu0 hy (fun e => hne e.1)⟩
  · intro j q0 hj r hr
    rcases setQ_get hq q0 hj with ⟨rfl, rfl⟩ | ⟨hne, hj'⟩
    · exact R.row j (p, v) hq r hr
    · exact R.row j q0 hj' r hr
  · intro j q0 m y hj hy
    rcases setQ_get hq q0 hj with ⟨rfl, rfl⟩ | ⟨hne, hj'⟩
    · rcases set_get hx hy with ⟨rfl, rfl⟩ | ⟨hm, hy'⟩
      · exact (congrArg X.R hg).trans (R.unit _ (p, v) _ x hq hx)
      · exact R.unit j (p, v) m y hq hy'
    · exact R.unit j q0 m y hj' hy
theorem xvFoot_setU {p p' : SPlayer} {v : XV} {k : Nat} {x x' : XU} (hx : v.us[k]? = some x) (hg : x'.g = x.g) : xvFoot (p', { v with us := v.us.set k x' }) = xvFoot (p, v) := by
  simp only [xvFoot]
  rw [map_set_same (·.g) v.us k x x' hx hg]

theorem cells_set {w : World} {g j : Nat} {cs : Array Value} {t : TypeId} {s : Nat × Nat} {val : Value} (h : w.heap[g]? = some (.cells cs t s)) : (w.setCell ⟨g, j, none⟩ val).heap[g]? = some (.cells (cs.setIfInBounds j val) t s) := by
  simp only [World.setCell, Array.getElem?_modify, h]
  simp
/-- One cell of one unit written. -/
theorem TurnX.unit1 {w w1 : World} {X X1 : XW} (h : TurnX w X w1 X1) {i k : Nat} {p : SPlayer} {v : XV} {u : SUnit} {x : XU} (hq : X1.pls[i]? = some (p, v)) (hu : p.units[k]? = some u) (hx : v.us[k]? = some x)
    (j : Nat) (u' : SUnit) (x' : XU) (val : Value) (hg : x'.g = x.g) (hc : xuCells u' x' = (xuCells u x).setIfInBounds j val) (hh : HeadC u'.head x'.a x'.b) (hw : u'.what.toList ∈ whatW) :
    TurnX w X (w1.setCell ⟨x.g, j, none⟩ val) (X1.setQ i ({ p with units := p.units.set k u' }, { v with us := v.us.set k x' })) := by
  have hru := (h.rep.each i _ hq).unit k u x hu hx
  have hr := h.rep.setU hq hu hx (fun r hr => setCell_far w1 x.g j val r hr) u' x' hg ⟨by rw [hg, cells_set hru.is, hc], hh, hw⟩
  have hf := xfoot_setQ X1 i (p, v) ({ p with units := p.units.set k u' }, { v with us := v.us.set k x' }) hq (xvFoot_setU hx hg)
  refine h.trans ⟨hr, (Kept.refl _ _).setCell _ _ _ (.inl (xfoot_u hq hx)), fun r hr => .inl (by rw [hf] at hr; exact hr), rfl, RowsX.keep h.rep.rows_lt hr (fun j q0 hj => ?_)⟩
  by_cases e : j = i
  · subst e
    rw [hq] at hj
    injection hj with hj
    subst hj
    exact ⟨_, set_at hq, rfl, map_set_same (·.g) v.us k x x' hx hg⟩
  · exact ⟨q0, by simp [XW.setQ, Ne.symm e, hj], rfl, rfl⟩

/-- A block of a map, or the tick. -/
theorem RepX.putTop {w w' : World} {X : XW} (h : RepX w X) (m : Int) (hs : ∀ r, r ≠ X.b → w'.heap[r]? = w.heap[r]?) (ht : w'.heap[X.b]? = some (.cells (X.withNow m).cells 73 (0, 0))) : RepX w' (X.withNow m) := by
  have R := h.roles
  have ne : ∀ r ρ, X.R r = ρ → ρ ≠ .top → r ≠ X.b := fun r ρ hr hne hx => hne (by rw [← hr, hx, R.b])
  refine ⟨ht, h.ore.same (hs _ (ne _ _ R.mo (by simp))), h.st.same (hs _ (ne _ _ R.ms (by simp))), own_same h.pl (fun r hr => hs r (ne _ _ (R.pl r hr) (by simp))), h.lot.same (fun r hr => hs r (ne _ _ (R.lot.1 r hr) (by simp))) (fun r hr => hs r (ne _ _ (R.lot.2 r hr) (by simp))), fun j q hq => ⟨own_same (h.each j q hq).row (fun r hr => hs r (ne _ _ (R.row j q hq r hr) (by simp))), (h.each j q hq).len, fun k u x hu hx => ((h.each j q hq).unit k u x hu hx).same (hs _ (ne _ _ (R.unit j q k x hq hx) (by simp)))⟩, ⟨R.b, R.mo, R.ms, R.pl, R.lot, R.row, R.unit⟩⟩
theorem TurnX.now1 {w w1 : World} {X X1 : XW} (h : TurnX w X w1 X1) (m : Int) : TurnX w X (w1.setCell ⟨X1.b, 0, none⟩ (.int .i64 m)) (X1.withNow m) := by
  have hr := h.rep.putTop m (fun r hr => setCell_far w1 X1.b _ (.int .i64 m) r hr) (by rw [cells_set (j := 0) h.rep.top]; rfl)
  exact h.trans ⟨hr, (Kept.refl _ _).setCell _ _ _ (.inl xfoot_b), fun r hr => .inl hr, rfl, RowsX.keep h.rep.rows_lt hr (fun j q0 hj => ⟨q0, hj, rfl, rfl⟩)⟩
theorem TurnX.ore1 {w w1 w2 : World} {X X1 : XW} (h : TurnX w X w1 X1) {l : List CE} {c : Nat} (hp : Put X1.mo w1 w2) (hm : MapD w2 X1.mo l c) : TurnX w X w2 (X1.withLo l c) := by
  have R := h.rep.roles
  have hr := h.rep
  have ne : ∀ r ρ, X1.R r = ρ → ρ ≠ .ore → r ≠ X1.mo := fun r ρ hr hne hx => hne (by rw [← hr, hx, R.mo])
  have hrep : RepX w2 (X1.withLo l c) := by
    refine ⟨?_, hm, hr.st.same (hp.block _ (ne _ _ R.ms (by simp))), own_same hr.pl (fun r hr => hp.block r (ne _ _ (R.pl r hr) (by simp))), hr.lot.same (fun r hr => hp.block r (ne _ _ (R.lot.1 r hr) (by simp))) (fun r hr => hp.block r (ne _ _ (R.lot.2 r hr) (by simp))), fun j q hq => ⟨own_same (hr.each j q hq).row (fun r hr' => hp.block r (ne _ _ (R.row j q hq r hr') (by simp))), (hr.each j q hq).len, fun k u x hu hx => ((hr.each j q hq).unit k u x hu hx).same (hp.block _ (ne _ _ (R.unit j q k x hq hx) (by simp)))⟩, ⟨R.b, R.mo, R.ms, R.pl, R.lot, R.row, R.unit⟩⟩
    show w2.heap[X1.b]? = _
    rw [hp.block _ (ne _ _ R.b (by simp)), hr.top]
    rfl
  exact h.trans ⟨hrep, Put.kept (Kept.refl _ _) hp (.inl xfoot_mo), fun r hr => .inl hr, rfl, RowsX.keep h.rep.rows_lt hrep (fun j q0 hj => ⟨q0, hj, rfl, rfl⟩)⟩
theorem TurnX.st1 {w w1 w2 : World} {X X1 : XW} (h : TurnX w X w1 X1) {l : List CE} {c : Nat} (hp : Put X1.ms w1 w2) (hm : MapD w2 X1.ms l c) : TurnX w X w2 (X1.withLs l c) := by
  have R := h.rep.roles
  have hr := h.rep
  have ne : ∀ r ρ, X1.R r = ρ → ρ ≠ .st → r ≠ X1.ms := fun r ρ hr hne hx => hne (by rw [← hr, hx, R.ms])
  have hrep : RepX w2 (X1.withLs l c) := by
    refine ⟨?_, hr.ore.same (hp.block _ (ne _ _ R.mo (by simp))), hm, own_same hr.pl (fun r hr => hp.block r (ne _ _ (R.pl r hr) (by simp))), hr.lot.same (fun r hr => hp.block r (ne _ _ (R.lot.1 r hr) (by simp))) (fun r hr => hp.block r (ne _ _ (R.lot.2 r hr) (by simp))), fun j q hq => ⟨own_same (hr.each j q hq).row (fun r hr' => hp.block r (ne _ _ (R.row j q hq r hr') (by simp))), (hr.each j q hq).len, fun k u x hu hx => ((hr.each j q hq).unit k u x hu hx).same (hp.block _ (ne _ _ (R.unit j q k x hq hx) (by simp)))⟩, ⟨R.b, R.mo, R.ms, R.pl, R.lot, R.row, R.unit⟩⟩
    show w2.heap[X1.b]? = _
    rw [hp.block _ (ne _ _ R.b (by simp)), hr.top]
    rfl
  exact h.trans ⟨hrep, Put.kept (Kept.refl _ _) hp (.inl xfoot_ms), fun r hr => .inl hr, rfl, RowsX.keep h.rep.rows_lt hrep (fun j q0 hj => ⟨q0, hj, rfl, rfl⟩)⟩



theorem RepX.cellTop {w : World} {X : XW} (h : RepX w X) {j : Nat} {u : Value} (hu : X.cells[j]? = some u) : w.cell? ⟨X.b, j, none⟩ = some u := by
  simp only [World.cell?, h.top]
  simpa using hu
theorem RepX.frozenTop {w : World} {X : XW} (h : RepX w X) (j : Nat) : w.frozen? ⟨X.b, j, none⟩ = false := by simp [World.frozen?, h.top]
theorem RepU.cell {w : World} {u : SUnit} {x : XU} (h : RepU w u x) {j : Nat} {c : Value} (hc : (xuCells u x)[j]? = some c) : w.cell? ⟨x.g, j, none⟩ = some c := by
  simp only [World.cell?, h.is]
  simpa using hc
theorem RepU.frozen {w : World} {u : SUnit} {x : XU} (h : RepU w u x) (j : Nat) : w.frozen? ⟨x.g, j, none⟩ = false := by simp [World.frozen?, h.is]
theorem RepX.plForm {w : World} {X : XW} (h : RepX w X) (h2 : 2 ≤ X.pls.length) : ∃ pb cap, X.vPl = .slice (some ⟨pb, 0, none⟩) X.pls.length cap ∧ X.pls.length ≤ cap ∧ cap ≤ maxLen := by
  rcases own_form h.pl with ⟨_, h0, _⟩ | ⟨pb, pcap, hvp, hpc, hpm, hpb⟩
  · omega
  · exact ⟨pb, pcap, hvp, hpc, hpm⟩
theorem RepX.plCell {w : World} {X : XW} (h : RepX w X) {i : Nat} {p : SPlayer} {v : XV} (hq : X.pls[i]? = some (p, v)) {pb cap : Nat} (hv : X.vPl = .slice (some ⟨pb, 0, none⟩) X.pls.length cap) :
    w.cell? ⟨pb, i * 2, none⟩ = some (.int .i64 p.money) ∧ w.cell? ⟨pb, i * 2 + 1, none⟩ = some v.v := by
  obtain ⟨hi, e⟩ := at_some hq
  have f := fun j (hj : j < 2) => flat_at xplCells 2 (fun _ => rfl) X.pls i j hi hj
  rw [e] at f
  have o := h.pl
  rw [hv] at o
  exact ⟨own_cell o (f 0 (by omega)), own_cell o (f 1 (by omega))⟩
theorem RepX.plFrozen {w : World} {X : XW} (h : RepX w X) {pb cap : Nat} (hv : X.vPl = .slice (some ⟨pb, 0, none⟩) X.pls.length cap) (j : Nat) : w.frozen? ⟨pb, j, none⟩ = false := by
  have o := h.pl
  rw [hv] at o
  exact own_frozen o j
end Go.Proofs.YtlafddeoheambaaDoor

/-
  What becomes of the program's world in memory where a player's money turns, or a player gets a unit more.
-/
namespace Go.Proofs.YtlafddeoheambaaDoor
open Go.RowKit

/-- A player's money written. -/
theorem TurnX.money1 {w w1 : World} {X X1 : XW} (h : TurnX w X w1 X1) {i : Nat} {p : SPlayer} {v : XV} (hq : X1.pls[i]? = some (p, v)) {pb cap : Nat} (hv : X1.vPl = .slice (some ⟨pb, 0, none⟩) X1.pls.length cap) (m : Int) :
    TurnX w X (w1.setCell ⟨pb, i * 2, none⟩ (.int .i64 m)) (X1.setQ i ({ p with money := m }, v)) := by
  obtain ⟨hi, e⟩ := at_some hq
  have hr := h.rep
  have R := hr.roles
  have hpb : pb ∈ blk X1.vPl := by simp [hv, blk_slice]
  have ne : ∀ r ρ, X1.R r = ρ → ρ ≠ .pls → r ≠ pb := fun r ρ hr hne hx => hne (by rw [← hr, hx, R.pl pb hpb])
  have far : ∀ r, r ≠ pb → (w1.setCell ⟨pb, i * 2, none⟩ (.int .i64 m)).heap[r]? = w1.heap[r]? := fun r hr => setCell_far w1 pb _ _ r hr
  have hf := xfoot_setQ X1 i (p, v) ({ p with money := m }, v) hq rfl
  suffices hrep : RepX (w1.setCell ⟨pb, i * 2, none⟩ (.int .i64 m)) (X1.setQ i ({ p with money := m }, v)) by
    refine h.trans ⟨hrep, (Kept.refl _ _).setCell _ _ _ (.inl (xfoot_pl hpb)), fun r hr => .inl (by rw [hf] at hr; exact hr), rfl, RowsX.keep h.rep.rows_lt hrep (fun j q0 hj => ?_)⟩
    by_cases e' : j = i
    · subst e'
      rw [hq] at hj
      injection hj with hj
      subst hj
      exact ⟨_, set_at hq, rfl, rfl⟩
    · exact ⟨q0, by simp [XW.setQ, Ne.symm e', hj], rfl, rfl⟩
  refine ⟨?_, hr.ore.same (far _ (ne _ _ R.mo (by simp))), hr.st.same (far _ (ne _ _ R.ms (by simp))), ?_, hr.lot.same (fun r hr => far r (ne _ _ (R.lot.1 r hr) (by simp))) (fun r hr => far r (ne _ _ (R.lot.2 r hr) (by simp))), ?_, ⟨R.b, R.mo, R.ms, R.pl, R.lot, ?_, ?_⟩⟩
  · show (w1.setCell _ _).heap[X1.b]? = _
    rw [far _ (ne _ _ R.b (by simp)), hr.top]
    rfl
  · show (w1.setCell _ _).ownsRow 0 _ 2 X1.vPl (X1.pls.set i ({ p with money := m }, v)).length ((X1.pls.set i ({ p with money := m }, v)).flatMap xplCells)
    rw [List.length_set, ← flat_set xplCells 2 (fun _ => rfl) X1.pls i 0 _ (.int .i64 m) hi (by omega) (by rw [e]; rfl), hv]
    exact own_set (hv ▸ hr.pl) (i * 2 + 0) _ (by omega)
  · intro j q0 hj
    have key : ∀ q', X1.pls[j]? = some q' → RepQ (w1.setCell ⟨pb, i * 2, none⟩ (.int .i64 m)) q' := fun q' hq' => by
      have h1 := hr.each j q' hq'
      exact ⟨own_same h1.row (fun r hr' => far r (ne _ _ (R.row j q' hq' r hr') (by simp))), h1.len, fun k u x hu hx => (h1.unit k u x hu hx).same (far _ (ne _ _ (R.unit j q' k x hq' hx) (by simp)))⟩
    rcases setQ_get hq q0 hj with ⟨rfl, rfl⟩ | ⟨hne, hj'⟩
    · have := key (p, v) hq
      exact ⟨this.row, this.len, this.unit⟩
    · exact key q0 hj'
  · intro j q0 hj r hr'
    rcases setQ_get hq q0 hj with ⟨rfl, rfl⟩ | ⟨hne, hj'⟩
    · exact R.row j (p, v) hq r hr'
    · exact R.row j q0 hj' r hr'
  · intro j q0 m' y hj hy
    rcases setQ_get hq q0 hj with ⟨rfl, rfl⟩ | ⟨hne, hj'⟩
    · exact R.unit j (p, v) m' y hq hy
    · exact R.unit j q0 m' y hj' hy

/-- A unit more: the roles. -/
def addR (R : Nat → Role) (gr gu i k : Nat) : Nat → Role := fun r => if r = gu then .unit i k else if r = gr then .row i else R r
def XW.addU (X : XW) (i : Nat) (p : SPlayer) (v : XV) (u : SUnit) (x : XU) (val : Value) (gr : Nat) : XW :=
  { X with pls := X.pls.set i ({ p with units := p.units ++ [u] }, ⟨val, v.us ++ [x]⟩), R := addR X.R gr x.g i v.us.length }

theorem TurnX.addU {w w1 w6 : World} {X X1 : XW} (h : TurnX w X w1 X1) {i : Nat} {p : SPlayer} {v : XV} (hq : X1.pls[i]? = some (p, v)) {pb cap : Nat} (hv : X1.vPl = .slice (some ⟨pb, 0, none⟩) X1.pls.length cap)
    {u : SUnit} {x : XU} (hu : RepU w1 u x) (hx : x.g ∉ X1.foot) (hx0 : w.heap.size ≤ x.g) (hg : w1.grownBy w6 v.v.ownBlock) (gr c n : Nat) (hg2 : w1.grownBy w6 (some gr)) (hn : n = v.us.length + 1)
    (ho : w6.ownsRow 0 62 1 (.slice (some ⟨gr, 0, none⟩) n c) n (v.us.map ptrV ++ [ptrV x])) (hat : v.v.ownBlock = some gr ∨ w1.heap.size ≤ gr) :
    TurnX w X (w6.setCell ⟨pb, i * 2 + 1, none⟩ (.slice (some ⟨gr, 0, none⟩) n c)) (X1.addU i p v u x (.slice (some ⟨gr, 0, none⟩) n c) gr) := by
  obtain ⟨hi, e⟩ := at_some hq
  have hr := h.rep
  have R := hr.roles
  have lt := hr.lt
  have xlt := lt_of_some hu.is
  have hpb : pb ∈ blk X1.vPl := by simp [hv, blk_slice]
  have hpbf := xfoot_pl (X := X1) hpb
  have hmem : ∀ r, v.v.ownBlock = some r → r ∈ blk v.v := fun r hr => by simp [blk, hr]
  have hgx : x.g ≠ gr := by
    rcases hat with h' | h'
    · intro e'; exact hx (xfoot_row hq (by rw [e']; exact hmem gr h'))
    · omega
  have hgp : gr ≠ pb := by
    rcases hat with h' | h'
    · intro e'
      have h1 := R.row i (p, v) hq gr (hmem gr h')
      have h2 := R.pl pb hpb
      rw [e', h2] at h1
      cases h1
    · have := lt pb hpbf; omega
  have hxp : x.g ≠ pb := fun e' => hx (e' ▸ hpbf)
  have old : ∀ r ∈ X1.foot, addR X1.R gr x.g i v.us.length r = X1.R r := by
    intro r hrf
    have h1 : r ≠ x.g := fun e' => hx (e' ▸ hrf)
    simp only [addR, if_neg h1]
    split
    · rename_i e'
      subst e'
      rcases hat with h' | h'
      · exact (R.row i (p, v) hq r (hmem r h')).symm
      · have := lt r hrf; omega
    · rfl
  have far : ∀ r, r < w1.heap.size → v.v.ownBlock ≠ some r → r ≠ pb → (w6.setCell ⟨pb, i * 2 + 1, none⟩ (.slice (some ⟨gr, 0, none⟩) n c)).heap[r]? = w1.heap[r]? := by
    intro r h1 h2 h3
    rw [setCell_far w6 pb _ _ r h3, hg.block r h1 (Ne.symm h2)]
  have farR : ∀ r ρ, r ∈ X1.foot → X1.R r = ρ → ρ ≠ .row i → ρ ≠ .pls → (w6.setCell ⟨pb, i * 2 + 1, none⟩ (.slice (some ⟨gr, 0, none⟩) n c)).heap[r]? = w1.heap[r]? := by
    intro r ρ h1 h2 h3 h4
    refine far r (lt r h1) (fun e' => h3 ?_) (fun e' => h4 ?_)
    · rw [← h2]; exact R.row i (p, v) hq r (hmem r e')
    · rw [← h2, e']; exact R.pl pb hpb
  have hrow6 : w6.ownsRow 0 65 2 X1.vPl X1.pls.length (X1.pls.flatMap xplCells) := by
    refine own_same hr.pl (fun r hr' => ?_)
    have h1 := R.pl r hr'
    refine hg.block r (lt r (xfoot_pl hr')) (fun e' => ?_)
    have h2 := R.row i (p, v) hq r (hmem r e'.symm)
    rw [h1] at h2
    cases h2
  have footsub : ∀ r ∈ (X1.addU i p v u x (.slice (some ⟨gr, 0, none⟩) n c) gr).foot, r ∈ X1.foot ∨ r = gr ∨ r = x.g := by
    intro r hr'
    simp only [XW.foot, XW.addU, List.mem_cons, List.mem_append, List.mem_flatMap] at hr'
    rcases hr' with rfl | rfl | rfl | hr' | ⟨q, hq', hr'⟩ | hr' | hr'
    · exact .inl xfoot_b
    · exact .inl xfoot_mo
    · exact .inl xfoot_ms
    · exact .inl (xfoot_pl hr')
    · rcases List.mem_or_eq_of_mem_set hq' with hq' | rfl
      · obtain ⟨j, hj⟩ := List.getElem?_of_mem hq'
        exact .inl (xfoot_q hj hr')
      · simp only [xvFoot, List.mem_append, blk_slice, List.map_append, List.map_cons, List.map_nil, List.mem_singleton, List.mem_map] at hr'
        rcases hr' with rfl | ⟨y, hy, rfl⟩ | rfl
        · exact .inr (.inl rfl)
        · obtain ⟨k, hk⟩ := List.getElem?_of_mem hy
          exact .inl (xfoot_u hq hk)
        · exact .inr (.inr rfl)
    · exact .inl (xfoot_op hr')
    · exact .inl (xfoot_cl hr')
  refine ⟨⟨?_, ?_, ?_, ?_, hr.lot.same (fun r hr' => farR r _ (xfoot_op hr') (R.lot.1 r hr') (by simp) (by simp)) (fun r hr' => farR r _ (xfoot_cl hr') (R.lot.2 r hr') (by simp) (by simp)), ?_, ⟨?_, ?_, ?_, ?_, ⟨fun r hr' => (old _ (xfoot_op hr')).trans (R.lot.1 r hr'), fun r hr' => (old _ (xfoot_cl hr')).trans (R.lot.2 r hr')⟩, ?_, ?_⟩⟩, ?_, ?_, h.b, ?_⟩
  · show (w6.setCell _ _).heap[X1.b]? = _
    rw [farR _ _ xfoot_b R.b (by simp) (by simp), hr.top]
    rfl
  · exact hr.ore.same (farR _ _ xfoot_mo R.mo (by simp) (by simp))
  · exact hr.st.same (farR _ _ xfoot_ms R.ms (by simp) (by simp))
  · show (w6.setCell _ _).ownsRow 0 _ 2 X1.vPl (X1.pls.set i ({ p with units := p.units ++ [u] }, ⟨.slice (some ⟨gr, 0, none⟩) n c, v.us ++ [x]⟩)).length ((X1.pls.set i ({ p with units := p.units ++ [u] }, ⟨.slice (some ⟨gr, 0, none⟩) n c, v.us ++ [x]⟩)).flatMap xplCells)
    rw [List.length_set, ← flat_set xplCells 2 (fun _ => rfl) X1.pls i 1 _ (.slice (some ⟨gr, 0, none⟩) n c) hi (by omega) (by rw [e]; rfl), hv]
    exact own_set (hv ▸ hrow6) (i * 2 + 1) _ (by omega)
  · intro j q0 hj
    rcases setQ_get (X := X1) hq q0 hj with ⟨rfl, rfl⟩ | ⟨hne, hj'⟩
    · have h1 := hr.each j _ hq
      refine ⟨?_, by simp [h1.len], ?_⟩
      · show (w6.setCell _ _).ownsRow 0 _ 1 (.slice (some ⟨gr, 0, none⟩) n c) (v.us ++ [x]).length ((v.us ++ [x]).map ptrV)
        have e1 : (v.us ++ [x]).length = n := by simp [hn]
        have e2 : (v.us ++ [x]).map ptrV = v.us.map ptrV ++ [ptrV x] := by simp
        rw [e1, e2]
        refine own_same ho (fun r hr' => setCell_far w6 pb _ _ r ?_)
        have h' : r ∈ blk (.slice (some ⟨gr, 0, none⟩) n c) := hr'
        have : r = gr := by simpa [blk_slice] using h'
        rw [this]; exact hgp
      · intro k u0 y hu0 hy
        have hl := h1.len
        simp only at hl
        by_cases hk : k < v.us.length
        · have hu0' : p.units[k]? = some u0 := by
            have := hu0
            simp only at this
            rw [List.getElem?_append_left (by omega)] at this; exact this
          have hy' : v.us[k]? = some y := by
            have := hy
            simp only at this
            rw [List.getElem?_append_left hk] at this; exact this
          exact (h1.unit k u0 y hu0' hy').same (farR _ _ (xfoot_u hq hy') (R.unit j (p, v) k y hq hy') (by simp) (by simp))
        · have hu0' : u0 = u ∧ k = p.units.length := by
            have := hu0
            simp only at this
            rw [List.getElem?_append_right (by omega)] at this
            obtain ⟨hk2, h2⟩ := at_some this
            simp at hk2
            have : k - p.units.length = 0 := by omega
            simp [this] at h2
            exact ⟨h2.symm, by omega⟩
          have hy' : y = x := by
            have := hy
            simp only at this
            rw [List.getElem?_append_right (by omega)] at this
            obtain ⟨hk2, h2⟩ := at_some this
            simp at hk2
            have : k - v.us.length = 0 := by omega
            simp [this] at h2
            exact h2.symm
          rw [hu0'.1, hy']
          exact hu.same (far x.g xlt (fun e' => hx (xfoot_row hq (hmem _ e'))) hxp)
    · have h1 := hr.each j q0 hj'
      exact ⟨own_same h1.row (fun r hr' => farR r _ (xfoot_row hj' hr') (R.row j q0 hj' r hr') (by simpa using hne) (by simp)), h1.len, fun k u0 y hu0 hy => (h1.unit k u0 y hu0 hy).same (farR _ _ (xfoot_u hj' hy) (R.unit j q0 k y hj' hy) (by simp) (by simp))⟩
  · exact (old _ xfoot_b).trans R.b
  · exact (old _ xfoot_mo).trans R.mo
  · exact (old _ xfoot_ms).trans R.ms
  · exact fun r hr' => (old _ (xfoot_pl hr')).trans (R.pl r hr')
  · intro j q0 hj r hr'
    rcases setQ_get (X := X1) hq q0 hj with ⟨rfl, rfl⟩ | ⟨hne, hj'⟩
    · have h' : r ∈ blk (.slice (some ⟨gr, 0, none⟩) n c) := hr'
      have h2 : r = gr := by simpa [blk_slice] using h'
      show addR X1.R gr x.g j v.us.length r = _
      simp [addR, h2, Ne.symm hgx]
    · exact (old _ (xfoot_row hj' hr')).trans (R.row j q0 hj' r hr')
  · intro j q0 k y hj hy
    rcases setQ_get (X := X1) hq q0 hj with ⟨rfl, rfl⟩ | ⟨hne, hj'⟩
    · simp only at hy
      by_cases hk : k < v.us.length
      · rw [List.getElem?_append_left hk] at hy
        exact (old _ (xfoot_u hq hy)).trans (R.unit j (p, v) k y hq hy)
      · rw [List.getElem?_append_right (by omega)] at hy
        obtain ⟨hk2, h2⟩ := at_some hy
        simp at hk2
        have h3 : k - v.us.length = 0 := by omega
        simp [h3] at h2
        have h4 : k = v.us.length := by omega
        show addR X1.R gr x.g j v.us.length y.g = _
        simp [addR, ← h2, h4]
    · exact (old _ (xfoot_u hj' hy)).trans (R.unit j q0 k y hj' hy)
  · refine Kept.setCell ?_ _ _ _ (h.ext _ hpbf)
    refine ⟨hg.os.trans h.kept.os, hg.tape.trans h.kept.tape, hg.output.trans h.kept.output, Nat.le_trans h.kept.size hg.size, fun k hk hn' => ?_⟩
    rw [hg.block k (Nat.lt_of_lt_of_le hk h.kept.size) (fun e' => ?_), h.kept.block k hk hn']
    rcases h.ext k (xfoot_row hq (hmem k e'.symm)) with h' | h'
    · exact hn' h'
    · omega
  · intro r hr'
    rcases footsub r hr' with h' | rfl | rfl
    · exact h.ext r h'
    · rcases hat with h' | h'
      · exact h.ext _ (xfoot_row hq (hmem _ h'))
      · exact .inr (Nat.le_trans h.kept.size h')
    · exact .inr hx0
  · refine h.rows.trans (X2 := X1.addU i p v u x (.slice (some ⟨gr, 0, none⟩) n c) gr) (w2 := w6.setCell ⟨pb, i * 2 + 1, none⟩ (.slice (some ⟨gr, 0, none⟩) n c)) (B1 := w1.heap.size) ?_ ?_ h.kept.size ?_
    · intro j q hj
      by_cases e' : j = i
      · subst e'
        rw [hq] at hj
        injection hj with hj
        subst hj
        have h1 := hr.each j _ hq
        refine ⟨({ p with units := p.units ++ [u] }, ⟨.slice (some ⟨gr, 0, none⟩) n c, v.us ++ [x]⟩), by simp [XW.addU, hi], fun m y hm => ⟨y, by obtain ⟨hm', _⟩ := at_some hm; simp only; rw [List.getElem?_append_left hm']; exact hm, rfl⟩, fun g hgo => ?_⟩
        have hgf := xfoot_row hq (hmem g hgo)
        have hgl := lt g hgf
        have hgpb : g ≠ pb := by
          intro e'
          have h2 := R.row j (p, v) hq g (hmem g hgo)
          rw [e', R.pl pb hpb] at h2
          cases h2
        refine ⟨fun m y hm => ?_, hgl, ?_⟩
        · rw [World.cell?_of_block (w := w6) (a := ⟨g, m, none⟩) (setCell_far w6 pb _ _ g hgpb)]
          by_cases hgg : gr = g
          · rw [hgg] at ho
            refine own_cell ho ?_
            obtain ⟨hm', _⟩ := at_some hm
            rw [List.getElem?_append_left (by simpa using hm')]
            simp only at hm
            simp [hm]
          · rw [World.cell?_of_block (w := w1) (a := ⟨g, m, none⟩) (hg2.block g hgl (by simpa using Ne.symm hgg))]
            have hrow := h1.row
            rcases own_form hrow with ⟨e2, _⟩ | ⟨g', cap', e2, _⟩
            · simp only at e2; simp only at hgo; rw [e2] at hgo; simp [Value.ownBlock] at hgo
            · have e3 : g' = g := by simp only at e2; simp only at hgo; rw [e2] at hgo; simpa [Value.ownBlock] using hgo
              subst e3
              rw [e2] at hrow
              simp only at hm
              exact own_cell hrow (by simp [hm])
        · by_cases hgg : gr = g
          · exact .inl (by rw [hgg]; rfl)
          · refine .inr (fun hm => ?_)
            simp only [XW.foot, XW.addU, List.mem_cons, List.mem_append, List.mem_flatMap] at hm
            have hRg := R.row j (p, v) hq g (hmem g hgo)
            rcases hm with rfl | rfl | rfl | hm | ⟨q, hq', hm⟩ | hm | hm
            · rw [R.b] at hRg; cases hRg
            · rw [R.mo] at hRg; cases hRg
            · rw [R.ms] at hRg; cases hRg
            · rw [R.pl g hm] at hRg; cases hRg
            · obtain ⟨l, hl⟩ := List.getElem?_of_mem hq'
              rcases setQ_get (X := X1) hq q hl with ⟨rfl, rfl⟩ | ⟨hne, hl'⟩
              · simp only [xvFoot, List.mem_append, blk_slice, List.map_append, List.map_cons, List.map_nil, List.mem_singleton, List.mem_map] at hm
                rcases hm with rfl | ⟨y, hy, rfl⟩ | rfl
                · exact hgg rfl
                · obtain ⟨m, hm⟩ := List.getElem?_of_mem hy
                  rw [R.unit l (p, v) m y hq hm] at hRg
                  cases hRg
                · exact hx hgf
              · simp only [xvFoot, List.mem_append, List.mem_map] at hm
                rcases hm with hm | ⟨y, hy, rfl⟩
                · rw [R.row l q hl' g hm] at hRg
                  injection hRg with _ hRg _
                  exact hne hRg
                · obtain ⟨m, hm⟩ := List.getElem?_of_mem hy
                  rw [R.unit l q m y hl' hm] at hRg
                  cases hRg
            · rw [R.lot.1 g hm] at hRg; cases hRg
            · rw [R.lot.2 g hm] at hRg; cases hRg
      · refine ⟨q, by simp [XW.addU, Ne.symm e', hj], fun m y hm => ⟨y, hm, rfl⟩, fun g hgo => ?_⟩
        have hgm : g ∈ blk q.2.v := by simp [blk, hgo]
        have hgl := lt g (xfoot_row hj hgm)
        have hsame := farR g _ (xfoot_row hj hgm) (R.row j q hj g hgm) (by simpa using e') (by simp)
        refine ⟨fun m y hm => ?_, hgl, .inl hgo⟩
        rw [World.cell?_of_block (w := w1) (a := ⟨g, m, none⟩) hsame]
        have hrow := (hr.each j q hj).row
        rcases own_form hrow with ⟨e2, _⟩ | ⟨g', cap', e2, _⟩
        · rw [e2] at hgo; simp [Value.ownBlock] at hgo
        · have e3 : g' = g := by rw [e2] at hgo; simpa [Value.ownBlock] using hgo
          subst e3
          rw [e2] at hrow
          exact own_cell hrow (by simp [hm])
    · refine Kept.setCell ?_ _ _ _ (.inl hpbf)
      refine ⟨hg.os, hg.tape, hg.output, hg.size, fun k hk hn' => hg.block k hk (fun e' => hn' (xfoot_row hq (hmem k e'.symm)))⟩
    · intro r hr'
      rcases footsub r hr' with h' | rfl | rfl
      · exact .inl h'
      · rcases hat with h' | h'
        · exact .inl (xfoot_row hq (hmem _ h'))
        · exact .inr (Nat.le_trans h.kept.size h')
      · exact .inr hx0

end Go.Proofs.YtlafddeoheambaaDoor

/-
  That the program's maps say what the lists of units and of ore say.
-/
namespace Go.Proofs.YtlafddeoheambaaDoor
open Go.RowKit

/-- The spots of all units, player by player. -/
def posP (p : SPlayer) : List (Int × Int) := p.units.map (fun u => (u.x, u.y))
def posL (ps : List SPlayer) : List (List (Int × Int)) := ps.map posP
structure StOK (P : List (List (Int × Int))) (l : List CE) : Prop where
  a : ∀ (n : Nat) us (k : Nat) x y, P[n]? = some us → us[k]? = some (x, y) → look x y l = some (n : Int)
  b : ∀ x y m, look x y l = some m → ∃ (n : Nat) (us : List (Int × Int)) (k : Nat), P[n]? = some us ∧ us[k]? = some (x, y)
  d : ∀ (n : Nat) us (k k' : Nat) x y, P[n]? = some us → us[k]? = some (x, y) → us[k']? = some (x, y) → k = k'

theorem posL_set (ps : List SPlayer) (n : Nat) (p : SPlayer) : posL (ps.set n p) = (posL ps).set n (posP p) := by simp [posL, List.map_set]
theorem posL_at {ps : List SPlayer} {n : Nat} {p : SPlayer} (h : ps[n]? = some p) : (posL ps)[n]? = some (posP p) := by simp [posL, h]
theorem posP_at {p : SPlayer} {k : Nat} {u : SUnit} (h : p.units[k]? = some u) : (posP p)[k]? = some (u.x, u.y) := by simp [posP, h]
theorem set_id {α : Type} {l : List α} {n : Nat} {a : α} (h : l[n]? = some a) : l.set n a = l := by
  obtain ⟨hn, rfl⟩ := at_some h
  apply List.ext_getElem
  · simp
  · intro i h1 h2
    simp only [List.getElem_set]
    split
    · rename_i e; subst e; rfl
    · rfl
/-- A unit turned, its spot as it was. -/
theorem posL_same {ps : List SPlayer} {n k : Nat} {p : SPlayer} {u : SUnit} (hp : ps[n]? = some p) (hu : p.units[k]? = some u) (p' : SPlayer) (u' : SUnit) (hx : u'.x = u.x) (hy : u'.y = u.y) (h' : p'.units = p.units.set k u') : posL (ps.set n p') = posL ps := by
  rw [posL_set]
  have : posP p' = posP p := by
    unfold posP
    rw [h']
    exact map_set_same _ p.units k u u' hu (by simp [hx, hy])
  rw [this]
  exact set_id (posL_at hp)
theorem posL_money {ps : List SPlayer} {n : Nat} {p : SPlayer} (hp : ps[n]? = some p) (p' : SPlayer) (h' : p'.units = p.units) : posL (ps.set n p') = posL ps := by
  rw [posL_set]
  have : posP p' = posP p := by unfold posP; rw [h']
  rw [this]
  exact set_id (posL_at hp)

theorem StOK.empty (m : Nat) : StOK (List.replicate m []) [] := by
  refine ⟨fun n us k x y h1 h2 => ?_, fun x y m h => by simp [look] at h, fun n us k k' x y h1 h2 => ?_⟩
  all_goals
    obtain ⟨hn, e⟩ := at_some h1
    simp at e
    subst e
    simp at h2
/-- A unit goes to a free spot. -/
theorem StOK.go {P : List (List (Int × Int))} {l : List CE} (h : StOK P l) (hd : keysD l) {n k : Nat} {us : List (Int × Int)} {x y x' y' : Int} (hn : P[n]? = some us) (hk : us[k]? = some (x, y)) (hf : look x' y' l = none) (c : Nat) :
    StOK (P.set n (us.set k (x', y'))) (cput x' y' (n : Int) c (cdel x y l)) := by
  have hxy : ¬ (x' = x ∧ y' = y) := by
    rintro ⟨rfl, rfl⟩
    have := h.a n us k _ _ hn hk
    rw [hf] at this
    cases this
  have key : ∀ a b, look a b (cput x' y' (n : Int) c (cdel x y l)) = if a = x' ∧ b = y' then some (n : Int) else if a = x ∧ b = y then none else look a b l := fun a b => by rw [look_put, look_del _ _ _ hd]
  have nx : ∀ (j : Nat) vs (m : Nat) a b, P[j]? = some vs → vs[m]? = some (a, b) → ¬ (a = x' ∧ b = y') := fun j vs m a b h1 h2 e => by
    have := h.a j vs m a b h1 h2
    rw [e.1, e.2, hf] at this
    cases this
  have same : ∀ (j : Nat) vs (m : Nat), P[j]? = some vs → vs[m]? = some (x, y) → j = n ∧ m = k := fun j vs m h1 h2 => by
    have e1 := h.a j vs m x y h1 h2
    have e2 := h.a n us k x y hn hk
    rw [e2] at e1
    have : n = j := by injection e1 with e1; omega
    subst this
    rw [hn] at h1
    injection h1 with h1
    subst h1
    exact ⟨rfl, h.d n us m k x y hn h2 hk⟩
  have getP : ∀ (j : Nat) vs (m : Nat) a b, (P.set n (us.set k (x', y')))[j]? = some vs → vs[m]? = some (a, b) → (j = n ∧ m = k ∧ a = x' ∧ b = y') ∨ (¬ (j = n ∧ m = k) ∧ ∃ vs', P[j]? = some vs' ∧ vs'[m]? = some (a, b)) := fun j vs m a b h1 h2 => by
    rcases set_get hn h1 with ⟨rfl, rfl⟩ | ⟨hne, h1'⟩
    · rcases set_get hk h2 with ⟨rfl, e⟩ | ⟨hne, h2'⟩
      · injection e with e1 e2
        exact .inl ⟨rfl, rfl, e1, e2⟩
      · exact .inr ⟨fun e => hne e.2, us, hn, h2'⟩
    · exact .inr ⟨fun e => hne e.1, vs, h1', h2⟩
  refine ⟨fun j vs m a b h1 h2 => ?_, fun a b m hm => ?_, fun j vs m m' a b h1 h2 h3 => ?_⟩
  · rw [key]
    rcases getP j vs m a b h1 h2 with ⟨rfl, rfl, rfl, rfl⟩ | ⟨hne, vs', h1', h2'⟩
    · simp
    · rw [if_neg (nx j vs' m a b h1' h2')]
      rw [if_neg (fun e => hne (same j vs' m h1' (by rw [← e.1, ← e.2]; exact h2')))]
      exact h.a j vs' m a b h1' h2'
  · rw [key] at hm
    obtain ⟨hk', _⟩ := at_some hk
    obtain ⟨hn', _⟩ := at_some hn
    split at hm
    · rename_i e
      exact ⟨n, us.set k (x', y'), k, by simp [hn'], by simp [hk', e.1, e.2]⟩
    · split at hm
      · cases hm
      · rename_i e1 e2
        obtain ⟨j, vs, q, h1, h2⟩ := h.b a b m hm
        by_cases hj : j = n
        · subst hj
          rw [hn] at h1
          injection h1 with h1
          subst h1
          refine ⟨j, us.set k (x', y'), q, by simp [hn'], ?_⟩
          have : q ≠ k := by
            rintro rfl
            rw [hk] at h2
            injection h2 with h2
            injection h2 with h3 h4
            exact e2 ⟨h3.symm, h4.symm⟩
          simp [Ne.symm this, h2]
        · exact ⟨j, vs, q, by simp [Ne.symm hj, h1], h2⟩
  · rcases getP j vs m a b h1 h2 with ⟨rfl, rfl, rfl, rfl⟩ | ⟨hne, vs', h1', h2'⟩
    · rcases getP j vs m' a b h1 h3 with ⟨_, rfl, _, _⟩ | ⟨hne, vs', h1', h3'⟩
      · rfl
      · exact absurd ⟨rfl, rfl⟩ (nx j vs' m' a b h1' h3')
    · rcases getP j vs m' a b h1 h3 with ⟨_, _, rfl, rfl⟩ | ⟨_, vs'', h1'', h3'⟩
      · exact absurd ⟨rfl, rfl⟩ (nx j vs' m a b h1' h2')
      · rw [h1'] at h1''
        injection h1'' with h1''
        subst h1''
        exact h.d j vs' m m' a b h1' h2' h3'
/-- A unit more, at a free spot. -/
theorem StOK.add {P : List (List (Int × Int))} {l : List CE} (h : StOK P l) {n : Nat} {us : List (Int × Int)} {x' y' : Int} (hn : P[n]? = some us) (hf : look x' y' l = none) (c : Nat) :
    StOK (P.set n (us ++ [(x', y')])) (cput x' y' (n : Int) c l) := by
  have nx : ∀ (j : Nat) vs (m : Nat) a b, P[j]? = some vs → vs[m]? = some (a, b) → ¬ (a = x' ∧ b = y') := fun j vs m a b h1 h2 e => by
    have := h.a j vs m a b h1 h2
    rw [e.1, e.2, hf] at this
    cases this
  have getP : ∀ (j : Nat) vs (m : Nat) a b, (P.set n (us ++ [(x', y')]))[j]? = some vs → vs[m]? = some (a, b) → (j = n ∧ m = us.length ∧ a = x' ∧ b = y') ∨ (∃ vs', P[j]? = some vs' ∧ vs'[m]? = some (a, b)) := fun j vs m a b h1 h2 => by
    rcases set_get hn h1 with ⟨rfl, rfl⟩ | ⟨hne, h1'⟩
    · by_cases hm : m < us.length
      · rw [List.getElem?_append_left hm] at h2
        exact .inr ⟨us, hn, h2⟩
      · rw [List.getElem?_append_right (by omega)] at h2
        obtain ⟨h3, h4⟩ := at_some h2
        simp at h3
        have : m - us.length = 0 := by omega
        simp [this] at h4
        exact .inl ⟨rfl, by omega, h4.1.symm, h4.2.symm⟩
    · exact .inr ⟨vs, h1', h2⟩
  obtain ⟨hn', _⟩ := at_some hn
  refine ⟨fun j vs m a b h1 h2 => ?_, fun a b m hm => ?_, fun j vs m m' a b h1 h2 h3 => ?_⟩
  · rw [look_put]
    rcases getP j vs m a b h1 h2 with ⟨rfl, rfl, rfl, rfl⟩ | ⟨vs', h1', h2'⟩
    · simp
    · rw [if_neg (nx j vs' m a b h1' h2')]
      exact h.a j vs' m a b h1' h2'
  · rw [look_put] at hm
    split at hm
    · rename_i e
      exact ⟨n, us ++ [(x', y')], us.length, by simp [hn'], by simp [e.1, e.2]⟩
    · obtain ⟨j, vs, q, h1, h2⟩ := h.b a b m hm
      by_cases hj : j = n
      · subst hj
        rw [hn] at h1
        injection h1 with h1
        subst h1
        obtain ⟨hq, _⟩ := at_some h2
        exact ⟨j, us ++ [(x', y')], q, by simp [hn'], by rw [List.getElem?_append_left hq]; exact h2⟩
      · exact ⟨j, vs, q, by simp [Ne.symm hj, h1], h2⟩
  · rcases getP j vs m a b h1 h2 with ⟨rfl, rfl, rfl, rfl⟩ | ⟨vs', h1', h2'⟩
    · rcases getP j vs m' a b h1 h3 with ⟨_, rfl, _, _⟩ | ⟨vs', h1', h3'⟩
      · rfl
      · exact absurd ⟨rfl, rfl⟩ (nx j vs' m' a b h1' h3')
    · rcases getP j vs m' a b h1 h3 with ⟨_, _, rfl, rfl⟩ | ⟨vs'', h1'', h3'⟩
      · exact absurd ⟨rfl, rfl⟩ (nx j vs' m a b h1' h2')
      · rw [h1'] at h1''
        injection h1'' with h1''
        subst h1''
        exact h.d j vs' m m' a b h1' h2' h3'

theorem ixOf_neg {α : Type} (p : α → Bool) (l : List α) : ixOf p l < 0 ↔ ∀ a ∈ l, p a = false := by
  induction l with
  | nil => simp [ixOf]
  | cons a l ih =>
    simp only [ixOf]
    cases hp : p a
    · simp only [Bool.false_eq_true, if_false, List.mem_cons, forall_eq_or_imp, hp, true_and]
      rw [← ih]
      split
      · rename_i h; simp [h]
      · rename_i h; constructor
        · intro h'; omega
        · intro h'; exact absurd h' h
    · simp [hp]
/-- Nobody stands there. -/
theorem StOK.free {ps : List SPlayer} {l : List CE} (h : StOK (posL ps) l) (x y : Int) : decide (holderI ps x y < 0) = (look x y l).isNone := by
  have e : holderI ps x y < 0 ↔ look x y l = none := by
    unfold holderI
    rw [ixOf_neg]
    constructor
    · intro hn
      cases hl : look x y l with
      | none => rfl
      | some m =>
        obtain ⟨n, us, k, h1, h2⟩ := h.b x y m hl
        simp only [posL, List.getElem?_map, Option.map_eq_some_iff] at h1
        obtain ⟨p, hp, rfl⟩ := h1
        simp only [posP, List.getElem?_map, Option.map_eq_some_iff] at h2
        obtain ⟨u, hu, e⟩ := h2
        have := hn p (List.mem_of_getElem? hp)
        simp only [standsB, List.any_eq_false] at this
        have := this u (List.mem_of_getElem? hu)
        injection e with e1 e2
        simp [e1, e2] at this
    · intro hl p hp
      simp only [standsB, List.any_eq_false]
      intro u hu
      obtain ⟨n, hn⟩ := List.getElem?_of_mem hp
      obtain ⟨k, hk⟩ := List.getElem?_of_mem hu
      have := h.a n _ k u.x u.y (posL_at hn) (posP_at hk)
      simp only [Bool.and_eq_true, decide_eq_true_eq]
      rintro ⟨rfl, rfl⟩
      rw [hl] at this
      cases this
  cases hl : look x y l with
  | none => simp [e.2 hl]
  | some m => simp only [Option.isNone_some, decide_eq_false_iff_not]; intro h'; rw [e.1 h'] at hl; cases hl

/-- How much ore there is. -/
def oreAt (o : List SSpot) (x y : Int) : Option Int := (o.find? (hitB x y)).map (·.amount)
def oreD (o : List SSpot) : Prop := o.Pairwise (fun a b => ¬ (a.x = b.x ∧ a.y = b.y))
def OreOK (o : List SSpot) (l : List CE) : Prop := ∀ x y, look x y l = oreAt o x y
theorem oreAt_cons (s : SSpot) (o : List SSpot) (x y : Int) : oreAt (s :: o) x y = if hitB x y s then some s.amount else oreAt o x y := by
  simp only [oreAt, List.find?_cons]
  cases hitB x y s <;> simp
theorem oreAt_pos {o : List SSpot} {x y a : Int} (h : oreAt o x y = some a) : 0 < a := by
  induction o with
  | nil => simp [oreAt] at h
  | cons s o ih =>
    rw [oreAt_cons] at h
    split at h
    · rename_i e
      simp [hitB] at e
      injection h with h
      omega
    · exact ih h
theorem digB_at (o : List SSpot) (x y : Int) : digB o x y = (oreAt o x y).isSome := by
  induction o with
  | nil => rfl
  | cons s o ih =>
    rw [oreAt_cons]
    simp only [digB, List.any_cons] at ih ⊢
    cases hitB x y s <;> simp [ih]
theorem oreAt_far {o : List SSpot} {x y : Int} (h : ∀ s ∈ o, ¬ (s.x = x ∧ s.y = y)) : oreAt o x y = none := by
  induction o with
  | nil => rfl
  | cons s o ih =>
    rw [oreAt_cons, if_neg, ih (fun t ht => h t (by simp [ht]))]
    have := h s (by simp)
    simp only [hitB, Bool.and_eq_true, decide_eq_true_eq]
    rintro ⟨⟨e1, e2⟩, _⟩
    exact this ⟨e1, e2⟩
theorem oreAt_dig (o : List SSpot) (hd : oreD o) (x y a : Int) (h : oreAt o x y = some a) (x' y' : Int) : oreAt (digL x y o) x' y' = if x' = x ∧ y' = y then (if a = 1 then none else some (a - 1)) else oreAt o x' y' := by
  induction o with
  | nil => simp [oreAt] at h
  | cons s o ih =>
    have h1 := List.pairwise_cons.1 hd
    rw [oreAt_cons] at h
    simp only [digL]
    cases hs : hitB x y s
    · rw [hs] at h
      simp only [Bool.false_eq_true, if_false] at h ⊢
      rw [oreAt_cons, oreAt_cons, ih h1.2 h]
      cases hs' : hitB x' y' s
      · simp
      · simp only [if_true]
        rw [if_neg]
        rintro ⟨rfl, rfl⟩
        rw [hs] at hs'
        cases hs'
    · rw [hs] at h
      simp only [if_true] at h ⊢
      injection h with h
      simp [hitB] at hs
      rw [oreAt_cons, oreAt_cons]
      by_cases e : x' = x ∧ y' = y
      · rw [if_pos e]
        have ho : oreAt o x' y' = none := oreAt_far (fun t ht e' => h1.1 t ht ⟨by omega, by omega⟩)
        rw [ho]
        by_cases ha : a = 1
        · rw [if_pos ha, if_neg]
          simp only [hitB, Bool.and_eq_true, decide_eq_true_eq]
          omega
        · rw [if_neg ha, if_pos]
          · rw [← h]
          · simp only [hitB, Bool.and_eq_true, decide_eq_true_eq]
            omega
      · rw [if_neg e]
        have n1 : hitB x' y' { s with amount := s.amount - 1 } = false := by
          simp only [hitB, Bool.and_eq_false_iff, decide_eq_false_iff_not]
          omega
        have n2 : hitB x' y' s = false := by
          simp only [hitB, Bool.and_eq_false_iff, decide_eq_false_iff_not]
          omega
        simp [n1, n2]
theorem digL_mem {x y : Int} {o : List SSpot} {s : SSpot} (h : s ∈ digL x y o) : ∃ t ∈ o, s.x = t.x ∧ s.y = t.y := by
  induction o with
  | nil => simp [digL] at h
  | cons t o ih =>
    simp only [digL] at h
    split at h
    · rcases List.mem_cons.1 h with rfl | h
      · exact ⟨t, by simp, rfl, rfl⟩
      · exact ⟨s, by simp [h], rfl, rfl⟩
    · rcases List.mem_cons.1 h with rfl | h
      · exact ⟨_, by simp, rfl, rfl⟩
      · obtain ⟨t', h1, h2⟩ := ih h
        exact ⟨t', by simp [h1], h2⟩
theorem oreD_dig {x y : Int} {o : List SSpot} (h : oreD o) : oreD (digL x y o) := by
  induction o with
  | nil => exact h
  | cons s o ih =>
    have h1 := List.pairwise_cons.1 h
    simp only [digL]
    split
    · exact List.pairwise_cons.2 ⟨h1.1, h1.2⟩
    · refine List.pairwise_cons.2 ⟨fun t ht e => ?_, ih h1.2⟩
      obtain ⟨t', h2, h3, h4⟩ := digL_mem ht
      exact h1.1 t' h2 ⟨by omega, by omega⟩
/-- One of the ore dug. -/
theorem OreOK.dig {o : List SSpot} {l : List CE} (h : OreOK o l) (hd : oreD o) (hk : keysD l) {x y a : Int} (ha : look x y l = some a) (c : Nat) :
    OreOK (digL x y o) (if a = 1 then cdel x y (cput x y (a - 1) c l) else cput x y (a - 1) c l) := by
  intro x' y'
  have h0 : oreAt o x y = some a := by rw [← h x y]; exact ha
  rw [oreAt_dig o hd x y a h0]
  by_cases e : a = 1
  · rw [if_pos e, if_pos e, look_del _ _ _ (keysD_put hk), look_put]
    by_cases e' : x' = x ∧ y' = y
    · simp [e']
    · simp [e', h x' y']
  · rw [if_neg e, if_neg e, look_put]
    by_cases e' : x' = x ∧ y' = y
    · simp [e']
    · simp [e', h x' y']
/-- A spot of ore more. -/
theorem OreOK.add {o : List SSpot} {l : List CE} (h : OreOK o l) (s : SSpot) (hs : 0 < s.amount) (hn : ∀ t ∈ o, ¬ (t.x = s.x ∧ t.y = s.y)) (c : Nat) : OreOK (o ++ [s]) (cput s.x s.y s.amount c l) := by
  intro x' y'
  rw [look_put]
  have e : oreAt (o ++ [s]) x' y' = match oreAt o x' y' with | some a => some a | none => if hitB x' y' s then some s.amount else none := by
    simp only [oreAt, List.find?_append]
    cases h1 : List.find? (hitB x' y') o <;> simp
  rw [e]
  by_cases e' : x' = s.x ∧ y' = s.y
  · rw [if_pos e']
    rw [oreAt_far (fun t ht e'' => hn t ht ⟨by omega, by omega⟩)]
    simp [hitB, e', hs]
  · rw [if_neg e', h x' y']
    have : hitB x' y' s = false := by
      simp only [hitB, Bool.and_eq_false_iff, decide_eq_false_iff_not]
      omega
    rw [this]
    cases oreAt o x' y' <;> rfl

/-- A player turned, its bids as they were. -/
theorem bidsQ {pls : List (SPlayer × XV)} {i : Nat} {p p' : SPlayer} {v v' : XV} (hq : pls[i]? = some (p, v)) (hb : p'.bids = p.bids) : (pls.set i (p', v')).map (·.1.bids) = pls.map (·.1.bids) := map_set_same (·.1.bids) pls i (p, v) (p', v') hq hb
theorem lotQ {opens : List XLot} {lots : List SLot} {pls : List (SPlayer × XV)} (h : LotRel opens lots (pls.map (·.1.bids))) {i : Nat} {p p' : SPlayer} {v v' : XV} (hq : pls[i]? = some (p, v)) (hb : p'.bids = p.bids) : LotRel opens lots ((pls.set i (p', v')).map (·.1.bids)) := by
  rw [bidsQ hq hb]; exact h
theorem lotW {lots : List SLot} {now : Int} {pls : List (SPlayer × XV)} (h : LotWF lots (pls.map (·.1.bids)) now) {i : Nat} {p p' : SPlayer} {v v' : XV} (hq : pls[i]? = some (p, v)) (hb : p'.bids = p.bids) : LotWF lots ((pls.set i (p', v')).map (·.1.bids)) now := by
  rw [bidsQ hq hb]; exact h
/-- What the program's maps hold is what its lists hold. -/
structure OkX (X : XW) : Prop where
  st : StOK (posL (X.pls.map (·.1))) X.ls
  ore : OreOK X.ore X.lo
  dist : oreD X.ore
  lot : LotRel X.opens X.lots (X.pls.map (·.1.bids))
end Go.Proofs.YtlafddeoheambaaDoor

/-
  The functions of package hazeref that only look (unit, open, among, staked, bid): each returns what its text says, and leaves the world as it was.
-/
namespace Go.Proofs.YtlafddeoheambaaDoor
open Go.RowKit

/-- No one so far. -/
def noneTo {α : Type} (p : α → Bool) (l : List α) (k : Nat) : Prop := ∀ j (hj : j < l.length), j < k → p l[j] = false
theorem noneTo_zero {α : Type} (p : α → Bool) (l : List α) : noneTo p l 0 := fun _ _ h => by omega
theorem noneTo_succ {α : Type} {p : α → Bool} {l : List α} {k : Nat} (h : noneTo p l k) (hk : k < l.length) (hp : p l[k] = false) : noneTo p l (k + 1) := by
  intro j hj hjk
  by_cases e : j = k
  · subst e; exact hp
  · exact h j hj (by omega)
theorem noneTo_all {α : Type} {p : α → Bool} {l : List α} {k : Nat} (h : noneTo p l k) (hk : ¬ k < l.length) : ∀ j (hj : j < l.length), p l[j] = false := fun j hj => h j hj (by omega)

end Go.Proofs.YtlafddeoheambaaDoor

/-
  The function holder of package hazeref: it returns the number of the player whose unit stands on a spot, or -1, and nothing that was there has turned.
-/
namespace Go.Proofs.YtlafddeoheambaaDoor
open Go.RowKit

/-- What holds of a world's lists: there are players, each has units. -/
structure Full (y : YW) : Prop where
  pl1 : 1 ≤ y.pls.length
  un1 : ∀ p ∈ y.pls, 1 ≤ p.1.units.length

theorem at_split {p : SPlayer} {x y : Int} {k : Nat} (hk : k < p.units.length) (h1 : p.units[k].x = x) (h2 : p.units[k].y = y) : standsB x y p = true :=
  any_hit _ _ k hk (by simp [h1, h2])

end Go.Proofs.YtlafddeoheambaaDoor

/-
  The function ahead of package hazeref: the spot ahead of a unit, and whether there is one on which nobody stands; nothing that was there has turned.
-/
namespace Go.Proofs.YtlafddeoheambaaDoor
open Go.RowKit
attribute [local go_sem] Go.wp_at_zero Go.wp_at_succ

def freeB (Y : YW) (x y : Int) : Bool := freeS Y.S x y
theorem ret_t3 {a a' b b' : Int} {c c' : Bool} (h1 : a = a') (h2 : b = b') (h3 : c = c') : Ending.returned (.tuple #[.int .i64 a, .int .i64 b, .bool c]) = .returned (.tuple #[.int .i64 a', .int .i64 b', .bool c']) := by rw [h1, h2, h3]

end Go.Proofs.YtlafddeoheambaaDoor

/-
  The function dig of package hazeref: it says whether there is ore at a spot, and takes one of it.
-/
namespace Go.Proofs.YtlafddeoheambaaDoor
open Go.RowKit

theorem WF.full {Y : YW} {M : Int} (h : WF Y M) : Full Y := ⟨by have := h.pl; omega, fun p hp => (h.un p hp).1⟩

end Go.Proofs.YtlafddeoheambaaDoor

/-
  That a world with players and units has them still where one unit has turned.
-/
namespace Go.Proofs.YtlafddeoheambaaDoor
open Go.RowKit

theorem Full.setQ {Y : YW} (h : Full Y) {n : Nat} {q q' : SPlayer × PV} (hq : Y.pls[n]? = some q) (hl : q'.1.units.length = q.1.units.length) : Full (Y.setQ n q') := by
  obtain ⟨hn, rfl⟩ := at_some hq
  refine ⟨by simpa [YW.setQ] using h.pl1, fun p hp => ?_⟩
  obtain ⟨j, hj, rfl⟩ := List.mem_iff_getElem.1 hp
  simp only [YW.setQ, List.length_set] at hj
  simp only [YW.setQ, List.getElem_set]
  split
  · rw [hl]; exact h.un1 _ (List.getElem_mem hn)
  · exact h.un1 _ (List.getElem_mem hj)

theorem hidOf {p : Prop} (h : p) : Hid p := h
theorem digL_none (x y : Int) (l : List SSpot) (h : digB l x y = false) : digL x y l = l := by
  refine digL_miss x y l (fun j hj => ?_)
  have := List.any_eq_false.1 h l[j] (List.getElem_mem hj)
  simpa using this
theorem S_withOre (Y : YW) (l : List SSpot) : (Y.withOre l).S = { Y.S with ore := l } := rfl
end Go.Proofs.YtlafddeoheambaaDoor

/-
  What becomes of the document's world in memory where a player gets a unit more.
-/
namespace Go.Proofs.YtlafddeoheambaaDoor
open Go.RowKit

theorem nodup_map_on {l : List Nat} (f : Nat → Nat) (h : l.Nodup) (hf : ∀ x ∈ l, ∀ y ∈ l, f x = f y → x = y) : (l.map f).Nodup := by
  unfold List.Nodup at *
  rw [List.pairwise_map]
  exact List.Pairwise.imp_of_mem (fun {a b} ha hb hab e => hab (hf a ha b hb e)) h
theorem map_fix {l : List Nat} (f : Nat → Nat) (h : ∀ x ∈ l, f x = x) : l.map f = l := by
  rw [List.map_congr_left (g := id) (fun x hx => h x hx)]
  simp

/-- One block put in the place of another. -/
def subB (ub g r : Nat) : Nat := if r = ub then g else r
theorem subB_other {ub g r : Nat} (h : r ≠ ub) : subB ub g r = r := by simp [subB, h]
theorem subB_same (ub g : Nat) : subB ub g ub = g := by simp [subB]

theorem foot_sub {Y : YW} (hs : Y.foot.Nodup) {n : Nat} {p p' : SPlayer} {v : PV} (hq : Y.pls[n]? = some (p, v)) {ub a b g c d : Nat} (hv : v.u = .slice (some ⟨ub, 0, none⟩) a b) :
    (Y.setQ n (p', { v with u := .slice (some ⟨g, 0, none⟩) c d })).foot = Y.foot.map (subB ub g) := by
  obtain ⟨hn, e⟩ := at_some hq
  have sp := sep_of hs
  have hmem : Y.pls[n] ∈ Y.pls := List.getElem_mem hn
  have hub : ub ∈ pvFoot Y.pls[n] := by rw [e]; simp [pvFoot, hv, blk_slice]
  have e1 : Y.b ≠ ub := fun h => sp.be _ hmem (h ▸ hub)
  have fo : ∀ r ∈ blk Y.vOre, subB ub g r = r := fun r hr => subB_other (fun h => sp.oe r hr _ hmem (h ▸ hub))
  have fp : ∀ r ∈ blk Y.vPl, subB ub g r = r := fun r hr => subB_other (fun h => sp.pe r hr _ hmem (h ▸ hub))
  have fl : ∀ r ∈ blk Y.vLots, subB ub g r = r := fun r hr => subB_other (fun h => sp.le r hr _ hmem (h ▸ hub))
  have fe : (Y.pls.set n (p', { v with u := .slice (some ⟨g, 0, none⟩) c d })).flatMap pvFoot = (Y.pls.flatMap pvFoot).map (subB ub g) := by
    rw [List.map_flatMap, List.flatMap_def, List.flatMap_def]
    congr 1
    apply List.ext_getElem
    · simp
    · intro j h1 h2
      have hj : j < Y.pls.length := by simpa using h2
      simp only [List.getElem_map, List.getElem_set]
      split
      · rename_i hnj
        subst hnj
        have nd := sp.e1 n hn
        rw [e] at nd ⊢
        simp only [pvFoot, hv, blk_slice, List.singleton_append, List.nodup_cons, List.mem_append, not_or] at nd
        simp only [pvFoot, hv, blk_slice, List.singleton_append, List.map_cons, List.map_append, subB_same]
        have g1 : ∀ x ∈ blk v.b, subB ub g x = x := fun x hx => subB_other (fun h => nd.1.1 (h ▸ hx))
        have g2 : ∀ x ∈ blk v.n, subB ub g x = x := fun x hx => subB_other (fun h => nd.1.2 (h ▸ hx))
        rw [map_fix _ g1, map_fix _ g2]
      · rename_i hnj
        rw [map_fix]
        intro x hx
        exact subB_other (fun h => sp.ee n j hn hj hnj ub hub (h ▸ hx))
  simp only [YW.foot, YW.setQ, List.map_cons, List.map_append, subB_other e1, map_fix _ fo, map_fix _ fp, map_fix _ fl, fe]

theorem addKeep {w5 wx w6 : World} {pb ub : Nat} (hb : Below w5.heap.size w5 wx) (hg : wx.grownBy w6 (some ub)) (hp : pb < w5.heap.size) (hne : pb ≠ ub) (j : Nat) : w6.cell? ⟨pb, j, none⟩ = w5.cell? ⟨pb, j, none⟩ ∧ w6.frozen? ⟨pb, j, none⟩ = w5.frozen? ⟨pb, j, none⟩ := by
  have e : w6.heap[pb]? = w5.heap[pb]? := by rw [hg.block pb (Nat.lt_of_lt_of_le hp hb.size) (by simpa using hne), hb.block pb hp]
  exact ⟨World.cell?_of_block (w := w5) (a := ⟨pb, j, none⟩) e, World.frozen?_of_block (w := w5) (a := ⟨pb, j, none⟩) e⟩
end Go.Proofs.YtlafddeoheambaaDoor

/-
  The function does of package hazeref: what a unit's order leaves of the world.
-/
namespace Go.Proofs.YtlafddeoheambaaDoor
open Go.RowKit
attribute [local go_sem] Go.wp_at_zero Go.wp_at_succ

end Go.Proofs.YtlafddeoheambaaDoor

/-
  The function does of package hazeref: what a unit's order leaves of the world.
-/
namespace Go.Proofs.YtlafddeoheambaaDoor
open Go.RowKit
attribute [local go_sem] Go.wp_at_zero Go.wp_at_succ

end Go.Proofs.YtlafddeoheambaaDoor

/-
  The function does of package hazeref: what a unit's order leaves of the world.
-/
namespace Go.Proofs.YtlafddeoheambaaDoor
open Go.RowKit
attribute [local go_sem] Go.wp_at_zero Go.wp_at_succ

end Go.Proofs.YtlafddeoheambaaDoor

/-
  The function does of package hazeref: what a unit's order leaves of the world.
-/
namespace Go.Proofs.YtlafddeoheambaaDoor
open Go.RowKit
attribute [local go_sem] Go.wp_at_zero Go.wp_at_succ

end Go.Proofs.YtlafddeoheambaaDoor
