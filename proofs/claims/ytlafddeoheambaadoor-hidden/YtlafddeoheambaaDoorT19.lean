/-
  What the player 0 does not see: a world without the other player and without the far ore. What the player 0 does and sees there is what it does and sees in the whole world.
-/
import Derived.Test.YtlafddeoheambaaDoorT16
import Derived.Deep.DeepCutAuto
import Derived.Deep.RegionHeld3
set_option linter.unusedVariables false
namespace Go.Proofs.YtlafddeoheambaaDoor
open Go.RowKit

def nearB (s : SSpot) : Bool := decide (s.x + s.y ≤ 7)
/-- The world as far as it matters to the player 0. -/
def shadeS (s : SWorld) : SWorld := { s with players := s.players.take 1, ore := s.ore.filter nearB }
def goW : List UInt8 := [103, 111]
def buildW : List UInt8 := [98, 117, 105, 108, 100]
/-- May this order lead a unit, or a new one, a step on? -/
def pendB (what : ByteArray) : Bool := what.toList == goW || what.toList == buildW
def pendI (u : SUnit) : Int := if pendB u.what then 1 else 0
/-- The player 0's units are at most a steps from their corner, the player 1's at most b. -/
structure Far2 (s : SWorld) (p q : SPlayer) (a b : Int) : Prop where
  wd : s.width = 10
  ht : s.height = 10
  si : s.sight = 2
  lo : s.lots = []
  pl : s.players = [p, q]
  pu : ∀ u ∈ p.units, 0 ≤ u.x ∧ 0 ≤ u.y ∧ u.x + u.y + pendI u ≤ a
  qu : ∀ u ∈ q.units, u.x ≤ 9 ∧ u.y ≤ 9 ∧ 18 - u.x - u.y + pendI u ≤ b
theorem pendI_nn (u : SUnit) : 0 ≤ pendI u := by unfold pendI; split <;> omega

theorem dig_near (l : List SSpot) (x y : Int) (h : x + y ≤ 7) : digB l x y = digB (l.filter nearB) x y ∧ (digL x y l).filter nearB = digL x y (l.filter nearB) := by
  induction l with
  | nil => exact ⟨rfl, rfl⟩
  | cons s r ih =>
    unfold digB at ih ⊢
    simp only [digL, List.any_cons, List.filter_cons]
    cases hh : hitB x y s
    · cases hn : nearB s
      · simp only [Bool.false_or, Bool.false_eq_true, if_false, List.filter_cons, hn]
        exact ih
      · simp only [if_true, Bool.false_or, List.any_cons, hh, Bool.false_eq_true, if_false, List.filter_cons, hn, digL]
        exact ⟨ih.1, by rw [ih.2]⟩
    · have hn : nearB s = true := by
        simp only [hitB, Bool.and_eq_true, decide_eq_true_eq] at hh
        simp only [nearB, decide_eq_true_eq]
        omega
      have hn' : nearB { s with amount := s.amount - 1 } = true := hn
      simp only [hn, if_true, List.any_cons, hh, Bool.true_or, List.filter_cons, hn', digL]
      exact ⟨trivial, trivial⟩
theorem dig_far (l : List SSpot) (x y : Int) (h : 7 < x + y) : (digL x y l).filter nearB = l.filter nearB := by
  induction l with
  | nil => rfl
  | cons s r ih =>
    simp only [digL]
    cases hh : hitB x y s
    · simp only [Bool.false_eq_true, if_false, List.filter_cons, ih]
    · have hn : nearB s = false := by
        simp only [hitB, Bool.and_eq_true, decide_eq_true_eq] at hh
        simp only [nearB, decide_eq_false_iff_not]
        omega
      have hn' : nearB { s with amount := s.amount - 1 } = false := hn
      simp only [if_true, List.filter_cons, hn, hn', Bool.false_eq_true, if_false]
theorem oreAt_near (l : List SSpot) (x y : Int) (h : x + y ≤ 7) : oreAt (l.filter nearB) x y = oreAt l x y := by
  induction l with
  | nil => rfl
  | cons s r ih =>
    rw [oreAt_cons, List.filter_cons]
    cases hn : nearB s
    · have hh : hitB x y s = false := by
        cases hh : hitB x y s
        · rfl
        · simp only [hitB, Bool.and_eq_true, decide_eq_true_eq] at hh
          simp only [nearB, decide_eq_false_iff_not] at hn
          omega
      simp only [hh, Bool.false_eq_true, if_false]
      exact ih
    · simp only [if_true]
      rw [oreAt_cons, ih]
theorem stands_no {q : SPlayer} {b : Int} (h : ∀ u ∈ q.units, u.x ≤ 9 ∧ u.y ≤ 9 ∧ 18 - u.x - u.y + pendI u ≤ b) {x y : Int} (hx : x + y < 18 - b) : standsB x y q = false := by
  unfold standsB
  rw [List.any_eq_false]
  intro u hu
  have := h u hu
  have := pendI_nn u
  simp only [Bool.and_eq_true, decide_eq_true_eq]
  omega
theorem holder_one {p q : SPlayer} {x y : Int} (h : standsB x y q = false) : holderI [p, q] x y = holderI [p] x y := by
  simp only [holderI, ixOf, h]
  cases standsB x y p <;> simp

/-- A unit's spot, and that ahead of it. -/
theorem ahead_bd (h : Int) : -1 ≤ dxI h + dyI h ∧ dxI h + dyI h ≤ 1 := by
  unfold dxI dyI
  repeat' split
  all_goals omega
theorem Far2.free {s : SWorld} {p q : SPlayer} {a b : Int} (h : Far2 s p q a b) (hb : b ≤ 3) {x y : Int} (hx : x + y ≤ 7) : freeS (shadeS s) x y = freeS s x y := by
  unfold freeS
  have e : holderI (shadeS s).players x y = holderI s.players x y := by
    show holderI (s.players.take 1) x y = _
    rw [h.pl]
    exact (holder_one (stands_no h.qu (by omega))).symm
  rw [e]
  rfl
/-- What the player 0 sees. -/
theorem Far2.view {s : SWorld} {p q : SPlayer} {a b : Int} (h : Far2 s p q a b) (ha : a ≤ 3) (hb : b ≤ 3) : viewS (shadeS s) 0 = viewS s 0 := by
  have hl : (shadeS s).players = [p] := by show s.players.take 1 = _; rw [h.pl]; rfl
  have seen : ∀ x y : Int, seenL (shadeS s) 0 p.units x y = seenL s 0 p.units x y := by
    intro x y
    unfold seenL
    show (if seesB p.units s.sight x y = true then _ else _) = _
    cases hz : seesB p.units s.sight x y
    · rfl
    · rw [if_pos rfl, if_pos rfl]
      have hn : x + y ≤ 7 := by
        unfold seesB at hz
        rw [List.any_eq_true] at hz
        obtain ⟨u, hu, hf⟩ := hz
        have := h.pu u hu
        have := pendI_nn u
        simp only [decide_eq_true_eq, h.si] at hf
        unfold farI absI at hf
        omega
      unfold spotL oreL otherL
      have e1 : oreAt (shadeS s).ore x y = oreAt s.ore x y := oreAt_near s.ore x y hn
      have e2 : holderI (shadeS s).players x y = holderI s.players x y := by
        rw [hl, h.pl]
        exact (holder_one (stands_no h.qu (by omega))).symm
      rw [e1, e2]
  unfold viewS
  rw [hl, h.pl]
  simp only [List.length_cons, List.length_nil]
  rw [if_pos (by omega), if_pos (by omega)]
  show (bytesOf (viewL (shadeS s) 0 p), (0 : Int)) = (bytesOf (viewL s 0 p), 0)
  have rows : ∀ k, rowsTo (shadeS s) 0 p.units k = rowsTo s 0 p.units k := by
    intro k
    unfold rowsTo rowTo
    simp only [seen]
    rfl
  unfold viewL
  show (bytesOf (ownL (shadeS s) p ++ rowsTo (shadeS s) 0 p.units s.height.toNat ++ lotsL (shadeS s) p ++ newsL p), (0 : Int)) = _
  rw [rows]
  rfl

theorem shade_set (s : SWorld) (p : SPlayer) : shadeS (s.setPl 0 p) = (shadeS s).setPl 0 p := by
  unfold shadeS SWorld.setPl
  simp only [List.take_set]
theorem shade_set1 (s : SWorld) (p : SPlayer) : shadeS (s.setPl 1 p) = shadeS s := by
  unfold shadeS SWorld.setPl
  simp only
  have e : (s.players.set 1 p).take 1 = s.players.take 1 := by
    cases s.players with
    | nil => rfl
    | cons a r => rfl
  rw [e]
theorem Far2.set0 {s : SWorld} {p q : SPlayer} {a b : Int} (h : Far2 s p q a b) (p' : SPlayer) {a' : Int} (hp : ∀ u ∈ p'.units, 0 ≤ u.x ∧ 0 ≤ u.y ∧ u.x + u.y + pendI u ≤ a') : Far2 (s.setPl 0 p') p' q a' b :=
  ⟨h.wd, h.ht, h.si, h.lo, by show s.players.set 0 p' = _; rw [h.pl]; rfl, hp, h.qu⟩
theorem Far2.set1 {s : SWorld} {p q : SPlayer} {a b : Int} (h : Far2 s p q a b) (q' : SPlayer) {b' : Int} (hq : ∀ u ∈ q'.units, u.x ≤ 9 ∧ u.y ≤ 9 ∧ 18 - u.x - u.y + pendI u ≤ b') : Far2 (s.setPl 1 q') p q' a b' :=
  ⟨h.wd, h.ht, h.si, h.lo, by show s.players.set 1 q' = _; rw [h.pl]; rfl, h.pu, hq⟩
theorem Far2.ore {s : SWorld} {p q : SPlayer} {a b : Int} (h : Far2 s p q a b) (o : List SSpot) : Far2 { s with ore := o } p q a b := ⟨h.wd, h.ht, h.si, h.lo, h.pl, h.pu, h.qu⟩
theorem pend_empty (u : SUnit) : pendI { u with what := emptyB, arg := emptyB } = 0 := by
  unfold pendI pendB
  have : emptyB.toList = [] := by rw [Lib.toList_data]; rfl
  simp only [this]
  rfl
theorem free_box {s : SWorld} {x y : Int} (h : freeS s x y = true) : 0 ≤ x ∧ x ≤ s.width - 1 ∧ 0 ≤ y ∧ y ≤ s.height - 1 := by
  unfold freeS inB at h
  simp only [Bool.and_eq_true, decide_eq_true_eq] at h
  omega
theorem mem_set_or {α : Type} {l : List α} {k : Nat} {a v : α} (h : v ∈ l.set k a) : v ∈ l ∨ v = a := List.mem_or_eq_of_mem_set h

/-- What a unit of the player 0 does, it does in the shade too. -/
theorem Far2.act0 {s : SWorld} {p q : SPlayer} {a b : Int} (h : Far2 s p q a b) (ha : a ≤ 3) (hb : b ≤ 3) (k : Nat) (u : SUnit) (what arg : ByteArray) (hu : 0 ≤ u.x ∧ 0 ≤ u.y ∧ u.x + u.y ≤ a) (hp : pendB what = true → u.x + u.y + 1 ≤ a) (he : ∀ v, (v.what = emptyB → pendI v = 0)) (hw : u.what = emptyB) :
    actS (shadeS s) 0 k p u what arg = shadeS (actS s 0 k p u what arg) ∧ ∃ p', Far2 (actS s 0 k p u what arg) p' q a b := by
  have hd := ahead_bd u.head
  have hf := h.free hb (x := u.x + dxI u.head) (y := u.y + dyI u.head) (by omega)
  have put : ∀ v : SUnit, v.what = emptyB → 0 ≤ v.x → 0 ≤ v.y → v.x + v.y ≤ a → ∀ m : Int, ∃ p', Far2 (s.setPl 0 { p with money := m, units := p.units.set k v }) p' q a b := by
    intro v hv h1 h2 h3 m
    refine ⟨_, h.set0 _ (fun w hw' => ?_)⟩
    rcases mem_set_or hw' with hw' | rfl
    · exact h.pu w hw'
    · rw [he w hv]; omega
  unfold actS
  simp only [hf]
  have g1 : (what.toList == [103, 111]) = true → pendB what = true := fun e => by unfold pendB goW; rw [e]; rfl
  have g2 : (what.toList == [98, 117, 105, 108, 100]) = true → pendB what = true := fun e => by unfold pendB buildW; rw [e]; simp
  by_cases c1 : (what.toList == [103, 111]) = true
  · simp only [c1, if_true]
    have hp1 := hp (g1 c1)
    split
    · rename_i hfr
      have := free_box hfr
      exact ⟨(shade_set s _).symm, put { u with x := u.x + dxI u.head, y := u.y + dyI u.head } hw (show 0 ≤ u.x + dxI u.head by omega) (show 0 ≤ u.y + dyI u.head by omega) (show u.x + dxI u.head + (u.y + dyI u.head) ≤ a by omega) p.money⟩
    · exact ⟨rfl, p, h⟩
  · simp only [c1, Bool.false_eq_true, if_false]
    by_cases c2 : (what.toList == [108, 101, 102, 116]) = true
    · simp only [c2, if_true]
      exact ⟨(shade_set s _).symm, put { u with head := (u.head + 1) % 4 } hw hu.1 hu.2.1 hu.2.2 p.money⟩
    · simp only [c2, Bool.false_eq_true, if_false]
      by_cases c3 : (what.toList == [98, 97, 99, 107]) = true
      · simp only [c3, if_true]
        exact ⟨(shade_set s _).symm, put { u with head := (u.head + 2) % 4 } hw hu.1 hu.2.1 hu.2.2 p.money⟩
      · simp only [c3, Bool.false_eq_true, if_false]
        by_cases c4 : (what.toList == [114, 105, 103, 104, 116]) = true
        · simp only [c4, if_true]
          exact ⟨(shade_set s _).symm, put { u with head := (u.head + 3) % 4 } hw hu.1 hu.2.1 hu.2.2 p.money⟩
        · simp only [c4, Bool.false_eq_true, if_false]
          by_cases c5 : (what.toList == [100, 105, 103]) = true
          · simp only [c5, if_true]
            split
            · have hdg := dig_near s.ore u.x u.y (by omega)
              have e : digB (shadeS s).ore u.x u.y = digB s.ore u.x u.y := hdg.1.symm
              rw [e]
              split
              · obtain ⟨p', hF⟩ := put { u with cargo := u.cargo + 1 } hw hu.1 hu.2.1 hu.2.2 p.money
                refine ⟨?_, p', hF.ore _⟩
                unfold shadeS SWorld.setPl
                simp only [List.take_set, hdg.2]
              · exact ⟨rfl, p, h⟩
            · exact ⟨rfl, p, h⟩
          · simp only [c5, Bool.false_eq_true, if_false]
            by_cases c6 : (what.toList == [115, 101, 108, 108]) = true
            · simp only [c6, if_true]
              exact ⟨(shade_set s _).symm, put { u with cargo := 0 } hw hu.1 hu.2.1 hu.2.2 _⟩
            · simp only [c6, Bool.false_eq_true, if_false]
              by_cases c7 : (what.toList == [99, 97, 108, 108]) = true
              · simp only [c7, if_true]
                split
                · exact ⟨(shade_set s _).symm, put { u with name := arg } hw hu.1 hu.2.1 hu.2.2 p.money⟩
                · exact ⟨rfl, p, h⟩
              · simp only [c7, Bool.false_eq_true, if_false]
                by_cases c8 : (what.toList == [98, 117, 105, 108, 100]) = true
                · simp only [c8, if_true]
                  have hp1 := hp (g2 c8)
                  split
                  · rename_i hfr
                    have := free_box hfr.2.2.2
                    refine ⟨(shade_set s _).symm, _, h.set0 _ (fun w hw' => ?_)⟩
                    rcases List.mem_append.1 hw' with hw' | hw'
                    · exact h.pu w hw'
                    · obtain rfl := List.mem_singleton.1 hw'
                      rw [he _ rfl]
                      simp only
                      omega
                  · exact ⟨rfl, p, h⟩
                · simp only [c8, Bool.false_eq_true, if_false]
                  exact ⟨trivial, p, h⟩

/-- What a unit of the player 1 does leaves the shade as it was. -/
theorem Far2.act1 {s : SWorld} {p q : SPlayer} {a b : Int} (h : Far2 s p q a b) (hb : b ≤ 3) (k : Nat) (u : SUnit) (what arg : ByteArray) (hu : u.x ≤ 9 ∧ u.y ≤ 9 ∧ 18 - u.x - u.y ≤ b) (hp : pendB what = true → 18 - u.x - u.y + 1 ≤ b) (he : ∀ v, (v.what = emptyB → pendI v = 0)) (hw : u.what = emptyB) :
    shadeS (actS s 1 k q u what arg) = shadeS s ∧ ∃ q', Far2 (actS s 1 k q u what arg) p q' a b := by
  have hd := ahead_bd u.head
  have put : ∀ v : SUnit, v.what = emptyB → v.x ≤ 9 → v.y ≤ 9 → 18 - v.x - v.y ≤ b → ∀ m : Int, ∃ q', Far2 (s.setPl 1 { q with money := m, units := q.units.set k v }) p q' a b := by
    intro v hv h1 h2 h3 m
    refine ⟨_, h.set1 _ (fun w hw' => ?_)⟩
    rcases mem_set_or hw' with hw' | rfl
    · exact h.qu w hw'
    · rw [he w hv]; omega
  have hwd := h.wd
  have hht := h.ht
  unfold actS
  simp only
  have g1 : (what.toList == [103, 111]) = true → pendB what = true := fun e => by unfold pendB goW; rw [e]; rfl
  have g2 : (what.toList == [98, 117, 105, 108, 100]) = true → pendB what = true := fun e => by unfold pendB buildW; rw [e]; simp
  by_cases c1 : (what.toList == [103, 111]) = true
  · simp only [c1, if_true]
    have hp1 := hp (g1 c1)
    split
    · rename_i hfr
      have := free_box hfr
      exact ⟨shade_set1 s _, put { u with x := u.x + dxI u.head, y := u.y + dyI u.head } hw (show u.x + dxI u.head ≤ 9 by omega) (show u.y + dyI u.head ≤ 9 by omega) (show 18 - (u.x + dxI u.head) - (u.y + dyI u.head) ≤ b by omega) q.money⟩
    · exact ⟨rfl, q, h⟩
  · simp only [c1, Bool.false_eq_true, if_false]
    by_cases c2 : (what.toList == [108, 101, 102, 116]) = true
    · simp only [c2, if_true]
      exact ⟨shade_set1 s _, put { u with head := (u.head + 1) % 4 } hw hu.1 hu.2.1 hu.2.2 q.money⟩
    · simp only [c2, Bool.false_eq_true, if_false]
      by_cases c3 : (what.toList == [98, 97, 99, 107]) = true
      · simp only [c3, if_true]
        exact ⟨shade_set1 s _, put { u with head := (u.head + 2) % 4 } hw hu.1 hu.2.1 hu.2.2 q.money⟩
      · simp only [c3, Bool.false_eq_true, if_false]
        by_cases c4 : (what.toList == [114, 105, 103, 104, 116]) = true
        · simp only [c4, if_true]
          exact ⟨shade_set1 s _, put { u with head := (u.head + 3) % 4 } hw hu.1 hu.2.1 hu.2.2 q.money⟩
        · simp only [c4, Bool.false_eq_true, if_false]
          by_cases c5 : (what.toList == [100, 105, 103]) = true
          · simp only [c5, if_true]
            split
            · split
              · obtain ⟨q', hF⟩ := put { u with cargo := u.cargo + 1 } hw hu.1 hu.2.1 hu.2.2 q.money
                refine ⟨?_, q', hF.ore _⟩
                have e := shade_set1 s { q with units := q.units.set k { u with cargo := u.cargo + 1 } }
                have d := dig_far s.ore u.x u.y (by omega)
                unfold shadeS SWorld.setPl at e ⊢
                simp only [d] at e ⊢
                exact e
              · exact ⟨rfl, q, h⟩
            · exact ⟨rfl, q, h⟩
          · simp only [c5, Bool.false_eq_true, if_false]
            by_cases c6 : (what.toList == [115, 101, 108, 108]) = true
            · simp only [c6, if_true]
              exact ⟨shade_set1 s _, put { u with cargo := 0 } hw hu.1 hu.2.1 hu.2.2 _⟩
            · simp only [c6, Bool.false_eq_true, if_false]
              by_cases c7 : (what.toList == [99, 97, 108, 108]) = true
              · simp only [c7, if_true]
                split
                · exact ⟨shade_set1 s _, put { u with name := arg } hw hu.1 hu.2.1 hu.2.2 q.money⟩
                · exact ⟨rfl, q, h⟩
              · simp only [c7, Bool.false_eq_true, if_false]
                by_cases c8 : (what.toList == [98, 117, 105, 108, 100]) = true
                · simp only [c8, if_true]
                  have hp1 := hp (g2 c8)
                  split
                  · rename_i hfr
                    have := free_box hfr.2.2.2
                    refine ⟨shade_set1 s _, _, h.set1 _ (fun w hw' => ?_)⟩
                    rcases List.mem_append.1 hw' with hw' | hw'
                    · exact h.qu w hw'
                    · obtain rfl := List.mem_singleton.1 hw'
                      rw [he _ rfl]
                      simp only
                      omega
                  · exact ⟨rfl, q, h⟩
                · simp only [c8, Bool.false_eq_true, if_false]
                  exact ⟨trivial, q, h⟩
theorem pend_of_empty (v : SUnit) (h : v.what = emptyB) : pendI v = 0 := by
  have := pend_empty v
  unfold pendI at this ⊢
  rw [h]
  exact this
theorem pend_le {u : SUnit} : pendB u.what = true → pendI u = 1 := fun h => by unfold pendI; rw [if_pos h]
theorem Far2.does0 {s : SWorld} {p q : SPlayer} {a b : Int} (h : Far2 s p q a b) (ha : a ≤ 3) (hb : b ≤ 3) (k : Nat) : doesS (shadeS s) 0 k = shadeS (doesS s 0 k) ∧ ∃ p', Far2 (doesS s 0 k) p' q a b := by
  have e0 : (shadeS s).players[0]? = some p := by show (s.players.take 1)[0]? = _; rw [h.pl]; rfl
  have e1 : s.players[0]? = some p := by rw [h.pl]; rfl
  unfold doesS
  rw [e0, e1]
  simp only
  cases hk : p.units[k]? with
  | none => exact ⟨rfl, p, h⟩
  | some u =>
    have hu := h.pu u (List.mem_of_getElem? hk)
    have hn := pendI_nn u
    simp only
    have h1 : Far2 (s.setPl 0 { p with units := p.units.set k { u with what := emptyB, arg := emptyB } }) { p with units := p.units.set k { u with what := emptyB, arg := emptyB } } q a b := h.set0 _ (fun w hw => by
      rcases mem_set_or hw with hw | rfl
      · exact h.pu w hw
      · rw [pend_empty]
        exact ⟨hu.1, hu.2.1, show u.x + u.y + 0 ≤ a by omega⟩)
    rw [← shade_set]
    exact h1.act0 ha hb k { u with what := emptyB, arg := emptyB } u.what u.arg ⟨hu.1, hu.2.1, show u.x + u.y ≤ a by omega⟩ (fun hp => by have := pend_le hp; show u.x + u.y + 1 ≤ a; omega) pend_of_empty rfl
theorem Far2.does1 {s : SWorld} {p q : SPlayer} {a b : Int} (h : Far2 s p q a b) (hb : b ≤ 3) (k : Nat) : shadeS (doesS s 1 k) = shadeS s ∧ ∃ q', Far2 (doesS s 1 k) p q' a b := by
  have e1 : s.players[1]? = some q := by rw [h.pl]; rfl
  unfold doesS
  rw [e1]
  simp only
  cases hk : q.units[k]? with
  | none => exact ⟨rfl, q, h⟩
  | some u =>
    have hu := h.qu u (List.mem_of_getElem? hk)
    have hn := pendI_nn u
    simp only
    have h1 : Far2 (s.setPl 1 { q with units := q.units.set k { u with what := emptyB, arg := emptyB } }) p { q with units := q.units.set k { u with what := emptyB, arg := emptyB } } a b := h.set1 _ (fun w hw => by
      rcases mem_set_or hw with hw | rfl
      · exact h.qu w hw
      · rw [pend_empty]
        exact ⟨hu.1, hu.2.1, show 18 - u.x - u.y + 0 ≤ b by omega⟩)
    obtain ⟨r1, r2⟩ := h1.act1 hb k { u with what := emptyB, arg := emptyB } u.what u.arg ⟨hu.1, hu.2.1, show 18 - u.x - u.y ≤ b by omega⟩ (fun hp => by have := pend_le hp; show 18 - u.x - u.y + 1 ≤ b; omega) pend_of_empty rfl
    exact ⟨r1.trans (shade_set1 s _), r2⟩
theorem Far2.units0 {s : SWorld} {p q : SPlayer} {a b : Int} (h : Far2 s p q a b) (ha : a ≤ 3) (hb : b ≤ 3) (j : Nat) : unitsTo (shadeS s) 0 j = shadeS (unitsTo s 0 j) ∧ ∃ p', Far2 (unitsTo s 0 j) p' q a b := by
  induction j with
  | zero => exact ⟨rfl, p, h⟩
  | succ j ih =>
    obtain ⟨e, p1, h1⟩ := ih
    obtain ⟨e2, p2, h2⟩ := h1.does0 ha hb j
    refine ⟨?_, p2, h2⟩
    show doesS (unitsTo (shadeS s) 0 j) 0 j = _
    rw [e, e2]
    rfl
theorem Far2.units1 {s : SWorld} {p q : SPlayer} {a b : Int} (h : Far2 s p q a b) (hb : b ≤ 3) (j : Nat) : shadeS (unitsTo s 1 j) = shadeS s ∧ ∃ q', Far2 (unitsTo s 1 j) p q' a b := by
  induction j with
  | zero => exact ⟨rfl, q, h⟩
  | succ j ih =>
    obtain ⟨e, q1, h1⟩ := ih
    obtain ⟨e2, q2, h2⟩ := h1.does1 hb j
    exact ⟨e2.trans e, q2, h2⟩
theorem Far2.tick {s : SWorld} {p q : SPlayer} {a b : Int} (h : Far2 s p q a b) (ha : a ≤ 3) (hb : b ≤ 3) : tickS (shadeS s) = shadeS (tickS s) ∧ ∃ p' q', Far2 (tickS s) p' q' a b := by
  have e0 : (shadeS s).players[0]? = some p := by show (s.players.take 1)[0]? = _; rw [h.pl]; rfl
  have e1 : s.players[0]? = some p := by rw [h.pl]; rfl
  have c0 : clearN s 0 = s.setPl 0 { p with news := [] } := by unfold clearN; rw [e1]
  have c1 : clearN (shadeS s) 0 = shadeS (clearN s 0) := by rw [c0, shade_set]; unfold clearN; rw [e0]
  have f0 : Far2 (clearN s 0) { p with news := [] } q a b := by rw [c0]; exact h.set0 _ h.pu
  have n0 : unitsN (clearN (shadeS s) 0) 0 = unitsN (clearN s 0) 0 := by
    rw [c1]
    unfold unitsN
    have a1 : (shadeS (clearN s 0)).players[0]? = some { p with news := [] } := by show ((clearN s 0).players.take 1)[0]? = _; rw [f0.pl]; rfl
    have a2 : (clearN s 0).players[0]? = some { p with news := [] } := by rw [f0.pl]; rfl
    rw [a1, a2]
  obtain ⟨r1, p1, f1⟩ := f0.units0 ha hb (unitsN (clearN s 0) 0)
  have P0 : playerS (shadeS s) 0 = shadeS (playerS s 0) := by unfold playerS; rw [n0, c1, r1]
  have F1 : Far2 (playerS s 0) p1 q a b := f1
  have d1 : clearN (playerS s 0) 1 = (playerS s 0).setPl 1 { q with news := [] } := by
    have : (playerS s 0).players[1]? = some q := by rw [F1.pl]; rfl
    unfold clearN
    rw [this]
  have F2 : Far2 (clearN (playerS s 0) 1) p1 { q with news := [] } a b := by rw [d1]; exact F1.set1 _ F1.qu
  obtain ⟨r2, q2, f2⟩ := F2.units1 hb (unitsN (clearN (playerS s 0) 1) 1)
  have P1 : shadeS (playerS (playerS s 0) 1) = shadeS (playerS s 0) := by
    unfold playerS at r2 ⊢
    rw [r2]
    show shadeS (clearN (playerS s 0) 1) = _
    rw [d1, shade_set1]
    rfl
  have l0 : (shadeS s).players.length = 1 := by show (s.players.take 1).length = _; rw [h.pl]; rfl
  have l1 : s.players.length = 2 := by rw [h.pl]; rfl
  rw [tickS_nil (s := shadeS s) h.lo, tickS_nil h.lo, l0, l1]
  have t1 : tickTo (shadeS s) 1 = playerS (shadeS s) 0 := rfl
  have t2 : tickTo s 2 = playerS (playerS s 0) 1 := rfl
  rw [t1, t2, P0, ← P1]
  exact ⟨rfl, p1, q2, ⟨f2.wd, f2.ht, f2.si, rfl, f2.pl, f2.pu, f2.qu⟩⟩
end Go.Proofs.YtlafddeoheambaaDoor

/-
  The orders of two players that stand far apart: what the player 0 orders, it orders in the shade too; what the player 1 orders leaves the shade as it was.
-/
namespace Go.Proofs.YtlafddeoheambaaDoor
open Go.RowKit

def pendL (b : List UInt8) : Bool := b == goW || b == buildW
def pendW (t : List UInt8) : Bool := match splitB t with
  | [_, b] => pendL b
  | [_, b, _] => pendL b
  | _ => false
def oneI (c : Bool) : Int := if c then 1 else 0
theorem oneI_nn (c : Bool) : 0 ≤ oneI c := by unfold oneI; split <;> omega
theorem Far2.mono {s : SWorld} {p q : SPlayer} {a b a' b' : Int} (h : Far2 s p q a b) (ha : a ≤ a') (hb : b ≤ b') : Far2 s p q a' b' :=
  ⟨h.wd, h.ht, h.si, h.lo, h.pl, fun u hu => by have := h.pu u hu; omega, fun u hu => by have := h.qu u hu; omega⟩
theorem pend_told (u : SUnit) (b c : List UInt8) : pendI { u with what := bytesOf b, arg := bytesOf c } = oneI (pendL b) := by
  unfold pendI pendB pendL oneI
  simp only [Lib.toList_data, bytesOf_toList]
theorem Far2.tell0 {s : SWorld} {p q : SPlayer} {a b : Int} (h : Far2 s p q a b) (x y z : List UInt8) :
    tellS (shadeS s) 0 p x y z = ((tellS s 0 p x y z).1, shadeS (tellS s 0 p x y z).2) ∧ ∃ p', Far2 (tellS s 0 p x y z).2 p' q (a + oneI (pendL y)) b := by
  have m := h.mono (a' := a + oneI (pendL y)) (b' := b) (by have := oneI_nn (pendL y); omega) (Int.le_refl _)
  unfold tellS
  split
  · exact ⟨rfl, p, m⟩
  · cases hk : p.units[(unitIx p.units (bytesOf x)).toNat]? with
    | none => exact ⟨rfl, p, m⟩
    | some u =>
      refine ⟨by rw [shade_set], _, m.set0 _ (fun w hw => ?_)⟩
      rcases mem_set_or hw with hw | rfl
      · exact m.pu w hw
      · have := h.pu u (List.mem_of_getElem? hk)
        have := pendI_nn u
        rw [pend_told]
        simp only
        omega
theorem Far2.tell1 {s : SWorld} {p q : SPlayer} {a b : Int} (h : Far2 s p q a b) (x y z : List UInt8) :
    shadeS (tellS s 1 q x y z).2 = shadeS s ∧ ∃ q', Far2 (tellS s 1 q x y z).2 p q' a (b + oneI (pendL y)) := by
  have m := h.mono (a' := a) (b' := b + oneI (pendL y)) (Int.le_refl _) (by have := oneI_nn (pendL y); omega)
  unfold tellS
  split
  · exact ⟨rfl, q, m⟩
  · cases hk : q.units[(unitIx q.units (bytesOf x)).toNat]? with
    | none => exact ⟨rfl, q, m⟩
    | some u =>
      refine ⟨shade_set1 s _, _, m.set1 _ (fun w hw => ?_)⟩
      rcases mem_set_or hw with hw | rfl
      · exact m.qu w hw
      · have := h.qu u (List.mem_of_getElem? hk)
        have := pendI_nn u
        rw [pend_told]
        simp only
        omega
theorem Far2.order0 {s : SWorld} {p q : SPlayer} {a b : Int} (h : Far2 s p q a b) (t : List UInt8) :
    orderS (shadeS s) 0 t = ((orderS s 0 t).1, shadeS (orderS s 0 t).2) ∧ ∃ p', Far2 (orderS s 0 t).2 p' q (a + oneI (pendW t)) b := by
  have e0 : (shadeS s).players = [p] := by show s.players.take 1 = _; rw [h.pl]; rfl
  have m := h.mono (a' := a + oneI (pendW t)) (b' := b) (by have := oneI_nn (pendW t); omega) (Int.le_refl _)
  have o1 : orderS (shadeS s) 0 t = wordsS (shadeS s) 0 p (splitB t) := by unfold orderS; rw [e0, if_pos (by simp)]; rfl
  have o2 : orderS s 0 t = wordsS s 0 p (splitB t) := by unfold orderS; rw [h.pl, if_pos (by simp)]; rfl
  rw [o1, o2]
  unfold wordsS
  unfold pendW at m ⊢
  split
  · rename_i x y hs
    rw [hs] at m
    simp only [hs]
    split
    · exact h.tell0 x y []
    · exact ⟨rfl, p, m⟩
  · rename_i x y z hs
    rw [hs] at m
    simp only [hs]
    split
    · rw [bidS_nil (s := shadeS s) h.lo, bidS_nil h.lo]
      exact ⟨rfl, p, m⟩
    · split
      · exact h.tell0 x y z
      · exact ⟨rfl, p, m⟩
  · exact ⟨rfl, p, m⟩
theorem Far2.order1 {s : SWorld} {p q : SPlayer} {a b : Int} (h : Far2 s p q a b) (t : List UInt8) :
    shadeS (orderS s 1 t).2 = shadeS s ∧ ∃ q', Far2 (orderS s 1 t).2 p q' a (b + oneI (pendW t)) := by
  have m := h.mono (a' := a) (b' := b + oneI (pendW t)) (Int.le_refl _) (by have := oneI_nn (pendW t); omega)
  have o2 : orderS s 1 t = wordsS s 1 q (splitB t) := by unfold orderS; rw [h.pl, if_pos (by simp)]; rfl
  rw [o2]
  unfold wordsS
  unfold pendW at m ⊢
  split
  · rename_i x y hs
    rw [hs] at m
    simp only [hs]
    split
    · exact h.tell1 x y []
    · exact ⟨rfl, q, m⟩
  · rename_i x y z hs
    rw [hs] at m
    simp only [hs]
    split
    · rw [bidS_nil h.lo]
      exact ⟨rfl, q, m⟩
    · split
      · exact h.tell1 x y z
      · exact ⟨rfl, q, m⟩
  · exact ⟨rfl, q, m⟩
end Go.Proofs.YtlafddeoheambaaDoor

/-
  The texts of acts, and how many steps their givers may go, said plainly.
-/
namespace Go.Proofs.YtlafddeoheambaaDoor
open Go.RowKit

def nmB (i : Int) : ByteArray := if i = 0 then ⟨#[97]⟩ else if i = 1 then ⟨#[98]⟩ else if i = 2 then ⟨#[206, 179]⟩ else if i = 3 then ⟨#[100]⟩ else ⟨#[101]⟩
def wdB (k : Int) : ByteArray :=
  if k = 0 then ⟨#[103, 111]⟩ else if k = 1 then ⟨#[103, 111]⟩ else if k = 2 then ⟨#[108, 101, 102, 116]⟩ else if k = 3 then ⟨#[114, 105, 103, 104, 116]⟩ else if k = 4 then ⟨#[98, 97, 99, 107]⟩
  else if k = 5 then ⟨#[100, 105, 103]⟩ else if k = 6 then ⟨#[100, 105, 103]⟩ else if k = 7 then ⟨#[115, 101, 108, 108]⟩ else if k = 8 then ⟨#[98, 117, 105, 108, 100]⟩ else ⟨#[99, 97, 108, 108]⟩
structure ActD where
  who : Int
  what : Int
  name : Int
def actCells (a : ActD) : List Value := [.int .i64 a.who, .int .i64 a.what, .int .i64 a.name]
structure ActD.ok (a : ActD) : Prop where
  who : -9223372036854775808 ≤ a.who ∧ a.who ≤ 9223372036854775807
  what : -9223372036854775808 ≤ a.what ∧ a.what ≤ 9223372036854775807
  name : -9223372036854775808 ≤ a.name ∧ a.name ≤ 9223372036854775807
def textOf (i k m : Int) : ByteArray := if 7 < k then nmB i ++ ⟨#[32]⟩ ++ wdB k ++ ⟨#[32]⟩ ++ nmB m else nmB i ++ ⟨#[32]⟩ ++ wdB k
def ActD.text (a : ActD) : ByteArray := textOf (pickI a.who 5) (pickI a.what 10) (pickI a.name 5)
def leftOf (i : Int) : ByteArray := nmB i ++ ⟨#[32, 108, 101, 102, 116]⟩
theorem nmB_size (i : Int) : (nmB i).size ≤ 2 := by
  unfold nmB
  repeat' split
  all_goals decide
theorem wdB_size (k : Int) : (wdB k).size ≤ 5 := by
  unfold wdB
  repeat' split
  all_goals decide
theorem textOf_size (i k m : Int) : (textOf i k m).size ≤ 20 := by
  have h1 := nmB_size i
  have h2 := nmB_size m
  have h3 := wdB_size k
  have h4 : (⟨#[32]⟩ : ByteArray).size = 1 := rfl
  unfold textOf
  split <;> (simp only [ByteArray.size_append, h4]; omega)
theorem leftOf_size (i : Int) : (leftOf i).size ≤ 20 := by
  have h1 := nmB_size i
  have h4 : (⟨#[32, 108, 101, 102, 116]⟩ : ByteArray).size = 5 := rfl
  unfold leftOf
  simp only [ByteArray.size_append, h4]
  omega
def ten : List Int := [0, 1, 2, 3, 4, 5, 6, 7, 8, 9]
def five : List Int := [0, 1, 2, 3, 4]
theorem in_five {i : Int} (h : 0 ≤ i ∧ i < 5) : i ∈ five := by
  obtain rfl | rfl | rfl | rfl | rfl : i = 0 ∨ i = 1 ∨ i = 2 ∨ i = 3 ∨ i = 4 := by omega
  all_goals decide
theorem in_ten {i : Int} (h : 0 ≤ i ∧ i < 10) : i ∈ ten := by
  obtain rfl | rfl | rfl | rfl | rfl | rfl | rfl | rfl | rfl | rfl : i = 0 ∨ i = 1 ∨ i = 2 ∨ i = 3 ∨ i = 4 ∨ i = 5 ∨ i = 6 ∨ i = 7 ∨ i = 8 ∨ i = 9 := by omega
  all_goals decide
set_option maxRecDepth 100000 in
theorem pend_all : ∀ i ∈ five, ∀ k ∈ ten, ∀ m ∈ five, pendW (textOf i k m).data.toList = (decide (k < 2) || decide (k = 8)) := by decide +kernel
set_option maxRecDepth 100000 in
theorem pend_left : ∀ i ∈ five, pendW (leftOf i).data.toList = false := by decide +kernel
/-- How far orders to go and to build may have led. -/
def capI (g b : Int) : Int := (if g < 2 then g else 2) + (if b < 1 then b else 1)
def nextG (a : ActD) (g : Int) : Int := if pickI a.what 10 < 2 then g + 1 else g
def nextB (a : ActD) (b : Int) : Int := if pickI a.what 10 = 8 then b + 1 else b
def nextT (a : ActD) (g b : Int) : ByteArray := if (pickI a.what 10 < 2 ∧ 2 < nextG a g) ∨ (pickI a.what 10 = 8 ∧ 1 < nextB a b) then leftOf (pickI a.who 5) else a.text
theorem nextT_size (a : ActD) (g b : Int) : (nextT a g b).size ≤ 20 := by
  unfold nextT ActD.text
  split
  · exact leftOf_size _
  · exact textOf_size _ _ _
theorem next_cap (a : ActD) (g b : Int) (hg : 0 ≤ g) (hb : 0 ≤ b) : capI (nextG a g) (nextB a b) = capI g b + oneI (pendW (nextT a g b).data.toList) := by
  have hi := pickI_bd a.who 5 (by omega)
  have hk := pickI_bd a.what 10 (by omega)
  have hm := pickI_bd a.name 5 (by omega)
  have p1 := pend_all _ (in_five hi) _ (in_ten hk) _ (in_five hm)
  have p2 := pend_left _ (in_five hi)
  unfold nextT
  split
  · rename_i hc
    rw [p2]
    unfold nextG nextB at *
    unfold capI oneI
    simp only [Bool.false_eq_true, if_false]
    split <;> split <;> (repeat' split) <;> omega
  · rename_i hc
    unfold ActD.text
    rw [p1]
    unfold nextG nextB at *
    unfold capI oneI
    by_cases c1 : pickI a.what 10 < 2
    · have c2 : ¬ pickI a.what 10 = 8 := by omega
      simp only [c1, c2, if_true, if_false, true_and, false_and, or_false, decide_true, Bool.true_or] at hc ⊢
      (repeat' split) <;> omega
    · by_cases c2 : pickI a.what 10 = 8
      · simp only [c2, if_true, true_and] at hc ⊢
        simp only [show ¬ ((8 : Int) < 2) by omega, if_false, false_and, false_or, decide_false, decide_true, Bool.or_true, if_true] at hc ⊢
        (repeat' split) <;> omega
      · simp only [c1, c2, if_false, decide_false, Bool.or_self, Bool.false_eq_true]
        omega
theorem cap_le (g b : Int) : capI g b ≤ 3 := by
  unfold capI
  (repeat' split) <;> omega
end Go.Proofs.YtlafddeoheambaaDoor

/-
  The functions name and Act.text of package hazekeep.
-/
namespace Go.Proofs.YtlafddeoheambaaDoor
open Go.RowKit

theorem cat_name3 {P : Program} (a b : ByteArray) (m n : Nat) (ha : a.size ≤ m) (hb : b.size ≤ n) (hmn : m + n ≤ 1000000000000) : ∃ s : ByteArray, s = a ++ b ∧ s.size ≤ m + n ∧ ∀ w, (Op.stringOp .add a b).run P w = .ok (.string s) w :=
  ⟨_, rfl, by rw [ByteArray.size_append]; omega, fun w => run_string_add_sum w a b (by omega)⟩
set_option maxRecDepth 100000 in
set_option maxHeartbeats 2000000 in
theorem kname_any (n : Int) (w : World) (h : -9223372036854775808 ≤ n ∧ n ≤ 9223372036854775807) :
    Calls Tryd.prog 28 #[.int .i64 n] w fun e w' => e = .returned (.string (nmB (pickI n 5))) ∧ Below w.heap.size w w' := by
  have hi := pickI_bd n 5 (by omega)
  have HP := hidOf (fun wx => kpick_any n 5 wx h.1 h.2 (by omega) (by omega))
  have HA : Hid (∀ o : Obj, Below w.heap.size w (w.alloc o)) := fun o => (Below.refl _ w).alloc (Nat.le_refl _) o
  obtain ⟨i, hie⟩ : ∃ i, i = pickI n 5 := ⟨_, rfl⟩
  rw [← hie] at hi HP ⊢
  clear hie h
  obtain rfl | rfl | rfl | rfl | rfl : i = 0 ∨ i = 1 ∨ i = 2 ∨ i = 3 ∨ i = 4 := by omega
  all_goals
    go_enter Tryd.func28, Tryd.ntmps28
    go_wp2_with fail
    refine (HP.out _).mono ?_
    rintro e w' ⟨rfl, h⟩
    rw [h]
    clear h w'
    go_wp2
    go_ret
    exact ⟨rfl, HA.out _⟩

def wordsA : Array Value := #[.string ⟨#[103, 111]⟩, .string ⟨#[103, 111]⟩, .string ⟨#[108, 101, 102, 116]⟩, .string ⟨#[114, 105, 103, 104, 116]⟩, .string ⟨#[98, 97, 99, 107]⟩, .string ⟨#[100, 105, 103]⟩, .string ⟨#[100, 105, 103]⟩, .string ⟨#[115, 101, 108, 108]⟩, .string ⟨#[98, 117, 105, 108, 100]⟩, .string ⟨#[99, 97, 108, 108]⟩]
theorem words_at (k : Nat) (h : k < 10) : wordsA[k]? = some (.string (wdB k)) := by
  obtain rfl | rfl | rfl | rfl | rfl | rfl | rfl | rfl | rfl | rfl : k = 0 ∨ k = 1 ∨ k = 2 ∨ k = 3 ∨ k = 4 ∨ k = 5 ∨ k = 6 ∨ k = 7 ∨ k = 8 ∨ k = 9 := by omega
  all_goals rfl
/-- The box of an act, and the list of words behind it. -/
structure ActBox (w wx : World) (a : ActD) (k : Nat) : Prop where
  b : Below w.heap.size w wx
  c0 : wx.cell? ⟨w.heap.size, 0, none⟩ = some (.int .i64 a.who)
  c1 : wx.cell? ⟨w.heap.size, 1, none⟩ = some (.int .i64 a.what)
  c2 : wx.cell? ⟨w.heap.size, 2, none⟩ = some (.int .i64 a.name)
  d : wx.cell? ⟨w.heap.size + 1, k, none⟩ = some (.string (wdB k))
  s : w.heap.size + 2 ≤ wx.heap.size
theorem ActBox.below {w wx w' : World} {a : ActD} {k : Nat} (h : ActBox w wx a k) (hb : Below wx.heap.size wx w') : ActBox w w' a k := by
  have hs := h.s
  exact ⟨h.b.trans (hb.mono h.b.size), (hb.cell (p := ⟨w.heap.size, 0, none⟩) (by show w.heap.size < _; omega)).trans h.c0, (hb.cell (p := ⟨w.heap.size, 1, none⟩) (by show w.heap.size < _; omega)).trans h.c1, (hb.cell (p := ⟨w.heap.size, 2, none⟩) (by show w.heap.size < _; omega)).trans h.c2, (hb.cell (p := ⟨w.heap.size + 1, k, none⟩) (by show w.heap.size + 1 < _; omega)).trans h.d, Nat.le_trans hs hb.size⟩
theorem ActBox.first (w : World) (a : ActD) (k : Nat) (hk : k < 10) : ActBox w ((w.alloc (.cells #[.int .i64 a.who, .int .i64 a.what, .int .i64 a.name] 39)).alloc (.cells wordsA 9)) a k := by
  have s1 : (w.alloc (.cells #[.int .i64 a.who, .int .i64 a.what, .int .i64 a.name] 39)).heap.size = w.heap.size + 1 := by simp
  have h1 := Go.heap_alloc_new w (.cells #[.int .i64 a.who, .int .i64 a.what, .int .i64 a.name] 39)
  have h2 := Go.heap_alloc_new (w.alloc (.cells #[.int .i64 a.who, .int .i64 a.what, .int .i64 a.name] 39)) (.cells wordsA 9)
  rw [s1] at h2
  have h1' : ((w.alloc (.cells #[.int .i64 a.who, .int .i64 a.what, .int .i64 a.name] 39)).alloc (.cells wordsA 9)).heap[w.heap.size]? = some (.cells #[.int .i64 a.who, .int .i64 a.what, .int .i64 a.name] 39 (0, 0)) := by rw [Below.heap_alloc _ _ _ (by omega), h1]
  refine ⟨((Below.refl _ w).alloc (Nat.le_refl _) _).alloc (by omega) _, ?_, ?_, ?_, ?_, by simp⟩
  · rw [cell_of_row _ _ _ _ _ _ h1']; rfl
  · rw [cell_of_row _ _ _ _ _ _ h1']; rfl
  · rw [cell_of_row _ _ _ _ _ _ h1']; rfl
  · rw [cell_of_row _ _ _ _ _ _ h2]; exact words_at k hk

set_option maxRecDepth 100000 in
set_option maxHeartbeats 4000000 in
theorem ktext_any (a : ActD) (ha : a.ok) (w : World) :
    Calls Tryd.prog 29 #[.agg #[.int .i64 a.who, .int .i64 a.what, .int .i64 a.name]] w fun e w' => e = .returned (.string a.text) ∧ Below w.heap.size w w' := by
  have hk := pickI_bd a.what 10 (by omega)
  obtain ⟨k, hke⟩ := Int.eq_ofNat_of_zero_le hk.1
  have hk10 : k < 10 := by omega
  have HP := hidOf (fun wx => kpick_any a.what 10 wx ha.what.1 ha.what.2 (by omega) (by omega))
  rw [hke] at HP
  obtain ⟨i, hi⟩ : ∃ i, i = nmB (pickI a.who 5) := ⟨_, rfl⟩
  obtain ⟨m, hm⟩ : ∃ m, m = nmB (pickI a.name 5) := ⟨_, rfl⟩
  obtain ⟨d, hd⟩ : ∃ d, d = wdB k := ⟨_, rfl⟩
  have zi : i.size ≤ 2 := by rw [hi]; exact nmB_size _
  have zm : m.size ≤ 2 := by rw [hm]; exact nmB_size _
  have zd : d.size ≤ 5 := by rw [hd]; exact wdB_size _
  obtain ⟨s1, e1, z1, a1⟩ := cat_name3 (P := Tryd.prog) i ⟨#[32]⟩ 2 1 zi (by decide) (by omega)
  obtain ⟨s2, e2, z2, a2⟩ := cat_name3 (P := Tryd.prog) s1 d 3 5 z1 zd (by omega)
  obtain ⟨s3, e3, z3, a3⟩ := cat_name3 (P := Tryd.prog) s2 ⟨#[32]⟩ 8 1 z2 (by decide) (by omega)
  obtain ⟨s4, e4, z4, a4⟩ := cat_name3 (P := Tryd.prog) s3 m 9 2 z3 zm (by omega)
  have fin : Hid (a.text = if 7 < (k : Int) then s4 else s2) := by
    unfold Hid ActD.text textOf
    rw [hke, e4, e3, e2, e1, hi, hm, hd]
  have HN : Hid (∀ wx : World, Calls Tryd.prog 28 #[.int .i64 a.who] wx fun e w' => e = .returned (.string i) ∧ Below wx.heap.size wx w') := fun wx => by rw [hi]; exact kname_any a.who wx ha.who
  have HM : Hid (∀ wx : World, Calls Tryd.prog 28 #[.int .i64 a.name] wx fun e w' => e = .returned (.string m) ∧ Below wx.heap.size wx w') := fun wx => by rw [hm]; exact kname_any a.name wx ha.name
  have HF := hidOf (ActBox.first w a k hk10)
  unfold wordsA at HF
  have HS : Hid (∀ wx, Hid (ActBox w wx a k) → wx.cell? ⟨w.heap.size, 0, none⟩ = some (.int .i64 a.who) ∧ wx.cell? ⟨w.heap.size + 1, k, none⟩ = some (.string d)) := fun wx h => ⟨h.out.c0, by rw [hd]; exact h.out.d⟩
  have c1 : ∀ o, ((w.alloc (.cells #[.int .i64 a.who, .int .i64 a.what, .int .i64 a.name] 39)).alloc o).cell? ⟨w.heap.size, 1, none⟩ = some (.int .i64 a.what) := fun o => by
    rw [World.cell?_of_block (Below.heap_alloc _ _ _ (by simp)), cell_of_row _ _ _ _ _ _ (Go.heap_alloc_new w _)]; rfl
  clear e1 e2 e3 e4 z1 z2 z3 z4 zi zm zd hi hm hd ha hk hke
  go_enter Tryd.func29, Tryd.ntmps29
  go_wp2_with fail
  refine (HP.out _).mono ?_
  rintro e w' ⟨rfl, h⟩
  rw [h]
  clear h w'
  go_wp2_with fail
  go_cut [5] (fun s wc => s = .string s2 ∧ Hid (ActBox w wc a k))
  case first =>
    have B0 := hidOf (HF.out.below (Below.refl _ _).drew)
    have S0 := HS.out _ B0
    have hk0 : (k : Int) < 10 := by omega
    clear HF c1
    go_region_held3 (fun w' => w'.cell? ⟨w.heap.size, 0, none⟩ = some (.int .i64 a.who) ∧ w'.cell? ⟨w.heap.size + 1, k, none⟩ = some (.string d)) (first | assumption | exact S0) (first | (go_at_call 28; refine (HN.out _).mono ?_; rintro e w2 ⟨rfl, hb2⟩; have B2 := hidOf (ActBox.below (Hid.out (by assumption)) hb2); have S2 := HS.out _ B2))
    all_goals
      go_wp2_with fail
      go_meet
      exact ⟨rfl, by assumption⟩
  case rest =>
    obtain ⟨rfl, Bc⟩ := hcut
    clear HF c1 HS a1 a2
    have c2 := Bc.out.c2
    by_cases h7 : (7 : Int) < (k : Int)
    · have fin' : Hid (a.text = s4) := by have := fin.out; rw [if_pos h7] at this; exact this
      clear fin
      go_wp2_with fail
      refine (HM.out _).mono ?_
      rintro e w3 ⟨rfl, hb3⟩
      have Bf := hidOf (Bc.out.below hb3).b
      clear c2 Bc hb3
      go_wp2
      go_ret
      exact ⟨by rw [fin'.out]; rfl, Bf.out⟩
    · have fin' : Hid (a.text = s2) := by have := fin.out; rw [if_neg h7] at this; exact this
      have Bf := hidOf Bc.out.b
      clear fin c2 Bc
      go_wp2
      go_ret
      exact ⟨by rw [fin'.out]; rfl, Bf.out⟩
end Go.Proofs.YtlafddeoheambaaDoor

/-
  The function steps.next of package hazekeep.
-/
namespace Go.Proofs.YtlafddeoheambaaDoor
open Go.RowKit

/-- How many orders to go and to build were given, as they lie in memory. -/
def StepsAt (w : World) (sb : Nat) (g b : Int) : Prop := w.heap[sb]? = some (.cells #[.int .i64 g, .int .i64 b] 36 (0, 0))
theorem StepsAt.below {w w' : World} {sb : Nat} {g b : Int} (h : StepsAt w sb g b) (hb : Below w.heap.size w w') : StepsAt w' sb g b := by
  unfold StepsAt at *
  rw [hb.block sb (lt_of_some h), h]
theorem StepsAt.set0 {w : World} {sb : Nat} {g b : Int} (h : StepsAt w sb g b) (x : Int) : StepsAt (w.setCell ⟨sb, 0, none⟩ (.int .i64 x)) sb x b := by
  unfold StepsAt at *
  simp only [World.setCell, Array.getElem?_modify, h]
  simp
theorem StepsAt.set1 {w : World} {sb : Nat} {g b : Int} (h : StepsAt w sb g b) (x : Int) : StepsAt (w.setCell ⟨sb, 1, none⟩ (.int .i64 x)) sb g x := by
  unfold StepsAt at *
  simp only [World.setCell, Array.getElem?_modify, h]
  simp

set_option maxRecDepth 100000 in
set_option maxHeartbeats 4000000 in
theorem knext_any (a : ActD) (ha : a.ok) (sb : Nat) (g b : Int) (w : World) (hs : StepsAt w sb g b) (hg : 0 ≤ g ∧ g ≤ 1000) (hb : 0 ≤ b ∧ b ≤ 1000) :
    Calls Tryd.prog 13 #[.pointer (some ⟨sb, 0, none⟩), .agg #[.int .i64 a.who, .int .i64 a.what, .int .i64 a.name]] w fun e w' => e = .returned (.string (nextT a g b)) ∧ Kept [sb] w w' ∧ StepsAt w' sb (nextG a g) (nextB a b) := by
  have hk := pickI_bd a.what 10 (by omega)
  obtain ⟨k, hke⟩ : ∃ k, k = pickI a.what 10 := ⟨_, rfl⟩
  have HP := hidOf (fun wx => kpick_any a.what 10 wx ha.what.1 ha.what.2 (by omega) (by omega))
  have HX := hidOf (fun wx => ktext_any a ha wx)
  obtain ⟨i, hi⟩ : ∃ i, i = nmB (pickI a.who 5) := ⟨_, rfl⟩
  have zi : i.size ≤ 2 := by rw [hi]; exact nmB_size _
  obtain ⟨s1, e1, z1, a1⟩ := cat_name3 (P := Tryd.prog) i ⟨#[32, 108, 101, 102, 116]⟩ 2 5 zi (by decide) (by omega)
  have HN : Hid (∀ wx : World, Calls Tryd.prog 28 #[.int .i64 a.who] wx fun e w' => e = .returned (.string i) ∧ Below wx.heap.size wx w') := fun wx => by rw [hi]; exact kname_any a.who wx ha.who
  have hsl := lt_of_some hs
  have hne : ¬ sb = w.heap.size := by omega
  have hne' : ¬ w.heap.size = sb := by omega
  have HL : Hid (leftOf (pickI a.who 5) = s1) := by unfold Hid leftOf; rw [e1, hi]
  obtain ⟨w1, hw1⟩ : ∃ w1, w1 = w.alloc (.cells #[.int .i64 a.who, .int .i64 a.what, .int .i64 a.name] 39) := ⟨_, rfl⟩
  have Hb1 : Below w.heap.size w w1 := by rw [hw1]; exact (Below.refl _ w).alloc (Nat.le_refl _) _
  have S1 := hs.below Hb1
  have r0 : w1.cell? ⟨sb, 0, none⟩ = some (.int .i64 g) := by rw [cell_of_row _ _ _ _ _ _ S1]; rfl
  have r1 : w1.cell? ⟨sb, 1, none⟩ = some (.int .i64 b) := by rw [cell_of_row _ _ _ _ _ _ S1]; rfl
  have f0 : w1.frozen? ⟨sb, 0, none⟩ = false := by simp only [World.frozen?, show w1.heap[sb]? = _ from S1]; rfl
  have f1 : w1.frozen? ⟨sb, 1, none⟩ = false := by simp only [World.frozen?, show w1.heap[sb]? = _ from S1]; rfl
  have hn1 : w1.heap[w.heap.size]? = some (.cells #[.int .i64 a.who, .int .i64 a.what, .int .i64 a.name] 39 (0, 0)) := by rw [hw1]; exact Go.heap_alloc_new w _
  have b0 : w1.cell? ⟨w.heap.size, 0, none⟩ = some (.int .i64 a.who) := by rw [cell_of_row _ _ _ _ _ _ hn1]; rfl
  have b1 : w1.cell? ⟨w.heap.size, 1, none⟩ = some (.int .i64 a.what) := by rw [cell_of_row _ _ _ _ _ _ hn1]; rfl
  have b2 : w1.cell? ⟨w.heap.size, 2, none⟩ = some (.int .i64 a.name) := by rw [cell_of_row _ _ _ _ _ _ hn1]; rfl
  have K0 := hidOf (Kept.of_below (F := [sb]) Hb1)
  have HS1 := hidOf S1
  rw [← hke] at HP hk
  have HE : Hid (nextG a g = (if k < 2 then g + 1 else g) ∧ nextB a b = (if k = 8 then b + 1 else b) ∧ nextT a g b = if (k < 2 ∧ 2 < (if k < 2 then g + 1 else g)) ∨ (k = 8 ∧ 1 < (if k = 8 then b + 1 else b)) then s1 else a.text) := by
    unfold Hid nextT nextG nextB
    rw [← hke, HL.out]
    exact ⟨rfl, rfl, rfl⟩
  clear hs S1 hi zi z1 e1 hke ha hn1 HL Hb1
  go_enter Tryd.func13, Tryd.ntmps13
  go_wp2_with fail
  refine (HP.out _).mono ?_
  rintro e w' ⟨rfl, h⟩
  rw [h, ← hw1]
  clear h w' hw1 HP
  by_cases k2 : k < 2
  · have k8 : ¬ k = 8 := by omega
    have HE1 := HE.out
    simp only [k2, k8, if_true, if_false, true_and, false_and, or_false] at HE1
    obtain ⟨eg, eb, et⟩ := HE1
    have K1 := hidOf (K0.out.setCell sb 0 (.int .i64 (g + 1)) (.inl (by simp)))
    have S2 := hidOf (HS1.out.set0 (g + 1))
    have EG := hidOf eg
    have EB := hidOf eb
    clear eg eb HE K0 HS1
    by_cases g2 : 2 < g + 1
    · rw [if_pos g2] at et
      have ET := hidOf et
      clear et
      go_wp2_with fail
      refine (HN.out _).mono ?_
      rintro e w3 ⟨rfl, hb3⟩
      have F1 := hidOf (K1.out.below hb3)
      have F2 := hidOf (S2.out.below hb3)
      clear K1 S2 hb3
      go_wp2
      go_ret
      exact ⟨by rw [ET.out]; rfl, F1.out, by rw [EG.out, EB.out]; exact F2.out⟩
    · rw [if_neg g2] at et
      have ET := hidOf et
      clear et
      go_wp2_with fail
      refine (HX.out _).mono ?_
      rintro e w3 ⟨rfl, hb3⟩
      have F1 := hidOf (K1.out.below hb3)
      have F2 := hidOf (S2.out.below hb3)
      clear K1 S2 hb3
      go_wp2
      go_ret
      exact ⟨by rw [ET.out]; rfl, F1.out, by rw [EG.out, EB.out]; exact F2.out⟩
  · by_cases k8 : k = 8
    · have HE1 := HE.out
      simp only [k8, if_true, if_false, true_and, false_and, false_or, show ¬ ((8 : Int) < 2) by omega] at HE1
      obtain ⟨eg, eb, et⟩ := HE1
      have K1 := hidOf (K0.out.setCell sb 1 (.int .i64 (b + 1)) (.inl (by simp)))
      have S2 := hidOf (HS1.out.set1 (b + 1))
      have EG := hidOf eg
      have EB := hidOf eb
      clear eg eb HE K0 HS1
      by_cases g2 : 1 < b + 1
      · rw [if_pos g2] at et
        have ET := hidOf et
        clear et
        go_wp2_with fail
        refine (HN.out _).mono ?_
        rintro e w3 ⟨rfl, hb3⟩
        have F1 := hidOf (K1.out.below hb3)
        have F2 := hidOf (S2.out.below hb3)
        clear K1 S2 hb3
        go_wp2
        go_ret
        exact ⟨by rw [ET.out]; rfl, F1.out, by rw [EG.out, EB.out]; exact F2.out⟩
      · rw [if_neg g2] at et
        have ET := hidOf et
        clear et
        go_wp2_with fail
        refine (HX.out _).mono ?_
        rintro e w3 ⟨rfl, hb3⟩
        have F1 := hidOf (K1.out.below hb3)
        have F2 := hidOf (S2.out.below hb3)
        clear K1 S2 hb3
        go_wp2
        go_ret
        exact ⟨by rw [ET.out]; rfl, F1.out, by rw [EG.out, EB.out]; exact F2.out⟩
    · have HE1 := HE.out
      simp only [k2, k8, if_false, false_and, or_self] at HE1
      obtain ⟨eg, eb, et⟩ := HE1
      have EG := hidOf eg
      have EB := hidOf eb
      have ET := hidOf et
      clear eg eb et HE
      go_wp2_with fail
      refine (HX.out _).mono ?_
      rintro e w3 ⟨rfl, hb3⟩
      have F1 := hidOf (K0.out.below hb3)
      have F2 := hidOf (HS1.out.below hb3)
      clear K0 HS1 hb3
      go_wp2
      go_ret
      exact ⟨by rw [ET.out]; rfl, F1.out, by rw [EG.out, EB.out]; exact F2.out⟩
end Go.Proofs.YtlafddeoheambaaDoor

/-
  Two worlds of the program side by side, and three counts of steps: what turns one leaves the others as they were.
-/
namespace Go.Proofs.YtlafddeoheambaaDoor
open Go.RowKit

theorem KIn.kept {w wx w' : World} {X : XW} {F : List Nat} (h : KIn w wx X) (K : Kept F wx w') (hF : ∀ r ∈ F, r ∉ X.foot ∧ w.heap.size ≤ r) : KIn w w' X := by
  refine ⟨⟨K.os.trans h.b.os, K.tape.trans h.b.tape, K.output.trans h.b.output, Nat.le_trans h.b.size K.size, fun k hk => ?_⟩, h.rep.same (fun r hr => K.block r (h.rep.lt r hr) (fun hm => (hF r hm).1 hr)), h.ok, h.g, h.n, h.sl, h.foot⟩
  rw [K.block k (Nat.lt_of_lt_of_le hk h.b.size) (fun hm => by have := (hF k hm).2; omega), h.b.block k hk]
theorem StepsAt.kept {w w' : World} {sb : Nat} {g b : Int} {F : List Nat} (h : StepsAt w sb g b) (K : Kept F w w') (hs : sb ∉ F) : StepsAt w' sb g b := by
  unfold StepsAt at *
  rw [K.block sb (lt_of_some h) hs, h]
theorem KIn.order2 {w wx : World} {X : XW} (h : KIn w wx X) (n : Int) (t : ByteArray) (hs : t.size ≤ 2000000) :
    Calls Tryd.prog 9 #[.pointer (some ⟨X.b, 0, none⟩), .int .i64 n, .string t] wx fun e w' => e = .returned (.int .i64 (orderS X.S n t.data.toList).1) ∧ ∃ X', TurnX wx X w' X' ∧ KIn w w' X' ∧ X'.S = (orderS X.S n t.data.toList).2 := by
  refine (xorder_c wx X n t h.rep h.ok h.g h.n h.sl hs).mono ?_
  rintro e w' ⟨rfl, X', T, ok, hS, n', sl⟩
  exact ⟨rfl, X', T, h.turn T ok (by rw [hS]; exact h.g.order n t.data.toList (by rw [Array.length_toList]; exact hs)) n' sl, hS⟩
theorem KIn.tick2 {w wx : World} {X : XW} (h : KIn w wx X) :
    Calls Tryd.prog 10 #[.pointer (some ⟨X.b, 0, none⟩)] wx fun e w' => e = .returned (.int .i64 (tickC X.S)) ∧ ∃ X', TurnX wx X w' X' ∧ KIn w w' X' ∧ X'.S = tickN X.S := by
  refine (xtick_c wx X h.rep h.ok h.g h.n h.sl).mono ?_
  rintro e w' ⟨rfl, X', T, ok, hS, n', sl⟩
  exact ⟨rfl, X', T, h.turn T ok (by rw [hS]; exact h.g.tickN) n' sl, hS⟩
theorem KIn.view2 {w wx : World} {X : XW} (h : KIn w wx X) (n : Int) (ht : Tab w) :
    Calls Tryd.prog 12 #[.pointer (some ⟨X.b, 0, none⟩), .int .i64 n] wx fun e w' => e = .returned (.string (viewS X.S n).1) ∧ Below wx.heap.size wx w' :=
  kview_any wx X n h.rep (ht.below h.b ht.lt) h.ok h.g h.n h.sl

/-- Two worlds apart from one another. -/
structure Two (w wx : World) (X Z : XW) : Prop where
  x : KIn w wx X
  z : KIn w wx Z
  d : ∀ r ∈ X.foot, r ∉ Z.foot
theorem Two.swap {w wx : World} {X Z : XW} (h : Two w wx X Z) : Two w wx Z X := ⟨h.z, h.x, fun r hr hm => h.d r hm hr⟩
theorem Two.below {w wx w' : World} {X Z : XW} (h : Two w wx X Z) (hb : Below wx.heap.size wx w') : Two w w' X Z := ⟨h.x.below hb, h.z.below hb, h.d⟩
theorem Two.turn {w wx w' : World} {X X' Z : XW} (h : Two w wx X Z) (T : TurnX wx X w' X') (K : KIn w w' X') : Two w w' X' Z := by
  refine ⟨K, h.z.kept T.kept (fun r hr => ⟨h.d r hr, h.x.foot r hr⟩), fun r hr hm => ?_⟩
  rcases T.ext r hr with h' | h'
  · exact h.d r h' hm
  · have := h.z.rep.lt r hm
    omega
theorem Two.kept {w wx w' : World} {X Z : XW} {F : List Nat} (h : Two w wx X Z) (K : Kept F wx w') (hF : ∀ r ∈ F, r ∉ X.foot ∧ r ∉ Z.foot ∧ w.heap.size ≤ r) : Two w w' X Z :=
  ⟨h.x.kept K (fun r hr => ⟨(hF r hr).1, (hF r hr).2.2⟩), h.z.kept K (fun r hr => ⟨(hF r hr).2.1, (hF r hr).2.2⟩), h.d⟩

/-- .. with three counts of steps beside them. -/
structure Hid2 (w wx : World) (X Z : XW) (sa sb sc : Nat) (g0 b0 g1 b1 g2 b2 : Int) : Prop where
  t : Two w wx X Z
  a : StepsAt wx sa g0 b0
  b : StepsAt wx sb g1 b1
  c : StepsAt wx sc g2 b2
  lo : w.heap.size ≤ sa ∧ w.heap.size ≤ sb ∧ w.heap.size ≤ sc
  ne : sa ≠ sb ∧ sa ≠ sc ∧ sb ≠ sc
  nx : sa ∉ X.foot ∧ sb ∉ X.foot ∧ sc ∉ X.foot
  nz : sa ∉ Z.foot ∧ sb ∉ Z.foot ∧ sc ∉ Z.foot
section
variable {w wx w' : World} {X Z : XW} {sa sb sc : Nat} {g0 b0 g1 b1 g2 b2 : Int}
theorem Hid2.below (h : Hid2 w wx X Z sa sb sc g0 b0 g1 b1 g2 b2) (hb : Below wx.heap.size wx w') : Hid2 w w' X Z sa sb sc g0 b0 g1 b1 g2 b2 :=
  ⟨h.t.below hb, h.a.below hb, h.b.below hb, h.c.below hb, h.lo, h.ne, h.nx, h.nz⟩
theorem Hid2.turnX {X' : XW} (h : Hid2 w wx X Z sa sb sc g0 b0 g1 b1 g2 b2) (T : TurnX wx X w' X') (K : KIn w w' X') : Hid2 w w' X' Z sa sb sc g0 b0 g1 b1 g2 b2 := by
  have nf : ∀ r, r < wx.heap.size → r ∉ X.foot → r ∉ X'.foot := fun r hr h1 hm => by
    rcases T.ext r hm with h' | h'
    · exact h1 h'
    · omega
  exact ⟨h.t.turn T K, h.a.kept T.kept h.nx.1, h.b.kept T.kept h.nx.2.1, h.c.kept T.kept h.nx.2.2, h.lo, h.ne, ⟨nf _ (lt_of_some h.a) h.nx.1, nf _ (lt_of_some h.b) h.nx.2.1, nf _ (lt_of_some h.c) h.nx.2.2⟩, h.nz⟩
theorem Hid2.turnZ {Z' : XW} (h : Hid2 w wx X Z sa sb sc g0 b0 g1 b1 g2 b2) (T : TurnX wx Z w' Z') (K : KIn w w' Z') : Hid2 w w' X Z' sa sb sc g0 b0 g1 b1 g2 b2 := by
  have nf : ∀ r, r < wx.heap.size → r ∉ Z.foot → r ∉ Z'.foot := fun r hr h1 hm => by
    rcases T.ext r hm with h' | h'
    · exact h1 h'
    · omega
  exact ⟨(h.t.swap.turn T K).swap, h.a.kept T.kept h.nz.1, h.b.kept T.kept h.nz.2.1, h.c.kept T.kept h.nz.2.2, h.lo, h.ne, h.nx, ⟨nf _ (lt_of_some h.a) h.nz.1, nf _ (lt_of_some h.b) h.nz.2.1, nf _ (lt_of_some h.c) h.nz.2.2⟩⟩
theorem Hid2.setA {g b : Int} (h : Hid2 w wx X Z sa sb sc g0 b0 g1 b1 g2 b2) (K : Kept [sa] wx w') (S : StepsAt w' sa g b) : Hid2 w w' X Z sa sb sc g b g1 b1 g2 b2 :=
  ⟨h.t.kept K (fun r hr => by obtain rfl := List.mem_singleton.1 hr; exact ⟨h.nx.1, h.nz.1, h.lo.1⟩), S, h.b.kept K (by simp [h.ne.1.symm]), h.c.kept K (by simp [h.ne.2.1.symm]), h.lo, h.ne, h.nx, h.nz⟩
theorem Hid2.setB {g b : Int} (h : Hid2 w wx X Z sa sb sc g0 b0 g1 b1 g2 b2) (K : Kept [sb] wx w') (S : StepsAt w' sb g b) : Hid2 w w' X Z sa sb sc g0 b0 g b g2 b2 :=
  ⟨h.t.kept K (fun r hr => by obtain rfl := List.mem_singleton.1 hr; exact ⟨h.nx.2.1, h.nz.2.1, h.lo.2.1⟩), h.a.kept K (by simp [h.ne.1]), S, h.c.kept K (by simp [h.ne.2.2.symm]), h.lo, h.ne, h.nx, h.nz⟩
theorem Hid2.setC {g b : Int} (h : Hid2 w wx X Z sa sb sc g0 b0 g1 b1 g2 b2) (K : Kept [sc] wx w') (S : StepsAt w' sc g b) : Hid2 w w' X Z sa sb sc g0 b0 g1 b1 g b :=
  ⟨h.t.kept K (fun r hr => by obtain rfl := List.mem_singleton.1 hr; exact ⟨h.nx.2.2, h.nz.2.2, h.lo.2.2⟩), h.a.kept K (by simp [h.ne.2.1]), h.b.kept K (by simp [h.ne.2.2]), S, h.lo, h.ne, h.nx, h.nz⟩
end
end Go.Proofs.YtlafddeoheambaaDoor

/-
  What Hidden plays, said plainly.
-/
namespace Go.Proofs.YtlafddeoheambaaDoor
open Go.RowKit

def digText : List UInt8 := [97, 32, 100, 105, 103]
def firstView : ByteArray := ⟨#[116, 105, 99, 107, 32, 49, 32, 109, 111, 110, 101, 121, 32, 49, 48, 48, 10, 117, 110, 105, 116, 32, 97, 32, 48, 32, 48, 32, 101, 32, 99, 97, 114, 103, 111, 32, 49, 10, 111, 114, 101, 32, 48, 32, 48, 32, 56, 10, 111, 114, 101, 32, 49, 32, 48, 32, 51, 10]⟩
theorem hid_newB : newB 10 10 2 (oreOf (10 - 1)) ((cornersOf (10 - 1)).take 2) = true := by decide
def hidU (b : ByteArray) (c : Int) : SUnit := { name := firstU.bytesA, x := 0, y := 0, head := 0, cargo := c, what := b, arg := emptyB }
def hidP (b : ByteArray) (c : Int) : SPlayer := { money := 100, units := [hidU b c], bids := [], news := [] }
def hidS (n : Int) (b : ByteArray) (c m : Int) : SWorld := { width := 10, height := 10, sight := 2, now := n, ore := [⟨0, 0, m⟩, ⟨1, 0, 3⟩, ⟨9, 9, 99⟩, ⟨9, 8, 2⟩], players := [hidP b c, firstP ⟨9, 9, 0⟩], lots := [] }
theorem hid_first : begunS 10 2 2 = hidS 0 emptyB 0 9 := by rfl
theorem hid_order : orderS (hidS 0 emptyB 0 9) 0 digText = (0, hidS 0 (bytesOf [100, 105, 103]) 0 9) := by
  have sp : splitB digText = [[97], [100, 105, 103]] := by decide
  have nm : nameB [97] = true := by decide
  have pl : plainB [100, 105, 103] = true := by simp only [plainB, amongB, eqS, Lib.toList_data]; decide
  have ix : unitIx (hidP emptyB 0).units (bytesOf [97]) = 0 := by simp [unitIx, hidP, hidU, ixOf, eqS, Lib.toList_data, firstU.bytesA, bytesOf]
  unfold orderS
  rw [if_pos (by simp [hidS])]
  show wordsS _ 0 (hidP emptyB 0) _ = _
  rw [sp]
  unfold wordsS
  simp only [nm, pl, Bool.and_self, if_true]
  unfold tellS
  rw [ix]
  rfl
theorem hid_tick : tickS (hidS 0 (bytesOf [100, 105, 103]) 0 9) = hidS 1 emptyB 1 8 := by
  have two : ∀ (s : SWorld) (p : SPlayer), s.players = [p, firstP ⟨9, 9, 0⟩] → playerS s 1 = s := by
    intro s p hp
    have hc : clearN s 1 = s := by
      unfold clearN
      rw [hp]
      cases s
      simp only at hp
      subst hp
      rfl
    unfold playerS
    rw [hc]
    have hu : unitsN s 1 = 1 := by unfold unitsN; rw [hp]; rfl
    rw [hu]
    show doesS s 1 0 = s
    unfold doesS
    rw [hp]
    cases s
    simp only at hp
    subst hp
    simp [firstP, firstU, actS, emptyB, Lib.toList_data, SWorld.setPl]
  have one : playerS (hidS 0 (bytesOf [100, 105, 103]) 0 9) 0 = hidS 0 emptyB 1 8 := by
    show doesS (hidS 0 (bytesOf [100, 105, 103]) 0 9) 0 0 = _
    have hd : doesS (hidS 0 (bytesOf [100, 105, 103]) 0 9) 0 0 = actS (hidS 0 emptyB 0 9) 0 0 (hidP emptyB 0) (hidU emptyB 0) (bytesOf [100, 105, 103]) emptyB := rfl
    rw [hd]
    unfold actS
    simp only [Lib.toList_data, bytesOf_toList]
    rw [if_neg (by decide), if_neg (by decide), if_neg (by decide), if_neg (by decide), if_pos (by decide)]
    rw [if_pos (by decide), if_pos (by decide)]
    rfl
  rw [tickS_nil rfl]
  have tt : tickTo (hidS 0 (bytesOf [100, 105, 103]) 0 9) 2 = playerS (playerS (hidS 0 (bytesOf [100, 105, 103]) 0 9) 0) 1 := rfl
  have hl : (hidS 0 (bytesOf [100, 105, 103]) 0 9).players.length = 2 := rfl
  rw [hl, tt, one, two _ _ rfl]
  rfl
theorem hid_view : viewS (hidS 1 emptyB 1 8) 0 = (firstView, 0) := by decide +kernel

theorem order_now (s : SWorld) (n : Int) (t : List UInt8) : (orderS s n t).2.now = s.now := by
  unfold orderS
  split
  · split
    · rfl
    · rename_i p hp
      unfold wordsS bidS
      repeat' split
      all_goals first
        | rfl
        | exact (tell_bn _ _ _ _ _ _ hp).2.2
  · rfl
/-- The two worlds that Hidden holds: in the shade they are one. -/
structure HidR (s t : SWorld) (j : Nat) (g0 b0 g1 b1 g2 b2 : Int) : Prop where
  f : ∃ p q, Far2 s p q (capI g0 b0) (capI g1 b1)
  f' : ∃ p q, Far2 t p q (capI g0 b0) (capI g2 b2)
  sh : shadeS s = shadeS t
  now : s.now = (j : Int) + 1
section
variable {s t : SWorld} {j : Nat} {g0 b0 g1 b1 g2 b2 : Int}
theorem HidR.now' (h : HidR s t j g0 b0 g1 b1 g2 b2) : t.now = (j : Int) + 1 := by
  have : (shadeS s).now = (shadeS t).now := by rw [h.sh]
  exact this.symm.trans h.now
theorem HidR.order0 (h : HidR s t j g0 b0 g1 b1 g2 b2) (a : ActD) (hg : 0 ≤ g0) (hb : 0 ≤ b0) :
    (orderS s 0 (nextT a g0 b0).data.toList).1 = (orderS t 0 (nextT a g0 b0).data.toList).1 ∧ HidR (orderS s 0 (nextT a g0 b0).data.toList).2 (orderS t 0 (nextT a g0 b0).data.toList).2 j (nextG a g0) (nextB a b0) g1 b1 g2 b2 := by
  obtain ⟨p, q, f⟩ := h.f
  obtain ⟨p', q', f'⟩ := h.f'
  obtain ⟨e1, p1, F1⟩ := f.order0 (nextT a g0 b0).data.toList
  obtain ⟨e2, p2, F2⟩ := f'.order0 (nextT a g0 b0).data.toList
  rw [h.sh] at e1
  have e := Prod.mk.inj (e1.symm.trans e2)
  rw [← next_cap a g0 b0 hg hb] at F1 F2
  exact ⟨e.1, ⟨p1, q, F1⟩, ⟨p2, q', F2⟩, e.2, (order_now _ _ _).trans h.now⟩
theorem HidR.order1 (h : HidR s t j g0 b0 g1 b1 g2 b2) (a : ActD) (hg : 0 ≤ g1) (hb : 0 ≤ b1) :
    HidR (orderS s 1 (nextT a g1 b1).data.toList).2 t j g0 b0 (nextG a g1) (nextB a b1) g2 b2 := by
  obtain ⟨p, q, f⟩ := h.f
  obtain ⟨e1, q1, F1⟩ := f.order1 (nextT a g1 b1).data.toList
  rw [← next_cap a g1 b1 hg hb] at F1
  exact ⟨⟨p, q1, F1⟩, h.f', e1.trans h.sh, (order_now _ _ _).trans h.now⟩
theorem HidR.order2 (h : HidR s t j g0 b0 g1 b1 g2 b2) (a : ActD) (hg : 0 ≤ g2) (hb : 0 ≤ b2) :
    HidR s (orderS t 1 (nextT a g2 b2).data.toList).2 j g0 b0 g1 b1 (nextG a g2) (nextB a b2) := by
  obtain ⟨p, q, f⟩ := h.f'
  obtain ⟨e1, q1, F1⟩ := f.order1 (nextT a g2 b2).data.toList
  rw [← next_cap a g2 b2 hg hb] at F1
  exact ⟨h.f, ⟨p, q1, F1⟩, h.sh.trans e1.symm, h.now⟩
theorem HidR.tick (h : HidR s t j g0 b0 g1 b1 g2 b2) : HidR (tickS s) (tickS t) (j + 1) g0 b0 g1 b1 g2 b2 := by
  obtain ⟨p, q, f⟩ := h.f
  obtain ⟨p', q', f'⟩ := h.f'
  obtain ⟨e1, p1, q1, F1⟩ := f.tick (cap_le _ _) (cap_le _ _)
  obtain ⟨e2, p2, q2, F2⟩ := f'.tick (cap_le _ _) (cap_le _ _)
  refine ⟨⟨p1, q1, F1⟩, ⟨p2, q2, F2⟩, by rw [← e1, ← e2, h.sh], ?_⟩
  rw [tickS_nil f.lo]
  show s.now + 1 = _
  rw [h.now]
  omega
theorem HidR.view (h : HidR s t j g0 b0 g1 b1 g2 b2) : (viewS s 0).1 = (viewS t 0).1 ∧ 0 < (viewS s 0).1.size := by
  obtain ⟨p, q, f⟩ := h.f
  obtain ⟨p', q', f'⟩ := h.f'
  have e1 := f.view (cap_le _ _) (cap_le _ _)
  have e2 := f'.view (cap_le _ _) (cap_le _ _)
  refine ⟨by rw [← e1, ← e2, h.sh], ?_⟩
  unfold viewS
  rw [f.pl]
  simp only [List.length_cons, List.length_nil]
  rw [if_pos (by omega)]
  show 0 < (bytesOf (viewL s 0 p)).size
  rw [bytesOf_size]
  unfold viewL ownL tickL lineL
  simp only [List.length_append, List.length_cons, List.length_nil]
  omega
theorem HidR.codes (h : HidR s t j g0 b0 g1 b1 g2 b2) (hj : j < 900) : tickC s = 0 ∧ tickN s = tickS s ∧ tickC t = 0 ∧ tickN t = tickS t := by
  have h1 : ¬ s.now = 1000 := by rw [h.now]; omega
  have h2 : ¬ t.now = 1000 := by rw [h.now']; omega
  unfold tickC tickN
  rw [if_neg h1, if_neg h1, if_neg h2, if_neg h2]
  exact ⟨rfl, rfl, rfl, rfl⟩
end
theorem HidR.first : HidR (hidS 1 emptyB 1 8) (hidS 1 emptyB 1 8) 0 0 0 0 0 0 0 := by
  have f : Far2 (hidS 1 emptyB 1 8) (hidP emptyB 1) (firstP ⟨9, 9, 0⟩) (capI 0 0) (capI 0 0) := by
    refine ⟨rfl, rfl, rfl, rfl, rfl, fun u hu => ?_, fun u hu => ?_⟩
    · obtain rfl := List.mem_singleton.1 hu
      rw [pend_of_empty _ rfl]
      decide
    · obtain rfl := List.mem_singleton.1 hu
      rw [pend_of_empty _ rfl]
      decide
  exact ⟨⟨_, _, f⟩, ⟨_, _, f⟩, rfl, rfl⟩
end Go.Proofs.YtlafddeoheambaaDoor

/-
  The function Hidden of package hazekeep.
-/
namespace Go.Proofs.YtlafddeoheambaaDoor
open Go.RowKit

/-- Acts that are handed in. -/
def ActsIn (w : World) (v : Value) (ds : List ActD) : Prop :=
  ∃ ao cap, v = .slice ao ds.length cap ∧ ds.length ≤ 9223372036854775807 ∧ (0 < ds.length → ∃ b off, ao = some ⟨b, off, none⟩ ∧ b < w.heap.size ∧ ∀ (j : Nat) u, (ds.flatMap actCells)[j]? = some u → w.cell? ⟨b, off + j, none⟩ = some u)
theorem acts_cell {w wx : World} {b off : Nat} {ds : List ActD} (hb : b < w.heap.size) (hB : Below w.heap.size w wx) (hc : ∀ (j : Nat) u, (ds.flatMap actCells)[j]? = some u → w.cell? ⟨b, off + j, none⟩ = some u) (k : Nat) (hk : k < ds.length) :
    wx.cell? ⟨b, off + k * 3, none⟩ = some (.int .i64 ds[k].who) ∧ wx.cell? ⟨b, off + k * 3 + 1, none⟩ = some (.int .i64 ds[k].what) ∧ wx.cell? ⟨b, off + k * 3 + 2, none⟩ = some (.int .i64 ds[k].name) := by
  have f := fun j (hj : j < 3) => flat_at actCells 3 (fun _ => rfl) ds k j hk hj
  have g := fun j (hj : j < 3) u (hu : (actCells ds[k])[j]? = some u) => (hB.cell (p := ⟨b, off + (k * 3 + j), none⟩) hb).trans (hc (k * 3 + j) u ((f j hj).trans hu))
  exact ⟨g 0 (by omega) _ rfl, g 1 (by omega) _ rfl, g 2 (by omega) _ rfl⟩
end Go.Proofs.YtlafddeoheambaaDoor

/-
  What the calls of Hidden leave of the two worlds and the counts.
-/
namespace Go.Proofs.YtlafddeoheambaaDoor
open Go.RowKit

theorem two_first {w w1 w2 : World} {X Z : XW} (K0 : KIn w w1 X) (K1 : KIn w1 w2 Z) : Two w w2 X Z := by
  refine ⟨K0.below K1.b, ⟨K0.b.trans (K1.b.mono K0.b.size), K1.rep, K1.ok, K1.g, K1.n, K1.sl, fun r hr => Nat.le_trans K0.b.size (K1.foot r hr)⟩, fun r hr hm => ?_⟩
  have := K0.rep.lt r hr
  have := K1.foot r hm
  omega
section
variable {w wx : World} {X Z : XW} {b : Nat}
theorem Two.orderL (h : Two w wx X Z) (hb : X.b = b) (n : Int) (t : ByteArray) (hs : t.size ≤ 2000000) :
    Calls Tryd.prog 9 #[.pointer (some ⟨b, 0, none⟩), .int .i64 n, .string t] wx fun e w' => e = .returned (.int .i64 (orderS X.S n t.data.toList).1) ∧ ∃ X', Two w w' X' Z ∧ X'.b = b ∧ X'.S = (orderS X.S n t.data.toList).2 := by
  subst hb
  refine (h.x.order2 n t hs).mono ?_
  rintro e w' ⟨rfl, X', T, K, hS⟩
  exact ⟨rfl, X', h.turn T K, T.b, hS⟩
theorem Two.orderR (h : Two w wx X Z) (hb : Z.b = b) (n : Int) (t : ByteArray) (hs : t.size ≤ 2000000) :
    Calls Tryd.prog 9 #[.pointer (some ⟨b, 0, none⟩), .int .i64 n, .string t] wx fun e w' => e = .returned (.int .i64 (orderS Z.S n t.data.toList).1) ∧ ∃ Z', Two w w' X Z' ∧ Z'.b = b ∧ Z'.S = (orderS Z.S n t.data.toList).2 := by
  refine (h.swap.orderL hb n t hs).mono ?_
  rintro e w' ⟨rfl, Z', T, hb', hS⟩
  exact ⟨rfl, Z', T.swap, hb', hS⟩
theorem Two.tickL (h : Two w wx X Z) (hb : X.b = b) :
    Calls Tryd.prog 10 #[.pointer (some ⟨b, 0, none⟩)] wx fun e w' => e = .returned (.int .i64 (tickC X.S)) ∧ ∃ X', Two w w' X' Z ∧ X'.b = b ∧ X'.S = tickN X.S := by
  subst hb
  refine h.x.tick2.mono ?_
  rintro e w' ⟨rfl, X', T, K, hS⟩
  exact ⟨rfl, X', h.turn T K, T.b, hS⟩
theorem Two.tickR (h : Two w wx X Z) (hb : Z.b = b) :
    Calls Tryd.prog 10 #[.pointer (some ⟨b, 0, none⟩)] wx fun e w' => e = .returned (.int .i64 (tickC Z.S)) ∧ ∃ Z', Two w w' X Z' ∧ Z'.b = b ∧ Z'.S = tickN Z.S := by
  refine (h.swap.tickL hb).mono ?_
  rintro e w' ⟨rfl, Z', T, hb', hS⟩
  exact ⟨rfl, Z', T.swap, hb', hS⟩
theorem Two.viewL (h : Two w wx X Z) (hb : X.b = b) (n : Int) (ht : Tab w) :
    Calls Tryd.prog 12 #[.pointer (some ⟨b, 0, none⟩), .int .i64 n] wx fun e w' => e = .returned (.string (viewS X.S n).1) ∧ Two w w' X Z := by
  subst hb
  refine (h.x.view2 n ht).mono ?_
  rintro e w' ⟨rfl, hb⟩
  exact ⟨rfl, h.below hb⟩
end
/-- Hidden's two worlds, the counts beside them, and what is said of them plainly. -/
structure HidK (w wx : World) (bx bz sa sb sc : Nat) (j : Nat) (g0 b0 g1 b1 g2 b2 : Int) (X Z : XW) : Prop where
  m : Hid2 w wx X Z sa sb sc g0 b0 g1 b1 g2 b2
  x : X.b = bx
  z : Z.b = bz
  r : HidR X.S Z.S j g0 b0 g1 b1 g2 b2
section
variable {w wx : World} {bx bz sa sb sc : Nat} {j : Nat} {g0 b0 g1 b1 g2 b2 : Int} {X Z : XW}
theorem HidK.stepA (h : HidK w wx bx bz sa sb sc j g0 b0 g1 b1 g2 b2 X Z) (a : ActD) (ha : a.ok) (hg : 0 ≤ g0 ∧ g0 ≤ 1000) (hb : 0 ≤ b0 ∧ b0 ≤ 1000) :
    Calls Tryd.prog 13 #[.pointer (some ⟨sa, 0, none⟩), .agg #[.int .i64 a.who, .int .i64 a.what, .int .i64 a.name]] wx fun e w' => e = .returned (.string (nextT a g0 b0)) ∧ Hid2 w w' X Z sa sb sc (nextG a g0) (nextB a b0) g1 b1 g2 b2 := by
  refine (knext_any a ha sa g0 b0 wx h.m.a hg hb).mono ?_
  rintro e w' ⟨rfl, K, S⟩
  exact ⟨rfl, h.m.setA K S⟩
/-- The first order of a round, in both worlds. -/
theorem hid_orderX (m : Hid2 w wx X Z sa sb sc g0 b0 g1 b1 g2 b2) (hx : X.b = bx) (n : Int) (t : ByteArray) (hs : t.size ≤ 2000000) :
    Calls Tryd.prog 9 #[.pointer (some ⟨bx, 0, none⟩), .int .i64 n, .string t] wx fun e w' => e = .returned (.int .i64 (orderS X.S n t.data.toList).1) ∧ ∃ X', Hid2 w w' X' Z sa sb sc g0 b0 g1 b1 g2 b2 ∧ X'.b = bx ∧ X'.S = (orderS X.S n t.data.toList).2 := by
  subst hx
  refine (m.t.x.order2 n t hs).mono ?_
  rintro e w' ⟨rfl, X', T, K, hS⟩
  exact ⟨rfl, X', m.turnX T K, T.b, hS⟩
theorem hid_orderZ (m : Hid2 w wx X Z sa sb sc g0 b0 g1 b1 g2 b2) (hz : Z.b = bz) (n : Int) (t : ByteArray) (hs : t.size ≤ 2000000) :
    Calls Tryd.prog 9 #[.pointer (some ⟨bz, 0, none⟩), .int .i64 n, .string t] wx fun e w' => e = .returned (.int .i64 (orderS Z.S n t.data.toList).1) ∧ ∃ Z', Hid2 w w' X Z' sa sb sc g0 b0 g1 b1 g2 b2 ∧ Z'.b = bz ∧ Z'.S = (orderS Z.S n t.data.toList).2 := by
  subst hz
  refine (m.t.z.order2 n t hs).mono ?_
  rintro e w' ⟨rfl, Z', T, K, hS⟩
  exact ⟨rfl, Z', m.turnZ T K, T.b, hS⟩
theorem HidK.stepB (h : HidK w wx bx bz sa sb sc j g0 b0 g1 b1 g2 b2 X Z) (a : ActD) (ha : a.ok) (hg : 0 ≤ g1 ∧ g1 ≤ 1000) (hb : 0 ≤ b1 ∧ b1 ≤ 1000) :
    Calls Tryd.prog 13 #[.pointer (some ⟨sb, 0, none⟩), .agg #[.int .i64 a.who, .int .i64 a.what, .int .i64 a.name]] wx fun e w' => e = .returned (.string (nextT a g1 b1)) ∧ Hid2 w w' X Z sa sb sc g0 b0 (nextG a g1) (nextB a b1) g2 b2 := by
  refine (knext_any a ha sb g1 b1 wx h.m.b hg hb).mono ?_
  rintro e w' ⟨rfl, K, S⟩
  exact ⟨rfl, h.m.setB K S⟩
theorem HidK.stepC (h : HidK w wx bx bz sa sb sc j g0 b0 g1 b1 g2 b2 X Z) (a : ActD) (ha : a.ok) (hg : 0 ≤ g2 ∧ g2 ≤ 1000) (hb : 0 ≤ b2 ∧ b2 ≤ 1000) :
    Calls Tryd.prog 13 #[.pointer (some ⟨sc, 0, none⟩), .agg #[.int .i64 a.who, .int .i64 a.what, .int .i64 a.name]] wx fun e w' => e = .returned (.string (nextT a g2 b2)) ∧ Hid2 w w' X Z sa sb sc g0 b0 g1 b1 (nextG a g2) (nextB a b2) := by
  refine (knext_any a ha sc g2 b2 wx h.m.c hg hb).mono ?_
  rintro e w' ⟨rfl, K, S⟩
  exact ⟨rfl, h.m.setC K S⟩
theorem hid_tickX (m : Hid2 w wx X Z sa sb sc g0 b0 g1 b1 g2 b2) (hx : X.b = bx) :
    Calls Tryd.prog 10 #[.pointer (some ⟨bx, 0, none⟩)] wx fun e w' => e = .returned (.int .i64 (tickC X.S)) ∧ ∃ X', Hid2 w w' X' Z sa sb sc g0 b0 g1 b1 g2 b2 ∧ X'.b = bx ∧ X'.S = tickN X.S := by
  subst hx
  refine m.t.x.tick2.mono ?_
  rintro e w' ⟨rfl, X', T, K, hS⟩
  exact ⟨rfl, X', m.turnX T K, T.b, hS⟩
theorem hid_tickZ (m : Hid2 w wx X Z sa sb sc g0 b0 g1 b1 g2 b2) (hz : Z.b = bz) :
    Calls Tryd.prog 10 #[.pointer (some ⟨bz, 0, none⟩)] wx fun e w' => e = .returned (.int .i64 (tickC Z.S)) ∧ ∃ Z', Hid2 w w' X Z' sa sb sc g0 b0 g1 b1 g2 b2 ∧ Z'.b = bz ∧ Z'.S = tickN Z.S := by
  subst hz
  refine m.t.z.tick2.mono ?_
  rintro e w' ⟨rfl, Z', T, K, hS⟩
  exact ⟨rfl, Z', m.turnZ T K, T.b, hS⟩
theorem hid_viewX (m : Hid2 w wx X Z sa sb sc g0 b0 g1 b1 g2 b2) (hx : X.b = bx) (n : Int) (ht : Tab w) :
    Calls Tryd.prog 12 #[.pointer (some ⟨bx, 0, none⟩), .int .i64 n] wx fun e w' => e = .returned (.string (viewS X.S n).1) ∧ Hid2 w w' X Z sa sb sc g0 b0 g1 b1 g2 b2 := by
  subst hx
  refine (m.t.x.view2 n ht).mono ?_
  rintro e w' ⟨rfl, hb⟩
  exact ⟨rfl, m.below hb⟩
theorem hid_viewZ (m : Hid2 w wx X Z sa sb sc g0 b0 g1 b1 g2 b2) (hz : Z.b = bz) (n : Int) (ht : Tab w) :
    Calls Tryd.prog 12 #[.pointer (some ⟨bz, 0, none⟩), .int .i64 n] wx fun e w' => e = .returned (.string (viewS Z.S n).1) ∧ Hid2 w w' X Z sa sb sc g0 b0 g1 b1 g2 b2 := by
  subst hz
  refine (m.t.z.view2 n ht).mono ?_
  rintro e w' ⟨rfl, hb⟩
  exact ⟨rfl, m.below hb⟩
end
end Go.Proofs.YtlafddeoheambaaDoor
