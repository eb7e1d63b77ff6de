/-
  What the player 0 does not see: a world without the other player and without the far ore. What the player 0 does and sees there is what it does and sees in the whole world.
-/
import Derived.Test.YtlafddeoheambaaGreatDoorT33
import Derived.Deep.DeepCutAuto
import Derived.Deep.RegionHeld3
import Derived.Test.YtlafddeoheambaaGreatDoorT39
set_option linter.unusedVariables false
namespace Go.Proofs.YtlafddeoheambaaGreatDoor
open Go.RowKit

def nearB (s : SSpot) : Bool := decide (s.x + s.y ≤ 7)
/-- The world as far as it matters to the player 0. -/
def shadeS (s : SWorld) : SWorld := { s with players := s.players.take 1, ore := s.ore.filter nearB }
def goW : List UInt8 := [103, 111]
def buildW : List UInt8 := [98, 117, 105, 108, 100]
/-- May this order lead a unit, or a new one, a step on? -/
def pendB (what : ByteArray) : Bool := what.toList == goW || what.toList == buildW
def pendI (u : SUnit) : Int := if pendB u.what then 1 else 0
/-- The player 0's units are at most a steps from their corner, the player 1's at most b. -/
structure Far2 (s : SWorld) (p q : SPlayer) (a b : Int) : Prop where
  wd : s.width = 10
  ht : s.height = 10
  si : s.sight = 2
  lo : s.lots = []
  pl : s.players = [p, q]
  pu : ∀ u ∈ p.units, 0 ≤ u.x ∧ 0 ≤ u.y ∧ u.x + u.y + pendI u ≤ a
  qu : ∀ u ∈ q.units, u.x ≤ 9 ∧ u.y ≤ 9 ∧ 18 - u.x - u.y + pendI u ≤ b
theorem pendI_nn (u : SUnit) : 0 ≤ pendI u := by unfold pendI; split <;> omega

theorem dig_near (l : List SSpot) (x y : Int) (h : x + y ≤ 7) : digB l x y = digB (l.filter nearB) x y ∧ (digL x y l).filter nearB = digL x y (l.filter nearB) := by
  induction l with
  | nil => exact ⟨rfl, rfl⟩
  | cons s r ih =>
    unfold digB at ih ⊢
    simp only [digL, List.any_cons, List.filter_cons]
    cases hh : hitB x y s
    · cases hn : nearB s
      · simp only [Bool.false_or, Bool.false_eq_true, if_false, List.filter_cons, hn]
        exact ih
      · simp only [if_true, Bool.false_or, List.any_cons, hh, Bool.false_eq_true, if_false, List.filter_cons, hn, digL]
        exact ⟨ih.1, by rw [ih.2]⟩
    · have hn : nearB s = true := by
        simp only [hitB, Bool.and_eq_true, decide_eq_true_eq] at hh
        simp only [nearB, decide_eq_true_eq]
        omega
      have hn' : nearB { s with amount := s.amount - 1 } = true := hn
      simp only [hn, if_true, List.any_cons, hh, Bool.true_or, List.filter_cons, hn', digL]
      exact ⟨trivial, trivial⟩
theorem dig_far (l : List SSpot) (x y : Int) (h : 7 < x + y) : (digL x y l).filter nearB = l.filter nearB := by
  induction l with
  | nil => rfl
  | cons s r ih =>
    simp only [digL]
    cases hh : hitB x y s
    · simp only [Bool.false_eq_true, if_false, List.filter_cons, ih]
    · have hn : nearB s = false := by
        simp only [hitB, Bool.and_eq_true, decide_eq_true_eq] at hh
        simp only [nearB, decide_eq_false_iff_not]
        omega
      have hn' : nearB { s with amount := s.amount - 1 } = false := hn
      simp only [if_true, List.filter_cons, hn, hn', Bool.false_eq_true, if_false]
theorem oreAt_near (l : List SSpot) (x y : Int) (h : x + y ≤ 7) : oreAt (l.filter nearB) x y = oreAt l x y := by
  induction l with
  | nil => rfl
  | cons s r ih =>
    rw [oreAt_cons, List.filter_cons]
    cases hn : nearB s
    · have hh : hitB x y s = false := by
        cases hh : hitB x y s
        · rfl
        · simp only [hitB, Bool.and_eq_true, decide_eq_true_eq] at hh
          simp only [nearB, decide_eq_false_iff_not] at hn
          omega
      simp only [hh, Bool.false_eq_true, if_false]
      exact ih
    · simp only [if_true]
      rw [oreAt_cons, ih]
theorem stands_no {q : SPlayer} {b : Int} (h : ∀ u ∈ q.units, u.x ≤ 9 ∧ u.y ≤ 9 ∧ 18 - u.x - u.y + pendI u ≤ b) {x y : Int} (hx : x + y < 18 - b) : standsB x y q = false := by
  unfold standsB
  rw [List.any_eq_false]
  intro u hu
  have := h u hu
  have := pendI_nn u
  simp only [Bool.and_eq_true, decide_eq_true_eq]
  omega
theorem holder_one {p q : SPlayer} {x y : Int} (h : standsB x y q = false) : holderI [p, q] x y = holderI [p] x y := by
  simp only [holderI, ixOf, h]
  cases standsB x y p <;> simp

/-- A unit's spot, and that ahead of it. -/
theorem ahead_bd (h : Int) : -1 ≤ dxI h + dyI h ∧ dxI h + dyI h ≤ 1 := by
  unfold dxI dyI
  repeat' split
  all_goals omega
theorem Far2.free {s : SWorld} {p q : SPlayer} {a b : Int} (h : Far2 s p q a b) (hb : b ≤ 3) {x y : Int} (hx : x + y ≤ 7) : freeS (shadeS s) x y = freeS s x y := by
  unfold freeS
  have e : holderI (shadeS s).players x y = holderI s.players x y := by
    show holderI (s.players.take 1) x y = _
    rw [h.pl]
    exact (holder_one (stands_no h.qu (by omega))).symm
  rw [e]
  rfl
/-- What the player 0 sees. -/
theorem Far2.view {s : SWorld} {p q : SPlayer} {a b : Int} (h : Far2 s p q a b) (ha : a ≤ 3) (hb : b ≤ 3) : viewS (shadeS s) 0 = viewS s 0 := by
  have hl : (shadeS s).players = [p] := by show s.players.take 1 = _; rw [h.pl]; rfl
  have seen : ∀ x y : Int, seenL (shadeS s) 0 p.units x y = seenL s 0 p.units x y := by
    intro x y
    unfold seenL
    show (if seesB p.units s.sight x y = true then _ else _) = _
    cases hz : seesB p.units s.sight x y
    · rfl
    · rw [if_pos rfl, if_pos rfl]
      have hn : x + y ≤ 7 := by
        unfold seesB at hz
        rw [List.any_eq_true] at hz
        obtain ⟨u, hu, hf⟩ := hz
        have := h.pu u hu
        have := pendI_nn u
        simp only [decide_eq_true_eq, h.si] at hf
        unfold farI absI at hf
        omega
      unfold spotL oreL otherL
      have e1 : oreAt (shadeS s).ore x y = oreAt s.ore x y := oreAt_near s.ore x y hn
      have e2 : holderI (shadeS s).players x y = holderI s.players x y := by
        rw [hl, h.pl]
        exact (holder_one (stands_no h.qu (by omega))).symm
      rw [e1, e2]
  unfold viewS
  rw [hl, h.pl]
  simp only [List.length_cons, List.length_nil]
  rw [if_pos (by omega), if_pos (by omega)]
  show (bytesOf (viewL (shadeS s) 0 p), (0 : Int)) = (bytesOf (viewL s 0 p), 0)
  have rows : ∀ k, rowsTo (shadeS s) 0 p.units k = rowsTo s 0 p.units k := by
    intro k
    unfold rowsTo rowTo
    simp only [seen]
    rfl
  unfold viewL
  show (bytesOf (ownL (shadeS s) p ++ rowsTo (shadeS s) 0 p.units s.height.toNat ++ lotsL (shadeS s) p ++ newsL p), (0 : Int)) = _
  rw [rows]
  rfl

theorem shade_set (s : SWorld) (p : SPlayer) : shadeS (s.setPl 0 p) = (shadeS s).setPl 0 p := by
  unfold shadeS SWorld.setPl
  simp only [List.take_set]
theorem shade_set1 (s : SWorld) (p : SPlayer) : shadeS (s.setPl 1 p) = shadeS s := by
  unfold shadeS SWorld.setPl
  simp only
  have e : (s.players.set 1 p).take 1 = s.players.take 1 := by
    cases s.players with
    | nil => rfl
    | cons a r => rfl
  rw [e]
theorem Far2.set0 {s : SWorld} {p q : SPlayer} {a b : Int} (h : Far2 s p q a b) (p' : SPlayer) {a' : Int} (hp : ∀ u ∈ p'.units, 0 ≤ u.x ∧ 0 ≤ u.y ∧ u.x + u.y + pendI u ≤ a') : Far2 (s.setPl 0 p') p' q a' b :=
  ⟨h.wd, h.ht, h.si, h.lo, by show s.players.set 0 p' = _; rw [h.pl]; rfl, hp, h.qu⟩
theorem Far2.set1 {s : SWorld} {p q : SPlayer} {a b : Int} (h : Far2 s p q a b) (q' : SPlayer) {b' : Int} (hq : ∀ u ∈ q'.units, u.x ≤ 9 ∧ u.y ≤ 9 ∧ 18 - u.x - u.y + pendI u ≤ b') : Far2 (s.setPl 1 q') p q' a b' :=
  ⟨h.wd, h.ht, h.si, h.lo, by show s.players.set 1 q' = _; rw [h.pl]; rfl, h.pu, hq⟩
theorem Far2.ore {s : SWorld} {p q : SPlayer} {a b : Int} (h : Far2 s p q a b) (o : List SSpot) : Far2 { s with ore := o } p q a b := ⟨h.wd, h.ht, h.si, h.lo, h.pl, h.pu, h.qu⟩
theorem pend_empty (u : SUnit) : pendI { u with what := emptyB, arg := emptyB } = 0 := by
  unfold pendI pendB
  have : emptyB.toList = [] := by rw [Lib.toList_data]; rfl
  simp only [this]
  rfl
theorem free_box {s : SWorld} {x y : Int} (h : freeS s x y = true) : 0 ≤ x ∧ x ≤ s.width - 1 ∧ 0 ≤ y ∧ y ≤ s.height - 1 := by
  unfold freeS inB at h
  simp only [Bool.and_eq_true, decide_eq_true_eq] at h
  omega
theorem mem_set_or {α : Type} {l : List α} {k : Nat} {a v : α} (h : v ∈ l.set k a) : v ∈ l ∨ v = a := List.mem_or_eq_of_mem_set h

/-- What a unit of the player 0 does, it does in the shade too. -/
theorem Far2.act0 {s : SWorld} {p q : SPlayer} {a b : Int} (h : Far2 s p q a b) (ha : a ≤ 3) (hb : b ≤ 3) (k : Nat) (u : SUnit) (what arg : ByteArray) (hu : 0 ≤ u.x ∧ 0 ≤ u.y ∧ u.x + u.y ≤ a) (hp : pendB what = true → u.x + u.y + 1 ≤ a) (he : ∀ v, (v.what = emptyB → pendI v = 0)) (hw : u.what = emptyB) :
    actS (shadeS s) 0 k p u what arg = shadeS (actS s 0 k p u what arg) ∧ ∃ p', Far2 (actS s 0 k p u what arg) p' q a b := by
  have hd := ahead_bd u.head
  have hf := h.free hb (x := u.x + dxI u.head) (y := u.y + dyI u.head) (by omega)
  have put : ∀ v : SUnit, v.what = emptyB → 0 ≤ v.x → 0 ≤ v.y → v.x + v.y ≤ a → ∀ m : Int, ∃ p', Far2 (s.setPl 0 { p with money := m, units := p.units.set k v }) p' q a b := by
    intro v hv h1 h2 h3 m
    refine ⟨_, h.set0 _ (fun w hw' => ?_)⟩
    rcases mem_set_or hw' with hw' | rfl
    · exact h.pu w hw'
    · rw [he w hv]; omega
  unfold actS
  simp only [hf]
  have g1 : (what.toList == [103, 111]) = true → pendB what = true := fun e => by unfold pendB goW; rw [e]; rfl
  have g2 : (what.toList == [98, 117, 105, 108, 100]) = true → pendB what = true := fun e => by unfold pendB buildW; rw [e]; simp
  by_cases c1 : (what.toList == [103, 111]) = true
  · simp only [c1, if_true]
    have hp1 := hp (g1 c1)
    split
    · rename_i hfr
      have := free_box hfr
      exact ⟨(shade_set s _).symm, put { u with x := u.x + dxI u.head, y := u.y + dyI u.head } hw (show 0 ≤ u.x + dxI u.head by omega) (show 0 ≤ u.y + dyI u.head by omega) (show u.x + dxI u.head + (u.y + dyI u.head) ≤ a by omega) p.money⟩
    · exact ⟨rfl, p, h⟩
  · simp only [c1, Bool.false_eq_true, if_false]
    by_cases c2 : (what.toList == [108, 101, 102, 116]) = true
    · simp only [c2, if_true]
      exact ⟨(shade_set s _).symm, put { u with head := (u.head + 1) % 4 } hw hu.1 hu.2.1 hu.2.2 p.money⟩
    · simp only [c2, Bool.false_eq_true, if_false]
      by_cases c3 : (what.toList == [98, 97, 99, 107]) = true
      · simp only [c3, if_true]
        exact ⟨(shade_set s _).symm, put { u with head := (u.head + 2) % 4 } hw hu.1 hu.2.1 hu.2.2 p.money⟩
      · simp only [c3, Bool.false_eq_true, if_false]
        by_cases c4 : (what.toList == [114, 105, 103, 104, 116]) = true
        · simp only [c4, if_true]
          exact ⟨(shade_set s _).symm, put { u with head := (u.head + 3) % 4 } hw hu.1 hu.2.1 hu.2.2 p.money⟩
        · simp only [c4, Bool.false_eq_true, if_false]
          by_cases c5 : (what.toList == [100, 105, 103]) = true
          · simp only [c5, if_true]
            split
            · have hdg := dig_near s.ore u.x u.y (by omega)
              have e : digB (shadeS s).ore u.x u.y = digB s.ore u.x u.y := hdg.1.symm
              rw [e]
              split
              · obtain ⟨p', hF⟩ := put { u with cargo := u.cargo + 1 } hw hu.1 hu.2.1 hu.2.2 p.money
                refine ⟨?_, p', hF.ore _⟩
                unfold shadeS SWorld.setPl
                simp only [List.take_set, hdg.2]
              · exact ⟨rfl, p, h⟩
            · exact ⟨rfl, p, h⟩
          · simp only [c5, Bool.false_eq_true, if_false]
            by_cases c6 : (what.toList == [115, 101, 108, 108]) = true
            · simp only [c6, if_true]
              exact ⟨(shade_set s _).symm, put { u with cargo := 0 } hw hu.1 hu.2.1 hu.2.2 _⟩
            · simp only [c6, Bool.false_eq_true, if_false]
              by_cases c7 : (what.toList == [99, 97, 108, 108]) = true
              · simp only [c7, if_true]
                split
                · exact ⟨(shade_set s _).symm, put { u with name := arg } hw hu.1 hu.2.1 hu.2.2 p.money⟩
                · exact ⟨rfl, p, h⟩
              · simp only [c7, Bool.false_eq_true, if_false]
                by_cases c8 : (what.toList == [98, 117, 105, 108, 100]) = true
                · simp only [c8, if_true]
                  have hp1 := hp (g2 c8)
                  split
                  · rename_i hfr
                    have := free_box hfr.2.2.2
                    refine ⟨(shade_set s _).symm, _, h.set0 _ (fun w hw' => ?_)⟩
                    rcases List.mem_append.1 hw' with hw' | hw'
                    · exact h.pu w hw'
                    · obtain rfl := List.mem_singleton.1 hw'
                      rw [he _ rfl]
                      simp only
                      omega
                  · exact ⟨rfl, p, h⟩
                · simp only [c8, Bool.false_eq_true, if_false]
                  exact ⟨trivial, p, h⟩

/-- What a unit of the player 1 does leaves the shade as it was. -/
theorem Far2.act1 {s : SWorld} {p q : SPlayer} {a b : Int} (h : Far2 s p q a b) (hb : b ≤ 3) (k : Nat) (u : SUnit) (what arg : ByteArray) (hu : u.x ≤ 9 ∧ u.y ≤ 9 ∧ 18 - u.x - u.y ≤ b) (hp : pendB what = true → 18 - u.x - u.y + 1 ≤ b) (he : ∀ v, (v.what = emptyB → pendI v = 0)) (hw : u.what = emptyB) :
    shadeS (actS s 1 k q u what arg) = shadeS s ∧ ∃ q', Far2 (actS s 1 k q u what arg) p q' a b := by
  have hd := ahead_bd u.head
  have put : ∀ v : SUnit, v.what = emptyB → v.x ≤ 9 → v.y ≤ 9 → 18 - v.x - v.y ≤ b → ∀ m : Int, ∃ q', Far2 (s.setPl 1 { q with money := m, units := q.units.set k v }) p q' a b := by
    intro v hv h1 h2 h3 m
    refine ⟨_, h.set1 _ (fun w hw' => ?_)⟩
    rcases mem_set_or hw' with hw' | rfl
    · exact h.qu w hw'
    · rw [he w hv]; omega
  have hwd := h.wd
  have hht := h.ht
  unfold actS
  simp only
  have g1 : (what.toList == [103, 111]) = true → pendB what = true := fun e => by unfold pendB goW; rw [e]; rfl
  have g2 : (what.toList == [98, 117, 105, 108, 100]) = true → pendB what = true := fun e => by unfold pendB buildW; rw [e]; simp
  by_cases c1 : (what.toList == [103, 111]) = true
  · simp only [c1, if_true]
    have hp1 := hp (g1 c1)
    split
    · rename_i hfr
      have := free_box hfr
      exact ⟨shade_set1 s _, put { u with x := u.x + dxI u.head, y := u.y + dyI u.head } hw (show u.x + dxI u.head ≤ 9 by omega) (show u.y + dyI u.head ≤ 9 by omega) (show 18 - (u.x + dxI u.head) - (u.y + dyI u.head) ≤ b by omega) q.money⟩
    · exact ⟨rfl, q, h⟩
  · simp only [c1, Bool.false_eq_true, if_false]
    by_cases c2 : (what.toList == [108, 101, 102, 116]) = true
    · simp only [c2, if_true]
      exact ⟨shade_set1 s _, put { u with head := (u.head + 1) % 4 } hw hu.1 hu.2.1 hu.2.2 q.money⟩
    · simp only [c2, Bool.false_eq_true, if_false]
      by_cases c3 : (what.toList == [98, 97, 99, 107]) = true
      · simp only [c3, if_true]
        exact ⟨shade_set1 s _, put { u with head := (u.head + 2) % 4 } hw hu.1 hu.2.1 hu.2.2 q.money⟩
      · simp only [c3, Bool.false_eq_true, if_false]
        by_cases c4 : (what.toList == [114, 105, 103, 104, 116]) = true
        · simp only [c4, if_true]
          exact ⟨shade_set1 s _, put { u with head := (u.head + 3) % 4 } hw hu.1 hu.2.1 hu.2.2 q.money⟩
        · simp only [c4, Bool.false_eq_true, if_false]
          by_cases c5 : (what.toList == [100, 105, 103]) = true
          · simp only [c5, if_true]
            split
            · split
              · obtain ⟨q', hF⟩ := put { u with cargo := u.cargo + 1 } hw hu.1 hu.2.1 hu.2.2 q.money
                refine ⟨?_, q', hF.ore _⟩
                have e := shade_set1 s { q with units := q.units.set k { u with cargo := u.cargo + 1 } }
                have d := dig_far s.ore u.x u.y (by omega)
                unfold shadeS SWorld.setPl at e ⊢
                simp only [d] at e ⊢
                exact e
              · exact ⟨rfl, q, h⟩
            · exact ⟨rfl, q, h⟩
          · simp only [c5, Bool.false_eq_true, if_false]
            by_cases c6 : (what.toList == [115, 101, 108, 108]) = true
            · simp only [c6, if_true]
              exact ⟨shade_set1 s _, put { u with cargo := 0 } hw hu.1 hu.2.1 hu.2.2 _⟩
            · simp only [c6, Bool.false_eq_true, if_false]
              by_cases c7 : (what.toList == [99, 97, 108, 108]) = true
              · simp only [c7, if_true]
                split
                · exact ⟨shade_set1 s _, put { u with name := arg } hw hu.1 hu.2.1 hu.2.2 q.money⟩
                · exact ⟨rfl, q, h⟩
              · simp only [c7, Bool.false_eq_true, if_false]
                by_cases c8 : (what.toList == [98, 117, 105, 108, 100]) = true
                · simp only [c8, if_true]
                  have hp1 := hp (g2 c8)
                  split
                  · rename_i hfr
                    have := free_box hfr.2.2.2
                    refine ⟨shade_set1 s _, _, h.set1 _ (fun w hw' => ?_)⟩
                    rcases List.mem_append.1 hw' with hw' | hw'
                    · exact h.qu w hw'
                    · obtain rfl := List.mem_singleton.1 hw'
                      rw [he _ rfl]
                      simp only
                      omega
                  · exact ⟨rfl, q, h⟩
                · simp only [c8, Bool.false_eq_true, if_false]
                  exact ⟨trivial, q, h⟩
theorem pend_of_empty (v : SUnit) (h : v.what = emptyB) : pendI v = 0 := by
  have := pend_empty v
  unfold pendI at this ⊢
  rw [h]
  exact this
theorem pend_le {u : SUnit} : pendB u.what = true → pendI u = 1 := fun h => by unfold pendI; rw [if_pos h]
theorem Far2.does0 {s : SWorld} {p q : SPlayer} {a b : Int} (h : Far2 s p q a b) (ha : a ≤ 3) (hb : b ≤ 3) (k : Nat) : doesS (shadeS s) 0 k = shadeS (doesS s 0 k) ∧ ∃ p', Far2 (doesS s 0 k) p' q a b := by
  have e0 : (shadeS s).players[0]? = some p := by show (s.players.take 1)[0]? = _; rw [h.pl]; rfl
  have e1 : s.players[0]? = some p := by rw [h.pl]; rfl
  unfold doesS
  rw [e0, e1]
  simp only
  cases hk : p.units[k]? with
  | none => exact ⟨rfl, p, h⟩
  | some u =>
    have hu := h.pu u (List.mem_of_getElem? hk)
    have hn := pendI_nn u
    simp only
    have h1 : Far2 (s.setPl 0 { p with units := p.units.set k { u with what := emptyB, arg := emptyB } }) { p with units := p.units.set k { u with what := emptyB, arg := emptyB } } q a b := h.set0 _ (fun w hw => by
      rcases mem_set_or hw with hw | rfl
      · exact h.pu w hw
      · rw [pend_empty]
        exact ⟨hu.1, hu.2.1, show u.x + u.y + 0 ≤ a by omega⟩)
    rw [← shade_set]
    exact h1.act0 ha hb k { u with what := emptyB, arg := emptyB } u.what u.arg ⟨hu.1, hu.2.1, show u.x + u.y ≤ a by omega⟩ (fun hp => by have := pend_le hp; show u.x + u.y + 1 ≤ a; omega) pend_of_empty rfl
theorem Far2.does1 {s : SWorld} {p q : SPlayer} {a b : Int} (h : Far2 s p q a b) (hb : b ≤ 3) (k : Nat) : shadeS (doesS s 1 k) = shadeS s ∧ ∃ q', Far2 (doesS s 1 k) p q' a b := by
  have e1 : s.players[1]? = some q := by rw [h.pl]; rfl
  unfold doesS
  rw [e1]
  simp only
  cases hk : q.units[k]? with
  | none => exact ⟨rfl, q, h⟩
  | some u =>
    have hu := h.qu u (List.mem_of_getElem? hk)
    have hn := pendI_nn u
    simp only
    have h1 : Far2 (s.setPl 1 { q with units := q.units.set k { u with what := emptyB, arg := emptyB } }) p { q with units := q.units.set k { u with what := emptyB, arg := emptyB } } a b := h.set1 _ (fun w hw => by
      rcases mem_set_or hw with hw | rfl
      · exact h.qu w hw
      · rw [pend_empty]
        exact ⟨hu.1, hu.2.1, show 18 - u.x - u.y + 0 ≤ b by omega⟩)
    obtain ⟨r1, r2⟩ := h1.act1 hb k { u with what := emptyB, arg := emptyB } u.what u.arg ⟨hu.1, hu.2.1, show 18 - u.x - u.y ≤ b by omega⟩ (fun hp => by have := pend_le hp; show 18 - u.x - u.y + 1 ≤ b; omega) pend_of_empty rfl
    exact ⟨r1.trans (shade_set1 s _), r2⟩
theorem Far2.units0 {s : SWorld} {p q : SPlayer} {a b : Int} (h : Far2 s p q a b) (ha : a ≤ 3) (hb : b ≤ 3) (j : Nat) : unitsTo (shadeS s) 0 j = shadeS (unitsTo s 0 j) ∧ ∃ p', Far2 (unitsTo s 0 j) p' q a b := by
  induction j with
  | zero => exact ⟨rfl, p, h⟩
  | succ j ih =>
    obtain ⟨e, p1, h1⟩ := ih
    obtain ⟨e2, p2, h2⟩ := h1.does0 ha hb j
    refine ⟨?_, p2, h2⟩
    show doesS (unitsTo (shadeS s) 0 j) 0 j = _
    rw [e, e2]
    rfl
theorem Far2.units1 {s : SWorld} {p q : SPlayer} {a b : Int} (h : Far2 s p q a b) (hb : b ≤ 3) (j : Nat) : shadeS (unitsTo s 1 j) = shadeS s ∧ ∃ q', Far2 (unitsTo s 1 j) p q' a b := by
  induction j with
  | zero => exact ⟨rfl, q, h⟩
  | succ j ih =>
    obtain ⟨e, q1, h1⟩ := ih
    obtain ⟨e2, q2, h2⟩ := h1.does1 hb j
    exact ⟨e2.trans e, q2, h2⟩
theorem Far2.tick {s : SWorld} {p q : SPlayer} {a b : Int} (h : Far2 s p q a b) (ha : a ≤ 3) (hb : b ≤ 3) : tickS (shadeS s) = shadeS (tickS s) ∧ ∃ p' q', Far2 (tickS s) p' q' a b := by
  have e0 : (shadeS s).players[0]? = some p := by show (s.players.take 1)[0]? = _; rw [h.pl]; rfl
  have e1 : s.players[0]? = some p := by rw [h.pl]; rfl
  have c0 : clearN s 0 = s.setPl 0 { p with news := [] } := by unfold clearN; rw [e1]
  have c1 : clearN (shadeS s) 0 = shadeS (clearN s 0) := by rw [c0, shade_set]; unfold clearN; rw [e0]
  have f0 : Far2 (clearN s 0) { p with news := [] } q a b := by rw [c0]; exact h.set0 _ h.pu
  have n0 : unitsN (clearN (shadeS s) 0) 0 = unitsN (clearN s 0) 0 := by
    rw [c1]
    unfold unitsN
    have a1 : (shadeS (clearN s 0)).players[0]? = some { p with news := [] } := by show ((clearN s 0).players.take 1)[0]? = _; rw [f0.pl]; rfl
    have a2 : (clearN s 0).players[0]? = some { p with news := [] } := by rw [f0.pl]; rfl
    rw [a1, a2]
  obtain ⟨r1, p1, f1⟩ := f0.units0 ha hb (unitsN (clearN s 0) 0)
  have P0 : playerS (shadeS s) 0 = shadeS (playerS s 0) := by unfold playerS; rw [n0, c1, r1]
  have F1 : Far2 (playerS s 0) p1 q a b := f1
  have d1 : clearN (playerS s 0) 1 = (playerS s 0).setPl 1 { q with news := [] } := by
    have : (playerS s 0).players[1]? = some q := by rw [F1.pl]; rfl
    unfold clearN
    rw [this]
  have F2 : Far2 (clearN (playerS s 0) 1) p1 { q with news := [] } a b := by rw [d1]; exact F1.set1 _ F1.qu
  obtain ⟨r2, q2, f2⟩ := F2.units1 hb (unitsN (clearN (playerS s 0) 1) 1)
  have P1 : shadeS (playerS (playerS s 0) 1) = shadeS (playerS s 0) := by
    unfold playerS at r2 ⊢
    rw [r2]
    show shadeS (clearN (playerS s 0) 1) = _
    rw [d1, shade_set1]
    rfl
  have l0 : (shadeS s).players.length = 1 := by show (s.players.take 1).length = _; rw [h.pl]; rfl
  have l1 : s.players.length = 2 := by rw [h.pl]; rfl
  rw [tickS_nil (s := shadeS s) h.lo, tickS_nil h.lo, l0, l1]
  have t1 : tickTo (shadeS s) 1 = playerS (shadeS s) 0 := rfl
  have t2 : tickTo s 2 = playerS (playerS s 0) 1 := rfl
  rw [t1, t2, P0, ← P1]
  exact ⟨rfl, p1, q2, ⟨f2.wd, f2.ht, f2.si, rfl, f2.pl, f2.pu, f2.qu⟩⟩
end Go.Proofs.YtlafddeoheambaaGreatDoor

/-
  The orders of two players that stand far apart: what the player 0 orders, it orders in the shade too; what the player 1 orders leaves the shade as it was.
-/
namespace Go.Proofs.YtlafddeoheambaaGreatDoor
open Go.RowKit

def pendL (b : List UInt8) : Bool := b == goW || b == buildW
def pendW (t : List UInt8) : Bool := match splitB t with
  | [_, b] => pendL b
  | [_, b, _] => pendL b
  | _ => false
def oneI (c : Bool) : Int := if c then 1 else 0
theorem oneI_nn (c : Bool) : 0 ≤ oneI c := by unfold oneI; split <;> omega
theorem Far2.mono {s : SWorld} {p q : SPlayer} {a b a' b' : Int} (h : Far2 s p q a b) (ha : a ≤ a') (hb : b ≤ b') : Far2 s p q a' b' :=
  ⟨h.wd, h.ht, h.si, h.lo, h.pl, fun u hu => by have := h.pu u hu; omega, fun u hu => by have := h.qu u hu; omega⟩
theorem pend_told (u : SUnit) (b c : List UInt8) : pendI { u with what := bytesOf b, arg := bytesOf c } = oneI (pendL b) := by
  unfold pendI pendB pendL oneI
  simp only [Lib.toList_data, bytesOf_toList]
theorem Far2.tell0 {s : SWorld} {p q : SPlayer} {a b : Int} (h : Far2 s p q a b) (x y z : List UInt8) :
    tellS (shadeS s) 0 p x y z = ((tellS s 0 p x y z).1, shadeS (tellS s 0 p x y z).2) ∧ ∃ p', Far2 (tellS s 0 p x y z).2 p' q (a + oneI (pendL y)) b := by
  have m := h.mono (a' := a + oneI (pendL y)) (b' := b) (by have := oneI_nn (pendL y); omega) (Int.le_refl _)
  unfold tellS
  split
  · exact ⟨rfl, p, m⟩
  · cases hk : p.units[(unitIx p.units (bytesOf x)).toNat]? with
    | none => exact ⟨rfl, p, m⟩
    | some u =>
      refine ⟨by rw [shade_set], _, m.set0 _ (fun w hw => ?_)⟩
      rcases mem_set_or hw with hw | rfl
      · exact m.pu w hw
      · have := h.pu u (List.mem_of_getElem? hk)
        have := pendI_nn u
        rw [pend_told]
        simp only
        omega
theorem Far2.tell1 {s : SWorld} {p q : SPlayer} {a b : Int} (h : Far2 s p q a b) (x y z : List UInt8) :
    shadeS (tellS s 1 q x y z).2 = shadeS s ∧ ∃ q', Far2 (tellS s 1 q x y z).2 p q' a (b + oneI (pendL y)) := by
  have m := h.mono (a' := a) (b' := b + oneI (pendL y)) (Int.le_refl _) (by have := oneI_nn (pendL y); omega)
  unfold tellS
  split
  · exact ⟨rfl, q, m⟩
  · cases hk : q.units[(unitIx q.units (bytesOf x)).toNat]? with
    | none => exact ⟨rfl, q, m⟩
    | some u =>
      refine ⟨shade_set1 s _, _, m.set1 _ (fun w hw => ?_)⟩
      rcases mem_set_or hw with hw | rfl
      · exact m.qu w hw
      · have := h.qu u (List.mem_of_getElem? hk)
        have := pendI_nn u
        rw [pend_told]
        simp only
        omega
theorem Far2.order0 {s : SWorld} {p q : SPlayer} {a b : Int} (h : Far2 s p q a b) (t : List UInt8) :
    orderS (shadeS s) 0 t = ((orderS s 0 t).1, shadeS (orderS s 0 t).2) ∧ ∃ p', Far2 (orderS s 0 t).2 p' q (a + oneI (pendW t)) b := by
  have e0 : (shadeS s).players = [p] := by show s.players.take 1 = _; rw [h.pl]; rfl
  have m := h.mono (a' := a + oneI (pendW t)) (b' := b) (by have := oneI_nn (pendW t); omega) (Int.le_refl _)
  have o1 : orderS (shadeS s) 0 t = wordsS (shadeS s) 0 p (splitB t) := by unfold orderS; rw [e0, if_pos (by simp)]; rfl
  have o2 : orderS s 0 t = wordsS s 0 p (splitB t) := by unfold orderS; rw [h.pl, if_pos (by simp)]; rfl
  rw [o1, o2]
  unfold wordsS
  unfold pendW at m ⊢
  split
  · rename_i x y hs
    rw [hs] at m
    simp only [hs]
    split
    · exact h.tell0 x y []
    · exact ⟨rfl, p, m⟩
  · rename_i x y z hs
    rw [hs] at m
    simp only [hs]
    split
    · rw [bidS_nil (s := shadeS s) h.lo, bidS_nil h.lo]
      exact ⟨rfl, p, m⟩
    · split
      · exact h.tell0 x y z
      · exact ⟨rfl, p, m⟩
  · exact ⟨rfl, p, m⟩
theorem Far2.order1 {s : SWorld} {p q : SPlayer} {a b : Int} (h : Far2 s p q a b) (t : List UInt8) :
    shadeS (orderS s 1 t).2 = shadeS s ∧ ∃ q', Far2 (orderS s 1 t).2 p q' a (b + oneI (pendW t)) := by
  have m := h.mono (a' := a) (b' := b + oneI (pendW t)) (Int.le_refl _) (by have := oneI_nn (pendW t); omega)
  have o2 : orderS s 1 t = wordsS s 1 q (splitB t) := by unfold orderS; rw [h.pl, if_pos (by simp)]; rfl
  rw [o2]
  unfold wordsS
  unfold pendW at m ⊢
  split
  · rename_i x y hs
    rw [hs] at m
    simp only [hs]
    split
    · exact h.tell1 x y []
    · exact ⟨rfl, q, m⟩
  · rename_i x y z hs
    rw [hs] at m
    simp only [hs]
    split
    · rw [bidS_nil h.lo]
      exact ⟨rfl, q, m⟩
    · split
      · exact h.tell1 x y z
      · exact ⟨rfl, q, m⟩
  · exact ⟨rfl, q, m⟩
end Go.Proofs.YtlafddeoheambaaGreatDoor

/-
  The texts of acts, and how many steps their givers may go, said plainly.
-/
namespace Go.Proofs.YtlafddeoheambaaGreatDoor
open Go.RowKit

def nmB (i : Int) : ByteArray := if i = 0 then ⟨#[97]⟩ else if i = 1 then ⟨#[98]⟩ else if i = 2 then ⟨#[206, 179]⟩ else if i = 3 then ⟨#[100]⟩ else ⟨#[101]⟩
def wdB (k : Int) : ByteArray :=
  if k = 0 then ⟨#[103, 111]⟩ else if k = 1 then ⟨#[103, 111]⟩ else if k = 2 then ⟨#[108, 101, 102, 116]⟩ else if k = 3 then ⟨#[114, 105, 103, 104, 116]⟩ else if k = 4 then ⟨#[98, 97, 99, 107]⟩
  else if k = 5 then ⟨#[100, 105, 103]⟩ else if k = 6 then ⟨#[100, 105, 103]⟩ else if k = 7 then ⟨#[115, 101, 108, 108]⟩ else if k = 8 then ⟨#[98, 117, 105, 108, 100]⟩ else ⟨#[99, 97, 108, 108]⟩
structure ActD where
  who : Int
  what : Int
  name : Int
def actCells (a : ActD) : List Value := [.int .i64 a.who, .int .i64 a.what, .int .i64 a.name]
structure ActD.ok (a : ActD) : Prop where
  who : -9223372036854775808 ≤ a.who ∧ a.who ≤ 9223372036854775807
  what : -9223372036854775808 ≤ a.what ∧ a.what ≤ 9223372036854775807
  name : -9223372036854775808 ≤ a.name ∧ a.name ≤ 9223372036854775807
def textOf (i k m : Int) : ByteArray := if 7 < k then nmB i ++ ⟨#[32]⟩ ++ wdB k ++ ⟨#[32]⟩ ++ nmB m else nmB i ++ ⟨#[32]⟩ ++ wdB k
def ActD.text (a : ActD) : ByteArray := textOf (pickI a.who 5) (pickI a.what 10) (pickI a.name 5)
def leftOf (i : Int) : ByteArray := nmB i ++ ⟨#[32, 108, 101, 102, 116]⟩
theorem nmB_size (i : Int) : (nmB i).size ≤ 2 := by
  unfold nmB
  repeat' split
  all_goals decide
theorem wdB_size (k : Int) : (wdB k).size ≤ 5 := by
  unfold wdB
  repeat' split
  all_goals decide
theorem textOf_size (i k m : Int) : (textOf i k m).size ≤ 20 := by
  have h1 := nmB_size i
  have h2 := nmB_size m
  have h3 := wdB_size k
  have h4 : (⟨#[32]⟩ : ByteArray).size = 1 := rfl
  unfold textOf
  split <;> (simp only [ByteArray.size_append, h4]; omega)
theorem leftOf_size (i : Int) : (leftOf i).size ≤ 20 := by
  have h1 := nmB_size i
  have h4 : (⟨#[32, 108, 101, 102, 116]⟩ : ByteArray).size = 5 := rfl
  unfold leftOf
  simp only [ByteArray.size_append, h4]
  omega
def ten : List Int := [0, 1, 2, 3, 4, 5, 6, 7, 8, 9]
def five : List Int := [0, 1, 2, 3, 4]
theorem in_five {i : Int} (h : 0 ≤ i ∧ i < 5) : i ∈ five := by
  obtain rfl | rfl | rfl | rfl | rfl : i = 0 ∨ i = 1 ∨ i = 2 ∨ i = 3 ∨ i = 4 := by omega
  all_goals decide
theorem in_ten {i : Int} (h : 0 ≤ i ∧ i < 10) : i ∈ ten := by
  obtain rfl | rfl | rfl | rfl | rfl | rfl | rfl | rfl | rfl | rfl : i = 0 ∨ i = 1 ∨ i = 2 ∨ i = 3 ∨ i = 4 ∨ i = 5 ∨ i = 6 ∨ i = 7 ∨ i = 8 ∨ i = 9 := by omega
  all_goals decide
set_option maxRecDepth 100000 in
theorem pend_all : ∀ i ∈ five, ∀ k ∈ ten, ∀ m ∈ five, pendW (textOf i k m).data.toList = (decide (k < 2) || decide (k = 8)) := by decide +kernel
set_option maxRecDepth 100000 in
theorem pend_left : ∀ i ∈ five, pendW (leftOf i).data.toList = false := by decide +kernel
/-- How far orders to go and to build may have led. -/
def capI (g b : Int) : Int := (if g < 2 then g else 2) + (if b < 1 then b else 1)
def nextG (a : ActD) (g : Int) : Int := if pickI a.what 10 < 2 then g + 1 else g
def nextB (a : ActD) (b : Int) : Int := if pickI a.what 10 = 8 then b + 1 else b
def nextT (a : ActD) (g b : Int) : ByteArray := if (pickI a.what 10 < 2 ∧ 2 < nextG a g) ∨ (pickI a.what 10 = 8 ∧ 1 < nextB a b) then leftOf (pickI a.who 5) else a.text
theorem nextT_size (a : ActD) (g b : Int) : (nextT a g b).size ≤ 20 := by
  unfold nextT ActD.text
  split
  · exact leftOf_size _
  · exact textOf_size _ _ _
theorem next_cap (a : ActD) (g b : Int) (hg : 0 ≤ g) (hb : 0 ≤ b) : capI (nextG a g) (nextB a b) = capI g b + oneI (pendW (nextT a g b).data.toList) := by
  have hi := pickI_bd a.who 5 (by omega)
  have hk := pickI_bd a.what 10 (by omega)
  have hm := pickI_bd a.name 5 (by omega)
  have p1 := pend_all _ (in_five hi) _ (in_ten hk) _ (in_five hm)
  have p2 := pend_left _ (in_five hi)
  unfold nextT
  split
  · rename_i hc
    rw [p2]
    unfold nextG nextB at *
    unfold capI oneI
    simp only [Bool.false_eq_true, if_false]
    split <;> split <;> (repeat' split) <;> omega
  · rename_i hc
    unfold ActD.text
    rw [p1]
    unfold nextG nextB at *
    unfold capI oneI
    by_cases c1 : pickI a.what 10 < 2
    · have c2 : ¬ pickI a.what 10 = 8 := by omega
      simp only [c1, c2, if_true, if_false, true_and, false_and, or_false, decide_true, Bool.true_or] at hc ⊢
      (repeat' split) <;> omega
    · by_cases c2 : pickI a.what 10 = 8
      · simp only [c2, if_true, true_and] at hc ⊢
        simp only [show ¬ ((8 : Int) < 2) by omega, if_false, false_and, false_or, decide_false, decide_true, Bool.or_true, if_true] at hc ⊢
        (repeat' split) <;> omega
      · simp only [c1, c2, if_false, decide_false, Bool.or_self, Bool.false_eq_true]
        omega
theorem cap_le (g b : Int) : capI g b ≤ 3 := by
  unfold capI
  (repeat' split) <;> omega
end Go.Proofs.YtlafddeoheambaaGreatDoor

/-
  The functions name and Act.text of package hazekeep.
-/
namespace Go.Proofs.YtlafddeoheambaaGreatDoor
open Go.RowKit

theorem cat_name3 {P : Program} (a b : ByteArray) (m n : Nat) (ha : a.size ≤ m) (hb : b.size ≤ n) (hmn : m + n ≤ 1000000000000) : ∃ s : ByteArray, s = a ++ b ∧ s.size ≤ m + n ∧ ∀ w, (Op.stringOp .add a b).run P w = .ok (.string s) w :=
  ⟨_, rfl, by rw [ByteArray.size_append]; omega, fun w => run_string_add_sum w a b (by omega)⟩
set_option maxRecDepth 100000 in
set_option maxHeartbeats 2000000 in
theorem kname_any (n : Int) (w : World) (h : -9223372036854775808 ≤ n ∧ n ≤ 9223372036854775807) :
    Calls Tryz.prog 33 #[.int .i64 n] w fun e w' => e = .returned (.string (nmB (pickI n 5))) ∧ Below w.heap.size w w' := by
  have hi := pickI_bd n 5 (by omega)
  have HP := hidOf (fun wx => kpick_any n 5 wx h.1 h.2 (by omega) (by omega))
  have HA : Hid (∀ o : Obj, Below w.heap.size w (w.alloc o)) := fun o => (Below.refl _ w).alloc (Nat.le_refl _) o
  obtain ⟨i, hie⟩ : ∃ i, i = pickI n 5 := ⟨_, rfl⟩
  rw [← hie] at hi HP ⊢
  clear hie h
  obtain rfl | rfl | rfl | rfl | rfl : i = 0 ∨ i = 1 ∨ i = 2 ∨ i = 3 ∨ i = 4 := by omega
  all_goals
    go_enter Tryz.func33, Tryz.ntmps33
    go_wp2_with fail
    refine (HP.out _).mono ?_
    rintro e w' ⟨rfl, h⟩
    rw [h]
    clear h w'
    go_wp2
    go_ret
    exact ⟨rfl, HA.out _⟩

def wordsA : Array Value := #[.string ⟨#[103, 111]⟩, .string ⟨#[103, 111]⟩, .string ⟨#[108, 101, 102, 116]⟩, .string ⟨#[114, 105, 103, 104, 116]⟩, .string ⟨#[98, 97, 99, 107]⟩, .string ⟨#[100, 105, 103]⟩, .string ⟨#[100, 105, 103]⟩, .string ⟨#[115, 101, 108, 108]⟩, .string ⟨#[98, 117, 105, 108, 100]⟩, .string ⟨#[99, 97, 108, 108]⟩]
theorem words_at (k : Nat) (h : k < 10) : wordsA[k]? = some (.string (wdB k)) := by
  obtain rfl | rfl | rfl | rfl | rfl | rfl | rfl | rfl | rfl | rfl : k = 0 ∨ k = 1 ∨ k = 2 ∨ k = 3 ∨ k = 4 ∨ k = 5 ∨ k = 6 ∨ k = 7 ∨ k = 8 ∨ k = 9 := by omega
  all_goals rfl
/-- The box of an act, and the list of words behind it. -/
structure ActBox (w wx : World) (a : ActD) (k : Nat) : Prop where
  b : Below w.heap.size w wx
  c0 : wx.cell? ⟨w.heap.size, 0, none⟩ = some (.int .i64 a.who)
  c1 : wx.cell? ⟨w.heap.size, 1, none⟩ = some (.int .i64 a.what)
  c2 : wx.cell? ⟨w.heap.size, 2, none⟩ = some (.int .i64 a.name)
  d : wx.cell? ⟨w.heap.size + 1, k, none⟩ = some (.string (wdB k))
  s : w.heap.size + 2 ≤ wx.heap.size
theorem ActBox.below {w wx w' : World} {a : ActD} {k : Nat} (h : ActBox w wx a k) (hb : Below wx.heap.size wx w') : ActBox w w' a k := by
  have hs := h.s
  exact ⟨h.b.trans (hb.mono h.b.size), (hb.cell (p := ⟨w.heap.size, 0, none⟩) (by show w.heap.size < _; omega)).trans h.c0, (hb.cell (p := ⟨w.heap.size, 1, none⟩) (by show w.heap.size < _; omega)).trans h.c1, (hb.cell (p := ⟨w.heap.size, 2, none⟩) (by show w.heap.size < _; omega)).trans h.c2, (hb.cell (p := ⟨w.heap.size + 1, k, none⟩) (by show w.heap.size + 1 < _; omega)).trans h.d, Nat.le_trans hs hb.size⟩
theorem ActBox.first (w : World) (a : ActD) (k : Nat) (hk : k < 10) : ActBox w ((w.alloc (.cells #[.int .i64 a.who, .int .i64 a.what, .int .i64 a.name] 33)).alloc (.cells wordsA 9)) a k := by
  have s1 : (w.alloc (.cells #[.int .i64 a.who, .int .i64 a.what, .int .i64 a.name] 33)).heap.size = w.heap.size + 1 := by simp
  have h1 := Go.heap_alloc_new w (.cells #[.int .i64 a.who, .int .i64 a.what, .int .i64 a.name] 33)
  have h2 := Go.heap_alloc_new (w.alloc (.cells #[.int .i64 a.who, .int .i64 a.what, .int .i64 a.name] 33)) (.cells wordsA 9)
  rw [s1] at h2
  have h1' : ((w.alloc (.cells #[.int .i64 a.who, .int .i64 a.what, .int .i64 a.name] 33)).alloc (.cells wordsA 9)).heap[w.heap.size]? = some (.cells #[.int .i64 a.who, .int .i64 a.what, .int .i64 a.name] 33 (0, 0)) := by rw [Below.heap_alloc _ _ _ (by omega), h1]
  refine ⟨((Below.refl _ w).alloc (Nat.le_refl _) _).alloc (by omega) _, ?_, ?_, ?_, ?_, by simp⟩
  · rw [cell_of_row _ _ _ _ _ _ h1']; rfl
  · rw [cell_of_row _ _ _ _ _ _ h1']; rfl
  · rw [cell_of_row _ _ _ _ _ _ h1']; rfl
  · rw [cell_of_row _ _ _ _ _ _ h2]; exact words_at k hk

set_option maxRecDepth 100000 in
set_option maxHeartbeats 4000000 in
theorem ktext_any (a : ActD) (ha : a.ok) (w : World) :
    Calls Tryz.prog 13 #[.agg #[.int .i64 a.who, .int .i64 a.what, .int .i64 a.name]] w fun e w' => e = .returned (.string a.text) ∧ Below w.heap.size w w' := by
  have hk := pickI_bd a.what 10 (by omega)
  obtain ⟨k, hke⟩ := Int.eq_ofNat_of_zero_le hk.1
  have hk10 : k < 10 := by omega
  have HP := hidOf (fun wx => kpick_any a.what 10 wx ha.what.1 ha.what.2 (by omega) (by omega))
  rw [hke] at HP
  obtain ⟨i, hi⟩ : ∃ i, i = nmB (pickI a.who 5) := ⟨_, rfl⟩
  obtain ⟨m, hm⟩ : ∃ m, m = nmB (pickI a.name 5) := ⟨_, rfl⟩
  obtain ⟨d, hd⟩ : ∃ d, d = wdB k := ⟨_, rfl⟩
  have zi : i.size ≤ 2 := by rw [hi]; exact nmB_size _
  have zm : m.size ≤ 2 := by rw [hm]; exact nmB_size _
  have zd : d.size ≤ 5 := by rw [hd]; exact wdB_size _
  obtain ⟨s1, e1, z1, a1⟩ := cat_name3 (P := Tryz.prog) i ⟨#[32]⟩ 2 1 zi (by decide) (by omega)
  obtain ⟨s2, e2, z2, a2⟩ := cat_name3 (P := Tryz.prog) s1 d 3 5 z1 zd (by omega)
  obtain ⟨s3, e3, z3, a3⟩ := cat_name3 (P := Tryz.prog) s2 ⟨#[32]⟩ 8 1 z2 (by decide) (by omega)
  obtain ⟨s4, e4, z4, a4⟩ := cat_name3 (P := Tryz.prog) s3 m 9 2 z3 zm (by omega)
  have fin : Hid (a.text = if 7 < (k : Int) then s4 else s2) := by
    unfold Hid ActD.text textOf
    rw [hke, e4, e3, e2, e1, hi, hm, hd]
  have HN : Hid (∀ wx : World, Calls Tryz.prog 33 #[.int .i64 a.who] wx fun e w' => e = .returned (.string i) ∧ Below wx.heap.size wx w') := fun wx => by rw [hi]; exact kname_any a.who wx ha.who
  have HM : Hid (∀ wx : World, Calls Tryz.prog 33 #[.int .i64 a.name] wx fun e w' => e = .returned (.string m) ∧ Below wx.heap.size wx w') := fun wx => by rw [hm]; exact kname_any a.name wx ha.name
  have HF := hidOf (ActBox.first w a k hk10)
  unfold wordsA at HF
  have HS : Hid (∀ wx, Hid (ActBox w wx a k) → wx.cell? ⟨w.heap.size, 0, none⟩ = some (.int .i64 a.who) ∧ wx.cell? ⟨w.heap.size + 1, k, none⟩ = some (.string d)) := fun wx h => ⟨h.out.c0, by rw [hd]; exact h.out.d⟩
  have c1 : ∀ o, ((w.alloc (.cells #[.int .i64 a.who, .int .i64 a.what, .int .i64 a.name] 33)).alloc o).cell? ⟨w.heap.size, 1, none⟩ = some (.int .i64 a.what) := fun o => by
    rw [World.cell?_of_block (Below.heap_alloc _ _ _ (by simp)), cell_of_row _ _ _ _ _ _ (Go.heap_alloc_new w _)]; rfl
  clear e1 e2 e3 e4 z1 z2 z3 z4 zi zm zd hi hm hd ha hk hke
  go_enter Tryz.func13, Tryz.ntmps13
  go_wp2_with fail
  refine (HP.out _).mono ?_
  rintro e w' ⟨rfl, h⟩
  rw [h]
  clear h w'
  go_wp2_with fail
  go_cut [5] (fun s wc => s = .string s2 ∧ Hid (ActBox w wc a k))
  case first =>
    have B0 := hidOf (HF.out.below (Below.refl _ _).drew)
    have S0 := HS.out _ B0
    have hk0 : (k : Int) < 10 := by omega
    clear HF c1
    go_region_held3 (fun w' => w'.cell? ⟨w.heap.size, 0, none⟩ = some (.int .i64 a.who) ∧ w'.cell? ⟨w.heap.size + 1, k, none⟩ = some (.string d)) (first | assumption | exact S0) (first | (go_at_call 33; refine (HN.out _).mono ?_; rintro e w2 ⟨rfl, hb2⟩; have B2 := hidOf (ActBox.below (Hid.out (by assumption)) hb2); have S2 := HS.out _ B2))
    all_goals
      go_wp2_with fail
      go_meet
      exact ⟨rfl, by assumption⟩
  case rest =>
    obtain ⟨rfl, Bc⟩ := hcut
    clear HF c1 HS a1 a2
    have c2 := Bc.out.c2
    by_cases h7 : (7 : Int) < (k : Int)
    · have fin' : Hid (a.text = s4) := by have := fin.out; rw [if_pos h7] at this; exact this
      clear fin
      go_wp2_with fail
      refine (HM.out _).mono ?_
      rintro e w3 ⟨rfl, hb3⟩
      have Bf := hidOf (Bc.out.below hb3).b
      clear c2 Bc hb3
      go_wp2
      go_ret
      exact ⟨by rw [fin'.out]; rfl, Bf.out⟩
    · have fin' : Hid (a.text = s2) := by have := fin.out; rw [if_neg h7] at this; exact this
      have Bf := hidOf Bc.out.b
      clear fin c2 Bc
      go_wp2
      go_ret
      exact ⟨by rw [fin'.out]; rfl, Bf.out⟩
end Go.Proofs.YtlafddeoheambaaGreatDoor

/-
  Acts that are handed in.
-/
namespace Go.Proofs.YtlafddeoheambaaGreatDoor
open Go.RowKit

/-- Acts that are handed in. -/
def ActsIn (w : World) (v : Value) (ds : List ActD) : Prop :=
  ∃ ao cap, v = .slice ao ds.length cap ∧ ds.length ≤ 9223372036854775807 ∧ (0 < ds.length → ∃ b off, ao = some ⟨b, off, none⟩ ∧ b < w.heap.size ∧ ∀ (j : Nat) u, (ds.flatMap actCells)[j]? = some u → w.cell? ⟨b, off + j, none⟩ = some u)
theorem acts_cell {w wx : World} {b off : Nat} {ds : List ActD} (hb : b < w.heap.size) (hB : Below w.heap.size w wx) (hc : ∀ (j : Nat) u, (ds.flatMap actCells)[j]? = some u → w.cell? ⟨b, off + j, none⟩ = some u) (k : Nat) (hk : k < ds.length) :
    wx.cell? ⟨b, off + k * 3, none⟩ = some (.int .i64 ds[k].who) ∧ wx.cell? ⟨b, off + k * 3 + 1, none⟩ = some (.int .i64 ds[k].what) ∧ wx.cell? ⟨b, off + k * 3 + 2, none⟩ = some (.int .i64 ds[k].name) := by
  have f := fun j (hj : j < 3) => flat_at actCells 3 (fun _ => rfl) ds k j hk hj
  have g := fun j (hj : j < 3) u (hu : (actCells ds[k])[j]? = some u) => (hB.cell (p := ⟨b, off + (k * 3 + j), none⟩) hb).trans (hc (k * 3 + j) u ((f j hj).trans hu))
  exact ⟨g 0 (by omega) _ rfl, g 1 (by omega) _ rfl, g 2 (by omega) _ rfl⟩
end Go.Proofs.YtlafddeoheambaaGreatDoor

/-
  The function Balance of package hazekeep: what each call leaves of its world.
-/
namespace Go.Proofs.YtlafddeoheambaaGreatDoor
open Go.RowKit

/-- Balance's world, ahead of a Tick. -/
structure BalK (w wx : World) (b : Nat) (X : XW) (i paid : Int) : Prop where
  k : KInL w wx X
  e : X.b = b
  bal : Bal X.S paid
  now : X.S.now = i
section
variable {w wx : World} {X : XW} {b : Nat} {i paid : Int}
theorem BalK.below {w' : World} (h : BalK w wx b X i paid) (hb : Below wx.heap.size wx w') : BalK w w' b X i paid := ⟨h.k.below hb, h.e, h.bal, h.now⟩
theorem BalK.order (h : BalK w wx b X i paid) (n : Int) (t : ByteArray) (hs : t.size ≤ 2000000) :
    Calls Tryz.prog 10 #[.pointer (some ⟨b, 0, none⟩), .int .i64 n, .string t] wx fun e w' => ∃ c X', e = .returned (.int .i64 c) ∧ BalK w w' b X' i paid ∧ X'.S.lots = X.S.lots := by
  have := h.k.order2 n t hs
  rw [h.e] at this
  refine this.mono ?_
  rintro e w' ⟨rfl, X', T, K, hS⟩
  exact ⟨_, X', rfl, ⟨K, T.b.trans h.e, by rw [hS]; exact h.bal.order n _, by rw [hS]; exact (Wth.order X.S n _).2.2.trans h.now⟩, by rw [hS]; exact (Wth.order X.S n _).2.1⟩
theorem BalK.offer (h : BalK w wx b X i paid) (least : Int) (hl : 0 ≤ least ∧ least ≤ 100000) :
    Calls Tryz.prog 19 #[.pointer (some ⟨b, 0, none⟩), .string ⟨#[108, 111, 116]⟩, .int .i64 least, .int .i64 3] wx fun e w' => e = .returned (.int .i64 (if X.S.lots = [] then 0 else 4)) ∧ ∃ X', BalK w w' b X' i paid := by
  obtain ⟨h1, h2, h3, h4⟩ := h.bal.offer hl
  have := h.k.offer2 lotB least 3 (by decide) h3
  rw [h.e, h1] at this
  refine this.mono ?_
  rintro e w' ⟨rfl, X', T, K, hS⟩
  exact ⟨rfl, X', ⟨K, T.b.trans h.e, by rw [hS]; exact h2, by rw [hS]; exact h4.trans h.now⟩⟩
theorem BalK.tick (h : BalK w wx b X i paid) (hi : i < 1000) :
    Calls Tryz.prog 11 #[.pointer (some ⟨b, 0, none⟩)] wx fun e w' => e = .returned (.int .i64 0) ∧ ∃ X', BalK w w' b X' (i + 1) (paid + sumI paidP X'.S.players) ∧ NwS X'.S := by
  have := h.k.tick2
  have e2 : tickC X.S = 0 := by unfold tickC; rw [h.now, if_neg (by omega)]
  have e3 : tickN X.S = tickS X.S := by unfold tickN; rw [h.now, if_neg (by omega)]
  rw [h.e, e2, e3] at this
  refine this.mono ?_
  rintro e w' ⟨rfl, X', T, K, hS⟩
  obtain ⟨n1, n2⟩ := h.bal.tick h.k.g
  have hnow : (tickS X.S).now = X.S.now + 1 := by
    have := (fold_keep (dueL (midS X.S).lots (midS X.S).now) (midS X.S)).1
    exact this
  exact ⟨rfl, X', ⟨K, T.b.trans h.e, by rw [hS]; exact n2, by rw [hS, hnow, h.now]⟩, by rw [hS]; exact n1⟩
theorem KInL.viewLen {n : Nat} {p : SPlayer} {v : XV} (h : KInL w wx X) (hq : X.pls[n]? = some (p, v)) : (bytesOf (viewL X.S n p)).size ≤ 10000000000 := by
  have hA := h.g.allX h.ok
  have hnow := h.g.now
  have hp : p ∈ X.S.players := List.mem_of_getElem? (XS_at hq)
  have h1 := own_len hA (by omega) hnow h.g.nm hp
  have h2 := rows_len hA n p.units
  have h3 := lots_len hA hnow h.g.nm n
  have h4 := flat_len (saleL n) X.sales 20000000 (fun s hs => saleL_len n s ⟨(h.sl.each s hs).2.2.1, (h.sl.each s hs).2.2.2.1, (h.sl.each s hs).2.2.2.2⟩)
  have h5 := h.sl.len
  rw [bytesOf_size]
  unfold viewL
  rw [lots_are hA.ok hq, news_are h.n h.sl hq]
  simp only [List.length_append]
  omega
/-- What Balance looks at behind a Tick. -/
structure BalL (w wx : World) (b : Nat) (X : XW) (i paid : Int) (z : Sm) (m0 m1 : Int) : Prop where
  k : BalK w wx b X i paid
  seen : ∀ wy, Below wx.heap.size wx wy → Tab w → Calls Tryz.prog 21 #[.pointer (some ⟨b, 0, none⟩)] wy fun e w' => e = .returned (.agg #[.int .i64 z.u, .int .i64 z.c, .int .i64 z.o, .int .i64 z.p]) ∧ Below wy.heap.size wy w'
  u : 2 ≤ z.u ∧ z.u ≤ 10
  c : 0 ≤ z.c ∧ z.c ≤ 90
  o : 0 ≤ z.o ∧ z.o ≤ 1000
  p : 0 ≤ z.p
  a : 0 ≤ m0 ∧ m0 ≤ 100000000
  b : 0 ≤ m1 ∧ m1 ≤ 100000000
  s : m0 + m1 = 1430 - paid - 50 * z.u - 10 * z.c - 10 * z.o
  y0 : moneyS X.S 0 = (m0, 0)
  y1 : moneyS X.S 1 = (m1, 0)
theorem sum_bd (us : List SUnit) (h : ∀ u ∈ us, 0 ≤ u.cargo ∧ u.cargo ≤ 9) : 0 ≤ sumI (·.cargo) us ∧ sumI (·.cargo) us ≤ 9 * us.length := by
  induction us with
  | nil => exact ⟨Int.le_refl 0, Int.le_refl 0⟩
  | cons u r ih =>
    have h1 := ih (fun v hv => h v (by simp [hv]))
    have h2 := h u (by simp)
    simp only [sumI, List.length_cons]
    omega
theorem ore_bd (o : List SSpot) (h : ∀ t ∈ o, 0 ≤ t.amount ∧ t.amount ≤ 99) : 0 ≤ sumI (·.amount) o ∧ sumI (·.amount) o ≤ 99 * o.length := by
  induction o with
  | nil => exact ⟨Int.le_refl 0, Int.le_refl 0⟩
  | cons u r ih =>
    have h1 := ih (fun v hv => h v (by simp [hv]))
    have h2 := h u (by simp)
    simp only [sumI, List.length_cons]
    omega
theorem paid_nn {p : SPlayer} (h : ∀ m ∈ p.news, NwOK m) : 0 ≤ paidP p := by
  unfold paidP
  revert h
  induction p.news with
  | nil => intro _; exact Int.le_refl 0
  | cons m r ih =>
    intro h
    have h1 := ih (fun v hv => h v (by simp [hv]))
    have h2 : 0 ≤ paidM m := by
      unfold paidM
      split
      · rename_i hb
        exact ((h m (by simp)).n hb).val.elim (fun _ h => h.2.1)
      · omega
    simp only [sumI]
    omega
theorem BalK.look (h : BalK w wx b X i paid) (hw : NwS X.S) : ∃ z m0 m1, BalL w wx b X i paid z m0 m1 ∧ z.p = sumI paidP X.S.players := by
  obtain ⟨p, q, hpq⟩ : ∃ p q, X.S.players = [p, q] := by
    have := h.bal.pl
    match hh : X.S.players, this with
    | [p, q], _ => exact ⟨p, q, rfl⟩
  have g := h.k.g
  have mp : p ∈ X.S.players := by rw [hpq]; simp
  have mq : q ∈ X.S.players := by rw [hpq]; simp
  have p0 : X.S.players[0]? = some p := by rw [hpq]; rfl
  have p1 : X.S.players[1]? = some q := by rw [hpq]; rfl
  have pk := g.wf.each p mp
  have qk := g.wf.each q mq
  have hpl : X.S.players = X.pls.map (·.1) := rfl
  obtain ⟨v0, q0⟩ : ∃ v, X.pls[0]? = some (p, v) := by
    rw [hpl, List.getElem?_map, Option.map_eq_some_iff] at p0
    obtain ⟨⟨a, v⟩, h1, rfl⟩ := p0
    exact ⟨v, h1⟩
  obtain ⟨v1, q1⟩ : ∃ v, X.pls[1]? = some (q, v) := by
    rw [hpl, List.getElem?_map, Option.map_eq_some_iff] at p1
    obtain ⟨⟨a, v⟩, h1, rfl⟩ := p1
    exact ⟨v, h1⟩
  have w0 : (viewS X.S 0).1 = bytesOf (viewL X.S 0 p) := by
    unfold viewS
    rw [if_pos (by rw [hpq]; simp)]
    show (match X.S.players[0]? with | none => ((⟨#[]⟩ : ByteArray), (1 : Int)) | some p => (bytesOf (viewL X.S 0 p), 0)).1 = _
    rw [p0]
  have w1 : (viewS X.S 1).1 = bytesOf (viewL X.S 1 q) := by
    unfold viewS
    rw [if_pos (by rw [hpq]; simp)]
    show (match X.S.players[1]? with | none => ((⟨#[]⟩ : ByteArray), (1 : Int)) | some p => (bytesOf (viewL X.S 1 p), 0)).1 = _
    rw [p1]
  have lno : ∀ l ∈ sortL X.S.lots, NoE l.name := fun l hl => by
    rw [h.bal.lt l ((sortL_mem _ _).1 hl)]
    exact no_lit (by decide)
  have l0 : linesB (viewS X.S 0).1.data.toList = viewLs X.S 0 p := by
    rw [w0, bytesOf_toList]
    exact (view_lns X.S 0 p (fun u hu => (h.bal.cl p mp u hu).1) lno (fun m hm => (hw p mp m hm).no)).lines
  have l1 : linesB (viewS X.S 1).1.data.toList = viewLs X.S 1 q := by
    rw [w1, bytesOf_toList]
    exact (view_lns X.S 1 q (fun u hu => (h.bal.cl q mq u hu).1) lno (fun m hm => (hw q mq m hm).no)).lines
  have hc : ∀ n : Nat, n < 2 → n = 0 ∨ n = 1 := fun n hn => by omega
  have cp := sum_bd p.units (fun u hu => (pk.each u hu).cargo)
  have cq := sum_bd q.units (fun u hu => (qk.each u hu).cargo)
  have co := ore_bd X.S.ore g.wf.ora
  have pn := paid_nn (hw p mp)
  have qn := paid_nn (hw q mq)
  have up := pk.un
  have uq := qk.un
  have orn := g.wf.orn
  have wo := h.bal.wo
  have now := g.now
  have mo0 := pk.mo
  have mo1 := qk.mo
  have hz : sumT (viewLs X.S 0 p) (viewLs X.S 1 q) 2 = ⟨(p.units.length : Int) + q.units.length, sumI (·.cargo) p.units + sumI (·.cargo) q.units, sumI (·.amount) X.S.ore, paidP p + paidP q⟩ := by
    show sumL false (sumL true Sm.none (viewLs X.S 0 p)) (viewLs X.S 1 q) = _
    rw [view_sum h.bal g hw 0 mp, view_sum h.bal g hw 1 mq]
    simp [Sm.none]
  refine ⟨⟨(p.units.length : Int) + q.units.length, sumI (·.cargo) p.units + sumI (·.cargo) q.units, sumI (·.amount) X.S.ore, paidP p + paidP q⟩, p.money, q.money, ⟨h, fun wy hy ht => ?_, ?_, ?_, ?_, ?_, ?_, ?_, ?_, ?_, ?_⟩, ?_⟩
  · have := kseen_any w wy X b h.e (h.k.below hy) ht (fun n => if n = 0 then viewLs X.S 0 p else viewLs X.S 1 q) (fun n hn => by
      rcases hc n hn with rfl | rfl
      · exact l0
      · exact l1) (fun n hn => by
      rcases hc n hn with rfl | rfl
      · show (viewS X.S 0).1.size ≤ _
        rw [w0]
        exact h.k.viewLen q0
      · show (viewS X.S 1).1.size ≤ _
        rw [w1]
        exact h.k.viewLen q1) (fun n hn => by
      rcases hc n hn with rfl | rfl
      · exact view_okL g hw 0 mp
      · exact view_okL g hw 1 mq)
    have e : sumT ((fun n : Nat => if n = 0 then viewLs X.S 0 p else viewLs X.S 1 q) 0) ((fun n : Nat => if n = 0 then viewLs X.S 0 p else viewLs X.S 1 q) 1) 2 = ⟨(p.units.length : Int) + q.units.length, sumI (·.cargo) p.units + sumI (·.cargo) q.units, sumI (·.amount) X.S.ore, paidP p + paidP q⟩ := hz
    rw [e] at this
    exact this
  · show 2 ≤ (p.units.length : Int) + q.units.length ∧ (p.units.length : Int) + q.units.length ≤ 10
    omega
  · show 0 ≤ sumI (·.cargo) p.units + sumI (·.cargo) q.units ∧ sumI (·.cargo) p.units + sumI (·.cargo) q.units ≤ 90
    omega
  · show 0 ≤ sumI (·.amount) X.S.ore ∧ sumI (·.amount) X.S.ore ≤ 1000
    omega
  · show 0 ≤ paidP p + paidP q
    omega
  · omega
  · omega
  · show p.money + q.money = 1430 - paid - 50 * ((p.units.length : Int) + q.units.length) - 10 * (sumI (·.cargo) p.units + sumI (·.cargo) q.units) - 10 * sumI (·.amount) X.S.ore
    unfold worthS at wo
    rw [hpq] at wo
    simp only [sumI, worthP] at wo
    omega
  · unfold moneyS
    rw [if_pos (by rw [hpq]; simp)]
    show (match X.S.players[0]? with | none => ((0 : Int), (1 : Int)) | some p => (p.money, 0)) = _
    rw [p0]
  · unfold moneyS
    rw [if_pos (by rw [hpq]; simp)]
    show (match X.S.players[1]? with | none => ((0 : Int), (1 : Int)) | some p => (p.money, 0)) = _
    rw [p1]
  · show paidP p + paidP q = sumI paidP X.S.players
    rw [hpq]
    simp only [sumI]
    omega
variable {z : Sm} {m0 m1 : Int}
theorem BalL.money0 (h : BalL w wx b X i paid z m0 m1) (wy : World) (hy : Below wx.heap.size wx wy) : Calls Tryz.prog 14 #[.pointer (some ⟨b, 0, none⟩), .int .i64 0] wy fun e w' => e = .returned (.tuple #[.int .i64 m0, .int .i64 0]) ∧ w' = wy := by
  have := xmoney_any wy X _ 0 (h.k.k.below hy).rep h.k.k.g.wf
  rw [h.y0, h.k.e] at this
  exact this
theorem BalL.money1 (h : BalL w wx b X i paid z m0 m1) (wy : World) (hy : Below wx.heap.size wx wy) : Calls Tryz.prog 14 #[.pointer (some ⟨b, 0, none⟩), .int .i64 1] wy fun e w' => e = .returned (.tuple #[.int .i64 m1, .int .i64 0]) ∧ w' = wy := by
  have := xmoney_any wy X _ 1 (h.k.k.below hy).rep h.k.k.g.wf
  rw [h.y1, h.k.e] at this
  exact this
end
end Go.Proofs.YtlafddeoheambaaGreatDoor
