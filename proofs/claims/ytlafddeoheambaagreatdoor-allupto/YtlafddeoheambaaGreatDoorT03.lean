/-
  That the program's maps say what the lists of units and of ore say.
-/
import Derived.Test.YtlafddeoheambaaGreatDoorT02
import Derived.Test.YtlafddeoheambaaGreatDoorT01
set_option linter.unusedVariables false
namespace Go.Proofs.YtlafddeoheambaaGreatDoor
open Go.RowKit

/-- The spots of all units, player by player. -/
def posP (p : SPlayer) : List (Int × Int) := p.units.map (fun u => (u.x, u.y))
def posL (ps : List SPlayer) : List (List (Int × Int)) := ps.map posP
structure StOK (P : List (List (Int × Int))) (l : List CE) : Prop where
  a : ∀ (n : Nat) us (k : Nat) x y, P[n]? = some us → us[k]? = some (x, y) → look x y l = some (n : Int)
  b : ∀ x y m, look x y l = some m → ∃ (n : Nat) (us : List (Int × Int)) (k : Nat), P[n]? = some us ∧ us[k]? = some (x, y)
  d : ∀ (n : Nat) us (k k' : Nat) x y, P[n]? = some us → us[k]? = some (x, y) → us[k']? = some (x, y) → k = k'

theorem posL_set (ps : List SPlayer) (n : Nat) (p : SPlayer) : posL (ps.set n p) = (posL ps).set n (posP p) := by simp [posL, List.map_set]
theorem posL_at {ps : List SPlayer} {n : Nat} {p : SPlayer} (h : ps[n]? = some p) : (posL ps)[n]? = some (posP p) := by simp [posL, h]
theorem posP_at {p : SPlayer} {k : Nat} {u : SUnit} (h : p.units[k]? = some u) : (posP p)[k]? = some (u.x, u.y) := by simp [posP, h]
theorem set_id {α : Type} {l : List α} {n : Nat} {a : α} (h : l[n]? = some a) : l.set n a = l := by
  obtain ⟨hn, rfl⟩ := at_some h
  apply List.ext_getElem
  · simp
  · intro i h1 h2
    simp only [List.getElem_set]
    split
    · rename_i e; subst e; rfl
    · rfl
/-- A unit turned, its spot as it was. -/
theorem posL_same {ps : List SPlayer} {n k : Nat} {p : SPlayer} {u : SUnit} (hp : ps[n]? = some p) (hu : p.units[k]? = some u) (p' : SPlayer) (u' : SUnit) (hx : u'.x = u.x) (hy : u'.y = u.y) (h' : p'.units = p.units.set k u') : posL (ps.set n p') = posL ps := by
  rw [posL_set]
  have : posP p' = posP p := by
    unfold posP
    rw [h']
    exact map_set_same _ p.units k u u' hu (by simp [hx, hy])
  rw [this]
  exact set_id (posL_at hp)
theorem posL_money {ps : List SPlayer} {n : Nat} {p : SPlayer} (hp : ps[n]? = some p) (p' : SPlayer) (h' : p'.units = p.units) : posL (ps.set n p') = posL ps := by
  rw [posL_set]
  have : posP p' = posP p := by unfold posP; rw [h']
  rw [this]
  exact set_id (posL_at hp)

theorem StOK.empty (m : Nat) : StOK (List.replicate m []) [] := by
  refine ⟨fun n us k x y h1 h2 => ?_, fun x y m h => by simp [look] at h, fun n us k k' x y h1 h2 => ?_⟩
  all_goals
    obtain ⟨hn, e⟩ := at_some h1
    simp at e
    subst e
    simp at h2
/-- A unit goes to a free spot. -/
theorem StOK.go {P : List (List (Int × Int))} {l : List CE} (h : StOK P l) (hd : keysD l) {n k : Nat} {us : List (Int × Int)} {x y x' y' : Int} (hn : P[n]? = some us) (hk : us[k]? = some (x, y)) (hf : look x' y' l = none) (c : Nat) :
    StOK (P.set n (us.set k (x', y'))) (cput x' y' (n : Int) c (cdel x y l)) := by
  have hxy : ¬ (x' = x ∧ y' = y) := by
    rintro ⟨rfl, rfl⟩
    have := h.a n us k _ _ hn hk
    rw [hf] at this
    cases this
  have key : ∀ a b, look a b (cput x' y' (n : Int) c (cdel x y l)) = if a = x' ∧ b = y' then some (n : Int) else if a = x ∧ b = y then none else look a b l := fun a b => by rw [look_put, look_del _ _ _ hd]
  have nx : ∀ (j : Nat) vs (m : Nat) a b, P[j]? = some vs → vs[m]? = some (a, b) → ¬ (a = x' ∧ b = y') := fun j vs m a b h1 h2 e => by
    have := h.a j vs m a b h1 h2
    rw [e.1, e.2, hf] at this
    cases this
  have same : ∀ (j : Nat) vs (m : Nat), P[j]? = some vs → vs[m]? = some (x, y) → j = n ∧ m = k := fun j vs m h1 h2 => by
    have e1 := h.a j vs m x y h1 h2
    have e2 := h.a n us k x y hn hk
    rw [e2] at e1
    have : n = j := by injection e1 with e1; omega
    subst this
    rw [hn] at h1
    injection h1 with h1
    subst h1
    exact ⟨rfl, h.d n us m k x y hn h2 hk⟩
  have getP : ∀ (j : Nat) vs (m : Nat) a b, (P.set n (us.set k (x', y')))[j]? = some vs → vs[m]? = some (a, b) → (j = n ∧ m = k ∧ a = x' ∧ b = y') ∨ (¬ (j = n ∧ m = k) ∧ ∃ vs', P[j]? = some vs' ∧ vs'[m]? = some (a, b)) := fun j vs m a b h1 h2 => by
    rcases set_get hn h1 with ⟨rfl, rfl⟩ | ⟨hne, h1'⟩
    · rcases set_get hk h2 with ⟨rfl, e⟩ | ⟨hne, h2'⟩
      · injection e with e1 e2
        exact .inl ⟨rfl, rfl, e1, e2⟩
      · exact .inr ⟨fun e => hne e.2, us, hn, h2'⟩
    · exact .inr ⟨fun e => hne e.1, vs, h1', h2⟩
  refine ⟨fun j vs m a b h1 h2 => ?_, fun a b m hm => ?_, fun j vs m m' a b h1 h2 h3 => ?_⟩
  · rw [key]
    rcases getP j vs m a b h1 h2 with ⟨rfl, rfl, rfl, rfl⟩ | ⟨hne, vs', h1', h2'⟩
    · simp
    · rw [if_neg (nx j vs' m a b h1' h2')]
      rw [if_neg (fun e => hne (same j vs' m h1' (by rw [← e.1, ← e.2]; exact h2')))]
      exact h.a j vs' m a b h1' h2'
  · rw [key] at hm
    obtain ⟨hk', _⟩ := at_some hk
    obtain ⟨hn', _⟩ := at_some hn
    split at hm
    · rename_i e
      exact ⟨n, us.set k (x', y'), k, by simp [hn'], by simp [hk', e.1, e.2]⟩
    · split at hm
      · cases hm
      · rename_i e1 e2
        obtain ⟨j, vs, q, h1, h2⟩ := h.b a b m hm
        by_cases hj : j = n
        · subst hj
          rw [hn] at h1
          injection h1 with h1
          subst h1
          refine ⟨j, us.set k (x', y'), q, by simp [hn'], ?_⟩
          have : q ≠ k := by
            rintro rfl
            rw [hk] at h2
            injection h2 with h2
            injection h2 with h3 h4
            exact e2 ⟨h3.symm, h4.symm⟩
          simp [Ne.symm this, h2]
        · exact ⟨j, vs, q, by simp [Ne.symm hj, h1], h2⟩
  · rcases getP j vs m a b h1 h2 with ⟨rfl, rfl, rfl, rfl⟩ | ⟨hne, vs', h1', h2'⟩
    · rcases getP j vs m' a b h1 h3 with ⟨_, rfl, _, _⟩ | ⟨hne, vs', h1', h3'⟩
      · rfl
      · exact absurd ⟨rfl, rfl⟩ (nx j vs' m' a b h1' h3')
    · rcases getP j vs m' a b h1 h3 with ⟨_, _, rfl, rfl⟩ | ⟨_, vs'', h1'', h3'⟩
      · exact absurd ⟨rfl, rfl⟩ (nx j vs' m a b h1' h2')
      · rw [h1'] at h1''
        injection h1'' with h1''
        subst h1''
        exact h.d j vs' m m' a b h1' h2' h3'
/-- A unit more, at a free spot. -/
theorem StOK.add {P : List (List (Int × Int))} {l : List CE} (h : StOK P l) {n : Nat} {us : List (Int × Int)} {x' y' : Int} (hn : P[n]? = some us) (hf : look x' y' l = none) (c : Nat) :
    StOK (P.set n (us ++ [(x', y')])) (cput x' y' (n : Int) c l) := by
  have nx : ∀ (j : Nat) vs (m : Nat) a b, P[j]? = some vs → vs[m]? = some (a, b) → ¬ (a = x' ∧ b = y') := fun j vs m a b h1 h2 e => by
    have := h.a j vs m a b h1 h2
    rw [e.1, e.2, hf] at this
    cases this
  have getP : ∀ (j : Nat) vs (m : Nat) a b, (P.set n (us ++ [(x', y')]))[j]? = some vs → vs[m]? = some (a, b) → (j = n ∧ m = us.length ∧ a = x' ∧ b = y') ∨ (∃ vs', P[j]? = some vs' ∧ vs'[m]? = some (a, b)) := fun j vs m a b h1 h2 => by
    rcases set_get hn h1 with ⟨rfl, rfl⟩ | ⟨hne, h1'⟩
    · by_cases hm : m < us.length
      · rw [List.getElem?_append_left hm] at h2
        exact .inr ⟨us, hn, h2⟩
      · rw [List.getElem?_append_right (by omega)] at h2
        obtain ⟨h3, h4⟩ := at_some h2
        simp at h3
        have : m - us.length = 0 := by omega
        simp [this] at h4
        exact .inl ⟨rfl, by omega, h4.1.symm, h4.2.symm⟩
    · exact .inr ⟨vs, h1', h2⟩
  obtain ⟨hn', _⟩ := at_some hn
  refine ⟨fun j vs m a b h1 h2 => ?_, fun a b m hm => ?_, fun j vs m m' a b h1 h2 h3 => ?_⟩
  · rw [look_put]
    rcases getP j vs m a b h1 h2 with ⟨rfl, rfl, rfl, rfl⟩ | ⟨vs', h1', h2'⟩
    · simp
    · rw [if_neg (nx j vs' m a b h1' h2')]
      exact h.a j vs' m a b h1' h2'
  · rw [look_put] at hm
    split at hm
    · rename_i e
      exact ⟨n, us ++ [(x', y')], us.length, by simp [hn'], by simp [e.1, e.2]⟩
    · obtain ⟨j, vs, q, h1, h2⟩ := h.b a b m hm
      by_cases hj : j = n
      · subst hj
        rw [hn] at h1
        injection h1 with h1
        subst h1
        obtain ⟨hq, _⟩ := at_some h2
        exact ⟨j, us ++ [(x', y')], q, by simp [hn'], by rw [List.getElem?_append_left hq]; exact h2⟩
      · exact ⟨j, vs, q, by simp [Ne.symm hj, h1], h2⟩
  · rcases getP j vs m a b h1 h2 with ⟨rfl, rfl, rfl, rfl⟩ | ⟨vs', h1', h2'⟩
    · rcases getP j vs m' a b h1 h3 with ⟨_, rfl, _, _⟩ | ⟨vs', h1', h3'⟩
      · rfl
      · exact absurd ⟨rfl, rfl⟩ (nx j vs' m' a b h1' h3')
    · rcases getP j vs m' a b h1 h3 with ⟨_, _, rfl, rfl⟩ | ⟨vs'', h1'', h3'⟩
      · exact absurd ⟨rfl, rfl⟩ (nx j vs' m a b h1' h2')
      · rw [h1'] at h1''
        injection h1'' with h1''
        subst h1''
        exact h.d j vs' m m' a b h1' h2' h3'

theorem ixOf_neg {α : Type} (p : α → Bool) (l : List α) : ixOf p l < 0 ↔ ∀ a ∈ l, p a = false := by
  induction l with
  | nil => simp [ixOf]
  | cons a l ih =>
    simp only [ixOf]
    cases hp : p a
    · simp only [Bool.false_eq_true, if_false, List.mem_cons, forall_eq_or_imp, hp, true_and]
      rw [← ih]
      split
      · rename_i h; simp [h]
      · rename_i h; constructor
        · intro h'; omega
        · intro h'; exact absurd h' h
    · simp [hp]
/-- Nobody stands there. -/
theorem StOK.free {ps : List SPlayer} {l : List CE} (h : StOK (posL ps) l) (x y : Int) : decide (holderI ps x y < 0) = (look x y l).isNone := by
  have e : holderI ps x y < 0 ↔ look x y l = none := by
    unfold holderI
    rw [ixOf_neg]
    constructor
    · intro hn
      cases hl : look x y l with
      | none => rfl
      | some m =>
        obtain ⟨n, us, k, h1, h2⟩ := h.b x y m hl
        simp only [posL, List.getElem?_map, Option.map_eq_some_iff] at h1
        obtain ⟨p, hp, rfl⟩ := h1
        simp only [posP, List.getElem?_map, Option.map_eq_some_iff] at h2
        obtain ⟨u, hu, e⟩ := h2
        have := hn p (List.mem_of_getElem? hp)
        simp only [standsB, List.any_eq_false] at this
        have := this u (List.mem_of_getElem? hu)
        injection e with e1 e2
        simp [e1, e2] at this
    · intro hl p hp
      simp only [standsB, List.any_eq_false]
      intro u hu
      obtain ⟨n, hn⟩ := List.getElem?_of_mem hp
      obtain ⟨k, hk⟩ := List.getElem?_of_mem hu
      have := h.a n _ k u.x u.y (posL_at hn) (posP_at hk)
      simp only [Bool.and_eq_true, decide_eq_true_eq]
      rintro ⟨rfl, rfl⟩
      rw [hl] at this
      cases this
  cases hl : look x y l with
  | none => simp [e.2 hl]
  | some m => simp only [Option.isNone_some, decide_eq_false_iff_not]; intro h'; rw [e.1 h'] at hl; cases hl

/-- How much ore there is. -/
def oreAt (o : List SSpot) (x y : Int) : Option Int := (o.find? (hitB x y)).map (·.amount)
def oreD (o : List SSpot) : Prop := o.Pairwise (fun a b => ¬ (a.x = b.x ∧ a.y = b.y))
def OreOK (o : List SSpot) (l : List CE) : Prop := ∀ x y, look x y l = oreAt o x y
theorem oreAt_cons (s : SSpot) (o : List SSpot) (x y : Int) : oreAt (s :: o) x y = if hitB x y s then some s.amount else oreAt o x y := by
  simp only [oreAt, List.find?_cons]
  cases hitB x y s <;> simp
theorem oreAt_pos {o : List SSpot} {x y a : Int} (h : oreAt o x y = some a) : 0 < a := by
  induction o with
  | nil => simp [oreAt] at h
  | cons s o ih =>
    rw [oreAt_cons] at h
    split at h
    · rename_i e
      simp [hitB] at e
      injection h with h
      omega
    · exact ih h
theorem digB_at (o : List SSpot) (x y : Int) : digB o x y = (oreAt o x y).isSome := by
  induction o with
  | nil => rfl
  | cons s o ih =>
    rw [oreAt_cons]
    simp only [digB, List.any_cons] at ih ⊢
    cases hitB x y s <;> simp [ih]
theorem oreAt_far {o : List SSpot} {x y : Int} (h : ∀ s ∈ o, ¬ (s.x = x ∧ s.y = y)) : oreAt o x y = none := by
  induction o with
  | nil => rfl
  | cons s o ih =>
    rw [oreAt_cons, if_neg, ih (fun t ht => h t (by simp [ht]))]
    have := h s (by simp)
    simp only [hitB, Bool.and_eq_true, decide_eq_true_eq]
    rintro ⟨⟨e1, e2⟩, _⟩
    exact this ⟨e1, e2⟩
theorem oreAt_dig (o : List SSpot) (hd : oreD o) (x y a : Int) (h : oreAt o x y = some a) (x' y' : Int) : oreAt (digL x y o) x' y' = if x' = x ∧ y' = y then (if a = 1 then none else some (a - 1)) else oreAt o x' y' := by
  induction o with
  | nil => simp [oreAt] at h
  | cons s o ih =>
    have h1 := List.pairwise_cons.1 hd
    rw [oreAt_cons] at h
    simp only [digL]
    cases hs : hitB x y s
    · rw [hs] at h
      simp only [Bool.false_eq_true, if_false] at h ⊢
      rw [oreAt_cons, oreAt_cons, ih h1.2 h]
      cases hs' : hitB x' y' s
      · simp
      · simp only [if_true]
        rw [if_neg]
        rintro ⟨rfl, rfl⟩
        rw [hs] at hs'
        cases hs'
    · rw [hs] at h
      simp only [if_true] at h ⊢
      injection h with h
      simp [hitB] at hs
      rw [oreAt_cons, oreAt_cons]
      by_cases e : x' = x ∧ y' = y
      · rw [if_pos e]
        have ho : oreAt o x' y' = none := oreAt_far (fun t ht e' => h1.1 t ht ⟨by omega, by omega⟩)
        rw [ho]
        by_cases ha : a = 1
        · rw [if_pos ha, if_neg]
          simp only [hitB, Bool.and_eq_true, decide_eq_true_eq]
          omega
        · rw [if_neg ha, if_pos]
          · rw [← h]
          · simp only [hitB, Bool.and_eq_true, decide_eq_true_eq]
            omega
      · rw [if_neg e]
        have n1 : hitB x' y' { s with amount := s.amount - 1 } = false := by
          simp only [hitB, Bool.and_eq_false_iff, decide_eq_false_iff_not]
          omega
        have n2 : hitB x' y' s = false := by
          simp only [hitB, Bool.and_eq_false_iff, decide_eq_false_iff_not]
          omega
        simp [n1, n2]
theorem digL_mem {x y : Int} {o : List SSpot} {s : SSpot} (h : s ∈ digL x y o) : ∃ t ∈ o, s.x = t.x ∧ s.y = t.y := by
  induction o with
  | nil => simp [digL] at h
  | cons t o ih =>
    simp only [digL] at h
    split at h
    · rcases List.mem_cons.1 h with rfl | h
      · exact ⟨t, by simp, rfl, rfl⟩
      · exact ⟨s, by simp [h], rfl, rfl⟩
    · rcases List.mem_cons.1 h with rfl | h
      · exact ⟨_, by simp, rfl, rfl⟩
      · obtain ⟨t', h1, h2⟩ := ih h
        exact ⟨t', by simp [h1], h2⟩
theorem oreD_dig {x y : Int} {o : List SSpot} (h : oreD o) : oreD (digL x y o) := by
  induction o with
  | nil => exact h
  | cons s o ih =>
    have h1 := List.pairwise_cons.1 h
    simp only [digL]
    split
    · exact List.pairwise_cons.2 ⟨h1.1, h1.2⟩
    · refine List.pairwise_cons.2 ⟨fun t ht e => ?_, ih h1.2⟩
      obtain ⟨t', h2, h3, h4⟩ := digL_mem ht
      exact h1.1 t' h2 ⟨by omega, by omega⟩
/-- One of the ore dug. -/
theorem OreOK.dig {o : List SSpot} {l : List CE} (h : OreOK o l) (hd : oreD o) (hk : keysD l) {x y a : Int} (ha : look x y l = some a) (c : Nat) :
    OreOK (digL x y o) (if a = 1 then cdel x y (cput x y (a - 1) c l) else cput x y (a - 1) c l) := by
  intro x' y'
  have h0 : oreAt o x y = some a := by rw [← h x y]; exact ha
  rw [oreAt_dig o hd x y a h0]
  by_cases e : a = 1
  · rw [if_pos e, if_pos e, look_del _ _ _ (keysD_put hk), look_put]
    by_cases e' : x' = x ∧ y' = y
    · simp [e']
    · simp [e', h x' y']
  · rw [if_neg e, if_neg e, look_put]
    by_cases e' : x' = x ∧ y' = y
    · simp [e']
    · simp [e', h x' y']
/-- A spot of ore more. -/
theorem OreOK.add {o : List SSpot} {l : List CE} (h : OreOK o l) (s : SSpot) (hs : 0 < s.amount) (hn : ∀ t ∈ o, ¬ (t.x = s.x ∧ t.y = s.y)) (c : Nat) : OreOK (o ++ [s]) (cput s.x s.y s.amount c l) := by
  intro x' y'
  rw [look_put]
  have e : oreAt (o ++ [s]) x' y' = match oreAt o x' y' with | some a => some a | none => if hitB x' y' s then some s.amount else none := by
    simp only [oreAt, List.find?_append]
    cases h1 : List.find? (hitB x' y') o <;> simp
  rw [e]
  by_cases e' : x' = s.x ∧ y' = s.y
  · rw [if_pos e']
    rw [oreAt_far (fun t ht e'' => hn t ht ⟨by omega, by omega⟩)]
    simp [hitB, e', hs]
  · rw [if_neg e', h x' y']
    have : hitB x' y' s = false := by
      simp only [hitB, Bool.and_eq_false_iff, decide_eq_false_iff_not]
      omega
    rw [this]
    cases oreAt o x' y' <;> rfl

/-- A player turned, its bids as they were. -/
theorem bidsQ {pls : List (SPlayer × XV)} {i : Nat} {p p' : SPlayer} {v v' : XV} (hq : pls[i]? = some (p, v)) (hb : p'.bids = p.bids) : (pls.set i (p', v')).map (·.1.bids) = pls.map (·.1.bids) := map_set_same (·.1.bids) pls i (p, v) (p', v') hq hb
theorem lotQ {opens : List XLot} {lots : List SLot} {pls : List (SPlayer × XV)} (h : LotRel opens lots (pls.map (·.1.bids))) {i : Nat} {p p' : SPlayer} {v v' : XV} (hq : pls[i]? = some (p, v)) (hb : p'.bids = p.bids) : LotRel opens lots ((pls.set i (p', v')).map (·.1.bids)) := by
  rw [bidsQ hq hb]; exact h
theorem lotW {lots : List SLot} {now : Int} {pls : List (SPlayer × XV)} (h : LotWF lots (pls.map (·.1.bids)) now) {i : Nat} {p p' : SPlayer} {v v' : XV} (hq : pls[i]? = some (p, v)) (hb : p'.bids = p.bids) : LotWF lots ((pls.set i (p', v')).map (·.1.bids)) now := by
  rw [bidsQ hq hb]; exact h
/-- What the program's maps hold is what its lists hold. -/
structure OkX (X : XW) : Prop where
  st : StOK (posL (X.pls.map (·.1))) X.ls
  ore : OreOK X.ore X.lo
  dist : oreD X.ore
  lot : LotRel X.opens X.lots (X.pls.map (·.1.bids))
end Go.Proofs.YtlafddeoheambaaGreatDoor

/-
  The functions of package hazeref that only look (unit, open, among, staked, bid): each returns what its text says, and leaves the world as it was.
-/
namespace Go.Proofs.YtlafddeoheambaaGreatDoor
open Go.RowKit

/-- No one so far. -/
def noneTo {α : Type} (p : α → Bool) (l : List α) (k : Nat) : Prop := ∀ j (hj : j < l.length), j < k → p l[j] = false
theorem noneTo_zero {α : Type} (p : α → Bool) (l : List α) : noneTo p l 0 := fun _ _ h => by omega
theorem noneTo_succ {α : Type} {p : α → Bool} {l : List α} {k : Nat} (h : noneTo p l k) (hk : k < l.length) (hp : p l[k] = false) : noneTo p l (k + 1) := by
  intro j hj hjk
  by_cases e : j = k
  · subst e; exact hp
  · exact h j hj (by omega)
theorem noneTo_all {α : Type} {p : α → Bool} {l : List α} {k : Nat} (h : noneTo p l k) (hk : ¬ k < l.length) : ∀ j (hj : j < l.length), p l[j] = false := fun j hj => h j hj (by omega)

set_option maxHeartbeats 1000000 in
theorem unit_any (pb po : Nat) (us : List SUnit) (vU : Value) (nm : ByteArray) (w : World) (hc : w.cell? ⟨pb, po + 1, none⟩ = some vU) (hu : w.ownsRow 0 158 7 vU us.length (us.flatMap unitCells)) :
    Calls Tryz.prog 97 #[.pointer (some ⟨pb, po, none⟩), .string nm] w fun e w' => e = .returned (.int .i64 (unitIx us nm)) ∧ w' = w := by
  obtain ⟨ao, g, cap, rfl, hcap, hmax, rd⟩ := own_rd hu
  unfold maxLen at hmax
  clear hu
  go_enter Tryz.func97, Tryz.ntmps97
  go_wp2
  go_loop [5] (fun i => ∃ k : Nat, k ≤ us.length ∧ i = .int .i64 k ∧ Hid (noneTo (fun u => eqS u.name nm) us k)) (fun i => us.length + 1 - (intOf i).toNat)
  case atStart => exact ⟨0, Nat.zero_le _, rfl, noneTo_zero _ _⟩
  case round =>
    obtain ⟨k, hk, rfl, hn⟩ := hrel
    by_cases hlt : k < us.length
    · obtain rfl := rd.base (by omega)
      have c0 : w.cell? ⟨g, k * 7, none⟩ = some (.string us[k].name) := rd.cell (k * 7 + 0) _ (by rw [flat_at unitCells 7 (fun _ => rfl) us k 0 hlt (by omega)]; rfl)
      cases he : eqS us[k].name nm
      · have he' : (us[k].name.toList == nm.toList) = false := he
        have hn' : Hid _ := noneTo_succ hn.out hlt he
        clear he hn
        go_wp2
        exact ⟨⟨k + 1, by omega, by go_num, hn'⟩, by simp [intOf]; omega⟩
      · have he' : (us[k].name.toList == nm.toList) = true := he
        have G : Hid (_ = _) := ixOf_hit (fun u : SUnit => eqS u.name nm) us k hlt hn.out he
        clear he hn
        go_wp2
        go_ret
        exact ⟨ret_int G.out.symm, rfl⟩
    · have G : Hid (_ = _) := ixOf_miss (fun u : SUnit => eqS u.name nm) us (noneTo_all hn.out hlt)
      go_wp2
      go_ret
      exact ⟨ret_int G.out.symm, rfl⟩

set_option maxHeartbeats 1000000 in
theorem open_any (b : Nat) (ls : List SLot) (vL : Value) (nm : ByteArray) (w : World) (hc : w.cell? ⟨b, 6, none⟩ = some vL) (hu : w.ownsRow 0 168 3 vL ls.length (ls.flatMap lotCells)) :
    Calls Tryz.prog 93 #[.pointer (some ⟨b, 0, none⟩), .string nm] w fun e w' => e = .returned (.bool (openB ls nm)) ∧ w' = w := by
  obtain ⟨ao, g, cap, rfl, hcap, hmax, rd⟩ := own_rd hu
  unfold maxLen at hmax
  clear hu
  go_enter Tryz.func93, Tryz.ntmps93
  go_wp2
  go_loop [5] (fun i => ∃ k : Nat, k ≤ ls.length ∧ i = .int .i64 k ∧ Hid (noneTo (fun u => eqS u.name nm) ls k)) (fun i => ls.length + 1 - (intOf i).toNat)
  case atStart => exact ⟨0, Nat.zero_le _, rfl, noneTo_zero _ _⟩
  case round =>
    obtain ⟨k, hk, rfl, hn⟩ := hrel
    by_cases hlt : k < ls.length
    · obtain rfl := rd.base (by omega)
      have c0 : w.cell? ⟨g, k * 3, none⟩ = some (.string ls[k].name) := rd.cell (k * 3 + 0) _ (by rw [flat_at lotCells 3 (fun _ => rfl) ls k 0 hlt (by omega)]; rfl)
      cases he : eqS ls[k].name nm
      · have he' : (ls[k].name.toList == nm.toList) = false := he
        have hn' : Hid _ := noneTo_succ hn.out hlt he
        clear he hn
        go_wp2
        exact ⟨⟨k + 1, by omega, by go_num, hn'⟩, by simp [intOf]; omega⟩
      · have he' : (ls[k].name.toList == nm.toList) = true := he
        have G : Hid (_ = _) := any_hit (fun u : SLot => eqS u.name nm) ls k hlt he
        clear he hn
        go_wp2
        go_ret
        exact ⟨ret_bool G.out.symm, rfl⟩
    · have G : Hid (_ = _) := any_miss (fun u : SLot => eqS u.name nm) ls (noneTo_all hn.out hlt)
      go_wp2
      go_ret
      exact ⟨ret_bool G.out.symm, rfl⟩

set_option maxHeartbeats 1000000 in
theorem among_any (vL : Value) (ls : List ByteArray) (nm : ByteArray) (w : World) (hu : w.ownsRow 0 9 1 vL ls.length (ls.map Value.string)) :
    Calls Tryz.prog 96 #[vL, .string nm] w fun e w' => e = .returned (.bool (amongB ls nm)) ∧ w' = w := by
  obtain ⟨ao, g, cap, rfl, hcap, hmax, rd⟩ := own_rd hu
  unfold maxLen at hmax
  clear hu
  go_enter Tryz.func96, Tryz.ntmps96
  go_wp2
  go_loop [5] (fun i => ∃ k : Nat, k ≤ ls.length ∧ i = .int .i64 k ∧ Hid (noneTo (fun u => eqS u nm) ls k)) (fun i => ls.length + 1 - (intOf i).toNat)
  case atStart => exact ⟨0, Nat.zero_le _, rfl, noneTo_zero _ _⟩
  case round =>
    obtain ⟨k, hk, rfl, hn⟩ := hrel
    by_cases hlt : k < ls.length
    · obtain rfl := rd.base (by omega)
      have c0 : w.cell? ⟨g, k, none⟩ = some (.string ls[k]) := rd.cell k _ (by simp [hlt])
      cases he : eqS ls[k] nm
      · have he' : (ls[k].toList == nm.toList) = false := he
        have hn' : Hid _ := noneTo_succ hn.out hlt he
        clear he hn
        go_wp2
        exact ⟨⟨k + 1, by omega, by go_num, hn'⟩, by simp [intOf]; omega⟩
      · have he' : (ls[k].toList == nm.toList) = true := he
        have G : Hid (_ = _) := any_hit (fun u : ByteArray => eqS u nm) ls k hlt he
        clear he hn
        go_wp2
        go_ret
        exact ⟨ret_bool G.out.symm, rfl⟩
    · have G : Hid (_ = _) := any_miss (fun u : ByteArray => eqS u nm) ls (noneTo_all hn.out hlt)
      go_wp2
      go_ret
      exact ⟨ret_bool G.out.symm, rfl⟩

set_option maxHeartbeats 1000000 in
theorem bid_any (pb po : Nat) (bs : List SBid) (vB : Value) (nm : ByteArray) (w : World) (hc : w.cell? ⟨pb, po + 2, none⟩ = some vB) (hu : w.ownsRow 0 196 2 vB bs.length (bs.flatMap bidCells)) :
    Calls Tryz.prog 104 #[.pointer (some ⟨pb, po, none⟩), .string nm] w fun e w' => e = .returned (.int .i64 (bidI bs nm)) ∧ w' = w := by
  obtain ⟨ao, g, cap, rfl, hcap, hmax, rd⟩ := own_rd hu
  unfold maxLen at hmax
  clear hu
  go_enter Tryz.func104, Tryz.ntmps104
  go_wp2
  go_loop [5] (fun i => ∃ k : Nat, k ≤ bs.length ∧ i = .int .i64 k ∧ Hid (noneTo (fun u => eqS u.lot nm) bs k)) (fun i => bs.length + 1 - (intOf i).toNat)
  case atStart => exact ⟨0, Nat.zero_le _, rfl, noneTo_zero _ _⟩
  case round =>
    obtain ⟨k, hk, rfl, hn⟩ := hrel
    by_cases hlt : k < bs.length
    · obtain rfl := rd.base (by omega)
      have c0 : w.cell? ⟨g, k * 2, none⟩ = some (.string bs[k].lot) := rd.cell (k * 2 + 0) _ (by rw [flat_at bidCells 2 (fun _ => rfl) bs k 0 hlt (by omega)]; rfl)
      have c1 : w.cell? ⟨g, k * 2 + 1, none⟩ = some (.int .i64 bs[k].n) := rd.cell (k * 2 + 1) _ (by rw [flat_at bidCells 2 (fun _ => rfl) bs k 1 hlt (by omega)]; rfl)
      cases he : eqS bs[k].lot nm
      · have he' : (bs[k].lot.toList == nm.toList) = false := he
        have hn' : Hid _ := noneTo_succ hn.out hlt he
        clear he hn
        go_wp2
        exact ⟨⟨k + 1, by omega, by go_num, hn'⟩, by simp [intOf]; omega⟩
      · have he' : (bs[k].lot.toList == nm.toList) = true := he
        have G : Hid (_ = _) := bidI_hit bs nm k hlt hn.out he
        clear he hn
        go_wp2
        go_ret
        exact ⟨ret_int G.out.symm, rfl⟩
    · have G : Hid (_ = _) := bidI_miss bs nm (noneTo_all hn.out hlt)
      go_wp2
      go_ret
      exact ⟨ret_int G.out.symm, rfl⟩

set_option maxHeartbeats 1000000 in
theorem staked_any (pb po : Nat) (bs : List SBid) (vB : Value) (nm : ByteArray) (w : World) (hc : w.cell? ⟨pb, po + 2, none⟩ = some vB) (hu : w.ownsRow 0 196 2 vB bs.length (bs.flatMap bidCells)) (hb : ∀ b ∈ bs, 0 ≤ b.n ∧ b.n ≤ 100000) (hbl : bs.length ≤ 1000000) :
    Calls Tryz.prog 94 #[.pointer (some ⟨pb, po, none⟩), .string nm] w fun e w' => e = .returned (.int .i64 (stakedI bs nm)) ∧ w' = w := by
  obtain ⟨ao, g, cap, rfl, hcap, hmax, rd⟩ := own_rd hu
  unfold maxLen at hmax
  clear hu
  go_enter Tryz.func94, Tryz.ntmps94
  go_wp2
  go_loop [5, 6] (fun n i => ∃ k : Nat, k ≤ bs.length ∧ i = .int .i64 k ∧ n = .int .i64 (stakedI (bs.take k) nm)) (fun _ i => bs.length + 1 - (intOf i).toNat)
  case atStart => exact ⟨0, Nat.zero_le _, rfl, rfl⟩
  case round =>
    obtain ⟨k, hk, rfl, rfl⟩ := hrel
    have bd := stakedI_bd (bs.take k) nm (fun b hb' => hb b (List.mem_of_mem_take hb'))
    have bl : (bs.take k).length ≤ k := List.length_take_le _ _
    by_cases hlt : k < bs.length
    · obtain rfl := rd.base (by omega)
      have c0 : w.cell? ⟨g, k * 2, none⟩ = some (.string bs[k].lot) := rd.cell (k * 2 + 0) _ (by rw [flat_at bidCells 2 (fun _ => rfl) bs k 0 hlt (by omega)]; rfl)
      have c1 : w.cell? ⟨g, k * 2 + 1, none⟩ = some (.int .i64 bs[k].n) := rd.cell (k * 2 + 1) _ (by rw [flat_at bidCells 2 (fun _ => rfl) bs k 1 hlt (by omega)]; rfl)
      have hs : Hid (stakedI (bs.take (k + 1)) nm = stakedI (bs.take k) nm + (if eqS bs[k].lot nm then 0 else bs[k].n)) := by
        unfold Hid; rw [List.take_succ_eq_append_getElem hlt, stakedI_snoc]
      have hbk := hb bs[k] (List.getElem_mem hlt)
      cases he : eqS bs[k].lot nm
      · have he' : (bs[k].lot.toList == nm.toList) = false := he
        have hs' : Hid (stakedI (bs.take (k + 1)) nm = stakedI (bs.take k) nm + bs[k].n) := by unfold Hid; rw [hs.out, he]; rfl
        clear he hs hb
        go_wp2
        exact ⟨⟨k + 1, by omega, by go_num, vint hs'.out.symm⟩, by simp [intOf]; omega⟩
      · have he' : (bs[k].lot.toList == nm.toList) = true := he
        have hs' : Hid (stakedI (bs.take (k + 1)) nm = stakedI (bs.take k) nm) := by unfold Hid; rw [hs.out, he]; simp
        clear he hs hb
        go_wp2
        exact ⟨⟨k + 1, by omega, by go_num, vint hs'.out.symm⟩, by simp [intOf]; omega⟩
    · have G : Hid (stakedI (bs.take k) nm = stakedI bs nm) := by unfold Hid; rw [List.take_of_length_le (by omega)]
      go_wp2
      go_ret
      exact ⟨ret_int G.out, rfl⟩
end Go.Proofs.YtlafddeoheambaaGreatDoor

/-
  The function holder of package hazeref: it returns the number of the player whose unit stands on a spot, or -1, and nothing that was there has turned.
-/
namespace Go.Proofs.YtlafddeoheambaaGreatDoor
open Go.RowKit

/-- What holds of a world's lists: there are players, each has units. -/
structure Full (y : YW) : Prop where
  pl1 : 1 ≤ y.pls.length
  un1 : ∀ p ∈ y.pls, 1 ≤ p.1.units.length

theorem at_split {p : SPlayer} {x y : Int} {k : Nat} (hk : k < p.units.length) (h1 : p.units[k].x = x) (h2 : p.units[k].y = y) : standsB x y p = true :=
  any_hit _ _ k hk (by simp [h1, h2])

set_option maxHeartbeats 2000000 in
theorem holder_any (w : World) (Y : YW) (x y : Int) (hr : RepY w Y) (hf : Full Y) :
    Calls Tryz.prog 129 #[.pointer (some ⟨Y.b, 0, none⟩), .int .i64 x, .int .i64 y] w fun e w' => e = .returned (.int .i64 (holderI (Y.pls.map (·.1)) x y)) ∧ Below w.heap.size w w' := by
  rcases own_form hr.pl with ⟨_, h0, _⟩ | ⟨pb, pcap, hvp, hpc, hpm, hpb⟩
  · have := hf.pl1; omega
  unfold maxLen at hpm
  go_enter Tryz.func129, Tryz.ntmps129
  go_wp2
  go_loopw [7] (fun i w' => ∃ k : Nat, k ≤ Y.pls.length ∧ i = .int .i64 k ∧ Below w.heap.size w w' ∧ Hid (noneTo (fun p => standsB x y p.1) Y.pls k)) (fun i _ => Y.pls.length + 1 - (intOf i).toNat)
  case atStart => exact ⟨0, Nat.zero_le _, rfl, Below.refl _ _, noneTo_zero _ _⟩
  case round =>
    obtain ⟨k, hk, rfl, hb, hn⟩ := hrel
    have hr1 := hr.below hb
    have c5 : wr.cell? ⟨Y.b, 5, none⟩ = some (.slice (some ⟨pb, 0, none⟩) Y.pls.length pcap) := by rw [← hvp]; exact hr1.cellTop rfl
    by_cases hlt : k < Y.pls.length
    · have hmem : Y.pls[k] ∈ Y.pls := List.getElem_mem hlt
      rcases own_form (hr.each _ hmem).units with ⟨_, h0, _⟩ | ⟨ub, ucap, hvu, huc, hum, hub⟩
      · have := hf.un1 _ hmem; omega
      unfold maxLen at hum
      have cu : wr.cell? ⟨pb, k * 4 + 1, none⟩ = some (.slice (some ⟨ub, 0, none⟩) Y.pls[k].1.units.length ucap) := by
        rw [← hvu]; exact own_cell (hvp ▸ hr1.pl) (by rw [flat_at plCells 4 (fun _ => rfl) Y.pls k 1 hlt (by omega)]; rfl)
      have hbr : Below wr.heap.size wr wr := Below.refl _ _
      go_wp2
      go_loopw [8] (fun i w' => ∃ j : Nat, j ≤ Y.pls[k].1.units.length ∧ i = .int .i64 j ∧ Below w.heap.size w w' ∧ Hid (noneTo (fun u : SUnit => decide (u.x = x) && decide (u.y = y)) Y.pls[k].1.units j)) (fun i _ => Y.pls[k].1.units.length + 1 - (intOf i).toNat)
      case atStart => exact ⟨0, Nat.zero_le _, rfl, hb, noneTo_zero _ _⟩
      case round =>
        clear c5 cu hr1
        obtain ⟨j, hj, rfl, hb1, hn1⟩ := hrel
        have hr1 := hr.below hb1
        have c5 : wr.cell? ⟨Y.b, 5, none⟩ = some (.slice (some ⟨pb, 0, none⟩) Y.pls.length pcap) := by rw [← hvp]; exact hr1.cellTop rfl
        have cu : wr.cell? ⟨pb, k * 4 + 1, none⟩ = some (.slice (some ⟨ub, 0, none⟩) Y.pls[k].1.units.length ucap) := by
          rw [← hvu]; exact own_cell (hvp ▸ hr1.pl) (by rw [flat_at plCells 4 (fun _ => rfl) Y.pls k 1 hlt (by omega)]; rfl)
        by_cases hlt1 : j < Y.pls[k].1.units.length
        · obtain ⟨d0, d1, d2, d3, d4, d5, d6⟩ := unit_cells (hvu ▸ (hr1.each _ hmem).units) hlt1
          by_cases e1 : Y.pls[k].1.units[j].x = x
          · by_cases e2 : Y.pls[k].1.units[j].y = y
            · have G : Hid (holderI (Y.pls.map (·.1)) x y = k) := by
                unfold Hid holderI
                refine ixOf_hit _ _ k (by simpa using hlt) (fun i hi hik => by have := hn.out i (by simpa using hi) hik; simpa using this) ?_
                simpa using at_split hlt1 e1 e2
              have e1' : (Y.pls[k].1.units[j].x == x) = true := by simpa using e1
              have e2' : (Y.pls[k].1.units[j].y == y) = true := by simpa using e2
              clear e1 e2
              go_wp2
              go_ret
              exact ⟨ret_int G.out.symm, hb1.alloc hb1.size _⟩
            · have hn1' : Hid _ := noneTo_succ hn1.out hlt1 (by simp [e2])
              have e1' : (Y.pls[k].1.units[j].x == x) = true := by simpa using e1
              have e2' : (Y.pls[k].1.units[j].y == y) = false := by simpa using e2
              clear e1 e2
              go_wp2
              exact ⟨⟨j + 1, by omega, by go_num, hb1.alloc hb1.size _, hn1'⟩, by simp [intOf]; omega⟩
          · have hn1' : Hid _ := noneTo_succ hn1.out hlt1 (by simp [e1])
            have e1' : (Y.pls[k].1.units[j].x == x) = false := by simpa using e1
            clear e1
            go_wp2
            exact ⟨⟨j + 1, by omega, by go_num, hb1.alloc hb1.size _, hn1'⟩, by simp [intOf]; omega⟩
        · have hn' : Hid _ := noneTo_succ hn.out hlt (any_miss _ _ (noneTo_all hn1.out hlt1))
          go_wp2
          exact ⟨⟨k + 1, by omega, by go_num, hb1, hn'⟩, by simp [intOf]; omega⟩
    · have G : Hid (holderI (Y.pls.map (·.1)) x y = -1) := by
        unfold Hid holderI
        exact ixOf_miss _ _ (fun j hj => by have := noneTo_all hn.out hlt j (by simpa using hj); simpa using this)
      go_wp2
      go_ret
      exact ⟨ret_int G.out.symm, hb⟩
end Go.Proofs.YtlafddeoheambaaGreatDoor
