/-
  What the turns of the first unit come to, said plainly.
-/
import Derived.Test.YtlafddeoheambaaGreatDoorT28
import Derived.Lib.Atoi
import Derived.Deep.RegionHeld3
import Derived.Test.YtlafddeoheambaaGreatDoorT30
set_option linter.unusedVariables false
namespace Go.Proofs.YtlafddeoheambaaGreatDoor
open Go.RowKit

def cornersOf (n : Int) : List SSpot := [⟨0, 0, 0⟩, ⟨n, n, 0⟩, ⟨n, 0, 0⟩, ⟨0, n, 0⟩]
def oreOf (n : Int) : List SSpot := [⟨0, 0, 9⟩, ⟨1, 0, 3⟩, ⟨n, n, 99⟩, ⟨n, n - 1, 2⟩]
def begunS (side sight : Int) (k : Nat) : SWorld := newS side side sight (oreOf (side - 1)) ((cornersOf (side - 1)).take k)
def turnU (x y h : Int) (b : ByteArray) : SUnit := { name := firstU.bytesA, x := x, y := y, head := h, cargo := 0, what := b, arg := emptyB }
def turnP (x y h : Int) (b : ByteArray) : SPlayer := { money := 100, units := [turnU x y h b], bids := [], news := [] }
/-- The world of Turns: the first unit's spot, its heading, what it was told. -/
def turnS (i x y h : Int) (b : ByteArray) : SWorld := { width := 7, height := 7, sight := 1, now := i, ore := oreOf 6, players := [turnP x y h b, firstP ⟨6, 6, 0⟩], lots := [] }
theorem turn_first : begunS 7 1 2 = turnS 0 0 0 0 emptyB := by rfl
def turnW (k : Nat) : List UInt8 := if k = 0 then [103, 111] else if k = 1 then [108, 101, 102, 116] else if k = 2 then [98, 97, 99, 107] else [114, 105, 103, 104, 116]
theorem turn_order (i x y h : Int) (k : Nat) (hk : k < 4) : orderS (turnS i x y h emptyB) 0 ([97, 32] ++ turnW k) = (0, turnS i x y h (bytesOf (turnW k))) := by
  have sp : ∀ k, k < 4 → splitB ([97, 32] ++ turnW k) = [[97], turnW k] := by
    intro k hk
    rcases k with _ | _ | _ | _ | k <;> first | rfl | omega
  have nm : nameB [97] = true := by decide
  have pl : ∀ k, k < 4 → plainB (turnW k) = true := by
    intro k hk
    rcases k with _ | _ | _ | _ | k
    all_goals first
      | omega
      | (simp only [plainB, amongB, eqS, Lib.toList_data]; decide)
  have ix : unitIx (turnP x y h emptyB).units (bytesOf [97]) = 0 := by
    simp [unitIx, turnP, turnU, ixOf, eqS, Lib.toList_data, firstU.bytesA, bytesOf]
  unfold orderS
  rw [if_pos (by simp [turnS])]
  show wordsS _ 0 (turnP x y h emptyB) _ = _
  rw [sp k hk]
  unfold wordsS
  simp only [nm, pl k hk, Bool.and_self, if_true]
  unfold tellS
  rw [ix]
  rfl
def roomB (a b : Int) : Bool := decide (0 ≤ a) && decide (a < 7) && decide (0 ≤ b) && decide (b < 7) && (decide (a ≠ 6) || decide (b ≠ 6))
theorem turn_free (i x y h : Int) (b : ByteArray) (a c : Int) (hne : ¬ (x = a ∧ y = c)) : freeS (turnS i x y h b) a c = roomB a c := by
  unfold freeS roomB
  have hi : holderI (turnS i x y h b).players a c = if a = 6 ∧ c = 6 then 1 else -1 := by
    simp only [holderI, turnS, ixOf, standsB, turnP, turnU, firstP, firstU, List.any_cons, List.any_nil, Bool.or_false]
    have e1 : (decide (x = a) && decide (y = c)) = false := by
      cases hh : (decide (x = a) && decide (y = c))
      · rfl
      · simp only [Bool.and_eq_true, decide_eq_true_eq] at hh; exact absurd hh hne
    rw [e1]
    by_cases h6 : a = 6 ∧ c = 6
    · obtain ⟨rfl, rfl⟩ := h6; simp
    · have e2 : (decide ((6 : Int) = a) && decide ((6 : Int) = c)) = false := by
        cases hh : (decide ((6 : Int) = a) && decide ((6 : Int) = c))
        · rfl
        · simp only [Bool.and_eq_true, decide_eq_true_eq] at hh; exact absurd ⟨hh.1.symm, hh.2.symm⟩ h6
      rw [e2, if_neg h6]; simp
  rw [hi]
  simp only [show (turnS i x y h b).width = 7 from rfl, show (turnS i x y h b).height = 7 from rfl, inB]
  apply Bool.eq_iff_iff.2
  simp only [Bool.and_eq_true, Bool.or_eq_true, decide_eq_true_eq]
  by_cases h6 : a = 6 ∧ c = 6
  · rw [if_pos h6]; omega
  · rw [if_neg h6]
    constructor
    · rintro ⟨⟨⟨h1, h2⟩, h3, h4⟩, _⟩
      refine ⟨⟨⟨⟨h1, by omega⟩, h3⟩, by omega⟩, by omega⟩
    · rintro ⟨⟨⟨⟨h1, h2⟩, h3⟩, h4⟩, _⟩
      exact ⟨⟨⟨h1, by omega⟩, h3, by omega⟩, by omega⟩
theorem turn_tick (i x y h : Int) (k : Nat) (hk : k < 4) (h0 : 0 ≤ h ∧ h < 4) :
    tickS (turnS i x y h (bytesOf (turnW k))) = if k = 0 then (if roomB (x + dxI h) (y + dyI h) then turnS (i + 1) (x + dxI h) (y + dyI h) h emptyB else turnS (i + 1) x y h emptyB) else turnS (i + 1) x y ((h + k) % 4) emptyB := by
  have hne : ¬ (x = x + dxI h ∧ y = y + dyI h) := by
    unfold dxI dyI
    have : h = 0 ∨ h = 1 ∨ h = 2 ∨ h = 3 := by omega
    rcases this with rfl | rfl | rfl | rfl <;> simp <;> omega
  have two : ∀ (s : SWorld) (p : SPlayer), s.players = [p, firstP ⟨6, 6, 0⟩] → playerS s 1 = s := by
    intro s p hp
    have hc : clearN s 1 = s := by
      unfold clearN
      rw [hp]
      cases s
      simp only at hp
      subst hp
      rfl
    unfold playerS
    rw [hc]
    have hu : unitsN s 1 = 1 := by unfold unitsN; rw [hp]; rfl
    rw [hu]
    show doesS s 1 0 = s
    unfold doesS
    rw [hp]
    cases s
    simp only at hp
    subst hp
    simp [firstP, firstU, actS, emptyB, Lib.toList_data, SWorld.setPl]
  have one : playerS (turnS i x y h (bytesOf (turnW k))) 0 = if k = 0 then (if roomB (x + dxI h) (y + dyI h) then turnS i (x + dxI h) (y + dyI h) h emptyB else turnS i x y h emptyB) else turnS i x y ((h + k) % 4) emptyB := by
    have hf := turn_free i x y h emptyB _ _ hne
    show doesS (turnS i x y h (bytesOf (turnW k))) 0 0 = _
    have hd : doesS (turnS i x y h (bytesOf (turnW k))) 0 0 = actS (turnS i x y h emptyB) 0 0 (turnP x y h emptyB) (turnU x y h emptyB) (bytesOf (turnW k)) emptyB := rfl
    rw [hd]
    unfold actS
    simp only [Lib.toList_data, bytesOf_toList]
    rcases k with _ | _ | _ | _ | k
    · rw [if_pos (by decide), if_pos rfl]
      show (if freeS (turnS i x y h emptyB) (x + dxI h) (y + dyI h) = true then _ else _) = _
      rw [hf]
      split <;> rfl
    · rw [if_neg (by decide), if_pos (by decide), if_neg (by omega)]; rfl
    · rw [if_neg (by decide), if_neg (by decide), if_pos (by decide), if_neg (by omega)]; rfl
    · rw [if_neg (by decide), if_neg (by decide), if_neg (by decide), if_pos (by decide), if_neg (by omega)]; rfl
    · omega
  rw [tickS_nil rfl]
  have tt : tickTo (turnS i x y h (bytesOf (turnW k))) 2 = playerS (playerS (turnS i x y h (bytesOf (turnW k))) 0) 1 := rfl
  have hl : (turnS i x y h (bytesOf (turnW k))).players.length = 2 := rfl
  rw [hl, tt, one]
  split
  · split
    · rw [two _ _ rfl]; rfl
    · rw [two _ _ rfl]; rfl
  · rw [two _ _ rfl]; rfl
/-- What the view begins with. -/
theorem turn_view (i x y h : Int) : ∃ r, viewS (turnS i x y h emptyB) 0 = (bytesOf (tickL i 100 ++ unitL (turnU x y h emptyB) ++ r), 0) := by
  refine ⟨rowsTo (turnS i x y h emptyB) 0 [turnU x y h emptyB] 7 ++ (lotsL (turnS i x y h emptyB) (turnP x y h emptyB) ++ newsL (turnP x y h emptyB)), ?_⟩
  unfold viewS
  rw [if_pos (by simp [turnS])]
  show (bytesOf (viewL _ 0 (turnP x y h emptyB)), (0 : Int)) = _
  unfold viewL ownL
  simp only [turnP, List.flatMap_cons, List.flatMap_nil, List.append_nil, List.append_assoc]
  rfl
end Go.Proofs.YtlafddeoheambaaGreatDoor

/-
  That names have neither blanks nor ends of lines in them; decimal numerals, their digits and what they are read as.
-/
namespace Go.Proofs.YtlafddeoheambaaGreatDoor
open Go.RowKit

/-- No blank, no end of a line. -/
def ClnL (l : List UInt8) : Prop := ∀ c ∈ l, c ≠ 10 ∧ c ≠ 32
def Cln (b : ByteArray) : Prop := ClnL b.data.toList
theorem cln_of {c : UInt8} (h : 33 ≤ c.toNat) : c ≠ 10 ∧ c ≠ 32 := by
  constructor
  · rintro rfl
    revert h
    decide
  · rintro rfl
    revert h
    decide
theorem ClnL.nil : ClnL [] := fun c hc => by cases hc
theorem ClnL.cons {c : UInt8} {l : List UInt8} (hc : 33 ≤ c.toNat) (h : ClnL l) : ClnL (c :: l) := by
  intro d hd
  rcases List.mem_cons.1 hd with rfl | hd
  · exact cln_of hc
  · exact h d hd
theorem ClnL.app {a b : List UInt8} (ha : ClnL a) (hb : ClnL b) : ClnL (a ++ b) := by
  intro d hd
  rcases List.mem_append.1 hd with hd | hd
  · exact ha d hd
  · exact hb d hd
theorem low_ge {c : Nat} (h : lowB c = true) : 33 ≤ c := by
  simp only [lowB, Bool.and_eq_true, decide_eq_true_eq] at h
  omega
theorem grk_ge {c d : Nat} (h : grkB c d = true) : 33 ≤ c ∧ 33 ≤ d := by
  simp only [grkB, Bool.and_eq_true, Bool.or_eq_true, decide_eq_true_eq] at h
  omega
theorem runes_cln : ∀ (l : List UInt8) (n : Nat), runesL l = some n → ClnL l
  | [], _, _ => ClnL.nil
  | [c], n, h => by
    simp only [runesL] at h
    split at h
    · rename_i hc
      exact ClnL.cons (low_ge hc) ClnL.nil
    · cases h
  | c :: d :: r, n, h => by
    simp only [runesL] at h
    split at h
    · rename_i hc
      rw [Option.map_eq_some_iff] at h
      obtain ⟨m, hm, _⟩ := h
      exact ClnL.cons (low_ge hc) (runes_cln (d :: r) m hm)
    · split at h
      · rename_i hg
        rw [Option.map_eq_some_iff] at h
        obtain ⟨m, hm, _⟩ := h
        have := grk_ge hg
        exact ClnL.cons this.1 (ClnL.cons this.2 (runes_cln r m hm))
      · cases h
theorem name_cln {l : List UInt8} (h : nameB l = true) : ClnL l := by
  unfold nameB runesN at h
  cases hr : runesL l with
  | none => rw [hr] at h; simp at h
  | some n => exact runes_cln l n hr

def ClnU (u : SUnit) : Prop := Cln u.name ∧ Cln u.arg
def ClnP (p : SPlayer) : Prop := ∀ u ∈ p.units, ClnU u
def ClnS (s : SWorld) : Prop := ∀ p ∈ s.players, ClnP p
theorem cln_empty : Cln emptyB := ClnL.nil
theorem ClnS.setPl {s : SWorld} (h : ClnS s) (n : Nat) {p : SPlayer} (hp : ClnP p) : ClnS (s.setPl n p) := by
  intro q hq
  rcases List.mem_or_eq_of_mem_set hq with h' | rfl
  · exact h q h'
  · exact hp
theorem ClnP.setU {p : SPlayer} (h : ClnP p) (k : Nat) {u : SUnit} (hu : ClnU u) (m : Int) : ClnP { p with money := m, units := p.units.set k u } := by
  intro v hv
  rcases List.mem_or_eq_of_mem_set hv with h' | rfl
  · exact h v h'
  · exact hu
theorem ClnS.act {s : SWorld} (h : ClnS s) (n k : Nat) {p : SPlayer} {u : SUnit} (hp : ClnP p) (hu : ClnU u) (what arg : ByteArray) (ha : Cln arg) : ClnS (actS s n k p u what arg) := by
  unfold actS
  simp only
  split
  · split
    · exact h.setPl n (hp.setU k (u := { u with x := u.x + dxI u.head, y := u.y + dyI u.head }) hu p.money)
    · exact h
  split
  · exact h.setPl n (hp.setU k (u := { u with head := (u.head + 1) % 4 }) hu p.money)
  split
  · exact h.setPl n (hp.setU k (u := { u with head := (u.head + 2) % 4 }) hu p.money)
  split
  · exact h.setPl n (hp.setU k (u := { u with head := (u.head + 3) % 4 }) hu p.money)
  split
  · split
    · split
      · exact h.setPl n (hp.setU k (u := { u with cargo := u.cargo + 1 }) hu p.money)
      · exact h
    · exact h
  split
  · exact h.setPl n (hp.setU k (u := { u with cargo := 0 }) hu _)
  split
  · split
    · exact h.setPl n (hp.setU k (u := { u with name := arg }) ⟨ha, hu.2⟩ p.money)
    · exact h
  split
  · split
    · refine h.setPl n (fun v hv => ?_)
      rcases List.mem_append.1 hv with h5 | h5
      · exact hp v h5
      · simp at h5
        rw [h5]
        exact ⟨ha, cln_empty⟩
    · exact h
  · exact h
theorem ClnS.does {s : SWorld} (h : ClnS s) (n k : Nat) : ClnS (doesS s n k) := by
  unfold doesS
  split
  · exact h
  · rename_i p hp
    have hpn := h p (List.mem_of_getElem? hp)
    split
    · exact h
    · rename_i u hu
      have hun := hpn u (List.mem_of_getElem? hu)
      have hu0 : ClnU { u with what := emptyB, arg := emptyB } := ⟨hun.1, cln_empty⟩
      have hp0 := hpn.setU k hu0 p.money
      exact (h.setPl n hp0).act n k hp0 hu0 u.what u.arg hun.2
theorem ClnS.unitsTo {s : SWorld} (h : ClnS s) (n j : Nat) : ClnS (unitsTo s n j) := by
  induction j with
  | zero => exact h
  | succ j ih => exact ih.does n j
theorem ClnS.clearN {s : SWorld} (h : ClnS s) (n : Nat) : ClnS (clearN s n) := by
  unfold Proofs.YtlafddeoheambaaGreatDoor.clearN
  split
  · exact h
  · rename_i p hp
    exact h.setPl n (p := { p with news := [] }) (fun u hu => h p (List.mem_of_getElem? hp) u hu)
theorem ClnS.tickTo {s : SWorld} (h : ClnS s) (n : Nat) : ClnS (tickTo s n) := by
  induction n with
  | zero => exact h
  | succ n ih => exact (ih.clearN n).unitsTo n _
theorem ClnS.tell {s : SWorld} (h : ClnS s) (k : Nat) (p : SPlayer) (a b c : List UInt8) (hp : s.players[k]? = some p) (hc : ClnL c) : ClnS (tellS s k p a b c).2 := by
  unfold tellS
  split
  · exact h
  · split
    · exact h
    · rename_i u hu
      have hpn := h p (List.mem_of_getElem? hp)
      have hun := hpn u (List.mem_of_getElem? hu)
      refine h.setPl k (hpn.setU _ (u := { u with what := bytesOf b, arg := bytesOf c }) ⟨hun.1, ?_⟩ p.money)
      unfold Cln
      rw [bytesOf_toList]
      exact hc
theorem ClnS.order {s : SWorld} (h : ClnS s) (n : Int) (t : List UInt8) : ClnS (orderS s n t).2 := by
  unfold orderS
  split
  · split
    · exact h
    · rename_i p hp
      have bid : ∀ nm k, ClnS (bidS s n.toNat p nm k).2 := by
        intro nm k
        unfold bidS
        repeat' split
        all_goals first
          | exact h
          | exact h.setPl _ (p := { p with bids := setB p.bids nm k }) (fun u hu => h p (List.mem_of_getElem? hp) u hu)
      unfold wordsS
      split
      · split
        · exact h.tell _ _ _ _ _ hp ClnL.nil
        · exact h
      · rename_i a b c e
        split
        · exact bid _ _
        · split
          · rename_i hc
            simp only [Bool.and_eq_true] at hc
            exact h.tell _ _ _ _ _ hp (name_cln hc.1.2)
          · exact h
      · exact h
  · exact h
theorem ClnS.new {W H S : Int} {ore starts : List SSpot} : ClnS (newS W H S ore starts) := by
  intro p hp u hu
  simp only [newS, List.mem_map] at hp
  obtain ⟨s, _, rfl⟩ := hp
  simp only [firstP, List.mem_singleton] at hu
  subst hu
  exact ⟨ClnL.cons (by decide) ClnL.nil, cln_empty⟩

theorem digit_nat {k : Nat} (h : k < 10) : (UInt8.ofNat (48 + k)).toNat = 48 + k := by
  rw [UInt8.toNat_ofNat']
  omega
theorem digits_cln (u : Nat) : ClnL (Lib.decDigits u) := by
  induction u using Nat.strongRecOn with
  | ind u ih =>
    rw [Lib.decDigits]
    split
    · rename_i h
      exact ClnL.cons (by rw [digit_nat h]; omega) ClnL.nil
    · exact (ih (u / 10) (by omega)).app (ClnL.cons (by rw [digit_nat (Nat.mod_lt _ (by omega))]; omega) ClnL.nil)
theorem itoa_cln (n : Int) : ClnL (Lib.itoa n) := by
  unfold Lib.itoa
  split
  · exact ClnL.cons (by decide) (digits_cln _)
  · exact digits_cln _
theorem itoaB_cln (n : Int) : Cln (itoaB n) := by
  unfold Cln itoaB
  exact itoa_cln n
theorem decFrom_snoc (l : List UInt8) (b : UInt8) (d : Nat) (hd : Lib.digitVal b = some d) : ∀ (acc m : Nat), Lib.decFrom acc l = some m → Lib.decFrom acc (l ++ [b]) = some (m * 10 + d) := by
  induction l with
  | nil =>
    intro acc m h
    simp only [Lib.decFrom, Option.some.injEq] at h
    subst h
    simp [Lib.decFrom, hd]
  | cons c r ih =>
    intro acc m h
    simp only [List.cons_append, Lib.decFrom] at h ⊢
    cases hc : Lib.digitVal c with
    | none => rw [hc] at h; cases h
    | some e =>
      rw [hc] at h
      exact ih _ _ h
theorem digit_val {k : Nat} (h : k < 10) : Lib.digitVal (UInt8.ofNat (48 + k)) = some k := by
  unfold Lib.digitVal
  rw [digit_nat h, if_pos (by omega)]
  congr 1
  omega
theorem digits_val (u : Nat) : Lib.decFrom 0 (Lib.decDigits u) = some u := by
  induction u using Nat.strongRecOn with
  | ind u ih =>
    rw [Lib.decDigits]
    split
    · rename_i h
      unfold Lib.decFrom
      rw [digit_val h]
      simp [Lib.decFrom]
    · rw [decFrom_snoc _ _ _ (digit_val (Nat.mod_lt u (by omega))) _ _ (ih (u / 10) (by omega))]
      congr 1
      omega
theorem digits_ne (u : Nat) : Lib.decDigits u ≠ [] := by
  rw [Lib.decDigits]
  split <;> simp
theorem digits_ge (u : Nat) : ∀ c ∈ Lib.decDigits u, 48 ≤ c.toNat ∧ c.toNat ≤ 57 := by
  induction u using Nat.strongRecOn with
  | ind u ih =>
    intro c hc
    rw [Lib.decDigits] at hc
    split at hc
    · rename_i h
      obtain rfl := List.mem_singleton.1 hc
      rw [digit_nat h]
      omega
    · rcases List.mem_append.1 hc with hc | hc
      · exact ih (u / 10) (by omega) c hc
      · obtain rfl := List.mem_singleton.1 hc
        have := Nat.mod_lt u (show 0 < 10 by omega)
        rw [digit_nat this]
        omega
theorem atoi_itoa (n : Int) (h : 0 ≤ n) : Lib.atoi (Lib.itoa n) = some n := by
  obtain ⟨u, rfl⟩ := Int.eq_ofNat_of_zero_le h
  have e : Lib.itoa (u : Int) = Lib.decDigits u := by unfold Lib.itoa; rw [if_neg (by omega)]; simp
  rw [e]
  have hv := digits_val u
  have hg := digits_ge u
  cases hd : Lib.decDigits u with
  | nil => exact absurd hd (digits_ne u)
  | cons b r =>
    rw [hd] at hv hg
    have hb := hg b (by simp)
    unfold Lib.atoi
    have n1 : (b == 45) = false := by
      rw [beq_eq_false_iff_ne]
      rintro rfl
      revert hb
      decide
    have n2 : (b == 43) = false := by
      rw [beq_eq_false_iff_ne]
      rintro rfl
      revert hb
      decide
    simp only [n1, n2, Bool.false_eq_true, if_false]
    unfold Lib.decNat
    simp [hv]
end Go.Proofs.YtlafddeoheambaaGreatDoor

/-
  The lines of a view, and the words of a line, said plainly.
-/
namespace Go.Proofs.YtlafddeoheambaaGreatDoor
open Go.RowKit

/-- One byte more: the lines so far, and what stands behind the last of them. -/
def cutStep (z : List (List UInt8) × List UInt8) (c : UInt8) : List (List UInt8) × List UInt8 := if c = 10 then (z.1 ++ [z.2], []) else (z.1, z.2 ++ [c])
def cutL (l : List UInt8) : List (List UInt8) × List UInt8 := l.foldl cutStep ([], [])
def linesB (l : List UInt8) : List (List UInt8) := (cutL l).1
theorem cut_snoc (l : List UInt8) (c : UInt8) : cutL (l ++ [c]) = cutStep (cutL l) c := by simp [cutL, List.foldl_append]
/-- The text is these lines. -/
def Lns (t : List UInt8) (ls : List (List UInt8)) : Prop := ∀ l0, t.foldl cutStep (l0, []) = (l0 ++ ls, [])
theorem Lns.nil : Lns [] [] := fun l0 => by simp
theorem Lns.app {a b : List UInt8} {x y : List (List UInt8)} (h : Lns a x) (h' : Lns b y) : Lns (a ++ b) (x ++ y) := fun l0 => by
  rw [List.foldl_append, h, h', List.append_assoc]
theorem cut_plain (l : List UInt8) (h : ∀ c ∈ l, c ≠ 10) : ∀ l0 cur, l.foldl cutStep (l0, cur) = (l0, cur ++ l) := by
  induction l with
  | nil => intro l0 cur; simp
  | cons c r ih =>
    intro l0 cur
    have hc := h c (by simp)
    rw [List.foldl_cons]
    have e : cutStep (l0, cur) c = (l0, cur ++ [c]) := by unfold cutStep; rw [if_neg hc]
    rw [e, ih (fun d hd => h d (by simp [hd]))]
    simp
theorem Lns.line {l : List UInt8} (h : ∀ c ∈ l, c ≠ 10) : Lns (l ++ [10]) [l] := fun l0 => by
  rw [List.foldl_append, cut_plain l h]
  simp [cutStep]
theorem Lns.flat {α : Type} {f : α → List UInt8} {g : α → List (List UInt8)} {l : List α} (h : ∀ a ∈ l, Lns (f a) (g a)) : Lns (l.flatMap f) (l.flatMap g) := by
  induction l with
  | nil => exact Lns.nil
  | cons a r ih =>
    simp only [List.flatMap_cons]
    exact (h a (by simp)).app (ih (fun b hb => h b (by simp [hb])))
theorem Lns.lines {t : List UInt8} {ls : List (List UInt8)} (h : Lns t ls) : linesB t = ls := by
  unfold linesB cutL
  rw [h []]
  simp
/-- A line of words, without its end. -/
def lineT (xs : List ByteArray) : List UInt8 := Lib.join (xs.map (·.data.toList)) [32]
theorem joinTail_no (sep : List UInt8) (q : UInt8 → Prop) (hs : ∀ c ∈ sep, q c) : ∀ xs : List (List UInt8), (∀ x ∈ xs, ∀ c ∈ x, q c) → ∀ c ∈ Lib.joinTail sep xs, q c := by
  intro xs
  induction xs with
  | nil => intro _ c hc; simp [Lib.joinTail] at hc
  | cons y r ih =>
    intro h c hc
    simp only [Lib.joinTail, List.map_cons, List.flatten_cons, List.mem_append] at hc
    rcases hc with (hc | hc) | hc
    · exact hs c hc
    · exact h y (by simp) c hc
    · exact ih (fun x hx => h x (by simp [hx])) c hc
theorem join_no (sep : List UInt8) (q : UInt8 → Prop) (hs : ∀ c ∈ sep, q c) (xs : List (List UInt8)) (h : ∀ x ∈ xs, ∀ c ∈ x, q c) : ∀ c ∈ Lib.join xs sep, q c := by
  cases xs with
  | nil => intro c hc; simp [Lib.join_nil] at hc
  | cons y r =>
    intro c hc
    rw [Lib.join_cons, List.mem_append] at hc
    rcases hc with hc | hc
    · exact h y (by simp) c hc
    · exact joinTail_no sep q hs r (fun x hx => h x (by simp [hx])) c hc
/-- No end of a line. -/
def NoE (b : ByteArray) : Prop := ∀ c ∈ b.data.toList, c ≠ 10
theorem Cln.noE {b : ByteArray} (h : Cln b) : NoE b := fun c hc => (h c hc).1
theorem Lns.words {xs : List ByteArray} (h : ∀ x ∈ xs, NoE x) : Lns (lineL xs) [lineT xs] := by
  refine Lns.line (join_no [32] (· ≠ 10) (by decide) _ (fun x hx => ?_))
  obtain ⟨b, hb, rfl⟩ := List.mem_map.1 hx
  exact h b hb
theorem whereB_no (x y : Int) : NoE (whereB x y) := by
  intro c hc
  unfold whereB at hc
  simp only [ByteArray.data_append, Array.toList_append, List.mem_append] at hc
  rcases hc with (hc | hc) | hc
  · exact (itoaB_cln x c hc).1
  · have : c = 32 := by simpa [blankB] using hc
    rw [this]; decide
  · exact (itoaB_cln y c hc).1
theorem letterB_cln (h : Int) : Cln (letterB h) := by
  unfold letterB
  repeat' split
  all_goals exact ClnL.cons (by decide) ClnL.nil

theorem split_one (a : List UInt8) (h : ∀ c ∈ a, c ≠ 32) : splitB a = [a] := by
  induction a with
  | nil => rfl
  | cons c r ih =>
    have hc := h c (by simp)
    simp only [splitB]
    rw [if_neg hc, ih (fun d hd => h d (by simp [hd]))]
theorem split_app (a b : List UInt8) (h : ∀ c ∈ a, c ≠ 32) : splitB (a ++ 32 :: b) = a :: splitB b := by
  induction a with
  | nil => simp [splitB]
  | cons c r ih =>
    have hc := h c (by simp)
    simp only [List.cons_append, splitB]
    rw [if_neg hc, ih (fun d hd => h d (by simp [hd]))]
theorem split_join : ∀ (xs : List (List UInt8)), xs ≠ [] → (∀ x ∈ xs, ∀ c ∈ x, c ≠ 32) → splitB (Lib.join xs [32]) = xs
  | [], h, _ => absurd rfl h
  | [a], _, h => by
    rw [Lib.join_cons]
    simp only [Lib.joinTail, List.map_nil, List.flatten_nil, List.append_nil]
    exact split_one a (h a (by simp))
  | a :: b :: r, _, h => by
    have ih := split_join (b :: r) (by simp) (fun x hx => h x (by simp [hx]))
    have e : Lib.join (a :: b :: r) [32] = a ++ 32 :: Lib.join (b :: r) [32] := by
      rw [Lib.join_cons, Lib.join_cons]
      simp [Lib.joinTail]
    rw [e, split_app _ _ (h a (by simp)), ih]

/-- The words of a unit's line. -/
def unitWs (u : SUnit) : List (List UInt8) := [wUnit.data.toList, u.name.data.toList, Lib.itoa u.x, Lib.itoa u.y, (letterB u.head).data.toList, wCargo.data.toList, Lib.itoa u.cargo]
def unitT (u : SUnit) : List UInt8 := lineT [wUnit, u.name, whereB u.x u.y, letterB u.head, wCargo, itoaB u.cargo]
theorem unitT_words {u : SUnit} (h : Cln u.name) : splitB (unitT u) = unitWs u := by
  have e : unitT u = Lib.join (unitWs u) [32] := by
    unfold unitT lineT unitWs
    simp only [List.map_cons, List.map_nil, Lib.join_cons, Lib.joinTail, List.flatten_cons, List.flatten_nil, whereB, ByteArray.data_append, Array.toList_append, blankB, itoaB, List.append_assoc]
  rw [e]
  refine split_join _ (by simp [unitWs]) ?_
  intro x hx
  simp only [unitWs, List.mem_cons, List.not_mem_nil, or_false] at hx
  rcases hx with rfl | rfl | rfl | rfl | rfl | rfl | rfl
  · decide
  · exact fun c hc => (h c hc).2
  · exact fun c hc => (itoa_cln _ c hc).2
  · exact fun c hc => (itoa_cln _ c hc).2
  · exact fun c hc => (letterB_cln _ c hc).2
  · decide
  · exact fun c hc => (itoa_cln _ c hc).2

/-- Does a text begin with another one? -/
def begB (s t : List UInt8) : Bool := decide (t.length ≤ s.length) && (s.take t.length == t)
theorem beg_app (a b : List UInt8) : begB (a ++ b) a = true := by simp [begB]
theorem beg_no {a b : UInt8} {s t : List UInt8} (h : a ≠ b) : begB (a :: s) (b :: t) = false := by simp [begB, h]

/-- The lines of what is seen at a spot. -/
def oreLs (o : List SSpot) (x y : Int) : List (List UInt8) := match oreAt o x y with
  | none => []
  | some a => [lineT [wOre, whereB x y, itoaB a]]
def otherLs (ps : List SPlayer) (n : Nat) (x y : Int) : List (List UInt8) := if 0 ≤ holderI ps x y ∧ holderI ps x y ≠ n then [lineT [wOther, whereB x y, itoaB (holderI ps x y)]] else []
def seenLs (s : SWorld) (n : Nat) (us : List SUnit) (x y : Int) : List (List UInt8) := if seesB us s.sight x y then oreLs s.ore x y ++ otherLs s.players n x y else []
def rowLs (s : SWorld) (n : Nat) (us : List SUnit) (y : Int) (k : Nat) : List (List UInt8) := (List.range k).flatMap (fun (x : Nat) => seenLs s n us x y)
def rowsLs (s : SWorld) (n : Nat) (us : List SUnit) (k : Nat) : List (List UInt8) := (List.range k).flatMap (fun (y : Nat) => rowLs s n us y s.width.toNat)
def lotT (p : SPlayer) (l : SLot) : List UInt8 := lineT (lotWs (bidI p.bids l.name) l)
def viewLs (s : SWorld) (n : Nat) (p : SPlayer) : List (List UInt8) :=
  [lineT [wTick, itoaB s.now, wMoney, itoaB p.money]] ++ p.units.flatMap (fun u => [unitT u]) ++ rowsLs s n p.units s.height.toNat ++ (sortL s.lots).flatMap (fun l => [lotT p l]) ++ p.news.flatMap (fun m => [m.data.toList])
theorem no_lit {l : List UInt8} (h : (l.all (fun c => decide (c ≠ 10))) = true) : ∀ c ∈ l, c ≠ 10 := fun c hc => by
  have := List.all_eq_true.1 h c hc
  exact of_decide_eq_true this
theorem seen_lns (s : SWorld) (n : Nat) (us : List SUnit) (x y : Int) : Lns (seenL s n us x y) (seenLs s n us x y) := by
  unfold seenL seenLs
  split
  · refine Lns.app ?_ ?_
    · unfold oreL oreLs
      cases oreAt s.ore x y
      · exact Lns.nil
      · refine Lns.words (fun z hz => ?_)
        simp only [List.mem_cons, List.not_mem_nil, or_false] at hz
        rcases hz with rfl | rfl | rfl
        · exact no_lit (by decide)
        · exact whereB_no _ _
        · exact (itoaB_cln _).noE
    · unfold otherL otherLs
      split
      · refine Lns.words (fun z hz => ?_)
        simp only [List.mem_cons, List.not_mem_nil, or_false] at hz
        rcases hz with rfl | rfl | rfl
        · exact no_lit (by decide)
        · exact whereB_no _ _
        · exact (itoaB_cln _).noE
      · exact Lns.nil
  · exact Lns.nil
theorem view_lns (s : SWorld) (n : Nat) (p : SPlayer) (hu : ∀ u ∈ p.units, Cln u.name) (hl : ∀ l ∈ sortL s.lots, NoE l.name) (hm : ∀ m ∈ p.news, NoE m) : Lns (viewL s n p) (viewLs s n p) := by
  unfold viewL viewLs ownL
  refine Lns.app (Lns.app (Lns.app (Lns.app ?_ ?_) ?_) ?_) ?_
  · refine Lns.words (fun z hz => ?_)
    simp only [List.mem_cons, List.not_mem_nil, or_false] at hz
    rcases hz with rfl | rfl | rfl | rfl
    · exact no_lit (by decide)
    · exact (itoaB_cln _).noE
    · exact no_lit (by decide)
    · exact (itoaB_cln _).noE
  · refine Lns.flat (fun u h => ?_)
    refine Lns.words (fun z hz => ?_)
    simp only [List.mem_cons, List.not_mem_nil, or_false] at hz
    rcases hz with rfl | rfl | rfl | rfl | rfl | rfl
    · exact no_lit (by decide)
    · exact (hu u h).noE
    · exact whereB_no _ _
    · exact (letterB_cln _).noE
    · exact no_lit (by decide)
    · exact (itoaB_cln _).noE
  · unfold rowsTo rowsLs
    refine Lns.flat (fun y _ => ?_)
    unfold rowTo rowLs
    exact Lns.flat (fun x _ => seen_lns s n p.units x y)
  · unfold lotsL lotT
    refine Lns.flat (fun l h => ?_)
    refine Lns.words (fun z hz => ?_)
    unfold lotWs at hz
    rw [List.mem_append] at hz
    rcases hz with hz | hz
    · simp only [List.mem_cons, List.not_mem_nil, or_false] at hz
      rcases hz with rfl | rfl | rfl | rfl | rfl | rfl
      · exact no_lit (by decide)
      · exact hl l h
      · exact no_lit (by decide)
      · exact (itoaB_cln _).noE
      · exact no_lit (by decide)
      · exact (itoaB_cln _).noE
    · split at hz
      · simp only [List.mem_cons, List.not_mem_nil, or_false] at hz
        rcases hz with rfl | rfl
        · exact no_lit (by decide)
        · exact (itoaB_cln _).noE
      · cases hz
  · unfold newsL
    exact Lns.flat (fun m h => Lns.line (hm m h))

/-- The word unit and a blank. -/
def unitP : List UInt8 := [117, 110, 105, 116, 32]
theorem beg_hd (l r : List UInt8) (a : UInt8) (l' : List UInt8) (hl : l = a :: l') (h : a ≠ 117) : begB (l ++ r) unitP = false := by
  subst hl
  exact beg_no h
/-- The lines of units of a view, in words. -/
def unitsB (t : List UInt8) : List (List (List UInt8)) := ((linesB t).filter (fun l => begB l unitP)).map splitB
theorem lineT_cons (a : ByteArray) (r : List ByteArray) : lineT (a :: r) = a.data.toList ++ Lib.joinTail [32] (r.map (·.data.toList)) := by
  unfold lineT
  rw [List.map_cons, Lib.join_cons]
theorem filter_flat {α β : Type} (p : β → Bool) (f : α → List β) (l : List α) (h : ∀ a ∈ l, ∀ b ∈ f a, p b = false) : (l.flatMap f).filter p = [] := by
  rw [List.filter_eq_nil_iff]
  intro b hb
  obtain ⟨a, ha, hb⟩ := List.mem_flatMap.1 hb
  rw [h a ha b hb]
  simp
theorem units_words (us : List SUnit) : (∀ u ∈ us, Cln u.name) → (us.flatMap (fun u => [unitT u])).map splitB = us.map unitWs := by
  induction us with
  | nil => intro _; rfl
  | cons u r ih =>
    intro hu
    simp only [List.flatMap_cons, List.map_cons, List.singleton_append]
    rw [unitT_words (hu u (by simp)), ih (fun v hv => hu v (by simp [hv]))]
theorem units_view (s : SWorld) (n : Nat) (p : SPlayer) (hu : ∀ u ∈ p.units, Cln u.name) (hl : ∀ l ∈ sortL s.lots, NoE l.name) (hm : ∀ m ∈ p.news, NoE m ∧ begB m.data.toList unitP = false) : unitsB (viewL s n p) = p.units.map unitWs := by
  unfold unitsB
  rw [(view_lns s n p hu hl (fun m h => (hm m h).1)).lines]
  unfold viewLs
  rw [List.filter_append, List.filter_append, List.filter_append, List.filter_append]
  have f1 : [lineT [wTick, itoaB s.now, wMoney, itoaB p.money]].filter (fun l => begB l unitP) = [] := by
    rw [List.filter_cons, lineT_cons]
    rfl
  have f3 : (rowsLs s n p.units s.height.toNat).filter (fun l => begB l unitP) = [] := by
    unfold rowsLs
    refine filter_flat _ _ _ (fun y _ b hb => ?_)
    unfold rowLs at hb
    obtain ⟨x, _, hb⟩ := List.mem_flatMap.1 hb
    unfold seenLs at hb
    split at hb
    · rcases List.mem_append.1 hb with hb | hb
      · unfold oreLs at hb
        split at hb
        · cases hb
        · obtain rfl := List.mem_singleton.1 hb
          rw [lineT_cons]
          exact beg_hd _ _ 111 _ rfl (by decide)
      · unfold otherLs at hb
        split at hb
        · obtain rfl := List.mem_singleton.1 hb
          rw [lineT_cons]
          exact beg_hd _ _ 111 _ rfl (by decide)
        · cases hb
    · cases hb
  have f4 : ((sortL s.lots).flatMap (fun l => [lotT p l])).filter (fun l => begB l unitP) = [] := by
    refine filter_flat _ _ _ (fun l _ b hb => ?_)
    obtain rfl := List.mem_singleton.1 hb
    unfold lotT lotWs
    rw [List.cons_append, lineT_cons]
    exact beg_hd _ _ 108 _ rfl (by decide)
  have f5 : (p.news.flatMap (fun m => [m.data.toList])).filter (fun l => begB l unitP) = [] := by
    refine filter_flat _ _ _ (fun m h b hb => ?_)
    obtain rfl := List.mem_singleton.1 hb
    exact (hm m h).2
  have f2 : (p.units.flatMap (fun u => [unitT u])).filter (fun l => begB l unitP) = p.units.flatMap (fun u => [unitT u]) := by
    rw [List.filter_eq_self]
    intro b hb
    obtain ⟨u, _, hb⟩ := List.mem_flatMap.1 hb
    obtain rfl := List.mem_singleton.1 hb
    have e : unitT u = unitP ++ (u.name.data.toList ++ Lib.joinTail [32] ([whereB u.x u.y, letterB u.head, wCargo, itoaB u.cargo].map (·.data.toList))) := by
      unfold unitT
      rw [lineT_cons, List.map_cons]
      simp only [Lib.joinTail, List.map_cons, List.flatten_cons]
      rfl
    rw [e]
    exact beg_app _ _
  rw [f1, f2, f3, f4, f5]
  simp only [List.nil_append, List.append_nil]
  exact units_words p.units hu
end Go.Proofs.YtlafddeoheambaaGreatDoor

/-
  The functions begun and view of package hazekeep.
-/
namespace Go.Proofs.YtlafddeoheambaaGreatDoor
open Go.RowKit

theorem SpIn.mk {w : World} {b k cap : Nat} {ds : List SSpot} (h : ∀ (j : Nat) u, (ds.flatMap spotCells)[j]? = some u → w.cell? ⟨b, j, none⟩ = some u) (hb : b < w.heap.size) (hk : ds.length = k) : SpIn w (.slice (some ⟨b, 0, none⟩) k cap) ds := by
  subst hk
  exact ⟨_, _, rfl, fun _ => ⟨b, 0, rfl, hb, fun j u hu => by rw [Nat.zero_add]; exact h j u hu⟩⟩
theorem take_cells (l : List SSpot) (k : Nat) : ∀ (j : Nat) u, ((l.take k).flatMap spotCells)[j]? = some u → (l.flatMap spotCells)[j]? = some u := by
  intro j u h
  have e : l.flatMap spotCells = (l.take k).flatMap spotCells ++ (l.drop k).flatMap spotCells := by rw [← List.flatMap_append, List.take_append_drop]
  rw [e, List.getElem?_append_left]
  · exact h
  · obtain ⟨hj, _⟩ := List.getElem?_eq_some_iff.1 h
    exact hj

set_option maxRecDepth 100000 in
set_option maxHeartbeats 4000000 in
theorem begun_any (w : World) (side sight : Int) (k : Nat) (hs : 3 ≤ side ∧ side ≤ 10) (hk : 2 ≤ k ∧ k ≤ 4) (hN : newB side side sight (oreOf (side - 1)) ((cornersOf (side - 1)).take k) = true) :
    Calls Tryz.prog 18 #[.int .i64 side, .int .i64 sight, .int .i64 k] w fun e w' => Below w.heap.size w w' ∧ ∃ X : XW, e = .returned (.pointer (some ⟨X.b, 0, none⟩)) ∧ RepX w' X ∧ OkX X ∧ X.S = begunS side sight k ∧ X.sales = [] ∧ ∀ r ∈ X.foot, w.heap.size ≤ r := by
  have HN : Hid (∀ wc : World, wc = (w.alloc (.cells ((cornersOf (side - 1)).flatMap spotCells).toArray 63)).alloc (.cells ((oreOf (side - 1)).flatMap spotCells).toArray 63) →
      Calls Tryz.prog 25 #[.agg #[.int .i64 side, .int .i64 side, .int .i64 sight, .slice (some ⟨w.heap.size + 1, 0, none⟩) 4 4, .slice (some ⟨w.heap.size, 0, none⟩) k 4]] wc fun e w' => Below w.heap.size w w' ∧ ∃ X : XW, e = .returned (.tuple #[.pointer (some ⟨X.b, 0, none⟩), .int .i64 0]) ∧ RepX w' X ∧ OkX X ∧ X.S = begunS side sight k ∧ X.sales = [] ∧ ∀ r ∈ X.foot, w.heap.size ≤ r) := by
    unfold Hid
    intro wc hwc
    have s1 : (w.alloc (.cells ((cornersOf (side - 1)).flatMap spotCells).toArray 63)).heap.size = w.heap.size + 1 := by simp
    have h2 := Go.heap_alloc_new (w.alloc (.cells ((cornersOf (side - 1)).flatMap spotCells).toArray 63)) (.cells ((oreOf (side - 1)).flatMap spotCells).toArray 63)
    have h1 := Go.heap_alloc_new w (.cells ((cornersOf (side - 1)).flatMap spotCells).toArray 63)
    rw [s1, ← hwc] at h2
    have h1' : wc.heap[w.heap.size]? = some (.cells ((cornersOf (side - 1)).flatMap spotCells).toArray 63 (0, 0)) := by rw [hwc, Below.heap_alloc _ _ _ (by omega), h1]
    have hb : Below w.heap.size w wc := by rw [hwc]; exact ((Below.refl _ w).alloc (Nat.le_refl _) _).alloc (by omega) _
    have ho : SpIn wc (.slice (some ⟨w.heap.size + 1, 0, none⟩) 4 4) (oreOf (side - 1)) := SpIn.mk (fun j u hu => by rw [cell_of_row _ _ _ _ _ _ h2]; simpa using hu) (lt_of_some h2) rfl
    have hc : SpIn wc (.slice (some ⟨w.heap.size, 0, none⟩) k 4) ((cornersOf (side - 1)).take k) := SpIn.mk (fun j u hu => by rw [cell_of_row _ _ _ _ _ _ h1']; simpa using take_cells _ _ j u hu) (lt_of_some h1') (by simp [cornersOf]; omega)
    have hlo : (oreOf (side - 1)).length = 4 := rfl
    have hlc : ((cornersOf (side - 1)).take k).length ≤ 4 := by simp [cornersOf]; omega
    refine (xnew_any wc side side sight _ _ _ _ ho hc (by omega) (by omega) ?_ ?_).mono ?_
    · intro s hs'
      simp [oreOf] at hs'
      rcases hs' with rfl | rfl | rfl | rfl <;> simp <;> omega
    · intro s hs'
      have hs'' := List.mem_of_mem_take hs'
      simp [cornersOf] at hs''
      rcases hs'' with rfl | rfl | rfl | rfl <;> simp <;> omega
    · rintro e w' ⟨hb', ⟨hf, _⟩ | ⟨_, X, he, hr, hok, hS, hsl, hf⟩⟩
      · rw [hN] at hf; cases hf
      · exact ⟨hb.trans (hb'.mono hb.size), X, he, hr, hok, hS, hsl, fun r hr' => Nat.le_trans hb.size (hf r hr')⟩
  clear hN
  go_enter Tryz.func18, Tryz.ntmps18
  go_wp2_with fail
  refine (HN.out _ rfl).mono ?_
  rintro e w1 ⟨hb, X, rfl, hR⟩
  have HR := hidOf hR
  have HB := hidOf hb
  clear hR hb HN
  go_wp2
  go_ret
  exact ⟨HB.out, X, rfl, HR.out⟩
set_option maxRecDepth 100000 in
set_option maxHeartbeats 1000000 in
/-- What view answers: the view, or nothing. -/
theorem kview_any (w : World) (X : XW) (n : Int) (hr : RepX w X) (ht : Tab w) (ho : OkX X) (hg : GoodS X.S) (hN : NewsOK X) (hsl : SaleOK X.sales) :
    Calls Tryz.prog 17 #[.pointer (some ⟨X.b, 0, none⟩), .int .i64 n] w fun e w' => e = .returned (.string (viewS X.S n).1) ∧ Below w.heap.size w w' := by
  have HV := hidOf (xview_c w X n hr ht ho hg hN hsl)
  have h1 : (viewS X.S n).2 = 0 ∨ ((viewS X.S n).2 = 1 ∧ (viewS X.S n).1 = ⟨#[]⟩) := by
    unfold viewS
    repeat' split
    all_goals simp
  clear hr ht ho hg hN hsl
  go_enter Tryz.func17, Tryz.ntmps17
  go_wp2_with fail
  refine HV.out.mono ?_
  rintro e w1 ⟨rfl, hb⟩
  rcases h1 with h1 | ⟨h1, h2⟩
  · rw [h1]
    go_wp2
    go_ret
    exact ⟨rfl, hb⟩
  · rw [h1, h2]
    go_wp2
    go_ret
    exact ⟨by rw [h2]; rfl, hb⟩
end Go.Proofs.YtlafddeoheambaaGreatDoor

/-
  A world of the program that a keep holds.
-/
namespace Go.Proofs.YtlafddeoheambaaGreatDoor
open Go.RowKit

structure KIn (w wx : World) (X : XW) : Prop where
  b : Below w.heap.size w wx
  rep : RepX wx X
  ok : OkX X
  g : GoodS X.S
  n : NewsOK X
  sl : SaleOK X.sales
  foot : ∀ r ∈ X.foot, w.heap.size ≤ r
theorem KIn.below {w wx w' : World} {X : XW} (h : KIn w wx X) (hb : Below wx.heap.size wx w') : KIn w w' X :=
  ⟨h.b.trans (hb.mono h.b.size), h.rep.below hb, h.ok, h.g, h.n, h.sl, h.foot⟩
theorem KIn.turn {w wx w' : World} {X X' : XW} (h : KIn w wx X) (T : TurnX wx X w' X') (ok : OkX X') (g : GoodS X'.S) (n : NewsOK X') (sl : SaleOK X'.sales) : KIn w w' X' := by
  refine ⟨⟨T.kept.os.trans h.b.os, T.kept.tape.trans h.b.tape, T.kept.output.trans h.b.output, Nat.le_trans h.b.size T.kept.size, fun k hk => ?_⟩, T.rep, ok, g, n, sl, fun r hr => ?_⟩
  · rw [T.kept.block k (Nat.lt_of_lt_of_le hk h.b.size) (fun hm => by have := h.foot k hm; omega), h.b.block k hk]
  · rcases T.ext r hr with h' | h'
    · exact h.foot r h'
    · have := h.b.size; omega
theorem KIn.order {w wx : World} {X : XW} (h : KIn w wx X) (n : Int) (t : ByteArray) (hs : t.size ≤ 2000000) :
    Calls Tryz.prog 10 #[.pointer (some ⟨X.b, 0, none⟩), .int .i64 n, .string t] wx fun e w' => e = .returned (.int .i64 (orderS X.S n t.data.toList).1) ∧ ∃ X', KIn w w' X' ∧ X'.b = X.b ∧ X'.S = (orderS X.S n t.data.toList).2 := by
  refine (xorder_c wx X n t h.rep h.ok h.g h.n h.sl hs).mono ?_
  rintro e w' ⟨rfl, X', T, ok, hS, n', sl⟩
  exact ⟨rfl, X', h.turn T ok (by rw [hS]; exact h.g.order n t.data.toList (by rw [Array.length_toList]; exact hs)) n' sl, T.b, hS⟩
theorem KIn.tick {w wx : World} {X : XW} (h : KIn w wx X) :
    Calls Tryz.prog 11 #[.pointer (some ⟨X.b, 0, none⟩)] wx fun e w' => e = .returned (.int .i64 (tickC X.S)) ∧ ∃ X', KIn w w' X' ∧ X'.b = X.b ∧ X'.S = tickN X.S := by
  refine (xtick_c wx X h.rep h.ok h.g h.n h.sl).mono ?_
  rintro e w' ⟨rfl, X', T, ok, hS, n', sl⟩
  exact ⟨rfl, X', h.turn T ok (by rw [hS]; exact h.g.tickN) n' sl, T.b, hS⟩
theorem KIn.view {w wx : World} {X : XW} (h : KIn w wx X) (n : Int) (ht : Tab w) :
    Calls Tryz.prog 17 #[.pointer (some ⟨X.b, 0, none⟩), .int .i64 n] wx fun e w' => e = .returned (.string (viewS X.S n).1) ∧ KIn w w' X := by
  refine (kview_any wx X n h.rep (ht.below h.b ht.lt) h.ok h.g h.n h.sl).mono ?_
  rintro e w' ⟨rfl, hb⟩
  exact ⟨rfl, h.below hb⟩
theorem begun_in (w : World) (side sight : Int) (k : Nat) (hs : 3 ≤ side ∧ side ≤ 10) (hk : 2 ≤ k ∧ k ≤ 4) (hN : newB side side sight (oreOf (side - 1)) ((cornersOf (side - 1)).take k) = true) :
    Calls Tryz.prog 18 #[.int .i64 side, .int .i64 sight, .int .i64 k] w fun e w' => ∃ X : XW, e = .returned (.pointer (some ⟨X.b, 0, none⟩)) ∧ KIn w w' X ∧ X.S = begunS side sight k := by
  refine (begun_any w side sight k hs hk hN).mono ?_
  rintro e w' ⟨hb, X, rfl, hr, ok, hS, hsl, hf⟩
  exact ⟨X, rfl, ⟨hb, hr, ok, by rw [hS]; exact GoodS.new hN, news_new hS hsl, by rw [hsl]; exact SaleOK.nil, hf⟩, hS⟩
/-- Numbers that are handed in. -/
def IntsIn (w : World) (v : Value) (zs : List Int) : Prop :=
  ∃ ao cap, v = .slice ao zs.length cap ∧ zs.length ≤ 9223372036854775807 ∧ (0 < zs.length → ∃ b off, ao = some ⟨b, off, none⟩ ∧ b < w.heap.size ∧ ∀ (j : Nat) z, zs[j]? = some z → w.cell? ⟨b, off + j, none⟩ = some (.int .i64 z))
set_option maxRecDepth 100000 in
theorem kpick_any (c n : Int) (w : World) (h1 : -9223372036854775808 ≤ c) (h2 : c ≤ 9223372036854775807) (hn : 0 < n) (hn2 : n ≤ 9223372036854775807) :
    Calls Tryz.prog 12 #[.int .i64 c, .int .i64 n] w fun e w' => e = .returned (.int .i64 (pickI c n)) ∧ w' = w := by
  by_cases h : c < 0
  · go_enter Tryz.func12, Tryz.ntmps12
    go_wp2
    go_ret
    exact ⟨ret_int (pickI_neg c n h), rfl⟩
  · go_enter Tryz.func12, Tryz.ntmps12
    go_wp2
    go_ret
    exact ⟨ret_int (pickI_pos c n (by omega)), rfl⟩
end Go.Proofs.YtlafddeoheambaaGreatDoor

/-
  Two worlds of the program side by side: what turns one leaves the other as it was.
-/
namespace Go.Proofs.YtlafddeoheambaaGreatDoor
open Go.RowKit

theorem KIn.kept {w wx w' : World} {X : XW} {F : List Nat} (h : KIn w wx X) (K : Kept F wx w') (hF : ∀ r ∈ F, r ∉ X.foot ∧ w.heap.size ≤ r) : KIn w w' X := by
  refine ⟨⟨K.os.trans h.b.os, K.tape.trans h.b.tape, K.output.trans h.b.output, Nat.le_trans h.b.size K.size, fun k hk => ?_⟩, h.rep.same (fun r hr => K.block r (h.rep.lt r hr) (fun hm => (hF r hm).1 hr)), h.ok, h.g, h.n, h.sl, h.foot⟩
  rw [K.block k (Nat.lt_of_lt_of_le hk h.b.size) (fun hm => by have := (hF k hm).2; omega), h.b.block k hk]
theorem KIn.order2 {w wx : World} {X : XW} (h : KIn w wx X) (n : Int) (t : ByteArray) (hs : t.size ≤ 2000000) :
    Calls Tryz.prog 10 #[.pointer (some ⟨X.b, 0, none⟩), .int .i64 n, .string t] wx fun e w' => e = .returned (.int .i64 (orderS X.S n t.data.toList).1) ∧ ∃ X', TurnX wx X w' X' ∧ KIn w w' X' ∧ X'.S = (orderS X.S n t.data.toList).2 := by
  refine (xorder_c wx X n t h.rep h.ok h.g h.n h.sl hs).mono ?_
  rintro e w' ⟨rfl, X', T, ok, hS, n', sl⟩
  exact ⟨rfl, X', T, h.turn T ok (by rw [hS]; exact h.g.order n t.data.toList (by rw [Array.length_toList]; exact hs)) n' sl, hS⟩
theorem KIn.tick2 {w wx : World} {X : XW} (h : KIn w wx X) :
    Calls Tryz.prog 11 #[.pointer (some ⟨X.b, 0, none⟩)] wx fun e w' => e = .returned (.int .i64 (tickC X.S)) ∧ ∃ X', TurnX wx X w' X' ∧ KIn w w' X' ∧ X'.S = tickN X.S := by
  refine (xtick_c wx X h.rep h.ok h.g h.n h.sl).mono ?_
  rintro e w' ⟨rfl, X', T, ok, hS, n', sl⟩
  exact ⟨rfl, X', T, h.turn T ok (by rw [hS]; exact h.g.tickN) n' sl, hS⟩
theorem KIn.view2 {w wx : World} {X : XW} (h : KIn w wx X) (n : Int) (ht : Tab w) :
    Calls Tryz.prog 17 #[.pointer (some ⟨X.b, 0, none⟩), .int .i64 n] wx fun e w' => e = .returned (.string (viewS X.S n).1) ∧ Below wx.heap.size wx w' :=
  kview_any wx X n h.rep (ht.below h.b ht.lt) h.ok h.g h.n h.sl

/-- Two worlds apart from one another. -/
structure Two (w wx : World) (X Z : XW) : Prop where
  x : KIn w wx X
  z : KIn w wx Z
  d : ∀ r ∈ X.foot, r ∉ Z.foot
theorem Two.swap {w wx : World} {X Z : XW} (h : Two w wx X Z) : Two w wx Z X := ⟨h.z, h.x, fun r hr hm => h.d r hm hr⟩
theorem Two.below {w wx w' : World} {X Z : XW} (h : Two w wx X Z) (hb : Below wx.heap.size wx w') : Two w w' X Z := ⟨h.x.below hb, h.z.below hb, h.d⟩
theorem Two.turn {w wx w' : World} {X X' Z : XW} (h : Two w wx X Z) (T : TurnX wx X w' X') (K : KIn w w' X') : Two w w' X' Z := by
  refine ⟨K, h.z.kept T.kept (fun r hr => ⟨h.d r hr, h.x.foot r hr⟩), fun r hr hm => ?_⟩
  rcases T.ext r hr with h' | h'
  · exact h.d r h' hm
  · have := h.z.rep.lt r hm
    omega
theorem Two.kept {w wx w' : World} {X Z : XW} {F : List Nat} (h : Two w wx X Z) (K : Kept F wx w') (hF : ∀ r ∈ F, r ∉ X.foot ∧ r ∉ Z.foot ∧ w.heap.size ≤ r) : Two w w' X Z :=
  ⟨h.x.kept K (fun r hr => ⟨(hF r hr).1, (hF r hr).2.2⟩), h.z.kept K (fun r hr => ⟨(hF r hr).2.1, (hF r hr).2.2⟩), h.d⟩

theorem two_first {w w1 w2 : World} {X Z : XW} (K0 : KIn w w1 X) (K1 : KIn w1 w2 Z) : Two w w2 X Z := by
  refine ⟨K0.below K1.b, ⟨K0.b.trans (K1.b.mono K0.b.size), K1.rep, K1.ok, K1.g, K1.n, K1.sl, fun r hr => Nat.le_trans K0.b.size (K1.foot r hr)⟩, fun r hr hm => ?_⟩
  have := K0.rep.lt r hr
  have := K1.foot r hm
  omega
section
variable {w wx : World} {X Z : XW} {b : Nat}
theorem Two.orderL (h : Two w wx X Z) (hb : X.b = b) (n : Int) (t : ByteArray) (hs : t.size ≤ 2000000) :
    Calls Tryz.prog 10 #[.pointer (some ⟨b, 0, none⟩), .int .i64 n, .string t] wx fun e w' => e = .returned (.int .i64 (orderS X.S n t.data.toList).1) ∧ ∃ X', Two w w' X' Z ∧ X'.b = b ∧ X'.S = (orderS X.S n t.data.toList).2 := by
  subst hb
  refine (h.x.order2 n t hs).mono ?_
  rintro e w' ⟨rfl, X', T, K, hS⟩
  exact ⟨rfl, X', h.turn T K, T.b, hS⟩
theorem Two.orderR (h : Two w wx X Z) (hb : Z.b = b) (n : Int) (t : ByteArray) (hs : t.size ≤ 2000000) :
    Calls Tryz.prog 10 #[.pointer (some ⟨b, 0, none⟩), .int .i64 n, .string t] wx fun e w' => e = .returned (.int .i64 (orderS Z.S n t.data.toList).1) ∧ ∃ Z', Two w w' X Z' ∧ Z'.b = b ∧ Z'.S = (orderS Z.S n t.data.toList).2 := by
  refine (h.swap.orderL hb n t hs).mono ?_
  rintro e w' ⟨rfl, Z', T, hb', hS⟩
  exact ⟨rfl, Z', T.swap, hb', hS⟩
theorem Two.tickL (h : Two w wx X Z) (hb : X.b = b) :
    Calls Tryz.prog 11 #[.pointer (some ⟨b, 0, none⟩)] wx fun e w' => e = .returned (.int .i64 (tickC X.S)) ∧ ∃ X', Two w w' X' Z ∧ X'.b = b ∧ X'.S = tickN X.S := by
  subst hb
  refine h.x.tick2.mono ?_
  rintro e w' ⟨rfl, X', T, K, hS⟩
  exact ⟨rfl, X', h.turn T K, T.b, hS⟩
theorem Two.tickR (h : Two w wx X Z) (hb : Z.b = b) :
    Calls Tryz.prog 11 #[.pointer (some ⟨b, 0, none⟩)] wx fun e w' => e = .returned (.int .i64 (tickC Z.S)) ∧ ∃ Z', Two w w' X Z' ∧ Z'.b = b ∧ Z'.S = tickN Z.S := by
  refine (h.swap.tickL hb).mono ?_
  rintro e w' ⟨rfl, Z', T, hb', hS⟩
  exact ⟨rfl, Z', T.swap, hb', hS⟩
theorem Two.viewL (h : Two w wx X Z) (hb : X.b = b) (n : Int) (ht : Tab w) :
    Calls Tryz.prog 17 #[.pointer (some ⟨b, 0, none⟩), .int .i64 n] wx fun e w' => e = .returned (.string (viewS X.S n).1) ∧ Two w w' X Z := by
  subst hb
  refine (h.x.view2 n ht).mono ?_
  rintro e w' ⟨rfl, hb⟩
  exact ⟨rfl, h.below hb⟩
end
end Go.Proofs.YtlafddeoheambaaGreatDoor

/-
  A world that is turned to the left by a quarter, with all that lies in it: what is done there is what is done in the world that is not, turned.
-/
namespace Go.Proofs.YtlafddeoheambaaGreatDoor
open Go.RowKit

def rotU (u : SUnit) : SUnit := { u with x := 3 - u.y, y := u.x, head := (u.head + 1) % 4 }
def rotP (p : SPlayer) : SPlayer := { p with units := p.units.map rotU }
def rotO (s : SSpot) : SSpot := { s with x := 3 - s.y, y := s.x }
def rotS (s : SWorld) : SWorld := { s with width := s.height, height := s.width, ore := s.ore.map rotO, players := s.players.map rotP }

theorem rot_eq3 (a b : Int) : decide (3 - a = 3 - b) = decide (a = b) := by
  rw [decide_eq_decide]
  omega
theorem rot_hit (x y : Int) (s : SSpot) : hitB (3 - y) x (rotO s) = hitB x y s := by
  unfold hitB rotO
  simp only [rot_eq3]
  cases decide (s.y = y) <;> cases decide (s.x = x) <;> rfl
theorem rot_digB (l : List SSpot) (x y : Int) : digB (l.map rotO) (3 - y) x = digB l x y := by
  unfold digB
  rw [List.any_map]
  congr 1
  funext s
  exact rot_hit x y s
theorem rot_digL (l : List SSpot) (x y : Int) : digL (3 - y) x (l.map rotO) = (digL x y l).map rotO := by
  induction l with
  | nil => rfl
  | cons s r ih =>
    simp only [List.map_cons, digL, rot_hit, ih]
    split
    · rfl
    · rfl
theorem rot_stands (x y : Int) (p : SPlayer) : standsB (3 - y) x (rotP p) = standsB x y p := by
  unfold standsB rotP
  rw [List.any_map]
  congr 1
  funext u
  show (decide (3 - u.y = 3 - y) && decide (u.x = x)) = _
  rw [rot_eq3]
  cases decide (u.y = y) <;> cases decide (u.x = x) <;> rfl
theorem ixOf_map {α β : Type} (p : β → Bool) (q : α → Bool) (f : α → β) (l : List α) (h : ∀ a, p (f a) = q a) : ixOf p (l.map f) = ixOf q l := by
  induction l with
  | nil => rfl
  | cons a l ih => simp only [List.map_cons, ixOf, h, ih]
theorem rot_holder (ps : List SPlayer) (x y : Int) : holderI (ps.map rotP) (3 - y) x = holderI ps x y := ixOf_map _ _ _ _ (rot_stands x y)
theorem rot_ix (us : List SUnit) (nm : ByteArray) : unitIx (us.map rotU) nm = unitIx us nm := ixOf_map _ _ _ _ (fun _ => rfl)
theorem rot_free {s : SWorld} (h4 : s.height = 4) (x y : Int) : freeS (rotS s) (3 - y) x = freeS s x y := by
  unfold freeS inB rotS
  simp only [rot_holder, h4]
  rw [Bool.eq_iff_iff]
  simp only [Bool.and_eq_true, decide_eq_true_eq]
  omega
theorem rot_set (s : SWorld) (n : Nat) (p : SPlayer) : rotS (s.setPl n p) = (rotS s).setPl n (rotP p) := by
  unfold rotS SWorld.setPl
  simp only [List.map_set]
theorem rot_put (s : SWorld) (n k : Nat) (p : SPlayer) (v : SUnit) (m : Int) : rotS (s.setPl n { p with money := m, units := p.units.set k v }) = (rotS s).setPl n { rotP p with money := m, units := (rotP p).units.set k (rotU v) } := by
  rw [rot_set]
  unfold rotP
  simp only [List.map_set]
theorem rot_dx (h : Int) (hh : 0 ≤ h ∧ h ≤ 3) : dxI ((h + 1) % 4) = - dyI h ∧ dyI ((h + 1) % 4) = dxI h := by
  obtain ⟨h1, h2⟩ := hh
  have : h = 0 ∨ h = 1 ∨ h = 2 ∨ h = 3 := by omega
  rcases this with rfl | rfl | rfl | rfl <;> decide
theorem rot_act {s : SWorld} (h4 : s.height = 4) (n k : Nat) (p : SPlayer) (u : SUnit) (what arg : ByteArray) (hh : 0 ≤ u.head ∧ u.head ≤ 3) :
    actS (rotS s) n k (rotP p) (rotU u) what arg = rotS (actS s n k p u what arg) := by
  obtain ⟨d1, d2⟩ := rot_dx u.head hh
  have ex : (rotU u).x + dxI (rotU u).head = 3 - (u.y + dyI u.head) := by
    show 3 - u.y + dxI ((u.head + 1) % 4) = _
    rw [d1]
    omega
  have ey : (rotU u).y + dyI (rotU u).head = u.x + dxI u.head := by
    show u.x + dyI ((u.head + 1) % 4) = _
    rw [d2]
  have e2 : ((u.head + 1) % 4 + 2) % 4 = ((u.head + 2) % 4 + 1) % 4 := by omega
  have e3 : ((u.head + 1) % 4 + 3) % 4 = ((u.head + 3) % 4 + 1) % 4 := by omega
  unfold actS
  simp only [ex, ey, rot_free h4]
  rw [apply_ite rotS]
  refine ite_congr rfl (fun _ => ?_) (fun _ => ?_)
  · rw [apply_ite rotS]
    exact ite_congr rfl (fun _ => (rot_put s n k p { u with x := u.x + dxI u.head, y := u.y + dyI u.head } p.money).symm) (fun _ => rfl)
  rw [apply_ite rotS]
  refine ite_congr rfl (fun _ => ?_) (fun _ => ?_)
  · exact (rot_put s n k p { u with head := (u.head + 1) % 4 } p.money).symm
  rw [apply_ite rotS]
  refine ite_congr rfl (fun _ => ?_) (fun _ => ?_)
  · rw [rot_put s n k p { u with head := (u.head + 2) % 4 } p.money]
    show (rotS s).setPl n { rotP p with units := (rotP p).units.set k { rotU u with head := ((u.head + 1) % 4 + 2) % 4 } } = _
    rw [e2]
    rfl
  rw [apply_ite rotS]
  refine ite_congr rfl (fun _ => ?_) (fun _ => ?_)
  · rw [rot_put s n k p { u with head := (u.head + 3) % 4 } p.money]
    show (rotS s).setPl n { rotP p with units := (rotP p).units.set k { rotU u with head := ((u.head + 1) % 4 + 3) % 4 } } = _
    rw [e3]
    rfl
  rw [apply_ite rotS]
  refine ite_congr rfl (fun _ => ?_) (fun _ => ?_)
  · rw [apply_ite rotS]
    refine ite_congr rfl (fun _ => ?_) (fun _ => rfl)
    rw [apply_ite rotS]
    have e5 : digB (rotS s).ore (rotU u).x (rotU u).y = digB s.ore u.x u.y := rot_digB s.ore u.x u.y
    rw [e5]
    refine ite_congr rfl (fun _ => ?_) (fun _ => rfl)
    have e6 : digL (rotU u).x (rotU u).y (rotS s).ore = (digL u.x u.y s.ore).map rotO := rot_digL s.ore u.x u.y
    rw [e6]
    have := rot_put s n k p { u with cargo := u.cargo + 1 } p.money
    have c := congrArg (fun t : SWorld => { t with ore := (digL u.x u.y s.ore).map rotO }) this
    exact c.symm
  rw [apply_ite rotS]
  refine ite_congr rfl (fun _ => ?_) (fun _ => ?_)
  · exact (rot_put s n k p { u with cargo := 0 } (p.money + 10 * u.cargo)).symm
  rw [apply_ite rotS]
  refine ite_congr rfl (fun _ => ?_) (fun _ => ?_)
  · rw [apply_ite rotS]
    have e7 : unitIx (rotP p).units arg = unitIx p.units arg := rot_ix p.units arg
    rw [e7]
    exact ite_congr rfl (fun _ => (rot_put s n k p { u with name := arg } p.money).symm) (fun _ => rfl)
  rw [apply_ite rotS]
  refine ite_congr rfl (fun _ => ?_) (fun _ => rfl)
  rw [apply_ite rotS]
  have e7 : unitIx (rotP p).units arg = unitIx p.units arg := rot_ix p.units arg
  have e8 : (rotP p).units.length = p.units.length := by simp [rotP]
  rw [e7, e8]
  refine ite_congr rfl (fun _ => ?_) (fun _ => rfl)
  rw [rot_set]
  unfold rotP
  simp only [List.map_append, List.map_cons, List.map_nil]
  rfl

theorem act_hw (s : SWorld) (n k : Nat) (p : SPlayer) (u : SUnit) (what arg : ByteArray) : (actS s n k p u what arg).height = s.height := by
  unfold actS
  simp only
  repeat' split
  all_goals rfl
theorem does_hw (s : SWorld) (n k : Nat) : (doesS s n k).height = s.height := by
  unfold doesS
  split
  · rfl
  · split
    · rfl
    · exact act_hw _ _ _ _ _ _ _
theorem rot_at (s : SWorld) (n : Nat) : (rotS s).players[n]? = (s.players[n]?).map rotP := by
  show (s.players.map rotP)[n]? = _
  rw [List.getElem?_map]
theorem rot_does {s : SWorld} {M : Int} (h : WFS s M) (h4 : s.height = 4) (n k : Nat) : doesS (rotS s) n k = rotS (doesS s n k) := by
  unfold doesS
  rw [rot_at]
  cases hp : s.players[n]? with
  | none => rfl
  | some p =>
    have pk := h.each p (List.mem_of_getElem? hp)
    simp only [Option.map_some]
    have e : (rotP p).units[k]? = (p.units[k]?).map rotU := by show (p.units.map rotU)[k]? = _; rw [List.getElem?_map]
    rw [e]
    cases hk : p.units[k]? with
    | none => rfl
    | some u =>
      have hu := (pk.each u (List.mem_of_getElem? hk)).head
      simp only [Option.map_some]
      have e1 := rot_put s n k p { u with what := emptyB, arg := emptyB } p.money
      have e2 : ({ rotP p with units := (rotP p).units.set k { rotU u with what := emptyB, arg := emptyB } } : SPlayer) = rotP { p with units := p.units.set k { u with what := emptyB, arg := emptyB } } := by
        unfold rotP
        simp only [List.map_set]
        rfl
      have := rot_act (s := s.setPl n { p with units := p.units.set k { u with what := emptyB, arg := emptyB } }) h4 n k { p with units := p.units.set k { u with what := emptyB, arg := emptyB } } { u with what := emptyB, arg := emptyB } u.what u.arg hu
      rw [← this, rot_set, ← e2]
      rfl
theorem units_hw (s : SWorld) (n j : Nat) : (unitsTo s n j).height = s.height := by
  induction j with
  | zero => rfl
  | succ j ih => exact (does_hw _ _ _).trans ih
theorem rot_units {s : SWorld} {M : Int} (h : WFS s M) (h4 : s.height = 4) (n j : Nat) : unitsTo (rotS s) n j = rotS (unitsTo s n j) := by
  induction j with
  | zero => rfl
  | succ j ih =>
    show doesS (unitsTo (rotS s) n j) n j = _
    rw [ih, rot_does (h.unitsTo n j) ((units_hw s n j).trans h4)]
    rfl
theorem rot_clear (s : SWorld) (n : Nat) : clearN (rotS s) n = rotS (clearN s n) := by
  unfold clearN
  rw [rot_at]
  cases s.players[n]? with
  | none => rfl
  | some p => exact (rot_set s n { p with news := [] }).symm
theorem rot_unitsN (s : SWorld) (n : Nat) : unitsN (rotS s) n = unitsN s n := by
  unfold unitsN
  rw [rot_at]
  cases s.players[n]? with
  | none => rfl
  | some p => simp [rotP]
theorem clear_hw (s : SWorld) (n : Nat) : (clearN s n).height = s.height := by
  unfold clearN
  split <;> rfl
theorem rot_player {s : SWorld} {M : Int} (h : WFS s M) (h4 : s.height = 4) (n : Nat) : playerS (rotS s) n = rotS (playerS s n) := by
  unfold playerS
  rw [rot_clear, rot_unitsN, rot_units (h.clearN n) ((clear_hw s n).trans h4)]
theorem tickTo_hw (s : SWorld) (n : Nat) : (tickTo s n).height = s.height := by
  induction n with
  | zero => rfl
  | succ n ih => exact (units_hw _ _ _).trans ((clear_hw _ _).trans ih)
theorem rot_tickTo {s : SWorld} {M : Int} (h : WFS s M) (h4 : s.height = 4) (n : Nat) : tickTo (rotS s) n = rotS (tickTo s n) := by
  induction n with
  | zero => rfl
  | succ n ih =>
    show playerS (tickTo (rotS s) n) n = _
    rw [ih, rot_player (h.tickTo n) ((tickTo_hw s n).trans h4)]
    rfl
theorem rot_tick {s : SWorld} {M : Int} (h : WFS s M) (h4 : s.height = 4) (hl : s.lots = []) : tickS (rotS s) = rotS (tickS s) := by
  rw [tickS_nil (s := rotS s) hl, tickS_nil hl]
  have e : (rotS s).players.length = s.players.length := by show (s.players.map rotP).length = _; simp
  rw [e, rot_tickTo h h4]
  rfl
theorem tick_hw {s : SWorld} (hl : s.lots = []) : (tickS s).height = s.height := by
  rw [tickS_nil hl]
  exact tickTo_hw s _
theorem rot_tell (s : SWorld) (n : Nat) (p : SPlayer) (a b c : List UInt8) : tellS (rotS s) n (rotP p) a b c = ((tellS s n p a b c).1, rotS (tellS s n p a b c).2) := by
  unfold tellS
  have e7 : unitIx (rotP p).units (bytesOf a) = unitIx p.units (bytesOf a) := rot_ix p.units _
  rw [e7]
  split
  · rfl
  · have e : (rotP p).units[(unitIx p.units (bytesOf a)).toNat]? = (p.units[(unitIx p.units (bytesOf a)).toNat]?).map rotU := by show (p.units.map rotU)[_]? = _; rw [List.getElem?_map]
    rw [e]
    cases p.units[(unitIx p.units (bytesOf a)).toNat]? with
    | none => rfl
    | some u =>
      simp only [Option.map_some]
      rw [rot_put s n _ p { u with what := bytesOf b, arg := bytesOf c } p.money]
      rfl
theorem rot_order (s : SWorld) (hl : s.lots = []) (n : Int) (t : List UInt8) : orderS (rotS s) n t = ((orderS s n t).1, rotS (orderS s n t).2) := by
  unfold orderS
  have e : (rotS s).players.length = s.players.length := by show (s.players.map rotP).length = _; simp
  rw [e, rot_at]
  split
  · cases s.players[n.toNat]? with
    | none => rfl
    | some p =>
      simp only [Option.map_some]
      unfold wordsS
      split
      · split
        · exact rot_tell s _ p _ _ _
        · rfl
      · split
        · rw [bidS_nil (s := rotS s) hl, bidS_nil hl]
        · split
          · exact rot_tell s _ p _ _ _
          · rfl
      · rfl
  · rfl
theorem rot_money (s : SWorld) (n : Int) : moneyS (rotS s) n = moneyS s n := by
  unfold moneyS
  have e : (rotS s).players.length = s.players.length := by show (s.players.map rotP).length = _; simp
  rw [e, rot_at]
  split
  · cases s.players[n.toNat]? with
    | none => rfl
    | some p => rfl
  · rfl
theorem tell_hw (s : SWorld) (n : Nat) (p : SPlayer) (a b c : List UInt8) : (tellS s n p a b c).2.height = s.height ∧ (tellS s n p a b c).2.lots = s.lots := by
  unfold tellS
  repeat' split
  all_goals exact ⟨rfl, rfl⟩
theorem order_hw (s : SWorld) (n : Int) (t : List UInt8) : (orderS s n t).2.height = s.height ∧ (orderS s n t).2.lots = s.lots := by
  unfold orderS
  split
  · split
    · exact ⟨rfl, rfl⟩
    · unfold wordsS bidS
      repeat' split
      all_goals first
        | exact ⟨rfl, rfl⟩
        | exact tell_hw _ _ _ _ _ _
  · exact ⟨rfl, rfl⟩
end Go.Proofs.YtlafddeoheambaaGreatDoor
