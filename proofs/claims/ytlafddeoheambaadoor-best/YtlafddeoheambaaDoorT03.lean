/-
  The function does of package hazeref: what a unit's order leaves of the world.
-/
import Derived.Test.YtlafddeoheambaaDoorT02
import Derived.Deep.RegionLaw
import Derived.Deep.QuietTactic
import Derived.BigQuiet
import Derived.Deep.AppendLies
import Derived.Test.YtlafddeoheambaaDoorT01
set_option linter.unusedVariables false
namespace Go.Proofs.YtlafddeoheambaaDoor
open Go.RowKit
attribute [local go_sem] Go.wp_at_zero Go.wp_at_succ

end Go.Proofs.YtlafddeoheambaaDoor

/-
  The function does of package hazeref: what a unit's order leaves of the world, whatever the order.
-/
namespace Go.Proofs.YtlafddeoheambaaDoor
open Go.RowKit

theorem str_ne {a b c : List UInt8} (h : (a == b) = true) (hbc : b ≠ c) : (a == c) = false := by
  rw [beq_iff_eq] at h
  rw [h]
  exact beq_eq_false_iff_ne.2 hbc

end Go.Proofs.YtlafddeoheambaaDoor

/-
  The function ordered of package hazeref where no lot is open: it returns no lot.
-/
namespace Go.Proofs.YtlafddeoheambaaDoor
open Go.RowKit

end Go.Proofs.YtlafddeoheambaaDoor

/-
  What a Tick comes to, said plainly; what is told of lots taken away, in memory.
-/
namespace Go.Proofs.YtlafddeoheambaaDoor
open Go.RowKit

theorem flat_sub {α : Type} (f : α → List Nat) (l : List α) (n : Nat) (q : α) (hn : n < l.length) (h : (f q).Sublist (f l[n])) : ((l.set n q).flatMap f).Sublist (l.flatMap f) := by
  induction l generalizing n with
  | nil => simp at hn
  | cons a l ih =>
    cases n with
    | zero => simp only [List.set_cons_zero, List.flatMap_cons]; exact List.Sublist.append (by simpa using h) (List.Sublist.refl _)
    | succ n => simp only [List.set_cons_succ, List.flatMap_cons]; exact List.Sublist.append (List.Sublist.refl _) (ih n (by simpa using hn) (by simpa using h))

def YW.noLots (y : YW) : YW := { y with lots := [], vLots := .slice none 0 0 }
def clearN (s : SWorld) (n : Nat) : SWorld := match s.players[n]? with
  | none => s
  | some p => s.setPl n { p with news := [] }
/-- What the first j units of the n-th player do. -/
def unitsTo (s : SWorld) (n : Nat) : Nat → SWorld
  | 0 => s
  | j + 1 => doesS (unitsTo s n j) n j
def unitsN (s : SWorld) (n : Nat) : Nat := match s.players[n]? with
  | none => 0
  | some p => p.units.length
def playerS (s : SWorld) (n : Nat) : SWorld := unitsTo (clearN s n) n (unitsN (clearN s n) n)
/-- What the first n players' units do. -/
def tickTo (s : SWorld) : Nat → SWorld
  | 0 => s
  | n + 1 => playerS (tickTo s n) n
/-- The world behind a Tick. -/
def tickS (s : SWorld) : SWorld := closeS { tickTo s s.players.length with now := s.now + 1 }

theorem act_len (s : SWorld) (n k : Nat) (p : SPlayer) (u : SUnit) (what arg : ByteArray) : (actS s n k p u what arg).players.length = s.players.length ∧ (actS s n k p u what arg).now = s.now ∧ (actS s n k p u what arg).lots = s.lots := by
  unfold actS
  simp only
  repeat' split
  all_goals simp [SWorld.setPl]
theorem does_len (s : SWorld) (n k : Nat) : (doesS s n k).players.length = s.players.length ∧ (doesS s n k).now = s.now ∧ (doesS s n k).lots = s.lots := by
  unfold doesS
  split
  · exact ⟨rfl, rfl, rfl⟩
  · split
    · exact ⟨rfl, rfl, rfl⟩
    · refine ⟨(act_len _ _ _ _ _ _ _).1.trans (by simp [SWorld.setPl]), (act_len _ _ _ _ _ _ _).2.1, (act_len _ _ _ _ _ _ _).2.2⟩
theorem act_units (s : SWorld) (n k : Nat) (p : SPlayer) (u : SUnit) (what arg : ByteArray) (hp : s.players[n]? = some p) : p.units.length ≤ unitsN (actS s n k p u what arg) n := by
  obtain ⟨hn, he⟩ := at_some hp
  unfold actS
  simp only
  repeat' split
  all_goals simp [SWorld.setPl, unitsN, hn, he]
theorem does_units (s : SWorld) (n k : Nat) : unitsN s n ≤ unitsN (doesS s n k) n := by
  unfold doesS
  split
  · exact Nat.le_refl _
  · rename_i p hp
    obtain ⟨hn, _⟩ := at_some hp
    split
    · exact Nat.le_refl _
    · refine Nat.le_trans ?_ (act_units _ _ _ _ _ _ _ (by simp [SWorld.setPl, hn]))
      simp [unitsN, hp]
theorem unitsTo_len (s : SWorld) (n j : Nat) : (unitsTo s n j).players.length = s.players.length ∧ (unitsTo s n j).now = s.now ∧ (unitsTo s n j).lots = s.lots ∧ unitsN s n ≤ unitsN (unitsTo s n j) n := by
  induction j with
  | zero => exact ⟨rfl, rfl, rfl, Nat.le_refl _⟩
  | succ j ih =>
    have := does_len (unitsTo s n j) n j
    exact ⟨this.1.trans ih.1, this.2.1.trans ih.2.1, this.2.2.trans ih.2.2.1, Nat.le_trans ih.2.2.2 (does_units _ _ _)⟩
theorem clearN_len (s : SWorld) (n : Nat) : (clearN s n).players.length = s.players.length ∧ (clearN s n).now = s.now ∧ (clearN s n).lots = s.lots := by
  unfold clearN
  split
  · exact ⟨rfl, rfl, rfl⟩
  · simp [SWorld.setPl]
theorem tickTo_len (s : SWorld) (n : Nat) : (tickTo s n).players.length = s.players.length ∧ (tickTo s n).now = s.now ∧ (tickTo s n).lots = s.lots := by
  induction n with
  | zero => exact ⟨rfl, rfl, rfl⟩
  | succ n ih =>
    have h1 := unitsTo_len (clearN (tickTo s n) n) n (unitsN (clearN (tickTo s n) n) n)
    have h2 := clearN_len (tickTo s n) n
    exact ⟨h1.1.trans (h2.1.trans ih.1), h1.2.1.trans (h2.2.1.trans ih.2.1), h1.2.2.1.trans (h2.2.2.trans ih.2.2)⟩
theorem WFS.clearN {s : SWorld} {M : Int} (h : WFS s M) (n : Nat) : WFS (clearN s n) M := by
  unfold Proofs.YtlafddeoheambaaDoor.clearN
  split
  · exact h
  · rename_i p hp
    have pk := h.each p (List.mem_of_getElem? hp)
    exact h.setPl n ⟨pk.un, pk.each, pk.mo, pk.bi⟩
theorem WFS.unitsTo {s : SWorld} {M : Int} (h : WFS s M) (n j : Nat) : WFS (unitsTo s n j) (M + 90 * j) := by
  induction j with
  | zero => exact h.mono (by simp)
  | succ j ih => exact (ih.does n j).mono (by omega)
theorem WFS.unitsN {s : SWorld} {M : Int} (h : WFS s M) (n : Nat) : unitsN s n ≤ 5 := by
  unfold Proofs.YtlafddeoheambaaDoor.unitsN
  split
  · omega
  · rename_i p hp
    exact (h.each p (List.mem_of_getElem? hp)).un.2
theorem WFS.tickTo {s : SWorld} {M : Int} (h : WFS s M) (n : Nat) : WFS (tickTo s n) (M + 450 * n) := by
  induction n with
  | zero => exact h.mono (by simp)
  | succ n ih =>
    have h1 := ih.clearN n
    have h2 := h1.unitsN n
    exact (h1.unitsTo n _).mono (by omega)

theorem tickS_nil {s : SWorld} (h : s.lots = []) : tickS s = { tickTo s s.players.length with now := s.now + 1, lots := [] } :=
  closeS_nil (s := { tickTo s s.players.length with now := s.now + 1 }) ((tickTo_len s _).2.2.trans h)
end Go.Proofs.YtlafddeoheambaaDoor

/-
  The function Tick of package hazeref where no lot is open: the world behind it.
-/
namespace Go.Proofs.YtlafddeoheambaaDoor
open Go.RowKit

theorem S_clear {Y : YW} {n : Nat} {p : SPlayer} {v v' : PV} (hq : Y.pls[n]? = some (p, v)) : (Y.setQ n ({ p with news := [] }, v')).S = clearN Y.S n := by
  rw [S_setQ]
  unfold clearN
  rw [S_at hq]
theorem unitsN_at {Y : YW} {n : Nat} {p : SPlayer} {v : PV} (hq : Y.pls[n]? = some (p, v)) : unitsN Y.S n = p.units.length := by
  unfold unitsN
  rw [S_at hq]
theorem at_of_lt {Y : YW} {n : Nat} (h : n < Y.pls.length) : ∃ p v, Y.pls[n]? = some (p, v) := ⟨Y.pls[n].1, Y.pls[n].2, by simp [h]⟩

end Go.Proofs.YtlafddeoheambaaDoor

/-
  The words of a text, said plainly.
-/
namespace Go.Proofs.YtlafddeoheambaaDoor
open Go.RowKit

/-- What stands between blanks. -/
def splitB : List UInt8 → List (List UInt8)
  | [] => [[]]
  | c :: r => if c = 32 then [] :: splitB r else match splitB r with
    | [] => [[c]]
    | h :: t => (c :: h) :: t
theorem splitB_ne (l : List UInt8) : splitB l ≠ [] := by
  cases l with
  | nil => simp [splitB]
  | cons c r => simp only [splitB]; split; · simp
                split <;> simp
theorem splitB_blank (l : List UInt8) : splitB (l ++ [32]) = splitB l ++ [[]] := by
  induction l with
  | nil => simp [splitB]
  | cons c r ih =>
    simp only [List.cons_append, splitB, ih]
    split
    · simp
    · have := splitB_ne r
      cases h : splitB r with
      | nil => exact absurd h this
      | cons a t => simp
theorem splitB_other (l : List UInt8) (c : UInt8) (hc : c ≠ 32) (ws : List (List UInt8)) (x : List UInt8) (h : splitB l = ws ++ [x]) : splitB (l ++ [c]) = ws ++ [x ++ [c]] := by
  induction l generalizing ws x with
  | nil =>
    simp only [splitB] at h
    cases ws with
    | nil => simp at h; subst h; simp [splitB, hc]
    | cons a t => simp at h
  | cons d r ih =>
    simp only [List.cons_append, splitB] at h ⊢
    split at h
    · rename_i hd
      rw [if_pos hd]
      cases ws with
      | nil => simp at h; exact absurd h.2 (splitB_ne r)
      | cons a t =>
        simp only [List.cons_append, List.cons.injEq] at h
        rw [ih t x h.2, h.1]
        simp
    · rename_i hd
      rw [if_neg hd]
      have hne := splitB_ne r
      cases hs : splitB r with
      | nil => exact absurd hs hne
      | cons a t =>
        rw [hs] at h
        simp only at h
        cases ws with
        | nil =>
          simp at h
          obtain ⟨h1, h2⟩ := h
          subst h2
          have := ih [] a (by rw [hs]; rfl)
          rw [this]
          simp [← h1]
        | cons b u =>
          simp only [List.cons_append, List.cons.injEq] at h
          obtain ⟨h1, h2⟩ := h
          have := ih (a :: u) x (by rw [hs, h2]; rfl)
          rw [this]
          simp [h1]

def bytesOf (l : List UInt8) : ByteArray := ⟨l.toArray⟩
theorem bytesOf_toList (l : List UInt8) : (bytesOf l).data.toList = l := by simp [bytesOf]
theorem bytesOf_data (s : ByteArray) : bytesOf s.data.toList = s := by
  obtain ⟨⟨l⟩⟩ := s
  rfl
theorem bytes_ext {a b : ByteArray} (h : a.data.toList = b.data.toList) : a = b := by
  obtain ⟨⟨a⟩⟩ := a
  obtain ⟨⟨b⟩⟩ := b
  simp at h
  rw [h]
theorem bytesOf_push (x : List UInt8) (s : ByteArray) (k : Nat) (h : k < s.size) : bytesOf x ++ s.extract k (k + 1) = bytesOf (x ++ [s[k]]) := by
  apply bytes_ext
  rw [bytesOf_toList, ByteArray.data_append, Array.toList_append, Lib.extract_data, bytesOf_toList, drop_at s k h]
  simp
theorem take_snoc (s : ByteArray) (k : Nat) (h : k < s.size) : s.data.toList.take (k + 1) = s.data.toList.take k ++ [s[k]] := by
  rw [List.take_succ_eq_append_getElem (by simpa using h)]; rfl
theorem splitB_len (l : List UInt8) : (splitB l).length ≤ l.length + 1 := by
  induction l with
  | nil => simp [splitB]
  | cons c r ih =>
    simp only [splitB]
    split
    · simp; omega
    · cases h : splitB r with
      | nil => simp
      | cons a t => rw [h] at ih; simp at ih ⊢; omega
theorem splitB_sizes (l : List UInt8) : ∀ x ∈ splitB l, x.length ≤ l.length := by
  induction l with
  | nil => intro x hx; simp [splitB] at hx; simp [hx]
  | cons c r ih =>
    intro x hx
    simp only [splitB] at hx
    split at hx
    · rcases List.mem_cons.1 hx with rfl | hx
      · simp
      · have := ih x hx; simp; omega
    · cases h : splitB r with
      | nil => exact absurd h (splitB_ne r)
      | cons a t =>
        rw [h] at hx ih
        rcases List.mem_cons.1 hx with rfl | hx
        · have := ih a (by simp); simp; omega
        · have := ih x (by simp [hx]); simp; omega

end Go.Proofs.YtlafddeoheambaaDoor

/-
  The function Words of package hazeref: it returns what stands between blanks, in new memory.
-/
namespace Go.Proofs.YtlafddeoheambaaDoor
open Go.RowKit

theorem Tryd.infoString : (Tryd.prog.info? 9).map (fun i => (i.zero, i.size, i.bytes)) = some (some (.string ⟨#[]⟩), 1, 16) := by kernel_rfl
def strs (l : List (List UInt8)) : List Value := l.map (fun b => .string (bytesOf b))

theorem own_any {w : World} {base : Nat} {e : TypeId} {size : Nat} {v : Value} {n : Nat} {xs : List Value} (h : w.ownsRow base e size v n xs) : w.ownsRow 0 e size v n xs := by
  obtain ⟨h1, h2⟩ := h
  refine ⟨h1, ?_⟩
  rcases h2 with h2 | ⟨g, cap, cur, hv, _, r⟩
  · exact .inl h2
  · exact .inr ⟨g, cap, cur, hv, Nat.zero_le _, r⟩
theorem hidOf' {p : Prop} (h : p) : Hid p := h
theorem own_base {w : World} {base : Nat} {e : TypeId} {size g cap n : Nat} {xs : List Value} (h : w.ownsRow base e size (.slice (some ⟨g, 0, none⟩) n cap) n xs) : base ≤ g := by
  rcases h.2 with ⟨h, _⟩ | ⟨g', cap', cur, e1, hb, _⟩
  · cases h
  · injection e1 with e1
    injection e1 with e1
    injection e1 with e1
    subst e1
    exact hb
theorem own_at {w : World} {base : Nat} {e : TypeId} {size g cap n : Nat} {xs : List Value} (h : w.ownsRow 0 e size (.slice (some ⟨g, 0, none⟩) n cap) n xs) (hb : base ≤ g) : w.ownsRow base e size (.slice (some ⟨g, 0, none⟩) n cap) n xs := by
  obtain ⟨h1, h2⟩ := h
  refine ⟨h1, ?_⟩
  rcases h2 with ⟨h, _⟩ | ⟨g', cap', cur, e1, _, r⟩
  · cases h
  · have e2 := e1
    injection e1 with e1
    injection e1 with e1
    injection e1 with e1
    subst e1
    exact .inr ⟨g, cap', cur, e2, hb, r⟩
theorem bytesOf_size (l : List UInt8) : (bytesOf l).size = l.length := by show l.toArray.size = _; simp
theorem own_cell' {w : World} {base : Nat} {e : TypeId} {size g cap n : Nat} {xs : List Value} (h : w.ownsRow base e size (.slice (some ⟨g, 0, none⟩) n cap) n xs) {j : Nat} {u : Value} (hu : xs[j]? = some u) : w.cell? ⟨g, j, none⟩ = some u := own_cell (own_any h) hu
theorem own_frozen' {w : World} {base : Nat} {e : TypeId} {size g cap n : Nat} {xs : List Value} (h : w.ownsRow base e size (.slice (some ⟨g, 0, none⟩) n cap) n xs) (j : Nat) : w.frozen? ⟨g, j, none⟩ = false := own_frozen (own_any h) j
theorem ownsRow_alloc {w : World} {base : Nat} {e : TypeId} {size : Nat} {v : Value} {n : Nat} {xs : List Value} (h : w.ownsRow base e size v n xs) (o : Obj) : (w.alloc o).ownsRow base e size v n xs := by
  obtain ⟨h1, h2⟩ := h
  refine ⟨h1, ?_⟩
  rcases h2 with h2 | ⟨g, cap, cur, hv, hb, hg, r⟩
  · exact .inl h2
  · refine .inr ⟨g, cap, cur, hv, hb, ?_, r⟩
    have hlt : g < w.heap.size := (Array.getElem?_eq_some_iff.1 hg).1
    rw [Below.heap_alloc _ _ _ hlt, hg]

end Go.Proofs.YtlafddeoheambaaDoor

/-
  What an order comes to, said plainly, where no lot is open.
-/
namespace Go.Proofs.YtlafddeoheambaaDoor
open Go.RowKit

theorem ixOf_at {α : Type} (p : α → Bool) (l : List α) (h : ¬ ixOf p l < 0) : ∃ k : Nat, ixOf p l = k ∧ k < l.length := by
  induction l with
  | nil => simp [ixOf] at h
  | cons a l ih =>
    simp only [ixOf] at h ⊢
    split
    · exact ⟨0, rfl, by simp⟩
    · rename_i hp
      rw [if_neg hp] at h
      split
      · rename_i hn
        rw [if_pos hn] at h
        omega
      · rename_i hn
        obtain ⟨k, e, hk⟩ := ih hn
        exact ⟨k + 1, by rw [e]; simp, by simpa using hk⟩

def plainW : List (List UInt8) := [[103, 111], [108, 101, 102, 116], [114, 105, 103, 104, 116], [98, 97, 99, 107], [100, 105, 103], [115, 101, 108, 108]]
def plainB (b : List UInt8) : Bool := amongB (plainW.map bytesOf) (bytesOf b)
def namingB (b : List UInt8) : Bool := b == [98, 117, 105, 108, 100] || b == [99, 97, 108, 108]
def bidW : List UInt8 := [98, 105, 100]

/-- The unit called a is told to b, with c. -/
def tellS (s : SWorld) (n : Nat) (p : SPlayer) (a b c : List UInt8) : Int × SWorld :=
  if unitIx p.units (bytesOf a) < 0 then (3, s)
  else match p.units[(unitIx p.units (bytesOf a)).toNat]? with
    | none => (3, s)
    | some u => (0, s.setPl n { p with units := p.units.set (unitIx p.units (bytesOf a)).toNat { u with what := bytesOf b, arg := bytesOf c } })
/-- A bid for a lot. -/
def bidS (s : SWorld) (n : Nat) (p : SPlayer) (nm : ByteArray) (k : Int) : Int × SWorld :=
  if openB s.lots nm then (if p.money < k + stakedI p.bids nm then (5, s) else (0, s.setPl n { p with bids := setB p.bids nm k })) else (3, s)
theorem bidS_nil {s : SWorld} (h : s.lots = []) (n : Nat) (p : SPlayer) (nm : ByteArray) (k : Int) : bidS s n p nm k = (3, s) := by simp [bidS, h, openB]
/-- What Order answers, and the world behind it: the text's words. -/
def wordsS (s : SWorld) (n : Nat) (p : SPlayer) (ws : List (List UInt8)) : Int × SWorld := match ws with
  | [a, b] => if nameB a && plainB b then tellS s n p a b [] else (2, s)
  | [a, b, c] =>
    if a == bidW && nameB b && decide (0 ≤ numberI c) then bidS s n p (bytesOf b) (numberI c)
    else if nameB a && nameB c && namingB b then tellS s n p a b c else (2, s)
  | _ => (2, s)
def orderS (s : SWorld) (n : Int) (text : List UInt8) : Int × SWorld :=
  if 0 ≤ n ∧ n < s.players.length then match s.players[n.toNat]? with
    | none => (1, s)
    | some p => wordsS s n.toNat p (splitB text)
  else (1, s)

end Go.Proofs.YtlafddeoheambaaDoor

/-
  The functions Money and Order of package hazeref, where no lot is open.
-/
namespace Go.Proofs.YtlafddeoheambaaDoor
open Go.RowKit
attribute [local go_sem] Go.wp_at_zero Go.wp_at_succ

theorem ret_t2 {a a' b b' : Int} (h1 : a = a') (h2 : b = b') : Ending.returned (.tuple #[.int .i64 a, .int .i64 b]) = .returned (.tuple #[.int .i64 a', .int .i64 b']) := by rw [h1, h2]
def moneyS (s : SWorld) (n : Int) : Int × Int := if 0 ≤ n ∧ n < s.players.length then match s.players[n.toNat]? with
    | none => (0, 1)
    | some p => (p.money, 0)
  else (0, 1)

theorem inB_pl (n : Int) (m : Nat) : inB n 0 ((m : Int) - 1) = decide (0 ≤ n ∧ n < m) := by
  simp only [inB]
  by_cases h : 0 ≤ n <;> by_cases h' : n < m <;> simp [h, h'] <;> omega

end Go.Proofs.YtlafddeoheambaaDoor

/-
  The functions of package haze that only look: has, Money, find, between.
-/
namespace Go.Proofs.YtlafddeoheambaaDoor
open Go.RowKit

def hasB (n : Int) (m : Nat) : Bool := decide (0 ≤ n) && decide (n < m)

set_option maxHeartbeats 1000000 in
theorem has_any (b : Nat) (n : Int) (m cap : Nat) (ao : Option Addr) (w : World) (hc : w.cell? ⟨b, 6, none⟩ = some (.slice ao m cap)) :
    Calls Tryd.prog 19 #[.pointer (some ⟨b, 0, none⟩), .int .i64 n] w fun e w' => e = .returned (.bool (hasB n m)) ∧ w' = w := by
  unfold hasB
  by_cases h : 0 ≤ n
  all_goals
    go_enter Tryd.func19, Tryd.ntmps19
    go_wp2
    go_ret
    exact ⟨ret_bool (by first | (simp [h]; done) | (simp; omega)), rfl⟩

set_option maxHeartbeats 1000000 in
theorem between_any (n lo hi : Int) (w : World) :
    Calls Tryd.prog 33 #[.int .i64 n, .int .i64 lo, .int .i64 hi] w fun e w' => e = .returned (.bool (inB n lo hi)) ∧ w' = w := by
  unfold inB
  by_cases h : lo ≤ n
  all_goals
    go_enter Tryd.func33, Tryd.ntmps33
    go_wp2
    go_ret
    exact ⟨ret_bool (by first | (simp [h]; done) | (simp; omega)), rfl⟩

theorem hasB_pl (n : Int) (m : Nat) : hasB n m = decide (0 ≤ n ∧ n < m) := by
  unfold hasB
  by_cases h : 0 ≤ n <;> by_cases h' : n < m <;> simp [h, h']
theorem xat_of_lt {X : XW} {n : Nat} (h : n < X.pls.length) : ∃ p v, X.pls[n]? = some (p, v) := ⟨X.pls[n].1, X.pls[n].2, by simp [h]⟩

set_option maxRecDepth 100000 in
set_option maxHeartbeats 1000000 in
theorem xmoney_any (w : World) (X : XW) (M : Int) (n : Int) (hr : RepX w X) (hf : WFS X.S M) :
    Calls Tryd.prog 30 #[.pointer (some ⟨X.b, 0, none⟩), .int .i64 n] w fun e w' => e = .returned (.tuple #[.int .i64 (moneyS X.S n).1, .int .i64 (moneyS X.S n).2]) ∧ w' = w := by
  have hpl : X.S.players.length = X.pls.length := by simp [XW.S]
  have h4 := hf.pl
  rw [hpl] at h4
  obtain ⟨pb, pcap, hvp, hpc, hpm⟩ := hr.plForm h4.1
  unfold maxLen at hpm
  have c5 : w.cell? ⟨X.b, 6, none⟩ = some (.slice (some ⟨pb, 0, none⟩) X.pls.length pcap) := by rw [← hvp]; exact hr.cellTop rfl
  have HH := hidOf (has_any X.b n X.pls.length pcap _ w c5)
  by_cases hn : 0 ≤ n ∧ n < X.pls.length
  · obtain ⟨hn0, hn1⟩ := hn
    obtain ⟨k, rfl⟩ := Int.eq_ofNat_of_zero_le hn0
    obtain ⟨p, v, hq⟩ := xat_of_lt (X := X) (n := k) (by omega)
    have m0 := (hr.plCell hq hvp).1
    have hi : hasB (k : Int) X.pls.length = true := by rw [hasB_pl]; simp; omega
    have HM : Hid (moneyS X.S k = (p.money, 0)) := by
      unfold Hid moneyS
      rw [if_pos (by rw [hpl]; omega), Int.toNat_natCast, XS_at hq]
    rw [hi] at HH
    clear hq hvp hpl
    go_enter Tryd.func30, Tryd.ntmps30
    go_wp2_with (go_at_call 19; refine HH.out.mono ?_; rintro e w' ⟨rfl, rfl⟩)
    go_ret2
    exact ⟨ret_t2 (by rw [HM.out]) (by rw [HM.out]), rfl⟩
  · have hi : hasB n X.pls.length = false := by rw [hasB_pl]; exact decide_eq_false hn
    have HM : Hid (moneyS X.S n = (0, 1)) := by
      unfold Hid moneyS
      rw [if_neg (by rw [hpl]; exact hn)]
    rw [hi] at HH
    clear hn hpl
    go_enter Tryd.func30, Tryd.ntmps30
    go_wp2_with (go_at_call 19; refine HH.out.mono ?_; rintro e w' ⟨rfl, rfl⟩)
    go_ret2
    exact ⟨ret_t2 (by rw [HM.out]) (by rw [HM.out]), rfl⟩

/-- The unit of that name. -/
def findA (us : List SUnit) (xs : List XU) (nm : ByteArray) : Option Addr := if unitIx us nm < 0 then none else (xs[(unitIx us nm).toNat]?).map (fun x => ⟨x.g, 0, none⟩)

theorem ret_ptr {a b : Option Addr} (h : a = b) : Ending.returned (.pointer a) = .returned (.pointer b) := by rw [h]
set_option maxHeartbeats 1000000 in
theorem find_any (pb po : Nat) (q : SPlayer × XV) (nm : ByteArray) (w : World) (hc : w.cell? ⟨pb, po + 1, none⟩ = some q.2.v) (hq : RepQ w q) :
    Calls Tryd.prog 22 #[.pointer (some ⟨pb, po, none⟩), .string nm] w fun e w' => e = .returned (.pointer (findA q.1.units q.2.us nm)) ∧ w' = w := by
  obtain ⟨p, v⟩ := q
  obtain ⟨hrow, hlen, hu⟩ := hq
  simp only at hc hrow hlen hu
  obtain ⟨ao, g, cap, hv, hcap, hmax, rd⟩ := own_rd hrow
  rw [hv] at hc
  unfold maxLen at hmax
  have hun : Hid (∀ k (hk : k < v.us.length), w.cell? ⟨(v.us[k]).g, 0, none⟩ = some (.string (p.units[k]'(by omega)).name)) := fun k hk => (hu k _ _ (List.getElem?_eq_getElem (by omega)) (List.getElem?_eq_getElem hk)).cell rfl
  clear hrow hu hv
  go_enter Tryd.func22, Tryd.ntmps22
  go_wp2
  go_loop [6, 12] (fun _ i => ∃ k : Nat, k ≤ v.us.length ∧ i = .int .i64 k ∧ Hid (noneTo (fun u => eqS u.name nm) p.units k)) (fun _ i => v.us.length + 1 - (intOf i).toNat)
  case atStart => exact ⟨0, Nat.zero_le _, rfl, noneTo_zero _ _⟩
  case round =>
    obtain ⟨k, hk, rfl, hn⟩ := hrel
    by_cases hlt : k < v.us.length
    · have hlt' : k < p.units.length := by omega
      obtain rfl := rd.base (by omega)
      have c0 : w.cell? ⟨g, k, none⟩ = some (.pointer (some ⟨v.us[k].g, 0, none⟩)) := rd.cell k _ (by simp [hlt, ptrV])
      have c1 := hun.out k hlt
      cases he : eqS p.units[k].name nm
      · have he' : (p.units[k].name.toList == nm.toList) = false := he
        have hn' : Hid _ := noneTo_succ hn.out hlt' he
        clear he hn
        go_wp2
        exact ⟨⟨k + 1, by omega, by go_num, hn'⟩, by simp [intOf]; omega⟩
      · have he' : (p.units[k].name.toList == nm.toList) = true := he
        have G : Hid (_ = _) := ixOf_hit (fun u : SUnit => eqS u.name nm) p.units k hlt' hn.out he
        have G2 : Hid (findA p.units v.us nm = some ⟨v.us[k].g, 0, none⟩) := by
          unfold Hid findA unitIx
          rw [G.out, if_neg (by omega)]
          simp [hlt]
        clear he hn G
        go_wp2
        go_ret
        exact ⟨ret_ptr G2.out.symm, rfl⟩
    · have G : Hid (_ = _) := ixOf_miss (fun u : SUnit => eqS u.name nm) p.units (noneTo_all hn.out (by omega))
      have G2 : Hid (findA p.units v.us nm = none) := by
        unfold Hid findA unitIx
        rw [G.out, if_pos (by omega)]
      clear G
      go_wp2
      go_ret
      exact ⟨ret_ptr G2.out.symm, rfl⟩
end Go.Proofs.YtlafddeoheambaaDoor
