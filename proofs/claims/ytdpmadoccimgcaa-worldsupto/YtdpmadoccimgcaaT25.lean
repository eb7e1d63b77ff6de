/-
  What New lays: the program's world at its beginning.
-/
import Derived.Test.YtdpmadoccimgcaaT24
import Derived.Test.YtdpmadoccimgcaaT19
set_option linter.unusedVariables false
namespace Go.Proofs.Ytdpmadoccimgcaa
open Go.RowKit

theorem apartGo_facts (W H : Int) : ∀ (l pre : List SSpot), apartGo W H pre l = true → (∀ s ∈ l, okSpot W H s = true) ∧ oreD l ∧ ∀ s ∈ l, ∀ a ∈ pre, ¬ (a.x = s.x ∧ a.y = s.y) := by
  intro l
  induction l with
  | nil => intro pre _; exact ⟨by simp, List.Pairwise.nil, by simp⟩
  | cons s l ih =>
    intro pre h
    simp only [apartGo, Bool.and_eq_true, Bool.not_eq_true'] at h
    obtain ⟨⟨h1, h2⟩, h3⟩ := h
    obtain ⟨a1, a2, a3⟩ := ih (pre ++ [s]) h3
    have hp : ∀ a ∈ pre, ¬ (a.x = s.x ∧ a.y = s.y) := by
      intro a ha e
      have := List.any_eq_false.1 h2 a ha
      simp [sameXY, e.1, e.2] at this
    refine ⟨?_, List.pairwise_cons.2 ⟨fun t ht e => a3 t ht s (by simp) e, a2⟩, ?_⟩
    · intro t ht
      rcases List.mem_cons.1 ht with rfl | ht
      · exact h1
      · exact a1 t ht
    · intro t ht
      rcases List.mem_cons.1 ht with rfl | ht
      · exact hp
      · exact fun a ha => a3 t ht a (by simp [ha])
theorem apart_facts {W H : Int} {l : List SSpot} (h : apartB l W H = true) (hW : W ≤ 10) (hH : H ≤ 10) : (∀ s ∈ l, (0 ≤ s.x ∧ s.x ≤ 9) ∧ (0 ≤ s.y ∧ s.y ≤ 9)) ∧ oreD l := by
  obtain ⟨h1, h2, _⟩ := apartGo_facts W H l [] h
  refine ⟨fun s hs => ?_, h2⟩
  have := h1 s hs
  simp [okSpot, inB] at this
  omega

def zeroP : SPlayer := { money := 0, units := [], bids := [], news := [] }
def zeroV : XV := ⟨.slice none 0 0, []⟩
def zeroX (b mo ms pb n : Nat) (W H S : Int) : XW :=
  { b := b, width := W, height := H, sight := S, now := 0, ore := [], lots := [], mo := mo, lo := [], co := 0, ms := ms, ls := [], cs := 0, pls := List.replicate n (zeroP, zeroV), vPl := .slice (some ⟨pb, 0, none⟩) n n,
    R := fun r => if r = b then .top else if r = mo then .ore else if r = ms then .st else .pls }
theorem madeRow (n : Nat) (hn : 2 ≤ n ∧ n ≤ 4) : (madeCells #[.int .i64 0, .slice none 0 0] (n * 2)).toList = (List.replicate n (zeroP, zeroV)).flatMap xplCells := by
  obtain ⟨h1, h2⟩ := hn
  rcases (show n = 2 ∨ n = 3 ∨ n = 4 by omega) with rfl | rfl | rfl
  all_goals simp [madeCells, zeroP, zeroV, xplCells, List.replicate, List.range, List.range.loop]
theorem zeroX_rep {w : World} {b mo ms pb n : Nat} {W H S : Int} (hn : 2 ≤ n ∧ n ≤ 4) (h1 : w.heap[b]? = some (.cells #[.int .i64 0, .int .i64 W, .int .i64 H, .map (some mo), .map (some ms), .slice (some ⟨pb, 0, none⟩) n n] 73 (0, 0)))
    (h2 : w.heap[mo]? = some (.map #[] 0)) (h3 : w.heap[ms]? = some (.map #[] 0)) (h4 : w.heap[pb]? = some (.cells (madeCells #[.int .i64 0, .slice none 0 0] (n * 2)) 79 (0, 0))) (hne : b ≠ mo ∧ b ≠ ms ∧ b ≠ pb ∧ mo ≠ ms ∧ mo ≠ pb ∧ ms ≠ pb) :
    RepX w (zeroX b mo ms pb n W H S) := by
  obtain ⟨n1, n2, n3, n4, n5, n6⟩ := hne
  have hrow := madeRow n hn
  have hq : ∀ (i : Nat) q, (zeroX b mo ms pb n W H S).pls[i]? = some q → q = (zeroP, zeroV) := fun i q hq => by
    have := List.mem_of_getElem? hq
    exact List.eq_of_mem_replicate this
  refine ⟨h1, ⟨⟨h2, by simp [zeroX]⟩, by simp [zeroX, keysD]⟩, ⟨⟨h3, by simp [zeroX]⟩, by simp [zeroX, keysD]⟩, ?_, ?_, ⟨?_, ?_, ?_, ?_, ?_, ?_⟩⟩
  · show w.ownsRow 0 _ 2 (.slice (some ⟨pb, 0, none⟩) n n) (List.replicate n (zeroP, zeroV)).length ((List.replicate n (zeroP, zeroV)).flatMap xplCells)
    rw [List.length_replicate, ← hrow]
    have hs : (madeCells #[.int .i64 0, .slice none 0 0] (n * 2)).size = n * 2 := size_madeCells _ _
    refine ⟨by rw [Array.length_toList, hs], .inr ⟨pb, n, _, rfl, Nat.zero_le _, h4, Nat.le_refl _, by unfold maxLen; omega, hs, ?_⟩⟩
    rw [List.take_of_length_le (by rw [Array.length_toList, hs]; exact Nat.le_refl _)]
  · intro i q hi
    rw [hq i q hi]
    refine ⟨⟨rfl, .inl ⟨rfl, rfl⟩⟩, rfl, fun k u x hu _ => by simp [zeroP] at hu⟩
  · simp [zeroX]
  · simp [zeroX, Ne.symm n1]
  · simp [zeroX, Ne.symm n2, Ne.symm n4]
  · intro r hr
    have h' : r ∈ blk (.slice (some ⟨pb, 0, none⟩) n n) := hr
    have : r = pb := by simpa [blk_slice] using h'
    subst this
    simp [zeroX, Ne.symm n3, Ne.symm n5, Ne.symm n6]
  · intro i q hi r hr
    rw [hq i q hi] at hr
    simp [zeroV, blk, Value.ownBlock] at hr
  · intro i q k x hi hx
    rw [hq i q hi] at hx
    simp [zeroV] at hx
theorem zeroX_foot (b mo ms pb n : Nat) (W H S : Int) : ∀ r ∈ (zeroX b mo ms pb n W H S).foot, r = b ∨ r = mo ∨ r = ms ∨ r = pb := by
  intro r hr
  simp only [XW.foot, zeroX, List.mem_cons, List.mem_append, List.mem_flatMap, blk_slice] at hr
  rcases hr with h | h | h | h | ⟨q, hq, h⟩
  · exact .inl h
  · exact .inr (.inl h)
  · exact .inr (.inr (.inl h))
  · exact .inr (.inr (.inr (by simpa using h)))
  · have := List.eq_of_mem_replicate hq
    rw [this] at h
    simp [xvFoot, zeroV, blk, Value.ownBlock] at h

def eastF : Nat := 4607182418800017408
theorem head_east : HeadC 0 eastF 0 := by
  unfold HeadC
  simp [eastF, oneF]
theorem firstCells (s : SSpot) (g : Nat) : xuCells (firstU s) ⟨g, eastF, 0⟩ = #[.string ⟨#[97]⟩, .complex .f64 (flI s.x) (flI s.y), .complex .f64 4607182418800017408 0, .int .i64 0, .int .i64 0, .string ⟨#[]⟩, .string ⟨#[]⟩, .int .i64 0] := by
  simp [xuCells, firstU, firstU.bytesA, emptyB, Lib.toList_data, kindW, kindP, kindN, eastF]
theorem firstRep (w : World) (s : SSpot) : RepU (w.alloc (.cells #[.string ⟨#[97]⟩, .complex .f64 (flI s.x) (flI s.y), .complex .f64 4607182418800017408 0, .int .i64 0, .int .i64 0, .string ⟨#[]⟩, .string ⟨#[]⟩, .int .i64 0] 87)) (firstU s) ⟨w.heap.size, eastF, 0⟩ := by
  refine ⟨?_, head_east, by simp [firstU, emptyB, whatW, Lib.toList_data]⟩
  rw [firstCells]
  exact Go.heap_alloc_new w _
end Go.Proofs.Ytdpmadoccimgcaa
