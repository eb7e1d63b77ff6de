/-
  The functions tellOpen and tellClosed of package haze.
-/
import Derived.Test.YtlafddeoheambaaDoorT14
import Derived.Test.YtlafddeoheambaaDoorT03
import Derived.Test.YtlafddeoheambaaDoorT08
import Derived.Test.YtlafddeoheambaaDoorT13
import Derived.Test.YtlafddeoheambaaDoorT02
import Derived.Lib.ItoaMem
import Derived.Deep.QuietTactic
import Derived.BigQuiet
import Derived.Deep.AppendLies
import Derived.Deep.DeepCutAuto
set_option linter.unusedVariables false
namespace Go.Proofs.YtlafddeoheambaaDoor
open Go.RowKit

/-- What holds of the lots that closed. -/
structure SaleOK (l : List XSale) : Prop where
  len : l.length ≤ 4
  each : ∀ s ∈ l, -1 ≤ s.who ∧ s.who ≤ 4 ∧ 0 ≤ s.price ∧ s.price ≤ 100000 ∧ s.name.size ≤ 2000000
def saleL (n : Nat) (s : XSale) : List UInt8 := if s.who = n then lineL [wWon, s.name, wFor, itoaB s.price] else if s.who = -1 then lineL [wPassed, s.name] else lineL [wSold, s.name]
theorem saleL_len (n : Nat) (s : XSale) (h : 0 ≤ s.price ∧ s.price ≤ 100000 ∧ s.name.size ≤ 2000000) : (saleL n s).length ≤ 20000000 := by
  unfold saleL
  split
  · have := line_len [wWon, s.name, wFor, itoaB s.price] 2000000 (fun x hx => by
      simp at hx
      rcases hx with rfl | rfl | rfl | rfl
      · decide
      · exact h.2.2
      · decide
      · have := itoaB_size s.price (by omega); omega)
    simp at this
    omega
  · split
    · have := line_len [wPassed, s.name] 2000000 (fun x hx => by
        simp at hx
        rcases hx with rfl | rfl
        · decide
        · exact h.2.2)
      simp at this
      omega
    · have := line_len [wSold, s.name] 2000000 (fun x hx => by
        simp at hx
        rcases hx with rfl | rfl
        · decide
        · exact h.2.2)
      simp at this
      omega
/-- The Builder, and a block of one's own besides. -/
structure VB (w0 : World) (b : Nat) (l : List UInt8) (g : Nat) (o : Obj) (w : World) : Prop where
  v : VW w0 b l w
  o : w.heap[g]? = some o
theorem VB.at {w0 w w' : World} {b g : Nat} {l : List UInt8} {o : Obj} (h : VB w0 b l g o w) (hb : Below w.heap.size w w') : VB w0 b l g o w' := ⟨h.v.at hb, by rw [hb.block _ (lt_of_some h.o)]; exact h.o⟩
theorem VW.lt {w0 w : World} {b : Nat} {l : List UInt8} (h : VW w0 b l w) : b < w.heap.size := by
  rcases h.bd with ⟨_, v, hb, _⟩ | ⟨_, v, hb, _⟩ <;> exact lt_of_some hb
theorem tell_new2 (w0 w w1 : World) (b : Nat) (l : List UInt8) (xs : List ByteArray) (cs : Array Value) (n : Nat) (h : VW w0 b l w) (hb : Below w.heap.size w w1) (hcs : cs = (xs.map (fun x => Value.string x)).toArray) (hn : n = xs.length) (hx : (lineL xs).length ≤ 1000000000) (hl : l.length ≤ 100000000000) (hn' : xs.length ≤ 100) :
    Calls Tryd.prog 71 #[.pointer (some ⟨b, 0, none⟩), .slice (some ⟨w1.heap.size, 0, none⟩) n n] (w1.alloc (.cells cs 9)) fun e w' => e = .returned (.tuple #[]) ∧ VW w0 b (l ++ lineL xs) w' := tell_new w0 w1 b l xs cs n (h.at hb) hcs hn hx hl hn'

set_option maxRecDepth 100000 in
set_option maxHeartbeats 8000000 in
theorem tellClosed_any (w0 w : World) (X : XW) (n : Nat) (b : Nat) (l : List UInt8) (hV : VW w0 b l w) (hr : RepX w0 X) (ht : Tab w0) (hs : SaleOK X.sales) (hn4 : n ≤ 4) (hl : l.length ≤ 10000000000) :
    Calls Tryd.prog 56 #[.pointer (some ⟨X.b, 0, none⟩), .pointer (some ⟨b, 0, none⟩), .int .i64 n] w fun e w' => e = .returned (.tuple #[]) ∧ VW w0 b (l ++ X.sales.flatMap (saleL n)) w' := by
  obtain ⟨ao, g, cap, hv, hcap, hmax, rd⟩ := own_rd hr.lot.2
  have r0 := hr.below hV.bl
  have c8 : w.cell? ⟨X.b, 8, none⟩ = some (.slice ao X.sales.length cap) := by rw [← hv]; exact r0.cellTop rfl
  unfold maxLen at hmax
  have hgl : 0 < X.sales.length → g < w0.heap.size := fun h => by
    have e := rd.base h
    exact own_lt hr.lot.2 g (by rw [hv, e]; simp [blk_slice])
  have HRd := hidOf rd
  have HG := hidOf hgl
  have HSl := hidOf hs
  have HT := hidOf ht
  have V0 := hidOf hV
  have hsl := hs.len
  clear hV hr ht hs rd hgl hv r0
  go_enter Tryd.func56, Tryd.ntmps56
  go_wp2_with fail
  go_loopw [7, 13] (fun _ i w' => ∃ k : Nat, k ≤ X.sales.length ∧ i = .int .i64 k ∧ Hid (VW w0 b (l ++ (X.sales.take k).flatMap (saleL n)) w')) (fun _ i _ => X.sales.length + 1 - (intOf i).toNat)
  case atStart => exact ⟨0, Nat.zero_le _, rfl, by simpa using V0⟩
  case round =>
    clear c8 V0
    obtain ⟨k, hk, rfl, Vk⟩ := hrel
    by_cases hlt : k < X.sales.length
    · obtain rfl := HRd.out.base (by omega)
      have hg0 := HG.out (by omega)
      have f := fun j (hj : j < 3) => flat_at xsaleCells 3 (fun _ => rfl) X.sales k j hlt hj
      have d0 : wr.cell? ⟨g, k * 3, none⟩ = some (.string X.sales[k].name) := (Vk.out.bl.cell (p := ⟨g, k * 3, none⟩) hg0).trans (HRd.out.cell _ _ (f 0 (by omega)))
      have d1 : wr.cell? ⟨g, k * 3 + 1, none⟩ = some (.int .i64 X.sales[k].who) := (Vk.out.bl.cell (p := ⟨g, k * 3 + 1, none⟩) hg0).trans (HRd.out.cell _ _ (f 1 (by omega)))
      have d2 : wr.cell? ⟨g, k * 3 + 2, none⟩ = some (.int .i64 X.sales[k].price) := (Vk.out.bl.cell (p := ⟨g, k * 3 + 2, none⟩) hg0).trans (HRd.out.cell _ _ (f 2 (by omega)))
      have hse := HSl.out.each X.sales[k] (List.getElem_mem hlt)
      have hfl := flat_take (saleL n) X.sales k hlt
      have hfb := flat_len (saleL n) (X.sales.take k) 20000000 (fun s hs => by
        have := HSl.out.each s (List.mem_of_mem_take hs)
        exact saleL_len n s (by omega))
      have htk : (X.sales.take k).length ≤ 4 := by rw [List.length_take]; omega
      have hlk : (l ++ (X.sales.take k).flatMap (saleL n)).length ≤ 20000000000 := by rw [List.length_append]; omega
      obtain ⟨s, hse'⟩ : ∃ s, s = X.sales[k] := ⟨_, rfl⟩
      rw [← hse'] at d0 d1 d2 hse hfl
      obtain ⟨s1, s2, s3, s4, s5⟩ := hse
      have hsL := saleL_len n s ⟨s3, s4, s5⟩
      obtain ⟨lk, hlke⟩ : ∃ lk, lk = l ++ (X.sales.take k).flatMap (saleL n) := ⟨_, rfl⟩
      have HF : Hid (l ++ (X.sales.take (k + 1)).flatMap (saleL n) = lk ++ saleL n s) := by unfold Hid; rw [hfl, hlke, List.append_assoc]
      rw [← hlke] at Vk hlk
      have hb1 := alloc_at wr (.cells #[.string s.name, .int .i64 s.who, .int .i64 s.price] 106)
      have V1 := hidOf (Vk.out.at hb1)
      have k1 := Go.heap_alloc_new wr (.cells #[.string s.name, .int .i64 s.who, .int .i64 s.price] 106)
      have x0 : (wr.alloc (.cells #[.string s.name, .int .i64 s.who, .int .i64 s.price] 106)).cell? ⟨wr.heap.size, 0, none⟩ = some (.string s.name) := by rw [cell_of_row _ _ _ _ _ _ k1]; rfl
      have x1 : (wr.alloc (.cells #[.string s.name, .int .i64 s.who, .int .i64 s.price] 106)).cell? ⟨wr.heap.size, 1, none⟩ = some (.int .i64 s.who) := by rw [cell_of_row _ _ _ _ _ _ k1]; rfl
      have x2 : (wr.alloc (.cells #[.string s.name, .int .i64 s.who, .int .i64 s.price] 106)).cell? ⟨wr.heap.size, 2, none⟩ = some (.int .i64 s.price) := by rw [cell_of_row _ _ _ _ _ _ k1]; rfl
      have HBn : Hid (wr.heap.size ≠ b) := by unfold Hid; have := Vk.out.lt; omega
      clear hfl hfb hse' hlke Vk f hb1 htk
      by_cases hw1 : s.who = (n : Int)
      · have hw1' : (s.who == (n : Int)) = true := by simp [hw1]
        have HL : Hid (saleL n s = lineL [wWon, s.name, wFor, itoaB s.price]) := by unfold Hid saleL; rw [if_pos hw1]
        have HLn : (lineL [wWon, s.name, wFor, itoaB s.price]).length ≤ 20000000 := by rw [← HL.out]; exact hsL
        clear hw1 hsL
        go_upto_region 6 with fail
        obtain ⟨w1, hw1⟩ : ∃ w1, w1 = wr.alloc (.cells #[.string s.name, .int .i64 s.who, .int .i64 s.price] 106) := ⟨_, rfl⟩
        rw [← hw1] at V1 x0 x1 x2 k1 ⊢
        clear hw1
        have HS : Hid (∀ wx : World, wx.heap[wr.heap.size]? = some (.cells #[.string s.name, .int .i64 s.who, .int .i64 s.price] 106 (0, 0)) → (wx.cell? ⟨wr.heap.size, 0, none⟩ = some (.string s.name) ∧ wx.cell? ⟨wr.heap.size, 2, none⟩ = some (.int .i64 s.price))) := fun wx h => ⟨by rw [cell_of_row _ _ _ _ _ _ h]; rfl, by rw [cell_of_row _ _ _ _ _ _ h]; rfl⟩
        have HI : Hid (∀ (wx : World), Hid (VB w0 b lk wr.heap.size (.cells #[.string s.name, .int .i64 s.who, .int .i64 s.price] 106 (0, 0)) wx) → Calls Tryd.prog 11 #[.int .i64 s.price] wx fun e w' => e = .returned (.string (itoaB s.price)) ∧ Hid (VB w0 b lk wr.heap.size (.cells #[.string s.name, .int .i64 s.who, .int .i64 s.price] 106 (0, 0)) w')) := fun wx h => by
          refine (itoa_any s.price (by omega) wx (h.out.v.tab HT.out)).mono ?_
          rintro e w' ⟨rfl, hb⟩
          exact ⟨rfl, h.out.at hb⟩
        have HTe : Hid (∀ (wx : World), Hid (VB w0 b lk wr.heap.size (.cells #[.string s.name, .int .i64 s.who, .int .i64 s.price] 106 (0, 0)) wx) → Calls Tryd.prog 71 #[.pointer (some ⟨b, 0, none⟩), .slice (some ⟨wx.heap.size, 0, none⟩) 4 4] (wx.alloc (.cells #[.string ⟨#[119, 111, 110]⟩, .string s.name, .string ⟨#[102, 111, 114]⟩, .string (itoaB s.price)] 9)) fun e w' => e = .returned (.tuple #[]) ∧ Hid (VB w0 b (lk ++ lineL [wWon, s.name, wFor, itoaB s.price]) wr.heap.size (.cells #[.string s.name, .int .i64 s.who, .int .i64 s.price] 106 (0, 0)) w')) := fun wx h => by
          refine (tell_newK w0 wx b lk [wWon, s.name, wFor, itoaB s.price] _ 4 h.out.v rfl rfl (by omega) (by omega) (by simp)).mono ?_
          rintro e w' ⟨rfl, hv, hk⟩
          exact ⟨rfl, hv, hk _ _ h.out.o (by simpa using HBn.out) (by intro c fz he; injection he with _ he _; exact absurd he (by decide))⟩
        have B0 : Hid (VB w0 b lk wr.heap.size (.cells #[.string s.name, .int .i64 s.who, .int .i64 s.price] 106 (0, 0)) w1.drew) := (VB.mk V1.out k1).at (Below.refl _ w1).drew
        have HAl : Hid (∀ (wx : World) (o : Obj), Hid (VB w0 b lk wr.heap.size (.cells #[.string s.name, .int .i64 s.who, .int .i64 s.price] 106 (0, 0)) wx) → Hid (VB w0 b lk wr.heap.size (.cells #[.string s.name, .int .i64 s.who, .int .i64 s.price] 106 (0, 0)) (wx.alloc o))) := fun wx o h => h.out.at (alloc_at wx o)
        clear hw1' d0 d1 d2 x1
        go_region_held3 (fun w' => w'.cell? ⟨wr.heap.size, 0, none⟩ = some (.string s.name) ∧ w'.cell? ⟨wr.heap.size, 2, none⟩ = some (.int .i64 s.price)) (first | assumption | exact ⟨x0, x2⟩ | exact HS.out _ (HAl.out _ _ (by assumption)).out.o) (first | (go_at_call 11; refine (HI.out _ (by assumption)).mono ?_; rintro e w2 ⟨rfl, B2⟩; have S2 := HS.out _ B2.out.o) | (go_at_call 71; refine (HTe.out _ (by assumption)).mono ?_; rintro e w3 ⟨rfl, V3h⟩; have S3 := HS.out _ V3h.out.o))
        all_goals
          go_wp2
          refine ⟨⟨k + 1, by omega, by go_num, ?_⟩, by simp [intOf]; omega⟩
          unfold Hid
          rw [HF.out, HL.out]
          exact V3h.out.v
      · have hw1' : (s.who == (n : Int)) = false := beq_eq_false_iff_ne.2 hw1
        by_cases hw2 : s.who = -1
        · have hw2' : (s.who == (-1 : Int)) = true := by simp [hw2]
          have HL : Hid (saleL n s = lineL [wPassed, s.name]) := by unfold Hid saleL; rw [if_neg hw1, if_pos hw2]
          have HLn : (lineL [wPassed, s.name]).length ≤ 20000000 := by rw [← HL.out]; exact hsL
          have HTe : Hid (∀ (wx : World), Hid (VW w0 b lk wx) → Calls Tryd.prog 71 #[.pointer (some ⟨b, 0, none⟩), .slice (some ⟨wx.heap.size, 0, none⟩) 2 2] (wx.alloc (.cells #[.string ⟨#[112, 97, 115, 115, 101, 100]⟩, .string s.name] 9)) fun e w' => e = .returned (.tuple #[]) ∧ VW w0 b (lk ++ lineL [wPassed, s.name]) w') := fun wx h =>
            tell_new w0 wx b lk [wPassed, s.name] _ 2 h.out rfl rfl (by omega) (by omega) (by simp)
          clear hw1 hw2 hsL
          go_upto_region 8 with fail
          obtain ⟨w1, hw1⟩ : ∃ w1, w1 = wr.alloc (.cells #[.string s.name, .int .i64 s.who, .int .i64 s.price] 106) := ⟨_, rfl⟩
          rw [← hw1] at V1 x0 x1 x2 k1 ⊢
          clear hw1
          go_wp2_with (go_at_call 71; refine (HTe.out _ V1).mono ?_; rintro e w3 ⟨rfl, V3⟩)
          refine ⟨⟨k + 1, by omega, by go_num, ?_⟩, by simp [intOf]; omega⟩
          unfold Hid
          rw [HF.out, HL.out]
          exact V3
        · have hw2' : (s.who == (-1 : Int)) = false := beq_eq_false_iff_ne.2 hw2
          have HL : Hid (saleL n s = lineL [wSold, s.name]) := by unfold Hid saleL; rw [if_neg hw1, if_neg hw2]
          have HLn : (lineL [wSold, s.name]).length ≤ 20000000 := by rw [← HL.out]; exact hsL
          have HTe : Hid (∀ (wx : World), Hid (VW w0 b lk wx) → Calls Tryd.prog 71 #[.pointer (some ⟨b, 0, none⟩), .slice (some ⟨wx.heap.size, 0, none⟩) 2 2] (wx.alloc (.cells #[.string ⟨#[115, 111, 108, 100]⟩, .string s.name] 9)) fun e w' => e = .returned (.tuple #[]) ∧ VW w0 b (lk ++ lineL [wSold, s.name]) w') := fun wx h =>
            tell_new w0 wx b lk [wSold, s.name] _ 2 h.out rfl rfl (by omega) (by omega) (by simp)
          clear hw1 hw2 hsL
          go_upto_region 4 with fail
          obtain ⟨w1, hw1⟩ : ∃ w1, w1 = wr.alloc (.cells #[.string s.name, .int .i64 s.who, .int .i64 s.price] 106) := ⟨_, rfl⟩
          rw [← hw1] at V1 x0 x1 x2 k1 ⊢
          clear hw1
          go_wp2_with (go_at_call 71; refine (HTe.out _ V1).mono ?_; rintro e w3 ⟨rfl, V3⟩)
          refine ⟨⟨k + 1, by omega, by go_num, ?_⟩, by simp [intOf]; omega⟩
          unfold Hid
          rw [HF.out, HL.out]
          exact V3
    · have hkl : k = X.sales.length := by omega
      have Vz : Hid (VW w0 b (l ++ X.sales.flatMap (saleL n)) wr) := by rw [hkl, List.take_of_length_le (Nat.le_refl _)] at Vk; exact Vk
      clear hkl Vk
      go_wp2
      go_end0
      exact ⟨rfl, Vz.out⟩
end Go.Proofs.YtlafddeoheambaaDoor

/-
  The function tellOpen of package haze.
-/
namespace Go.Proofs.YtlafddeoheambaaDoor
open Go.RowKit

def lotL (n : Nat) (l : XLot) : List UInt8 := lineL (lotWs (l.bid n) (lotOf l))
structure LotSz (l : XLot) (n : Nat) : Prop where
  nm : l.name.size ≤ 2000000
  ends : 0 ≤ l.ends ∧ l.ends ≤ 10000
  least : 0 ≤ l.least ∧ l.least ≤ 100000
  bid : 0 ≤ l.bid n ∧ l.bid n ≤ 100000
theorem lotL_len (n : Nat) (l : XLot) (h : LotSz l n) : (lotL n l).length ≤ 20000000 := by
  have hb : ∀ x ∈ lotWs (l.bid n) (lotOf l), x.size ≤ 2000000 := by
    intro x hx
    unfold lotWs lotOf at hx
    rcases List.mem_append.1 hx with hx | hx
    · simp at hx
      rcases hx with rfl | rfl | rfl | rfl | rfl | rfl
      · decide
      · exact h.nm
      · decide
      · have := itoaB_size l.ends (by have := h.ends; omega); omega
      · decide
      · have := itoaB_size l.least (by have := h.least; omega); omega
    · split at hx
      · simp at hx
        rcases hx with rfl | rfl
        · decide
        · have := itoaB_size (l.bid n) (by have := h.bid; omega); omega
      · simp at hx
  have := line_len _ 2000000 hb
  have hl : (lotWs (l.bid n) (lotOf l)).length ≤ 8 := by
    unfold lotWs
    rw [List.length_append]
    split <;> simp
  unfold lotL
  have h2 : (lotWs (l.bid n) (lotOf l)).length * (2000000 + 1) ≤ 8 * 2000001 := Nat.mul_le_mul_right _ hl
  omega
def lotO (l : XLot) : Obj := .cells #[.string l.name, .int .i64 l.ends, .int .i64 l.least, .int .i64 (l.bid 0), .int .i64 (l.bid 1), .int .i64 (l.bid 2), .int .i64 (l.bid 3)] 93 (0, 0)
theorem lotO_bid {w : World} {g : Nat} {l : XLot} (h : w.heap[g]? = some (lotO l)) (n : Nat) (hn : n < 4) : w.cell? ⟨g, 3 + n, none⟩ = some (.int .i64 (l.bid n)) := by
  unfold lotO at h
  rw [cell_of_row _ _ _ _ _ _ h]
  rcases (show n = 0 ∨ n = 1 ∨ n = 2 ∨ n = 3 by omega) with rfl | rfl | rfl | rfl <;> rfl
def words6 (l : XLot) : List Value := [.string ⟨#[108, 111, 116]⟩, .string l.name, .string ⟨#[117, 110, 116, 105, 108]⟩, .string (itoaB l.ends), .string ⟨#[108, 101, 97, 115, 116]⟩, .string (itoaB l.least)]

set_option maxRecDepth 100000 in
set_option maxHeartbeats 8000000 in
theorem tellOpen_any (w0 w : World) (X : XW) (n : Nat) (b : Nat) (l : List UInt8) (hV : VW w0 b l w) (hr : RepX w0 X) (ht : Tab w0) (hs : ∀ o ∈ X.opens, LotSz o n) (hol : X.opens.length ≤ 4) (hn4 : n < 4) (hl : l.length ≤ 10000000000) :
    Calls Tryd.prog 55 #[.pointer (some ⟨X.b, 0, none⟩), .pointer (some ⟨b, 0, none⟩), .int .i64 n] w fun e w' => e = .returned (.tuple #[]) ∧ VW w0 b (l ++ X.opens.flatMap (lotL n)) w' := by
  obtain ⟨ao, g, cap, hv, hcap, hmax, rd⟩ := own_rd hr.lot.1
  have r0 := hr.below hV.bl
  have c7 : w.cell? ⟨X.b, 7, none⟩ = some (.slice ao X.opens.length cap) := by rw [← hv]; exact r0.cellTop rfl
  unfold maxLen at hmax
  have hgl : 0 < X.opens.length → g < w0.heap.size := fun h => by
    have e := rd.base h
    exact own_lt hr.lot.1 g (by rw [hv, e]; simp [blk_slice])
  have HRd := hidOf rd
  have HG := hidOf hgl
  have HSl := hidOf hs
  have HT := hidOf ht
  have V0 := hidOf hV
  obtain ⟨i0, hi0, hz0, hz1, hz2⟩ := info_parts Tryd.infoString
  clear hV hr ht hs rd hgl hv r0
  go_enter Tryd.func55, Tryd.ntmps55
  go_wp2_with fail
  go_loopw [7, 8, 9, 15] (fun _ _ _ i w' => ∃ k : Nat, k ≤ X.opens.length ∧ i = .int .i64 k ∧ Hid (VW w0 b (l ++ (X.opens.take k).flatMap (lotL n)) w')) (fun _ _ _ i _ => X.opens.length + 1 - (intOf i).toNat)
  case atStart => exact ⟨0, Nat.zero_le _, rfl, by simpa using V0⟩
  case round =>
    clear c7 V0
    obtain ⟨k, hk, rfl, Vk⟩ := hrel
    by_cases hlt : k < X.opens.length
    · obtain rfl := HRd.out.base (by omega)
      have hg0 := HG.out (by omega)
      obtain ⟨c0, c1, c2, c3⟩ := lotCellsAt HRd.out hlt
      have d0 := (Vk.out.bl.cell (p := ⟨g, k * 7, none⟩) hg0).trans c0
      have d1 := (Vk.out.bl.cell (p := ⟨g, k * 7 + 1, none⟩) hg0).trans c1
      have d2 := (Vk.out.bl.cell (p := ⟨g, k * 7 + 2, none⟩) hg0).trans c2
      have d3 := (Vk.out.bl.cell (p := ⟨g, k * 7 + 3, none⟩) hg0).trans (c3 0 (by omega))
      have d4 := (Vk.out.bl.cell (p := ⟨g, k * 7 + 4, none⟩) hg0).trans (c3 1 (by omega))
      have d5 := (Vk.out.bl.cell (p := ⟨g, k * 7 + 5, none⟩) hg0).trans (c3 2 (by omega))
      have d6 := (Vk.out.bl.cell (p := ⟨g, k * 7 + 6, none⟩) hg0).trans (c3 3 (by omega))
      have hse := HSl.out X.opens[k] (List.getElem_mem hlt)
      have hfl := flat_take (lotL n) X.opens k hlt
      have hfb := flat_len (lotL n) (X.opens.take k) 20000000 (fun s hs => lotL_len n s (HSl.out s (List.mem_of_mem_take hs)))
      have htk : (X.opens.take k).length ≤ 4 := by rw [List.length_take]; omega
      have hlk : (l ++ (X.opens.take k).flatMap (lotL n)).length ≤ 20000000000 := by rw [List.length_append]; omega
      obtain ⟨s, hse'⟩ : ∃ s, s = X.opens[k] := ⟨_, rfl⟩
      rw [← hse'] at d0 d1 d2 d3 d4 d5 d6 hse hfl
      have hsL := lotL_len n s hse
      obtain ⟨s1, s2, s3, s4⟩ := hse
      obtain ⟨lk, hlke⟩ : ∃ lk, lk = l ++ (X.opens.take k).flatMap (lotL n) := ⟨_, rfl⟩
      have HF : Hid (l ++ (X.opens.take (k + 1)).flatMap (lotL n) = lk ++ lotL n s) := by unfold Hid; rw [hfl, hlke, List.append_assoc]
      rw [← hlke] at Vk hlk
      have hb1 := alloc_at wr (lotO s)
      have V1 := hidOf (Vk.out.at hb1)
      have k1 : (wr.alloc (lotO s)).heap[wr.heap.size]? = some (lotO s) := Go.heap_alloc_new wr _
      have HBn : Hid (wr.heap.size ≠ b) := by unfold Hid; have := Vk.out.lt; omega
      clear hfl hfb hse' hlke Vk c0 c1 c2 c3 hb1 htk
      unfold lotO at V1 k1
      go_wp2_with fail
      obtain ⟨w1, hw1⟩ : ∃ w1, w1 = wr.alloc (.cells #[.string s.name, .int .i64 s.ends, .int .i64 s.least, .int .i64 (s.bid 0), .int .i64 (s.bid 1), .int .i64 (s.bid 2), .int .i64 (s.bid 3)] 93) := ⟨_, rfl⟩
      rw [← hw1] at V1 k1 ⊢
      clear hw1 d0 d1 d2 d3 d4 d5 d6
      have x0 : w1.cell? ⟨wr.heap.size, 0, none⟩ = some (.string s.name) := by rw [cell_of_row _ _ _ _ _ _ k1]; rfl
      have x1 : w1.cell? ⟨wr.heap.size, 1, none⟩ = some (.int .i64 s.ends) := by rw [cell_of_row _ _ _ _ _ _ k1]; rfl
      have x2 : w1.cell? ⟨wr.heap.size, 2, none⟩ = some (.int .i64 s.least) := by rw [cell_of_row _ _ _ _ _ _ k1]; rfl
      have B1 : Hid (Below w1.heap.size w1 w1.drew) := (Below.refl _ w1).drew
      have K1 := hidOf k1
      have HS : Hid (∀ wx : World, Hid (Below w1.heap.size w1 wx) → (wx.cell? ⟨wr.heap.size, 0, none⟩ = some (.string s.name) ∧ wx.cell? ⟨wr.heap.size, 1, none⟩ = some (.int .i64 s.ends) ∧ wx.cell? ⟨wr.heap.size, 2, none⟩ = some (.int .i64 s.least))) := fun wx h => ⟨(h.out.cell (block_lt_of_cell x0)).trans x0, (h.out.cell (block_lt_of_cell x1)).trans x1, (h.out.cell (block_lt_of_cell x2)).trans x2⟩
      have HI : Hid (∀ (m : Int) (wx : World), 0 ≤ m ∧ m ≤ 1000000000000 → Hid (Below w1.heap.size w1 wx) → Calls Tryd.prog 11 #[.int .i64 m] wx fun e w' => e = .returned (.string (itoaB m)) ∧ Hid (Below w1.heap.size w1 w')) := fun m wx hm h => by
        refine (itoa_any m hm wx ((V1.out.at h.out).tab HT.out)).mono ?_
        rintro e w' ⟨rfl, hb⟩
        exact ⟨rfl, h.out.trans (hb.mono h.out.size)⟩
      have HAl : Hid (∀ (wx : World) (o : Obj), Hid (Below w1.heap.size w1 wx) → Hid (Below w1.heap.size w1 (wx.alloc o))) := fun wx o h => h.out.alloc h.out.size o
      clear k1
      go_cut [8] (fun v8 wc => ∃ g8 : Nat, v8 = .slice (some ⟨g8, 0, none⟩) 6 6 ∧ Hid (Below w1.heap.size w1 wc) ∧ Hid (wc.heap[g8]? = some (.cells #[.string ⟨#[108, 111, 116]⟩, .string s.name, .string ⟨#[117, 110, 116, 105, 108]⟩, .string (itoaB s.ends), .string ⟨#[108, 101, 97, 115, 116]⟩, .string (itoaB s.least)] 9 (0, 0))) ∧ Hid (w1.heap.size ≤ g8))
      case first =>
        go_region_held3 (fun w' => w'.cell? ⟨wr.heap.size, 0, none⟩ = some (.string s.name) ∧ w'.cell? ⟨wr.heap.size, 1, none⟩ = some (.int .i64 s.ends) ∧ w'.cell? ⟨wr.heap.size, 2, none⟩ = some (.int .i64 s.least)) (first | assumption | exact ⟨x0, x1, x2⟩ | exact HS.out _ (HAl.out _ _ (by assumption))) (first | (go_at_call 11; refine (HI.out _ _ (by omega) (by assumption)).mono ?_; rintro e w2 ⟨rfl, B2⟩; have S2 := HS.out _ B2))
        all_goals
          go_wp2_with fail
          go_meet
          exact ⟨_, rfl, HAl.out _ _ (by assumption), Go.heap_alloc_new _ _, Below.size (Hid.out (by assumption))⟩
      case rest =>
        obtain ⟨g8, rfl, Bc, R8, G8⟩ := hcut
        have hbd : wc.cell? ⟨wr.heap.size, 3 + n, none⟩ = some (.int .i64 (s.bid n)) := lotO_bid (by rw [Bc.out.block _ (lt_of_some K1.out)]; exact K1.out) n hn4
        have Vc := hidOf (V1.out.at Bc.out)
        obtain ⟨bd, hbde⟩ : ∃ bd, bd = s.bid n := ⟨_, rfl⟩
        have HLw : Hid (lotL n s = lineL ([wLot, s.name, wUntil, itoaB s.ends, wLeast, itoaB s.least] ++ (if 0 < bd then [wBid, itoaB bd] else []))) := by unfold Hid lotL lotWs lotOf; rw [hbde]
        rw [← hbde] at hbd s4
        clear hbde x0 x1 x2 B1
        by_cases hp : 0 < bd
        · rw [if_pos hp] at HLw
          have HOw : Hid (∀ wx : World, Below wc.heap.size wc wx → wx.ownsRow 0 9 1 (.slice (some ⟨g8, 0, none⟩) 6 6) 6 (words6 s)) := fun wx h => ⟨rfl, .inr ⟨g8, 6, _, rfl, Nat.zero_le _, by rw [h.block _ (lt_of_some R8.out)]; exact R8.out, Nat.le_refl _, by unfold maxLen; omega, rfl, rfl⟩⟩
          have HIc := hidOf (itoa_any bd (by omega) wc (Vc.out.tab HT.out))
          go_wp2_with fail
          refine HIc.out.mono ?_
          rintro e w2 ⟨rfl, hb2⟩
          have HO2 := hidOf (HOw.out _ (hb2.trans ((alloc_at w2 (.cells #[.string ⟨#[98, 105, 100]⟩, .string (itoaB bd)] 9)).mono hb2.size)))
          have B2 := hidOf (Bc.out.trans (hb2.mono Bc.out.size))
          clear hb2
          go_wp2_with (at_builtin; refine wpList_append_lies _ rfl _ _ _ rfl 0 9 i0 _ 1 16 Tryd.underlying28 hi0 hz0 hz1 hz2 rfl (by omega) (.slice (some ⟨g8, 0, none⟩) 6 6) 6 (words6 s) rfl (by exact HO2.out) ⟨w2.heap.size, 0, none⟩ 2 2 [.string ⟨#[98, 105, 100]⟩, .string (itoaB bd)] rfl rfl (by exact World.news_of_block (Go.heap_alloc_new w2 _)) (by intro u hu; simp at hu; rcases hu with rfl | rfl <;> rfl) (by omega) (by unfold maxLen; omega) (by omega) (by omega) (w2.heap.size + 1) (by simp) ?_; intro g9 cap9 w9 hown9 hgrow hat hlt9)
          have B9 : Hid (Below w1.heap.size w1 w9) := by
            unfold Hid
            refine (B2.out.alloc B2.out.size _).grown hgrow (by have := B2.out.size; simp; omega) (fun r hr => ?_)
            have e : g8 = r := by simpa [Value.ownBlock] using hr
            have := G8.out
            omega
          have hcp : 8 ≤ cap9 := by
            rcases own_form hown9 with ⟨h, _⟩ | ⟨g', c', h, h1, _⟩
            · cases h
            · injection h with _ _ h
              omega
          have hg9 : g9 < w9.heap.size := own_lt hown9 g9 (by simp [blk_slice])
          have HTe := hidOf (tell_any w0 w9 b lk g9 cap9 [wLot, s.name, wUntil, itoaB s.ends, wLeast, itoaB s.least, wBid, itoaB bd] (V1.out.at B9.out) (fun j x hj => own_cell hown9 (by
            have e : words6 s ++ [.string ⟨#[98, 105, 100]⟩, .string (itoaB bd)] = [wLot, s.name, wUntil, itoaB s.ends, wLeast, itoaB s.least, wBid, itoaB bd].map (fun x => Value.string x) := rfl
            rw [e, List.getElem?_map, hj]
            rfl)) hg9 hcp (by have := hsL; rw [HLw.out] at this; have e : (lineL [wLot, s.name, wUntil, itoaB s.ends, wLeast, itoaB s.least, wBid, itoaB bd]).length ≤ 20000000 := this; omega) (by omega) (by simp))
          clear hown9 hgrow hat hlt9 hg9 hcp
          refine HTe.out.mono ?_
          rintro e w10 ⟨rfl, V10⟩
          go_wp2
          refine ⟨⟨k + 1, by omega, by go_num, ?_⟩, by simp [intOf]; omega⟩
          unfold Hid
          rw [HF.out, HLw.out]
          exact V10
        · rw [if_neg hp] at HLw
          have hp' : decide (0 < bd) = false := decide_eq_false hp
          have HTe := hidOf (tell_any w0 wc b lk g8 6 [wLot, s.name, wUntil, itoaB s.ends, wLeast, itoaB s.least] Vc.out (fun j x hj => by
            rw [cell_of_row _ _ _ _ _ _ R8.out]
            have e : (#[.string ⟨#[108, 111, 116]⟩, .string s.name, .string ⟨#[117, 110, 116, 105, 108]⟩, .string (itoaB s.ends), .string ⟨#[108, 101, 97, 115, 116]⟩, .string (itoaB s.least)] : Array Value)[j]? = ([wLot, s.name, wUntil, itoaB s.ends, wLeast, itoaB s.least].map (fun x => Value.string x))[j]? := by simp [wLot, wUntil, wLeast]
            rw [e, List.getElem?_map, hj]
            rfl) (lt_of_some R8.out) (by simp) (by have := hsL; rw [HLw.out] at this; have e : (lineL [wLot, s.name, wUntil, itoaB s.ends, wLeast, itoaB s.least]).length ≤ 20000000 := this; omega) (by omega) (by simp))
          go_wp2_with fail
          refine HTe.out.mono ?_
          rintro e w10 ⟨rfl, V10⟩
          go_wp2
          refine ⟨⟨k + 1, by omega, by go_num, ?_⟩, by simp [intOf]; omega⟩
          unfold Hid
          rw [HF.out, HLw.out]
          exact V10
    · have hkl : k = X.opens.length := by omega
      have Vz : Hid (VW w0 b (l ++ X.opens.flatMap (lotL n)) wr) := by rw [hkl, List.take_of_length_le (Nat.le_refl _)] at Vk; exact Vk
      clear hkl Vk
      go_wp2
      go_end0
      exact ⟨rfl, Vz.out⟩
end Go.Proofs.YtlafddeoheambaaDoor

/-
  The function View of package haze.
-/
namespace Go.Proofs.YtlafddeoheambaaDoor
open Go.RowKit

/-- Names are no longer than a text that was handed in. -/
structure NmS (s : SWorld) : Prop where
  u : ∀ p ∈ s.players, ∀ u ∈ p.units, u.name.size ≤ 2000000 ∧ u.arg.size ≤ 2000000
  l : ∀ l ∈ s.lots, l.name.size ≤ 2000000

theorem flatMap_congr {α β : Type} {f g : α → List β} {l : List α} (h : ∀ a ∈ l, f a = g a) : l.flatMap f = l.flatMap g := by
  induction l with
  | nil => rfl
  | cons a l ih =>
    simp only [List.flatMap_cons]
    rw [h a (by simp), ih (fun x hx => h x (by simp [hx]))]
theorem lots_are {X : XW} {n : Nat} {p : SPlayer} {v : XV} (ho : OkX X) (hq : X.pls[n]? = some (p, v)) : lotsL X.S p = X.opens.flatMap (lotL n) := by
  unfold lotsL
  have e : sortL X.S.lots = X.opens.map lotOf := ho.lot.eq.symm
  rw [e, List.flatMap_map]
  refine flatMap_congr (fun l hl => ?_)
  have hb := ho.lot.bid l hl n
  have e' : ((X.pls.map (·.1.bids))[n]?).getD [] = p.bids := by simp [hq]
  unfold bidAt at hb
  rw [e'] at hb
  unfold lotL
  rw [hb]
  rfl
theorem line2 (a b : ByteArray) : lineL [a, b] = a.data.toList ++ 32 :: (b.data.toList ++ [10]) := by simp [lineL, Lib.join_cons, Lib.joinTail]
theorem line4 (a b c d : ByteArray) : lineL [a, b, c, d] = a.data.toList ++ 32 :: (b.data.toList ++ 32 :: (c.data.toList ++ 32 :: (d.data.toList ++ [10]))) := by simp [lineL, Lib.join_cons, Lib.joinTail]
theorem sale_news (s : XSale) (n : Nat) (h : -1 ≤ s.who) : (newsB s.name s.who s.price n).data.toList ++ [10] = saleL n s := by
  unfold newsB saleL
  by_cases h1 : (n : Int) = s.who
  · rw [if_pos h1, if_pos h1.symm, line4]
    simp [wonW, forW, wWon, wFor, ByteArray.data_append]
  · rw [if_neg h1, if_neg (Ne.symm h1)]
    by_cases h2 : s.who = -1
    · rw [if_pos (by omega), if_pos h2, line2]
      simp [passW, wPassed, ByteArray.data_append]
    · rw [if_neg (by omega), if_neg h2, line2]
      simp [soldW, wSold, ByteArray.data_append]
theorem news_are {X : XW} {n : Nat} {p : SPlayer} {v : XV} (hN : NewsOK X) (hs : SaleOK X.sales) (hq : X.pls[n]? = some (p, v)) : newsL p = X.sales.flatMap (saleL n) := by
  unfold newsL
  have e := hN n _ hq
  simp only at e
  rw [e, List.flatMap_map]
  exact flatMap_congr (fun s hs' => sale_news s n (hs.each s hs').1)
theorem lots_sz {X : XW} {M : Int} (hA : AllX X M) (hnow : 0 ≤ X.now ∧ X.now ≤ 1000) (hnm : NmS X.S) (n : Nat) : ∀ o ∈ X.opens, LotSz o n := by
  intro o ho
  have hm := hA.ok.lot.mem ho
  have h1 := hA.lw.ends _ hm
  have h2 := hA.lw.lst _ hm
  have e1 : (lotOf o).ends = o.ends := rfl
  have e2 : (lotOf o).least = o.least := rfl
  rw [e1] at h1
  rw [e2] at h2
  exact ⟨hnm.l _ hm, by omega, h2, hA.ok.lot.bidBd hA.lw o ho n⟩
theorem rows_len {X : XW} {M : Int} (hA : AllX X M) (n : Nat) (us : List SUnit) : (rowsTo X.S n us X.S.height.toNat).length ≤ 200000 := by
  have hw := hA.wf.wd
  have hh := hA.wf.ht
  exact rowsTo_len X.S n us _ (by omega) (by omega) hA.wf.ora hA.wf.pl.2
theorem own_len {X : XW} {M : Int} (hA : AllX X M) (hM : M ≤ 100000000000) (hnow : 0 ≤ X.now ∧ X.now ≤ 1000) (hnm : NmS X.S) {p : SPlayer} (hp : p ∈ X.S.players) : (ownL X.S p).length ≤ 200000000 := by
  have pk := hA.wf.each p hp
  have h1 := tickL_len X.S.now p.money (by have : X.S.now = X.now := rfl; omega) (by have := pk.mo; omega)
  have hw := hA.wf.wd
  have hh := hA.wf.ht
  have h2 := flat_len unitL p.units 20000000 (fun u hu => by
    have uk := pk.each u hu
    have ux := uk.x
    have uy := uk.y
    exact unitL_len u (hnm.u p hp u hu).1 (by omega) (by omega) uk.cargo)
  have := pk.un
  unfold ownL
  rw [List.length_append]
  omega
theorem lots_len {X : XW} {M : Int} (hA : AllX X M) (hnow : 0 ≤ X.now ∧ X.now ≤ 1000) (hnm : NmS X.S) (n : Nat) : (X.opens.flatMap (lotL n)).length ≤ 100000000 := by
  have := flat_len (lotL n) X.opens 20000000 (fun o ho => lotL_len n o (lots_sz hA hnow hnm n o ho))
  have h4 : X.opens.length ≤ 4 := by rw [hA.ok.lot.len]; exact hA.lw.len
  omega

set_option maxRecDepth 100000 in
set_option maxHeartbeats 4000000 in
theorem xview_any (w : World) (X : XW) (M : Int) (n : Int) (hr : RepX w X) (ht : Tab w) (hA : AllX X M) (hM : M ≤ 100000000000) (hnow : 0 ≤ X.now ∧ X.now ≤ 1000) (hnm : NmS X.S) (hN : NewsOK X) (hSl : SaleOK X.sales) :
    Calls Tryd.prog 27 #[.pointer (some ⟨X.b, 0, none⟩), .int .i64 n] w fun e w' => e = .returned (.tuple #[.string (viewS X.S n).1, .int .i64 (viewS X.S n).2]) ∧ Below w.heap.size w w' := by
  have hpl : X.S.players.length = X.pls.length := by simp [XW.S]
  have h4 := hA.wf.pl
  rw [hpl] at h4
  obtain ⟨pb, pcap, hvp, hpc, hpm⟩ := hr.plForm h4.1
  have c5 : w.cell? ⟨X.b, 6, none⟩ = some (.slice (some ⟨pb, 0, none⟩) X.pls.length pcap) := by rw [← hvp]; exact hr.cellTop rfl
  have HH := hidOf (has_any X.b n X.pls.length pcap _ w c5)
  by_cases hn : 0 ≤ n ∧ n < X.pls.length
  · obtain ⟨hn0, hn1⟩ := hn
    obtain ⟨k, rfl⟩ := Int.eq_ofNat_of_zero_le hn0
    obtain ⟨p, v, hq⟩ := xat_of_lt (X := X) (n := k) (by omega)
    have hi : hasB (k : Int) X.pls.length = true := by rw [hasB_pl]; simp; omega
    rw [hi] at HH
    have hpm' : p ∈ X.S.players := List.mem_of_getElem? (XS_at hq)
    have HVS : Hid (viewS X.S k = (bytesOf (viewL X.S k p), 0)) := by
      unfold Hid viewS
      rw [if_pos (by rw [hpl]; omega), Int.toNat_natCast, XS_at hq]
    have l1 := own_len hA hM hnow hnm hpm'
    have l2 := rows_len hA k p.units
    have l3 := lots_len hA hnow hnm k
    have HVl : Hid (viewL X.S k p = ((ownL X.S p ++ rowsTo X.S k p.units X.S.height.toNat) ++ X.opens.flatMap (lotL k)) ++ X.sales.flatMap (saleL k)) := by
      unfold Hid viewL
      rw [lots_are hA.ok hq, news_are hN hSl hq]
    obtain ⟨a1, ha1⟩ : ∃ a1, a1 = ownL X.S p := ⟨_, rfl⟩
    obtain ⟨a2, ha2⟩ : ∃ a2, a2 = rowsTo X.S k p.units X.S.height.toNat := ⟨_, rfl⟩
    obtain ⟨a3, ha3⟩ : ∃ a3, a3 = X.opens.flatMap (lotL k) := ⟨_, rfl⟩
    obtain ⟨a4, ha4⟩ : ∃ a4, a4 = X.sales.flatMap (saleL k) := ⟨_, rfl⟩
    have H1 : Hid (∀ wx, Hid (VW w w.heap.size [] wx) → Calls Tryd.prog 53 #[.pointer (some ⟨X.b, 0, none⟩), .pointer (some ⟨w.heap.size, 0, none⟩), .int .i64 k] wx fun e w' => e = .returned (.tuple #[]) ∧ Hid (VW w w.heap.size ([] ++ a1) w')) := fun wx h => by
      rw [ha1]
      exact tellOwn_any w wx X M k p v w.heap.size [] h.out hr ht hA hM hnow hq (fun u hu => (hnm.u p hpm' u hu).1) (by simp)
    have H2 : Hid (∀ wx, Hid (VW w w.heap.size ([] ++ a1) wx) → Calls Tryd.prog 54 #[.pointer (some ⟨X.b, 0, none⟩), .pointer (some ⟨w.heap.size, 0, none⟩), .int .i64 k] wx fun e w' => e = .returned (.tuple #[]) ∧ Hid (VW w w.heap.size (([] ++ a1) ++ a2) w')) := fun wx h => by
      rw [ha2]
      exact tellNear_any w wx X M k p v w.heap.size _ h.out hr ht hA hq (by rw [ha1, List.nil_append]; omega)
    have H3 : Hid (∀ wx, Hid (VW w w.heap.size (([] ++ a1) ++ a2) wx) → Calls Tryd.prog 55 #[.pointer (some ⟨X.b, 0, none⟩), .pointer (some ⟨w.heap.size, 0, none⟩), .int .i64 k] wx fun e w' => e = .returned (.tuple #[]) ∧ Hid (VW w w.heap.size ((([] ++ a1) ++ a2) ++ a3) w')) := fun wx h => by
      rw [ha3]
      exact tellOpen_any w wx X k w.heap.size _ h.out hr ht (lots_sz hA hnow hnm k) (by rw [hA.ok.lot.len]; exact hA.lw.len) (by omega) (by rw [List.length_append, ha1, ha2, List.nil_append]; omega)
    have H4 : Hid (∀ wx, Hid (VW w w.heap.size ((([] ++ a1) ++ a2) ++ a3) wx) → Calls Tryd.prog 56 #[.pointer (some ⟨X.b, 0, none⟩), .pointer (some ⟨w.heap.size, 0, none⟩), .int .i64 k] wx fun e w' => e = .returned (.tuple #[]) ∧ Hid (VW w w.heap.size (((([] ++ a1) ++ a2) ++ a3) ++ a4) w')) := fun wx h => by
      rw [ha4]
      exact tellClosed_any w wx X k w.heap.size _ h.out hr ht hSl (by omega) (by rw [List.length_append, List.length_append, ha1, ha2, ha3, List.nil_append]; omega)
    have H5 : Hid (∀ wx, Hid (VW w w.heap.size (((([] ++ a1) ++ a2) ++ a3) ++ a4) wx) → Calls Tryd.prog 57 #[.pointer (some ⟨w.heap.size, 0, none⟩)] wx fun e w' => e = .returned (.string ⟨(((([] ++ a1) ++ a2) ++ a3) ++ a4).toArray⟩) ∧ Hid (Below w.heap.size w w')) := fun wx h => by
      refine (bstring_any w.heap.size w.heap.size _ wx h.out.bd h.out.bl.size).mono ?_
      rintro e w' ⟨rfl, hb⟩
      exact ⟨rfl, h.out.bl.trans hb⟩
    rw [← ha1, ← ha2, ← ha3, ← ha4] at HVl
    have V0 : Hid (VW w w.heap.size [] (w.alloc (.cells #[.pointer none, .slice none 0 0] 112))) := ⟨alloc_at w _, Lib.IsBuilderF.of (Lib.fresh_isBuilder _ _ w)⟩
    clear hr ht hA hnm hN hSl hq hvp hpl ha1 ha2 ha3 ha4 hpm' hn0
    go_enter Tryd.func27, Tryd.ntmps27
    go_wp2_with (first | (go_at_call 19; refine HH.out.mono ?_; rintro e w' ⟨rfl, h⟩; rw [h]; clear h w') | (go_at_call 53; refine (H1.out _ V0).mono ?_; rintro e w1 ⟨rfl, V1⟩) | (go_at_call 54; refine (H2.out _ V1).mono ?_; rintro e w2 ⟨rfl, V2⟩) | (go_at_call 55; refine (H3.out _ V2).mono ?_; rintro e w3 ⟨rfl, V3⟩) | (go_at_call 56; refine (H4.out _ V3).mono ?_; rintro e w4 ⟨rfl, V4⟩) | (go_at_call 57; refine (H5.out _ V4).mono ?_; rintro e w5 ⟨rfl, B5⟩))
    go_ret2
    refine ⟨?_, B5.out⟩
    rw [HVS.out]
    unfold bytesOf
    rw [HVl.out, List.append_assoc, List.append_assoc]
    rfl
  · have hi : hasB n X.pls.length = false := by rw [hasB_pl]; exact decide_eq_false hn
    have HVS : Hid (viewS X.S n = (⟨#[]⟩, 1)) := by
      unfold Hid viewS
      rw [if_neg (by rw [hpl]; exact hn)]
    rw [hi] at HH
    clear hn hpl hr ht hA hnm hN hSl hvp
    go_enter Tryd.func27, Tryd.ntmps27
    go_wp2_with (go_at_call 19; refine HH.out.mono ?_; rintro e w' ⟨rfl, h⟩; rw [h]; clear h w')
    go_ret2
    refine ⟨?_, Below.refl _ _⟩
    rw [HVS.out]
    rfl
end Go.Proofs.YtlafddeoheambaaDoor

/-
  That names stay short.
-/
namespace Go.Proofs.YtlafddeoheambaaDoor
open Go.RowKit

def Sz (b : ByteArray) : Prop := b.size ≤ 2000000
def NmU (u : SUnit) : Prop := Sz u.name ∧ Sz u.arg
def NmP2 (p : SPlayer) : Prop := ∀ u ∈ p.units, NmU u
theorem sz_empty : Sz emptyB := by unfold Sz; decide
theorem NmS.pl {s : SWorld} (h : NmS s) {p : SPlayer} (hp : p ∈ s.players) : NmP2 p := fun u hu => h.u p hp u hu
theorem NmS.setPl {s : SWorld} (h : NmS s) (n : Nat) {p : SPlayer} (hp : NmP2 p) : NmS (s.setPl n p) := by
  refine ⟨fun q hq u hu => ?_, h.l⟩
  rcases List.mem_or_eq_of_mem_set hq with h' | rfl
  · exact h.u q h' u hu
  · exact hp u hu
theorem NmP2.setU {p : SPlayer} (h : NmP2 p) (k : Nat) {u : SUnit} (hu : NmU u) (m : Int) : NmP2 { p with money := m, units := p.units.set k u } := by
  intro v hv
  rcases List.mem_or_eq_of_mem_set hv with h' | rfl
  · exact h v h'
  · exact hu
theorem NmS.act {s : SWorld} (h : NmS s) (n k : Nat) {p : SPlayer} {u : SUnit} (hp : NmP2 p) (hu : NmU u) (what arg : ByteArray) (ha : Sz arg) : NmS (actS s n k p u what arg) := by
  unfold actS
  simp only
  split
  · split
    · exact h.setPl n (hp.setU k (u := { u with x := u.x + dxI u.head, y := u.y + dyI u.head }) hu p.money)
    · exact h
  split
  · exact h.setPl n (hp.setU k (u := { u with head := (u.head + 1) % 4 }) hu p.money)
  split
  · exact h.setPl n (hp.setU k (u := { u with head := (u.head + 2) % 4 }) hu p.money)
  split
  · exact h.setPl n (hp.setU k (u := { u with head := (u.head + 3) % 4 }) hu p.money)
  split
  · split
    · split
      · have := h.setPl n (hp.setU k (u := { u with cargo := u.cargo + 1 }) hu p.money)
        exact ⟨this.u, this.l⟩
      · exact h
    · exact h
  split
  · exact h.setPl n (hp.setU k (u := { u with cargo := 0 }) hu _)
  split
  · split
    · exact h.setPl n (hp.setU k (u := { u with name := arg }) ⟨ha, hu.2⟩ p.money)
    · exact h
  split
  · split
    · refine h.setPl n (fun v hv => ?_)
      rcases List.mem_append.1 hv with h5 | h5
      · exact hp v h5
      · simp at h5
        rw [h5]
        exact ⟨ha, sz_empty⟩
    · exact h
  · exact h
theorem NmS.does {s : SWorld} (h : NmS s) (n k : Nat) : NmS (doesS s n k) := by
  unfold doesS
  split
  · exact h
  · rename_i p hp
    have hpn := h.pl (List.mem_of_getElem? hp)
    split
    · exact h
    · rename_i u hu
      have hun := hpn u (List.mem_of_getElem? hu)
      have hu0 : NmU { u with what := emptyB, arg := emptyB } := ⟨hun.1, sz_empty⟩
      have hp0 := hpn.setU k hu0 p.money
      exact (h.setPl n hp0).act n k hp0 hu0 u.what u.arg hun.2
theorem NmS.unitsTo {s : SWorld} (h : NmS s) (n j : Nat) : NmS (unitsTo s n j) := by
  induction j with
  | zero => exact h
  | succ j ih => exact ih.does n j
theorem NmS.clearN {s : SWorld} (h : NmS s) (n : Nat) : NmS (clearN s n) := by
  unfold Proofs.YtlafddeoheambaaDoor.clearN
  split
  · exact h
  · rename_i p hp
    exact h.setPl n (p := { p with news := [] }) (fun u hu => h.pl (List.mem_of_getElem? hp) u hu)
theorem NmS.tickTo {s : SWorld} (h : NmS s) (n : Nat) : NmS (tickTo s n) := by
  induction n with
  | zero => exact h
  | succ n ih => exact (ih.clearN n).unitsTo n _
theorem NmS.tell {s : SWorld} (h : NmS s) (k : Nat) (p : SPlayer) (a b c : List UInt8) (hp : s.players[k]? = some p) (hc : c.length ≤ 2000000) : NmS (tellS s k p a b c).2 := by
  unfold tellS
  split
  · exact h
  · split
    · exact h
    · rename_i u hu
      have hpn := h.pl (List.mem_of_getElem? hp)
      have hun := hpn u (List.mem_of_getElem? hu)
      refine h.setPl k (hpn.setU _ (u := { u with what := bytesOf b, arg := bytesOf c }) ⟨hun.1, ?_⟩ p.money)
      unfold Sz
      rw [bytesOf_size]
      exact hc
theorem NmS.order {s : SWorld} (h : NmS s) (n : Int) (t : List UInt8) (ht : t.length ≤ 2000000) : NmS (orderS s n t).2 := by
  have hsz := splitB_sizes t
  unfold orderS
  split
  · split
    · exact h
    · rename_i p hp
      have bid : ∀ nm k, NmS (bidS s n.toNat p nm k).2 := by
        intro nm k
        unfold bidS
        repeat' split
        all_goals first
          | exact h
          | exact h.setPl _ (p := { p with bids := setB p.bids nm k }) (fun u hu => h.pl (List.mem_of_getElem? hp) u hu)
      unfold wordsS
      split
      · split
        · exact h.tell _ _ _ _ _ hp (by simp)
        · exact h
      · rename_i a b c e
        split
        · exact bid _ _
        · split
          · exact h.tell _ _ _ _ _ hp (by have := hsz c (by rw [e]; simp); omega)
          · exact h
      · exact h
  · exact h
theorem NmS.new {W H S : Int} {ore starts : List SSpot} : NmS (newS W H S ore starts) := by
  refine ⟨fun p hp u hu => ?_, fun l hl => by simp [newS] at hl⟩
  simp only [newS, List.mem_map] at hp
  obtain ⟨s, _, rfl⟩ := hp
  simp only [firstP, List.mem_singleton] at hu
  subst hu
  exact ⟨by show (1 : Nat) ≤ 2000000; omega, sz_empty⟩
/-- No news, no sales. -/
theorem sale_nil {X : XW} (hN : NewsOK X) (h1 : 1 ≤ X.pls.length) (h : ∀ p ∈ X.S.players, p.news = []) : X.sales = [] := by
  have hq : X.pls[0]? = some X.pls[0] := by simp [show 0 < X.pls.length by omega]
  have e := hN 0 _ hq
  have e2 := h X.pls[0].1 (by simp only [XW.S]; exact List.mem_map_of_mem (List.getElem_mem _))
  rw [e2] at e
  simpa using e.symm
theorem SaleOK.nil : SaleOK [] := ⟨by simp, by simp⟩
theorem newsB_size (nm : ByteArray) (who pays : Int) (i : Nat) (hn : nm.size ≤ 2000000) (hp : 0 ≤ pays ∧ pays ≤ 100000) : (newsB nm who pays i).size ≤ 3000000 := by
  have hz := itoaB_size pays (by omega)
  unfold newsB
  have e1 : wonW.size = 4 := rfl
  have e2 : forW.size = 5 := rfl
  have e3 : passW.size = 7 := rfl
  have e4 : soldW.size = 5 := rfl
  repeat' split
  all_goals
    simp only [ByteArray.size_append]
    omega
end Go.Proofs.YtlafddeoheambaaDoor

/-
  The worlds of a script, in pairs (the program's, the document's), as they lie in memory.
-/
namespace Go.Proofs.YtlafddeoheambaaDoor
open Go.RowKit

structure PRole where
  t : Nat
  i : Nat
abbrev PRole.top : PRole := ⟨0, 0⟩
abbrev PRole.row : PRole := ⟨1, 0⟩
abbrev PRole.x (i : Nat) : PRole := ⟨2, i⟩
abbrev PRole.y (i : Nat) : PRole := ⟨3, i⟩
structure LW where
  b : Nat
  v : Value
  ps : List (XW × YW)
  R : Nat → PRole
def pairCells (q : XW × YW) : List Value := [.pointer (some ⟨q.1.b, 0, none⟩), .pointer (some ⟨q.2.b, 0, none⟩)]
def LW.foot (L : LW) : List Nat := L.b :: (blk L.v ++ L.ps.flatMap (fun q => q.1.foot ++ q.2.foot))
theorem lfoot_b {L : LW} : L.b ∈ L.foot := by simp [LW.foot]
theorem lfoot_r {L : LW} {r : Nat} (h : r ∈ blk L.v) : r ∈ L.foot := by simp [LW.foot, h]
theorem lfoot_x {L : LW} {i : Nat} {q : XW × YW} (hq : L.ps[i]? = some q) {r : Nat} (h : r ∈ q.1.foot) : r ∈ L.foot := by
  have := List.mem_of_getElem? hq
  simp only [LW.foot, List.mem_cons, List.mem_append, List.mem_flatMap]
  exact .inr (.inr ⟨q, this, .inl h⟩)
theorem lfoot_y {L : LW} {i : Nat} {q : XW × YW} (hq : L.ps[i]? = some q) {r : Nat} (h : r ∈ q.2.foot) : r ∈ L.foot := by
  have := List.mem_of_getElem? hq
  simp only [LW.foot, List.mem_cons, List.mem_append, List.mem_flatMap]
  exact .inr (.inr ⟨q, this, .inr h⟩)
theorem lfoot_cases {L : LW} {r : Nat} (h : r ∈ L.foot) : r = L.b ∨ r ∈ blk L.v ∨ ∃ (i : Nat) (q : XW × YW), L.ps[i]? = some q ∧ (r ∈ q.1.foot ∨ r ∈ q.2.foot) := by
  simp only [LW.foot, List.mem_cons, List.mem_append, List.mem_flatMap] at h
  rcases h with h | h | ⟨q, hq, h⟩
  · exact .inl h
  · exact .inr (.inl h)
  · obtain ⟨i, hi⟩ := List.getElem?_of_mem hq
    exact .inr (.inr ⟨i, q, hi, h⟩)
def newR (R : Nat → PRole) (H : Nat) (ρ : PRole) : Nat → PRole := fun r => if r < H then R r else ρ
def LW.setX (L : LW) (H i : Nat) (X' : XW) (Y : YW) : LW := { L with ps := L.ps.set i (X', Y), R := newR L.R H (.x i) }
def LW.setY (L : LW) (H i : Nat) (X : XW) (Y' : YW) : LW := { L with ps := L.ps.set i (X, Y'), R := newR L.R H (.y i) }

theorem pair_set (L : LW) (i : Nat) (q q' : XW × YW) (hq : L.ps[i]? = some q) (h : pairCells q' = pairCells q) : (L.ps.set i q').flatMap pairCells = L.ps.flatMap pairCells := by
  obtain ⟨hi, rfl⟩ := at_some hq
  rw [List.flatMap_def, List.flatMap_def, List.map_set, h]
  have : (L.ps.map pairCells).set i (pairCells L.ps[i]) = L.ps.map pairCells := set_id (by simp [hi])
  rw [this]

/-- What holds of a world at any time in a script without lots. -/
structure GoodS (s : SWorld) : Prop where
  now : 0 ≤ s.now ∧ s.now ≤ 1000
  wf : WFS s (100 + 1800 * s.now)
  lw : LotWF s.lots (s.players.map (·.bids)) s.now
  lo : s.lots = []
  nm : NmS s
structure Sync (ps : List (XW × YW)) : Prop where
  s : ∀ q ∈ ps, q.1.S = q.2.S
  o : ∀ q ∈ ps, OkX q.1
  g : ∀ q ∈ ps, GoodS q.2.S
  n : ∀ q ∈ ps, NewsOK q.1
  sl : ∀ q ∈ ps, SaleOK q.1.sales
theorem lw_nil {bss : List (List SBid)} {now : Int} (h : LotWF [] bss now) (now' : Int) : LotWF [] bss now' := ⟨by simp [Apart], by simp, by simp, by simp, by simp, h.bids⟩
theorem GoodS.tick {s : SWorld} (h : GoodS s) (hn : s.now < 1000) : GoodS (tickS s) := by
  have hp := h.wf.pl
  have hw := h.wf.tickTo s.players.length
  have hl := tickTo_len s s.players.length
  rw [tickS_nil h.lo]
  refine ⟨⟨?_, ?_⟩, ?_, ?_, rfl, ⟨(h.nm.tickTo s.players.length).u, by simp⟩⟩
  · show 0 ≤ s.now + 1
    have := h.now.1; omega
  · show s.now + 1 ≤ 1000
    omega
  · have : WFS (tickTo s s.players.length) (100 + 1800 * (s.now + 1)) := hw.mono (by omega)
    exact ⟨this.pl, this.wd, this.ht, this.orn, this.ora, this.each⟩
  · show LotWF [] ((tickTo s s.players.length).players.map (·.bids)) (s.now + 1)
    rw [tickTo_bids]
    have := h.lw
    rw [h.lo] at this
    exact lw_nil this _
theorem tell_bn (s : SWorld) (k : Nat) (p : SPlayer) (a b c : List UInt8) (hp : s.players[k]? = some p) : (tellS s k p a b c).2.players.map bnP = s.players.map bnP ∧ (tellS s k p a b c).2.lots = s.lots ∧ (tellS s k p a b c).2.now = s.now := by
  unfold tellS
  split
  · exact ⟨rfl, rfl, rfl⟩
  · split
    · exact ⟨rfl, rfl, rfl⟩
    · exact ⟨map_set_same bnP s.players k p _ hp rfl, rfl, rfl⟩
theorem WFS.tell {s : SWorld} {M : Int} (h : WFS s M) (k : Nat) (p : SPlayer) (a b c : List UInt8) (hp : s.players[k]? = some p) : WFS (tellS s k p a b c).2 M := by
  unfold tellS
  split
  · exact h
  · split
    · exact h
    · rename_i u hu
      have pk := h.each p (List.mem_of_getElem? hp)
      have hum := List.mem_of_getElem? hu
      have uk := pk.each u hum
      refine h.setPl k ⟨by simpa using pk.un, ?_, pk.mo, pk.bi⟩
      intro v hv
      rcases List.mem_or_eq_of_mem_set hv with hv | rfl
      · exact pk.each v hv
      · exact ⟨uk.x, uk.y, uk.head, uk.cargo⟩
theorem GoodS.order {s : SWorld} (h : GoodS s) (n : Int) (t : List UInt8) (ht : t.length ≤ 2000000) : GoodS (orderS s n t).2 := by
  have hnm := h.nm.order n t ht
  revert hnm
  have tell : ∀ (k : Nat) (p : SPlayer) a b c, s.players[k]? = some p → NmS (tellS s k p a b c).2 → GoodS (tellS s k p a b c).2 := by
    intro k p a b c hp hnm
    obtain ⟨h1, h2, h3⟩ := tell_bn s k p a b c hp
    refine ⟨by rw [h3]; exact h.now, by rw [h3]; exact h.wf.tell k p a b c hp, ?_, by rw [h2]; exact h.lo, hnm⟩
    rw [bn_bids h1, h2, h3]
    exact h.lw
  unfold orderS
  split
  · split
    · exact fun _ => h
    · rename_i p hp
      unfold wordsS
      repeat' split
      all_goals first
        | exact fun _ => h
        | exact fun hnm => tell _ _ _ _ _ hp hnm
        | (rw [bidS_nil h.lo]; exact fun _ => h)
  · exact fun _ => h
/-- An order turns no news. -/
theorem order_news (s : SWorld) (n : Int) (t : List UInt8) : (orderS s n t).2.players.map (·.news) = s.players.map (·.news) := by
  unfold orderS
  split
  · split
    · rfl
    · rename_i p hp
      have bid : ∀ nm k, (bidS s n.toNat p nm k).2.players.map (·.news) = s.players.map (·.news) := by
        intro nm k
        unfold bidS
        repeat' split
        all_goals first
          | rfl
          | exact map_set_same (·.news) s.players _ p { p with bids := setB p.bids nm k } hp rfl
      unfold wordsS
      repeat' split
      all_goals first
        | rfl
        | exact bn_news (tell_bn _ _ _ _ _ _ hp).1
        | exact bid _ _
  · rfl
theorem NewsOK.of {X X' : XW} (h : NewsOK X) (hn : X'.S.players.map (·.news) = X.S.players.map (·.news)) (hs : X'.sales = X.sales) : NewsOK X' := by
  intro i q hq
  rw [hs]
  have e : (X'.S.players.map (·.news))[i]? = some q.1.news := by simp [XW.S, hq]
  rw [hn] at e
  simp only [XW.S, List.map_map, List.getElem?_map, Option.map_eq_some_iff] at e
  obtain ⟨q', hq', e'⟩ := e
  have := h i q' hq'
  simp only [Function.comp] at e'
  rw [← e', this]
end Go.Proofs.YtlafddeoheambaaDoor

/-
  The functions decimal, far, sees and at of package hazeref.
-/
namespace Go.Proofs.YtlafddeoheambaaDoor
open Go.RowKit

theorem cat_any {P : Program} (a b : ByteArray) (w : World) (ha : a.size ≤ 1000000000000) (hb : b.size ≤ 1000000000000) : (Op.stringOp .add a b).run P w = .ok (.string (a ++ b)) w := run_string_add_sum w a b (by omega)
theorem ret_str {a b : ByteArray} (h : a = b) : Ending.returned (.string a) = .returned (.string b) := by rw [h]
def digitB (d : Nat) : ByteArray := ⟨#[UInt8.ofNat (48 + d)]⟩
theorem digit_ext (d : Nat) (h : d < 10) : (⟨#[48, 49, 50, 51, 52, 53, 54, 55, 56, 57]⟩ : ByteArray).extract d (d + 1) = digitB d := by
  rcases (show d = 0 ∨ d = 1 ∨ d = 2 ∨ d = 3 ∨ d = 4 ∨ d = 5 ∨ d = 6 ∨ d = 7 ∨ d = 8 ∨ d = 9 by omega) with rfl | rfl | rfl | rfl | rfl | rfl | rfl | rfl | rfl | rfl <;> decide +kernel
theorem dec_small (u : Nat) (h : u < 10) : itoaB (u : Int) = digitB u := by
  unfold itoaB digitB
  rw [Lib.itoa_nonneg, Lib.decDigits_one h]
theorem dec_great (u : Nat) (h : ¬ u < 10) : itoaB (u : Int) = itoaB ((u / 10 : Nat) : Int) ++ digitB (u % 10) := by
  unfold itoaB digitB
  rw [Lib.itoa_nonneg, Lib.itoa_nonneg, Lib.decDigits, dif_neg h]
  rw [ByteArray.mk_append_mk]

end Go.Proofs.YtlafddeoheambaaDoor

/-
  The function at of package hazeref.
-/
namespace Go.Proofs.YtlafddeoheambaaDoor
open Go.RowKit

theorem lit_size (a : Array UInt8) : (ByteArray.mk a).size = a.size := rfl
def oreLine (x y a : Int) : List UInt8 := lineL [wOre, whereB x y, itoaB a]
def oreF (x y : Int) (s : SSpot) : List UInt8 := if hitB x y s then oreLine x y s.amount else []
theorem oreF_all {o : List SSpot} (hd : oreD o) (x y : Int) : o.flatMap (oreF x y) = oreL o x y := by
  induction o with
  | nil => rfl
  | cons s o ih =>
    have h1 := List.pairwise_cons.1 hd
    have ih := ih h1.2
    simp only [List.flatMap_cons]
    unfold oreL
    rw [oreAt_cons, ih]
    cases hs : hitB x y s
    · simp only [oreF, hs, Bool.false_eq_true, if_false, List.nil_append]
      rfl
    · have hh : s.x = x ∧ s.y = y := by simp [hitB] at hs; exact hs.1
      have ho : oreAt o x y = none := oreAt_far (fun t ht e' => h1.1 t ht ⟨by omega, by omega⟩)
      simp only [oreF, hs, if_true]
      unfold oreL
      rw [ho]
      simp [oreLine]
theorem line3 (a b c : ByteArray) : lineL [a, b, c] = a.data.toList ++ 32 :: (b.data.toList ++ 32 :: (c.data.toList ++ [10])) := by simp [lineL, Lib.join_cons, Lib.joinTail]
theorem spot_text (l : List UInt8) (w : ByteArray) (x y a : Int) (ws : ByteArray) (hw : ws = w ++ ⟨#[32]⟩) : bytesOf l ++ ws ++ (itoaB x ++ ⟨#[32]⟩ ++ itoaB y ++ ⟨#[32]⟩) ++ itoaB a ++ ⟨#[10]⟩ = bytesOf (l ++ lineL [w, whereB x y, itoaB a]) := by
  subst hw
  apply bytes_ext
  rw [line3, bytesOf_toList]
  simp [ByteArray.data_append, whereB, blankB, bytesOf]
theorem oreF_len (x y : Int) (s : SSpot) (hx : 0 ≤ x ∧ x ≤ 9) (hy : 0 ≤ y ∧ y ≤ 9) (hs : 0 ≤ s.amount ∧ s.amount ≤ 99) : (oreF x y s).length ≤ 1000 := by
  unfold oreF
  split
  · have := line_len [wOre, whereB x y, itoaB s.amount] 50 (fun z hz => by
      simp at hz
      rcases hz with rfl | rfl | rfl
      · decide
      · exact whereB_size x y hx hy
      · have := itoaB_size s.amount (by omega); omega)
    simp at this
    unfold oreLine
    omega
  · simp

end Go.Proofs.YtlafddeoheambaaDoor

/-
  The next lot in the order of names, said plainly.
-/
namespace Go.Proofs.YtlafddeoheambaaDoor
open Go.RowKit

theorem gtr_str (t : TypeId) (a b : ByteArray) : binOp .gtr t (.string a) (.string b) = pure (.bool (ltB b a)) := by
  have e : (!(Op.bytesLess a.toList b.toList || a.toList == b.toList)) = ltB b a := by
    unfold ltB
    cases h1 : Op.bytesLess a.toList b.toList
    · cases h2 : Op.bytesLess b.toList a.toList
      · have := bl_tri _ _ h1 h2
        simp [this]
      · have : a.toList ≠ b.toList := fun e => by rw [e, bl_irrefl] at h2; cases h2
        simp [this]
    · simp [bl_asymm _ _ h1]
  rw [← e]
  simp [binOp, Op.stringOp]
theorem lt_empty {a : ByteArray} (h : a ≠ emptyB) : ltB emptyB a = true := by
  refine ltB_gt h ?_
  unfold ltB
  have e : emptyB.toList = [] := by rw [Lib.toList_data]; rfl
  rw [e]
  cases h' : a.toList <;> rfl
/-- The name behind which the next one is looked for. -/
def lastN (s : List SLot) (j : Nat) : ByteArray := match j with
  | 0 => emptyB
  | j + 1 => match s[j]? with
    | none => emptyB
    | some l => l.name
/-- Of the first i lots the best one behind a name. -/
structure BestTo (ls : List SLot) (last : ByteArray) (i : Nat) (best : Int) : Prop where
  no : best < 0 → best = -1 ∧ ∀ t l, t < i → ls[t]? = some l → ltB last l.name = false
  is : 0 ≤ best → ∃ l, ls[best.toNat]? = some l ∧ best.toNat < i ∧ ltB last l.name = true ∧ ∀ t l', t < i → ls[t]? = some l' → ltB last l'.name = true → ltB l'.name l.name = false
theorem BestTo.zero (ls : List SLot) (last : ByteArray) : BestTo ls last 0 (-1) := ⟨fun _ => ⟨rfl, fun t l h => absurd h (Nat.not_lt_zero _)⟩, fun h => by omega⟩
theorem BestTo.skip {ls : List SLot} {last : ByteArray} {i : Nat} {best : Int} (h : BestTo ls last i best) {l : SLot} (hl : ls[i]? = some l) (hs : ltB last l.name = false ∨ ∃ m, 0 ≤ best ∧ ls[best.toNat]? = some m ∧ ltB l.name m.name = false) : BestTo ls last (i + 1) best := by
  refine ⟨fun h0 => ?_, fun h0 => ?_⟩
  · obtain ⟨e, h1⟩ := h.no h0
    refine ⟨e, fun t l' ht hl' => ?_⟩
    by_cases e' : t = i
    · subst e'
      rw [hl] at hl'
      injection hl' with hl'
      subst hl'
      rcases hs with hs | ⟨m, hb, _⟩
      · exact hs
      · omega
    · exact h1 t l' (by omega) hl'
  · obtain ⟨m, h1, h2, h3, h4⟩ := h.is h0
    refine ⟨m, h1, by omega, h3, fun t l' ht hl' hlt => ?_⟩
    by_cases e' : t = i
    · subst e'
      rw [hl] at hl'
      injection hl' with hl'
      subst hl'
      rcases hs with hs | ⟨m', _, hm', hs⟩
      · rw [hs] at hlt; cases hlt
      · rw [h1] at hm'
        injection hm' with hm'
        subst hm'
        exact hs
    · exact h4 t l' (by omega) hl' hlt
theorem BestTo.take {ls : List SLot} {last : ByteArray} {i : Nat} {best : Int} (h : BestTo ls last i best) {l : SLot} (hl : ls[i]? = some l) (hs : ltB last l.name = true) (hb : best < 0 ∨ ∃ m, ls[best.toNat]? = some m ∧ ltB l.name m.name = true) : BestTo ls last (i + 1) i := by
  refine ⟨fun h0 => by omega, fun _ => ⟨l, by simpa using hl, by simp, hs, fun t l' ht hl' hlt => ?_⟩⟩
  by_cases e' : t = i
  · subst e'
    rw [hl] at hl'
    injection hl' with hl'
    subst hl'
    exact ltB_irrefl _
  · by_cases h0 : best < 0
    · rw [(h.no h0).2 t l' (by omega) hl'] at hlt
      cases hlt
    · obtain ⟨m, h1, h2, h3, h4⟩ := h.is (by omega)
      rcases hb with hb | ⟨m', hm', hb⟩
      · exact absurd hb h0
      · rw [h1] at hm'
        injection hm' with hm'
        subst hm'
        have h5 := h4 t l' (by omega) hl' hlt
        cases h6 : ltB l'.name l.name
        · rfl
        · rw [ltB_trans h6 hb] at h5
          cases h5
/-- What the search ends with. -/
theorem best_none {ls : List SLot} {j : Nat} (ha : Apart ls) (hn : ∀ l ∈ ls, l.name ≠ emptyB) (hj : j ≤ (sortL ls).length) {best : Int} (h : BestTo ls (lastN (sortL ls) j) ls.length best) (h0 : best < 0) : j = (sortL ls).length := by
  by_cases hlt : j < (sortL ls).length
  · exfalso
    have hm := (sortL_mem ls (sortL ls)[j]).1 (List.getElem_mem hlt)
    obtain ⟨t, ht⟩ := List.getElem?_of_mem hm
    have h1 := (h.no h0).2 t _ (at_some ht).1 ht
    have h2 : ltB (lastN (sortL ls) j) (sortL ls)[j].name = true := by
      cases j with
      | zero => exact lt_empty (hn _ hm)
      | succ j =>
        have e : (sortL ls)[j]? = some ((sortL ls)[j]'(by omega)) := by simp [show j < (sortL ls).length by omega]
        simp only [lastN, e]
        exact List.pairwise_iff_getElem.1 (sortL_asc ha) j (j + 1) (by omega) hlt (by omega)
    rw [h2] at h1
    cases h1
  · omega
theorem apart_eq {ls : List SLot} (ha : Apart ls) {a b : SLot} (h1 : a ∈ ls) (h2 : b ∈ ls) (h : a.name = b.name) : a = b := by
  obtain ⟨i, hi, rfl⟩ := List.mem_iff_getElem.1 h1
  obtain ⟨k, hk, rfl⟩ := List.mem_iff_getElem.1 h2
  have hp := List.pairwise_iff_getElem.1 ha
  rcases Nat.lt_trichotomy i k with h' | h' | h'
  · exact absurd h (hp i k hi hk h')
  · subst h'; rfl
  · exact absurd h.symm (hp k i hk hi h')
theorem best_next {ls : List SLot} {j : Nat} (ha : Apart ls) (hn : ∀ l ∈ ls, l.name ≠ emptyB) (hj : j ≤ (sortL ls).length) {best : Int} (h : BestTo ls (lastN (sortL ls) j) ls.length best) (h0 : 0 ≤ best) : ∃ l, ls[best.toNat]? = some l ∧ (sortL ls)[j]? = some l := by
  obtain ⟨l, h1, h2, h3, h4⟩ := h.is h0
  refine ⟨l, h1, ?_⟩
  have hasc := sortL_asc ha
  have hml := List.mem_of_getElem? h1
  obtain ⟨k, hk⟩ := List.getElem?_of_mem ((sortL_mem ls l).2 hml)
  obtain ⟨hkl, ek⟩ := at_some hk
  have hp := List.pairwise_iff_getElem.1 hasc
  -- it stands at j or behind
  have hjk : j ≤ k := by
    cases j with
    | zero => omega
    | succ j =>
      have e : (sortL ls)[j]? = some ((sortL ls)[j]'(by omega)) := by simp [show j < (sortL ls).length by omega]
      simp only [lastN, e] at h3
      rcases Nat.lt_trichotomy k j with h' | h' | h'
      · have := hp k j hkl (by omega) h'
        rw [ek] at this
        rw [ltB_asymm this] at h3
        cases h3
      · subst h'
        rw [ek, ltB_irrefl] at h3
        cases h3
      · omega
  by_cases hlt : j < k
  · exfalso
    have hjl : j < (sortL ls).length := by omega
    have hm := (sortL_mem ls (sortL ls)[j]).1 (List.getElem_mem hjl)
    obtain ⟨t, ht⟩ := List.getElem?_of_mem hm
    have h5 := h4 t _ (at_some ht).1 ht (by
      cases j with
      | zero => exact lt_empty (hn _ hm)
      | succ j =>
        have e : (sortL ls)[j]? = some ((sortL ls)[j]'(by omega)) := by simp [show j < (sortL ls).length by omega]
        simp only [lastN, e]
        exact hp j (j + 1) (by omega) hjl (by omega))
    have h6 := hp j k hjl hkl hlt
    rw [ek] at h6
    rw [h6] at h5
    cases h5
  · have e : j = k := by omega
    rw [e]
    exact hk
end Go.Proofs.YtlafddeoheambaaDoor

/-
  The function ordered of package hazeref: the open lots in the order of their names.
-/
namespace Go.Proofs.YtlafddeoheambaaDoor
open Go.RowKit

theorem gtr_val (a b : ByteArray) : (!(Op.bytesLess a.toList b.toList || a.toList == b.toList)) = ltB b a := by
  unfold ltB
  cases h1 : Op.bytesLess a.toList b.toList
  · cases h2 : Op.bytesLess b.toList a.toList
    · have := bl_tri _ _ h1 h2
      simp [this]
    · have : a.toList ≠ b.toList := fun e => by rw [e, bl_irrefl] at h2; cases h2
      simp [this]
  · simp [bl_asymm _ _ h1]
/-- The same memory; draws may have been made. -/
structure SameW (w w' : World) : Prop where
  h : w'.heap = w.heap
  os : w'.os = w.os
  tape : w'.tape = w.tape
  output : w'.output = w.output
theorem SameW.refl (w : World) : SameW w w := ⟨rfl, rfl, rfl, rfl⟩
theorem SameW.drewN {w w' : World} (h : SameW w w') (n : Nat) : SameW w (w'.drewN n) := ⟨h.h, h.os, h.tape, h.output⟩
theorem SameW.below {w w' : World} (h : SameW w w') (B : Nat) : Below B w w' := ⟨h.os, h.tape, h.output, by rw [h.h]; exact Nat.le_refl _, fun k _ => by rw [h.h]⟩
theorem SameW.cell {w w' : World} (h : SameW w w') (a : Addr) : w'.cell? a = w.cell? a := World.cell?_of_block (w := w) (a := a) (by rw [h.h])
def lenOf : Value → Nat
  | .slice _ n _ => n
  | _ => 0
theorem lot_cells {w : World} {ls : List SLot} {ao : Option Addr} {g : Nat} (rd : Rd w 3 ao g ls.length (ls.flatMap lotCells)) {k : Nat} {l : SLot} (hl : ls[k]? = some l) : w.cell? ⟨g, k * 3, none⟩ = some (.string l.name) ∧ w.cell? ⟨g, k * 3 + 1, none⟩ = some (.int .i64 l.least) ∧ w.cell? ⟨g, k * 3 + 2, none⟩ = some (.int .i64 l.ends) := by
  obtain ⟨hk, rfl⟩ := at_some hl
  have f := fun j (hj : j < 3) => flat_at lotCells 3 (fun _ => rfl) ls k j hk hj
  exact ⟨rd.cell _ _ (f 0 (by omega)), rd.cell _ _ (f 1 (by omega)), rd.cell _ _ (f 2 (by omega))⟩
theorem own_nil {w : World} (base : Nat) (e : TypeId) (size : Nat) : w.ownsRow base e size (.slice none 0 0) 0 [] := World.ownsRow_nil _ _ _ _

end Go.Proofs.YtlafddeoheambaaDoor

/-
  The function View of package hazeref.
-/
namespace Go.Proofs.YtlafddeoheambaaDoor
open Go.RowKit

theorem tick_text (now money : Int) : (⟨#[116, 105, 99, 107, 32]⟩ : ByteArray) ++ itoaB now ++ ⟨#[32, 109, 111, 110, 101, 121, 32]⟩ ++ itoaB money ++ ⟨#[10]⟩ = bytesOf (tickL now money) := by
  apply bytes_ext
  unfold tickL
  rw [line4, bytesOf_toList]
  simp [ByteArray.data_append, wTick, wMoney]
theorem head_ext (h : Nat) (hh : h ≤ 3) : (⟨#[101, 110, 119, 115]⟩ : ByteArray).extract h (h + 1) = letterB h := by
  rcases (show h = 0 ∨ h = 1 ∨ h = 2 ∨ h = 3 by omega) with rfl | rfl | rfl | rfl <;> decide +kernel
theorem line6 (a b c d e f : ByteArray) : lineL [a, b, c, d, e, f] = a.data.toList ++ 32 :: (b.data.toList ++ 32 :: (c.data.toList ++ 32 :: (d.data.toList ++ 32 :: (e.data.toList ++ 32 :: (f.data.toList ++ [10]))))) := by simp [lineL, Lib.join_cons, Lib.joinTail]
theorem line8 (a b c d e f g h : ByteArray) : lineL [a, b, c, d, e, f, g, h] = a.data.toList ++ 32 :: (b.data.toList ++ 32 :: (c.data.toList ++ 32 :: (d.data.toList ++ 32 :: (e.data.toList ++ 32 :: (f.data.toList ++ 32 :: (g.data.toList ++ 32 :: (h.data.toList ++ [10]))))))) := by simp [lineL, Lib.join_cons, Lib.joinTail]
theorem unit_text (l : List UInt8) (u : SUnit) (h : Nat) (hh : u.head = h) (h3 : h ≤ 3) :
    bytesOf l ++ ⟨#[117, 110, 105, 116, 32]⟩ ++ u.name ++ ⟨#[32]⟩ ++ itoaB u.x ++ ⟨#[32]⟩ ++ itoaB u.y ++ ⟨#[32]⟩ ++ (⟨#[101, 110, 119, 115]⟩ : ByteArray).extract h (h + 1) ++ ⟨#[32, 99, 97, 114, 103, 111, 32]⟩ ++ itoaB u.cargo ++ ⟨#[10]⟩ = bytesOf (l ++ unitL u) := by
  rw [head_ext h h3]
  apply bytes_ext
  unfold unitL
  rw [line6, bytesOf_toList, hh]
  simp [ByteArray.data_append, wUnit, wCargo, whereB, blankB, bytesOf]
theorem lot_text (l : List UInt8) (s : SLot) (bid : Int) (hb : 0 < bid) :
    bytesOf l ++ ⟨#[108, 111, 116, 32]⟩ ++ s.name ++ ⟨#[32, 117, 110, 116, 105, 108, 32]⟩ ++ itoaB s.ends ++ ⟨#[32, 108, 101, 97, 115, 116, 32]⟩ ++ itoaB s.least ++ ⟨#[32, 98, 105, 100, 32]⟩ ++ itoaB bid ++ ⟨#[10]⟩ = bytesOf (l ++ lineL (lotWs bid s)) := by
  unfold lotWs
  rw [if_pos hb]
  apply bytes_ext
  show _ = (bytesOf (l ++ lineL [wLot, s.name, wUntil, itoaB s.ends, wLeast, itoaB s.least, wBid, itoaB bid])).data.toList
  rw [line8, bytesOf_toList]
  simp [ByteArray.data_append, wLot, wUntil, wLeast, wBid, bytesOf]
theorem lot_text0 (l : List UInt8) (s : SLot) (bid : Int) (hb : ¬ 0 < bid) :
    bytesOf l ++ ⟨#[108, 111, 116, 32]⟩ ++ s.name ++ ⟨#[32, 117, 110, 116, 105, 108, 32]⟩ ++ itoaB s.ends ++ ⟨#[32, 108, 101, 97, 115, 116, 32]⟩ ++ itoaB s.least ++ ⟨#[10]⟩ = bytesOf (l ++ lineL (lotWs bid s)) := by
  unfold lotWs
  rw [if_neg hb]
  apply bytes_ext
  show _ = (bytesOf (l ++ lineL [wLot, s.name, wUntil, itoaB s.ends, wLeast, itoaB s.least])).data.toList
  rw [line6, bytesOf_toList]
  simp [ByteArray.data_append, wLot, wUntil, wLeast, bytesOf]
theorem app_text (l : List UInt8) (b : ByteArray) : bytesOf l ++ b = bytesOf (l ++ b.data.toList) := by
  apply bytes_ext
  simp [ByteArray.data_append, bytesOf]
theorem app_bytes (l m : List UInt8) : bytesOf l ++ bytesOf m = bytesOf (l ++ m) := by
  apply bytes_ext
  simp [ByteArray.data_append, bytesOf]
/-- What is told of lots is short. -/
def NwP (p : SPlayer) : Prop := p.news.length ≤ 4 ∧ ∀ m ∈ p.news, m.size ≤ 3000000

end Go.Proofs.YtlafddeoheambaaDoor

/-
  Both worlds of a pair turn alike.
-/
namespace Go.Proofs.YtlafddeoheambaaDoor
open Go.RowKit

def tickC (s : SWorld) : Int := if s.now = 1000 then 6 else 0
def tickN (s : SWorld) : SWorld := if s.now = 1000 then s else tickS s
theorem GoodS.tickN {s : SWorld} (h : GoodS s) : GoodS (tickN s) := by
  unfold Proofs.YtlafddeoheambaaDoor.tickN
  split
  · exact h
  · exact h.tick (by have := h.now.2; omega)
theorem GoodS.allX {X : XW} (h : GoodS X.S) (ho : OkX X) : AllX X (100 + 1800 * X.S.now) := ⟨h.wf, ho, by have := h.lw; simpa [XW.S, Function.comp_def] using this⟩
theorem xtick_c (w : World) (X : XW) (hr : RepX w X) (ho : OkX X) (hg : GoodS X.S) (hN : NewsOK X) (hsl : SaleOK X.sales) :
    Calls Tryd.prog 10 #[.pointer (some ⟨X.b, 0, none⟩)] w fun e w' => e = .returned (.int .i64 (tickC X.S)) ∧ ∃ X', TurnX w X w' X' ∧ OkX X' ∧ X'.S = tickN X.S ∧ NewsOK X' ∧ SaleOK X'.sales := by
  unfold tickC tickN
  have hn := hg.now
  have e : X.S.now = X.now := rfl
  by_cases h : X.S.now = 1000
  · rw [if_pos h, if_pos h]
    refine (xtick_full w X hr h).mono ?_
    rintro e w' ⟨rfl, rfl⟩
    exact ⟨rfl, X, TurnX.refl hr, ho, rfl, hN, hsl⟩
  · rw [if_neg h, if_neg h]
    refine (xtick_with w X _ hr (hg.allX ho) (by omega) (by omega) (closeDone_nil ((tickTo_len X.S _).2.2.trans hg.lo))).mono ?_
    rintro e w' ⟨rfl, X', T, O, S, N⟩
    refine ⟨rfl, X', T, O, S, N, ?_⟩
    have h1 : 1 ≤ X'.pls.length := by
      have e1 : X'.S.players.length = X'.pls.length := by simp [XW.S]
      have e2 : (tickS X.S).players.length = X.S.players.length := by rw [tickS_nil hg.lo]; exact (tickTo_len X.S _).1
      have := hg.wf.pl
      rw [← e1, S, e2]
      omega
    rw [sale_nil N h1 (by rw [S, tickS_nil hg.lo]; exact tickTo_all X.S)]
    exact SaleOK.nil
theorem xorder_c (w : World) (X : XW) (n : Int) (t : ByteArray) (hr : RepX w X) (ho : OkX X) (hg : GoodS X.S) (hN : NewsOK X) (hsl : SaleOK X.sales) (hs : t.size ≤ 2000000) :
    Calls Tryd.prog 9 #[.pointer (some ⟨X.b, 0, none⟩), .int .i64 n, .string t] w fun e w' => e = .returned (.int .i64 (orderS X.S n t.data.toList).1) ∧ ∃ X', TurnX w X w' X' ∧ OkX X' ∧ X'.S = (orderS X.S n t.data.toList).2 ∧ NewsOK X' ∧ SaleOK X'.sales := by
  refine (xorder_any w X _ n t hr (hg.allX ho) (by have := hg.now.2; omega) hs).mono ?_
  rintro e w' ⟨rfl, X', T, O, S, L⟩
  exact ⟨rfl, X', T, O, S, hN.of (by rw [S]; exact order_news X.S n t.data.toList) L, by rw [L]; exact hsl⟩
theorem xview_c (w : World) (X : XW) (n : Int) (hr : RepX w X) (ht : Tab w) (ho : OkX X) (hg : GoodS X.S) (hN : NewsOK X) (hsl : SaleOK X.sales) :
    Calls Tryd.prog 27 #[.pointer (some ⟨X.b, 0, none⟩), .int .i64 n] w fun e w' => e = .returned (.tuple #[.string (viewS X.S n).1, .int .i64 (viewS X.S n).2]) ∧ Below w.heap.size w w' :=
  xview_any w X _ n hr ht (hg.allX ho) (by have := hg.now.2; omega) hg.now hg.nm hN hsl
theorem news_short {X : XW} (hN : NewsOK X) (hsl : SaleOK X.sales) : ∀ p ∈ X.S.players, NwP p := by
  intro p hp
  obtain ⟨i, hi⟩ := List.getElem?_of_mem hp
  simp only [XW.S, List.getElem?_map, Option.map_eq_some_iff] at hi
  obtain ⟨q, hq, rfl⟩ := hi
  have e := hN i q hq
  unfold NwP
  rw [e]
  refine ⟨by rw [List.length_map]; exact hsl.len, fun m hm => ?_⟩
  obtain ⟨s, hs, rfl⟩ := List.mem_map.1 hm
  have := hsl.each s hs
  exact newsB_size _ _ _ _ this.2.2.2.2 ⟨this.2.2.1, this.2.2.2.1⟩
end Go.Proofs.YtlafddeoheambaaDoor

/-
  A pair of worlds more.
-/
namespace Go.Proofs.YtlafddeoheambaaDoor
open Go.RowKit

def addPR (R : Nat → PRole) (fx fy : List Nat) (gr n : Nat) : Nat → PRole := fun r => if r ∈ fx then .x n else if r ∈ fy then .y n else if r = gr then .row else R r
def LW.add (L : LW) (X : XW) (Y : YW) (val : Value) (gr : Nat) : LW := { L with v := val, ps := L.ps ++ [(X, Y)], R := addPR L.R X.foot Y.foot gr L.ps.length }
theorem app_get {α : Type} {l : List α} {a c : α} {j : Nat} (h : (l ++ [a])[j]? = some c) : (j < l.length ∧ l[j]? = some c) ∨ (j = l.length ∧ c = a) := by
  by_cases hj : j < l.length
  · rw [List.getElem?_append_left hj] at h
    exact .inl ⟨hj, h⟩
  · rw [List.getElem?_append_right (by omega)] at h
    obtain ⟨h1, h2⟩ := at_some h
    simp at h1
    have h3 : j - l.length = 0 := by omega
    simp [h3] at h2
    exact .inr ⟨by omega, h2.symm⟩

theorem WFS.new {W H S : Int} {ore starts : List SSpot} (h : newB W H S ore starts = true) : WFS (newS W H S ore starts) 100 := by
  unfold newB at h
  simp only [Bool.and_eq_true, List.all_eq_true, decide_eq_true_eq] at h
  obtain ⟨⟨⟨⟨⟨⟨⟨hw, hh⟩, hs⟩, hst⟩, hor⟩, ha⟩, hb⟩, hc⟩ := h
  simp [inB] at hw hh hst
  obtain ⟨h1, _, _⟩ := apartGo_facts W H starts [] hb
  refine ⟨by simp [newS]; omega, hw, hh, hor, fun s hs => by have := hc s hs; simp [inB] at this; omega, ?_⟩
  intro p hp
  simp only [newS, List.mem_map] at hp
  obtain ⟨s, hs', rfl⟩ := hp
  have := h1 s hs'
  simp [okSpot, inB] at this
  refine ⟨by simp [firstP], ?_, ⟨by simp [firstP], by simp [firstP]⟩, by simp [firstP]⟩
  intro u hu
  simp only [firstP, List.mem_singleton] at hu
  subst hu
  exact ⟨by simp only [firstU, newS]; omega, by simp only [firstU, newS]; omega, by simp [firstU], by simp [firstU]⟩
theorem GoodS.new {W H S : Int} {ore starts : List SSpot} (h : newB W H S ore starts = true) : GoodS (newS W H S ore starts) := by
  refine ⟨⟨Int.le_refl _, by show (0 : Int) ≤ 1000; omega⟩, (WFS.new h).mono (by simp [newS]), LotWF.nil _ ?_, rfl, NmS.new⟩
  intro b hb
  simp only [newS, List.map_map, List.mem_map] at hb
  obtain ⟨s, _, rfl⟩ := hb
  rfl
theorem news_new {X : XW} {W H S : Int} {ore starts : List SSpot} (h : X.S = newS W H S ore starts) (hs : X.sales = []) : NewsOK X := by
  intro i q hq
  rw [hs]
  have e : X.S.players[i]? = some q.1 := by simp [XW.S, hq]
  rw [h] at e
  have := List.mem_of_getElem? e
  simp only [newS, List.mem_map] at this
  obtain ⟨s, _, e'⟩ := this
  rw [← e']
  rfl

/-- What is lent, handed in. -/
theorem lent_in {w : World} {g : Nat} {l : List SSpot} (h : w.ownsRow 0 49 3 (.slice (some ⟨g, 0, none⟩) (l.length + 2) (l.length + 2)) (l.length + 2) ((lentL l).flatMap spotCells)) : SpIn w (.slice (some ⟨g, 0, none⟩) l.length (l.length + 2)) l := by
  refine ⟨some ⟨g, 0, none⟩, l.length + 2, rfl, fun _ => ⟨g, 0, rfl, own_lt h g (by simp [blk_slice]), fun j u hu => ?_⟩⟩
  rw [Nat.zero_add]
  refine own_cell h ?_
  have e : (lentL l).flatMap spotCells = l.flatMap spotCells ++ [(⟨77, 0, 0⟩ : SSpot), ⟨78, 0, 0⟩].flatMap spotCells := by simp [lentL]
  rw [e, List.getElem?_append_left (at_some hu).1]
  exact hu
theorem nil_in (w : World) : SpIn w (.slice none 0 0) [] := ⟨none, 0, rfl, fun h => absurd h (by simp)⟩
end Go.Proofs.YtlafddeoheambaaDoor
