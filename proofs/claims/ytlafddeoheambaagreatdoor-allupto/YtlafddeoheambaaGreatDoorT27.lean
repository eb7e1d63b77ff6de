/-
  The function tellNear of package haze.
-/
import Derived.Test.YtlafddeoheambaaGreatDoorT26
import Derived.Test.YtlafddeoheambaaGreatDoorT07
import Derived.Test.YtlafddeoheambaaGreatDoorT14
import Derived.Test.YtlafddeoheambaaGreatDoorT18
import Derived.Test.YtlafddeoheambaaGreatDoorT20
set_option linter.unusedVariables false
namespace Go.Proofs.YtlafddeoheambaaGreatDoor
open Go.RowKit

theorem seenL_len (s : SWorld) (n : Nat) (us : List SUnit) (x y : Int) (hx : 0 ≤ x ∧ x ≤ 9) (hy : 0 ≤ y ∧ y ≤ 9) (ho : ∀ t ∈ s.ore, 0 ≤ t.amount ∧ t.amount ≤ 99) (hp : s.players.length ≤ 4) : (seenL s n us x y).length ≤ 2000 := by
  unfold seenL
  split
  · have h1 := oreL_len s.ore x y hx hy ho
    have h2 := otherL_len s.players n x y hx hy hp
    unfold spotL
    rw [List.length_append]
    omega
  · simp
theorem rowTo_len (s : SWorld) (n : Nat) (us : List SUnit) (y : Int) (k : Nat) (hk : k ≤ 10) (hy : 0 ≤ y ∧ y ≤ 9) (ho : ∀ t ∈ s.ore, 0 ≤ t.amount ∧ t.amount ≤ 99) (hp : s.players.length ≤ 4) : (rowTo s n us y k).length ≤ 20000 := by
  have := flat_len (fun (x : Nat) => seenL s n us x y) (List.range k) 2000 (fun x hx => by
    have := List.mem_range.1 hx
    exact seenL_len s n us x y (by omega) hy ho hp)
  rw [List.length_range] at this
  unfold rowTo
  omega
theorem rowsTo_len (s : SWorld) (n : Nat) (us : List SUnit) (k : Nat) (hk : k ≤ 10) (hw : s.width.toNat ≤ 10) (ho : ∀ t ∈ s.ore, 0 ≤ t.amount ∧ t.amount ≤ 99) (hp : s.players.length ≤ 4) : (rowsTo s n us k).length ≤ 200000 := by
  have := flat_len (fun (y : Nat) => rowTo s n us y s.width.toNat) (List.range k) 20000 (fun y hy => by
    have := List.mem_range.1 hy
    exact rowTo_len s n us y _ hw (by omega) ho hp)
  rw [List.length_range] at this
  unfold rowsTo
  omega

set_option maxRecDepth 100000 in
set_option maxHeartbeats 8000000 in
theorem tellNear_any (w0 w : World) (X : XW) (M : Int) (n : Nat) (p : SPlayer) (v : XV) (b : Nat) (l : List UInt8) (hV : VW w0 b l w) (hr : RepX w0 X) (ht : Tab w0) (hA : AllX X M) (hq : X.pls[n]? = some (p, v)) (hl : l.length ≤ 1000000000) :
    Calls Tryz.prog 77 #[.pointer (some ⟨X.b, 0, none⟩), .pointer (some ⟨b, 0, none⟩), .int .i64 n] w fun e w' => e = .returned (.tuple #[]) ∧ VW w0 b (l ++ rowsTo X.S n p.units X.S.height.toNat) w' := by
  have hpl : X.S.players.length = X.pls.length := by simp [XW.S]
  have h4 := hA.wf.pl
  rw [hpl] at h4
  obtain ⟨hn, _⟩ := at_some hq
  have hn2 : (n : Int) < X.pls.length := by omega
  have pk := hA.wf.each p (List.mem_of_getElem? (XS_at hq))
  have hwd : X.S.width = X.width := rfl
  have hht : X.S.height = X.height := rfl
  have bw := hA.wf.wd
  have bh := hA.wf.ht
  rw [hwd] at bw
  rw [hht] at bh ⊢
  have hub : ∀ u ∈ p.units, (0 ≤ u.x ∧ u.x ≤ 9) ∧ (0 ≤ u.y ∧ u.y ≤ 9) := fun u hu => by
    have uk := pk.each u hu
    have ux := uk.x
    have uy := uk.y
    rw [hwd] at ux
    rw [hht] at uy
    omega
  obtain ⟨W, hW⟩ : ∃ W : Nat, X.width = W := ⟨X.width.toNat, by omega⟩
  obtain ⟨H, hH⟩ : ∃ H : Nat, X.height = H := ⟨X.height.toNat, by omega⟩
  obtain ⟨pb, pcap, hvp, hpc, hpm⟩ := hr.plForm h4.1
  unfold maxLen at hpm
  have HR : Hid (∀ wx, Below w0.heap.size w0 wx → RepX wx X) := fun wx h => hr.below h
  have HCs : Hid (∀ (lx : List UInt8) wx, Hid (VW w0 b lx wx) → wx.cell? ⟨X.b, 1, none⟩ = some (.int .i64 W) ∧ wx.cell? ⟨X.b, 2, none⟩ = some (.int .i64 H) ∧ wx.cell? ⟨X.b, 3, none⟩ = some (.int .i64 X.sight) ∧ wx.cell? ⟨X.b, 6, none⟩ = some (.slice (some ⟨pb, 0, none⟩) X.pls.length pcap)) := fun lx wx h => by
    have r := HR.out wx h.out.bl
    refine ⟨?_, ?_, r.cellTop rfl, ?_⟩
    · rw [← hW]; exact r.cellTop rfl
    · rw [← hH]; exact r.cellTop rfl
    · rw [← hvp]; exact r.cellTop rfl
  have HNe : Hid (∀ (lx : List UInt8) (x y : Int) (wx : World), Hid (VW w0 b lx wx) → (0 ≤ x ∧ x ≤ 9) → (0 ≤ y ∧ y ≤ 9) → ∀ wy : World, wy.heap = wx.heap → Calls Tryz.prog 116 #[.pointer (some ⟨pb, n * 2, none⟩), .complex .f64 (flI x) (flI y), .int .i64 X.sight] wy fun e w' => e = .returned (.bool (seesB p.units X.sight x y)) ∧ w' = wy) := fun lx x y wx h hx hy wy e => by
    have r := (HR.out wx h.out.bl).heapEq e
    exact near_any pb (n * 2) (p, v) x y X.sight wy (r.plCell hq hvp).2 (r.each n _ hq) hx hy hub
  have HTs : Hid (∀ (lx : List UInt8) (x y : Int) (wx : World), Hid (VW w0 b lx wx) → (0 ≤ x ∧ x ≤ 9) → (0 ≤ y ∧ y ≤ 9) → lx.length ≤ 10000000000 → Calls Tryz.prog 117 #[.pointer (some ⟨X.b, 0, none⟩), .pointer (some ⟨b, 0, none⟩), .int .i64 n, .complex .f64 (flI x) (flI y)] wx fun e w' => e = .returned (.tuple #[]) ∧ Hid (VW w0 b (lx ++ spotL X.S n x y) w')) := fun lx x y wx h hx hy hl => tellSpot_any w0 wx X n b lx x y h.out hr ht hA.ok hx hy hA.wf.ora h4.2 hl
  have HRl : Hid (∀ (k : Nat), k ≤ 10 → (rowsTo X.S n p.units k).length ≤ 200000) := fun k hk => rowsTo_len X.S n p.units k hk (by rw [hwd]; omega) hA.wf.ora (by rw [hpl]; exact h4.2)
  have HRo : Hid (∀ (y : Int) (k : Nat), k ≤ 10 → (0 ≤ y ∧ y ≤ 9) → (rowTo X.S n p.units y k).length ≤ 20000) := fun y k hk hy => rowTo_len X.S n p.units y k hk hy hA.wf.ora (by rw [hpl]; exact h4.2)
  have HWt : Hid (X.S.width.toNat = W) := by unfold Hid; rw [hwd, hW]; simp
  have V0 := hidOf hV
  obtain ⟨c1, c2, c3, c6⟩ := HCs.out _ _ V0
  have eH : X.height.toNat = H := by rw [hH]; simp
  rw [eH]
  have bW : 3 ≤ W ∧ W ≤ 10 := by omega
  have bH : 3 ≤ H ∧ H ≤ 10 := by omega
  clear hV hr ht hA hq hvp pk hub hpl hW hH bw bh hwd hht eH
  go_enter Tryz.func77, Tryz.ntmps77
  go_wp2_with fail
  go_loopw [6, 7, 8, 14] (fun _ _ _ i w' => ∃ k : Nat, k ≤ H ∧ i = .int .i64 k ∧ Hid (VW w0 b (l ++ rowsTo X.S n p.units k) w')) (fun _ _ _ i _ => H + 1 - (intOf i).toNat)
  case atStart => exact ⟨0, Nat.zero_le _, rfl, by simpa [rowsTo] using V0⟩
  case round =>
    clear c1 c2 c3 c6 V0
    obtain ⟨k, hk, rfl, Vk⟩ := hrel
    by_cases hlt : k < H
    · have hlt' : (k : Int) < (H : Int) := by omega
      have hlk : (l ++ rowsTo X.S n p.units k).length ≤ 2000000000 := by have := HRl.out k (by omega); rw [List.length_append]; omega
      have HF : Hid (l ++ rowsTo X.S n p.units (k + 1) = (l ++ rowsTo X.S n p.units k) ++ rowTo X.S n p.units k W) := by unfold Hid; rw [rowsTo_succ, HWt.out, List.append_assoc]
      obtain ⟨lk, hlke⟩ : ∃ lk, lk = l ++ rowsTo X.S n p.units k := ⟨_, rfl⟩
      rw [← hlke] at Vk hlk HF
      clear hlke
      obtain ⟨c1, c2, c3, c6⟩ := HCs.out _ _ Vk
      go_wp2_with fail
      go_loopw [7, 8, 22] (fun _ _ i w' => ∃ j : Nat, j ≤ W ∧ i = .int .i64 j ∧ Hid (VW w0 b (lk ++ rowTo X.S n p.units k j) w')) (fun _ _ i _ => W + 1 - (intOf i).toNat)
      case atStart => exact ⟨0, Nat.zero_le _, rfl, by simpa [rowTo] using Vk⟩
      case round =>
        clear c1 c2 c3 c6 Vk
        obtain ⟨j, hj, rfl, Vj⟩ := hrel
        by_cases hjt : j < W
        · have hjt' : (j : Int) < (W : Int) := by omega
          have hlj : (lk ++ rowTo X.S n p.units k j).length ≤ 3000000000 := by have := HRo.out k j (by omega) (by omega); rw [List.length_append]; omega
          have HFj : Hid (lk ++ rowTo X.S n p.units k (j + 1) = (lk ++ rowTo X.S n p.units k j) ++ seenL X.S n p.units j k) := by unfold Hid; rw [rowTo_succ, List.append_assoc]
          obtain ⟨lj, hlje⟩ : ∃ lj, lj = lk ++ rowTo X.S n p.units k j := ⟨_, rfl⟩
          rw [← hlje] at Vj hlj HFj
          clear hlje
          obtain ⟨c1, c2, c3, c6⟩ := HCs.out _ _ Vj
          have bx : (0 : Int) ≤ (j : Int) ∧ (j : Int) ≤ 9 := by omega
          have bY : (0 : Int) ≤ (k : Int) ∧ (k : Int) ≤ 9 := by omega
          have HNj := hidOf (HNe.out lj (j : Int) (k : Int) wr Vj bx bY)
          have HSl : Hid (seenL X.S n p.units j k = if seesB p.units X.sight j k then spotL X.S n j k else []) := rfl
          cases hs : seesB p.units X.sight (j : Int) (k : Int)
          · rw [hs] at HNj HSl
            have HZ : Hid (lk ++ rowTo X.S n p.units k (j + 1) = lj) := by unfold Hid; rw [HFj.out, HSl.out]; simp
            clear hs HFj HSl
            go_wp2_with (go_at_call 58; refine (at_any _ _ _).mono ?_; rintro e w' ⟨rfl, h⟩; rw [h]; clear h w')
            go_quiet ((go_at_call 116; exact Calls.quiet_of_same (HNj.out _ rfl)))
            go_wp2
            refine ⟨⟨j + 1, by omega, by go_num, ?_⟩, by simp [intOf]; omega⟩
            unfold Hid
            rw [HZ.out]
            exact Vj.out.at ⟨rfl, rfl, rfl, Nat.le_refl _, fun _ _ => rfl⟩
          · rw [hs] at HNj HSl
            have HZ : Hid (lk ++ rowTo X.S n p.units k (j + 1) = lj ++ spotL X.S n j k) := by unfold Hid; rw [HFj.out, HSl.out]; simp
            clear hs HFj HSl
            go_wp2_with (go_at_call 58; refine (at_any _ _ _).mono ?_; rintro e w' ⟨rfl, h⟩; rw [h]; clear h w')
            go_quiet ((go_at_call 116; exact Calls.quiet_of_same (HNj.out _ rfl)))
            have Vq : Hid (VW w0 b lj (wr.drewN nq)) := Vj.out.at ⟨rfl, rfl, rfl, Nat.le_refl _, fun _ _ => rfl⟩
            go_wp2_with (go_at_call 117; refine (HTs.out lj _ _ _ Vq bx bY (by omega)).mono ?_; rintro e w1 ⟨rfl, V1⟩)
            refine ⟨⟨j + 1, by omega, by go_num, ?_⟩, by simp [intOf]; omega⟩
            unfold Hid
            rw [HZ.out]
            exact V1.out
        · have hjt' : decide ((j : Int) < (W : Int)) = false := decide_eq_false (by omega)
          have hjw : j = W := by omega
          have Vz : Hid (VW w0 b (l ++ rowsTo X.S n p.units (k + 1)) wr) := by unfold Hid; rw [HF.out, ← hjw]; exact Vj.out
          clear hjw Vj
          go_wp2
          exact ⟨⟨k + 1, by omega, by go_num, Vz⟩, by simp [intOf]; omega⟩
    · have hlt' : decide ((k : Int) < (H : Int)) = false := decide_eq_false (by omega)
      have hkh : k = H := by omega
      have Vz : Hid (VW w0 b (l ++ rowsTo X.S n p.units H) wr) := by rw [hkh] at Vk; exact Vk
      clear hkh Vk
      go_wp2
      go_end0
      exact ⟨rfl, Vz.out⟩
end Go.Proofs.YtlafddeoheambaaGreatDoor

/-
  The functions tellOpen and tellClosed of package haze.
-/
namespace Go.Proofs.YtlafddeoheambaaGreatDoor
open Go.RowKit

/-- What holds of the lots that closed. -/
structure SaleOK (l : List XSale) : Prop where
  len : l.length ≤ 4
  each : ∀ s ∈ l, -1 ≤ s.who ∧ s.who ≤ 4 ∧ 0 ≤ s.price ∧ s.price ≤ 100000 ∧ s.name.size ≤ 2000000
def saleL (n : Nat) (s : XSale) : List UInt8 := if s.who = n then lineL [wWon, s.name, wFor, itoaB s.price] else if s.who = -1 then lineL [wPassed, s.name] else lineL [wSold, s.name]
theorem saleL_len (n : Nat) (s : XSale) (h : 0 ≤ s.price ∧ s.price ≤ 100000 ∧ s.name.size ≤ 2000000) : (saleL n s).length ≤ 20000000 := by
  unfold saleL
  split
  · have := line_len [wWon, s.name, wFor, itoaB s.price] 2000000 (fun x hx => by
      simp at hx
      rcases hx with rfl | rfl | rfl | rfl
      · decide
      · exact h.2.2
      · decide
      · have := itoaB_size s.price (by omega); omega)
    simp at this
    omega
  · split
    · have := line_len [wPassed, s.name] 2000000 (fun x hx => by
        simp at hx
        rcases hx with rfl | rfl
        · decide
        · exact h.2.2)
      simp at this
      omega
    · have := line_len [wSold, s.name] 2000000 (fun x hx => by
        simp at hx
        rcases hx with rfl | rfl
        · decide
        · exact h.2.2)
      simp at this
      omega
/-- The Builder, and a block of one's own besides. -/
structure VB (w0 : World) (b : Nat) (l : List UInt8) (g : Nat) (o : Obj) (w : World) : Prop where
  v : VW w0 b l w
  o : w.heap[g]? = some o
theorem VB.at {w0 w w' : World} {b g : Nat} {l : List UInt8} {o : Obj} (h : VB w0 b l g o w) (hb : Below w.heap.size w w') : VB w0 b l g o w' := ⟨h.v.at hb, by rw [hb.block _ (lt_of_some h.o)]; exact h.o⟩
theorem VW.lt {w0 w : World} {b : Nat} {l : List UInt8} (h : VW w0 b l w) : b < w.heap.size := by
  rcases h.bd with ⟨_, v, hb, _⟩ | ⟨_, v, hb, _⟩ <;> exact lt_of_some hb
theorem tell_new2 (w0 w w1 : World) (b : Nat) (l : List UInt8) (xs : List ByteArray) (cs : Array Value) (n : Nat) (h : VW w0 b l w) (hb : Below w.heap.size w w1) (hcs : cs = (xs.map (fun x => Value.string x)).toArray) (hn : n = xs.length) (hx : (lineL xs).length ≤ 1000000000) (hl : l.length ≤ 100000000000) (hn' : xs.length ≤ 100) :
    Calls Tryz.prog 113 #[.pointer (some ⟨b, 0, none⟩), .slice (some ⟨w1.heap.size, 0, none⟩) n n] (w1.alloc (.cells cs 9)) fun e w' => e = .returned (.tuple #[]) ∧ VW w0 b (l ++ lineL xs) w' := tell_new w0 w1 b l xs cs n (h.at hb) hcs hn hx hl hn'

set_option maxRecDepth 100000 in
set_option maxHeartbeats 8000000 in
theorem tellClosed_any (w0 w : World) (X : XW) (n : Nat) (b : Nat) (l : List UInt8) (hV : VW w0 b l w) (hr : RepX w0 X) (ht : Tab w0) (hs : SaleOK X.sales) (hn4 : n ≤ 4) (hl : l.length ≤ 10000000000) :
    Calls Tryz.prog 79 #[.pointer (some ⟨X.b, 0, none⟩), .pointer (some ⟨b, 0, none⟩), .int .i64 n] w fun e w' => e = .returned (.tuple #[]) ∧ VW w0 b (l ++ X.sales.flatMap (saleL n)) w' := by
  obtain ⟨ao, g, cap, hv, hcap, hmax, rd⟩ := own_rd hr.lot.2
  have r0 := hr.below hV.bl
  have c8 : w.cell? ⟨X.b, 8, none⟩ = some (.slice ao X.sales.length cap) := by rw [← hv]; exact r0.cellTop rfl
  unfold maxLen at hmax
  have hgl : 0 < X.sales.length → g < w0.heap.size := fun h => by
    have e := rd.base h
    exact own_lt hr.lot.2 g (by rw [hv, e]; simp [blk_slice])
  have HRd := hidOf rd
  have HG := hidOf hgl
  have HSl := hidOf hs
  have HT := hidOf ht
  have V0 := hidOf hV
  have hsl := hs.len
  clear hV hr ht hs rd hgl hv r0
  go_enter Tryz.func79, Tryz.ntmps79
  go_wp2_with fail
  go_loopw [7, 13] (fun _ i w' => ∃ k : Nat, k ≤ X.sales.length ∧ i = .int .i64 k ∧ Hid (VW w0 b (l ++ (X.sales.take k).flatMap (saleL n)) w')) (fun _ i _ => X.sales.length + 1 - (intOf i).toNat)
  case atStart => exact ⟨0, Nat.zero_le _, rfl, by simpa using V0⟩
  case round =>
    clear c8 V0
    obtain ⟨k, hk, rfl, Vk⟩ := hrel
    by_cases hlt : k < X.sales.length
    · obtain rfl := HRd.out.base (by omega)
      have hg0 := HG.out (by omega)
      have f := fun j (hj : j < 3) => flat_at xsaleCells 3 (fun _ => rfl) X.sales k j hlt hj
      have d0 : wr.cell? ⟨g, k * 3, none⟩ = some (.string X.sales[k].name) := (Vk.out.bl.cell (p := ⟨g, k * 3, none⟩) hg0).trans (HRd.out.cell _ _ (f 0 (by omega)))
      have d1 : wr.cell? ⟨g, k * 3 + 1, none⟩ = some (.int .i64 X.sales[k].who) := (Vk.out.bl.cell (p := ⟨g, k * 3 + 1, none⟩) hg0).trans (HRd.out.cell _ _ (f 1 (by omega)))
      have d2 : wr.cell? ⟨g, k * 3 + 2, none⟩ = some (.int .i64 X.sales[k].price) := (Vk.out.bl.cell (p := ⟨g, k * 3 + 2, none⟩) hg0).trans (HRd.out.cell _ _ (f 2 (by omega)))
      have hse := HSl.out.each X.sales[k] (List.getElem_mem hlt)
      have hfl := flat_take (saleL n) X.sales k hlt
      have hfb := flat_len (saleL n) (X.sales.take k) 20000000 (fun s hs => by
        have := HSl.out.each s (List.mem_of_mem_take hs)
        exact saleL_len n s (by omega))
      have htk : (X.sales.take k).length ≤ 4 := by rw [List.length_take]; omega
      have hlk : (l ++ (X.sales.take k).flatMap (saleL n)).length ≤ 20000000000 := by rw [List.length_append]; omega
      obtain ⟨s, hse'⟩ : ∃ s, s = X.sales[k] := ⟨_, rfl⟩
      rw [← hse'] at d0 d1 d2 hse hfl
      obtain ⟨s1, s2, s3, s4, s5⟩ := hse
      have hsL := saleL_len n s ⟨s3, s4, s5⟩
      obtain ⟨lk, hlke⟩ : ∃ lk, lk = l ++ (X.sales.take k).flatMap (saleL n) := ⟨_, rfl⟩
      have HF : Hid (l ++ (X.sales.take (k + 1)).flatMap (saleL n) = lk ++ saleL n s) := by unfold Hid; rw [hfl, hlke, List.append_assoc]
      rw [← hlke] at Vk hlk
      have hb1 := alloc_at wr (.cells #[.string s.name, .int .i64 s.who, .int .i64 s.price] 137)
      have V1 := hidOf (Vk.out.at hb1)
      have k1 := Go.heap_alloc_new wr (.cells #[.string s.name, .int .i64 s.who, .int .i64 s.price] 137)
      have x0 : (wr.alloc (.cells #[.string s.name, .int .i64 s.who, .int .i64 s.price] 137)).cell? ⟨wr.heap.size, 0, none⟩ = some (.string s.name) := by rw [cell_of_row _ _ _ _ _ _ k1]; rfl
      have x1 : (wr.alloc (.cells #[.string s.name, .int .i64 s.who, .int .i64 s.price] 137)).cell? ⟨wr.heap.size, 1, none⟩ = some (.int .i64 s.who) := by rw [cell_of_row _ _ _ _ _ _ k1]; rfl
      have x2 : (wr.alloc (.cells #[.string s.name, .int .i64 s.who, .int .i64 s.price] 137)).cell? ⟨wr.heap.size, 2, none⟩ = some (.int .i64 s.price) := by rw [cell_of_row _ _ _ _ _ _ k1]; rfl
      have HBn : Hid (wr.heap.size ≠ b) := by unfold Hid; have := Vk.out.lt; omega
      clear hfl hfb hse' hlke Vk f hb1 htk
      by_cases hw1 : s.who = (n : Int)
      · have hw1' : (s.who == (n : Int)) = true := by simp [hw1]
        have HL : Hid (saleL n s = lineL [wWon, s.name, wFor, itoaB s.price]) := by unfold Hid saleL; rw [if_pos hw1]
        have HLn : (lineL [wWon, s.name, wFor, itoaB s.price]).length ≤ 20000000 := by rw [← HL.out]; exact hsL
        clear hw1 hsL
        go_upto_region 6 with fail
        obtain ⟨w1, hw1⟩ : ∃ w1, w1 = wr.alloc (.cells #[.string s.name, .int .i64 s.who, .int .i64 s.price] 137) := ⟨_, rfl⟩
        rw [← hw1] at V1 x0 x1 x2 k1 ⊢
        clear hw1
        have HS : Hid (∀ wx : World, wx.heap[wr.heap.size]? = some (.cells #[.string s.name, .int .i64 s.who, .int .i64 s.price] 137 (0, 0)) → (wx.cell? ⟨wr.heap.size, 0, none⟩ = some (.string s.name) ∧ wx.cell? ⟨wr.heap.size, 2, none⟩ = some (.int .i64 s.price))) := fun wx h => ⟨by rw [cell_of_row _ _ _ _ _ _ h]; rfl, by rw [cell_of_row _ _ _ _ _ _ h]; rfl⟩
        have HI : Hid (∀ (wx : World), Hid (VB w0 b lk wr.heap.size (.cells #[.string s.name, .int .i64 s.who, .int .i64 s.price] 137 (0, 0)) wx) → Calls Tryz.prog 20 #[.int .i64 s.price] wx fun e w' => e = .returned (.string (itoaB s.price)) ∧ Hid (VB w0 b lk wr.heap.size (.cells #[.string s.name, .int .i64 s.who, .int .i64 s.price] 137 (0, 0)) w')) := fun wx h => by
          refine (itoa_any s.price (by omega) wx (h.out.v.tab HT.out)).mono ?_
          rintro e w' ⟨rfl, hb⟩
          exact ⟨rfl, h.out.at hb⟩
        have HTe : Hid (∀ (wx : World), Hid (VB w0 b lk wr.heap.size (.cells #[.string s.name, .int .i64 s.who, .int .i64 s.price] 137 (0, 0)) wx) → Calls Tryz.prog 113 #[.pointer (some ⟨b, 0, none⟩), .slice (some ⟨wx.heap.size, 0, none⟩) 4 4] (wx.alloc (.cells #[.string ⟨#[119, 111, 110]⟩, .string s.name, .string ⟨#[102, 111, 114]⟩, .string (itoaB s.price)] 9)) fun e w' => e = .returned (.tuple #[]) ∧ Hid (VB w0 b (lk ++ lineL [wWon, s.name, wFor, itoaB s.price]) wr.heap.size (.cells #[.string s.name, .int .i64 s.who, .int .i64 s.price] 137 (0, 0)) w')) := fun wx h => by
          refine (tell_newK w0 wx b lk [wWon, s.name, wFor, itoaB s.price] _ 4 h.out.v rfl rfl (by omega) (by omega) (by simp)).mono ?_
          rintro e w' ⟨rfl, hv, hk⟩
          exact ⟨rfl, hv, hk _ _ h.out.o (by simpa using HBn.out) (by intro c fz he; injection he with _ he _; exact absurd he (by decide))⟩
        have B0 : Hid (VB w0 b lk wr.heap.size (.cells #[.string s.name, .int .i64 s.who, .int .i64 s.price] 137 (0, 0)) w1.drew) := (VB.mk V1.out k1).at (Below.refl _ w1).drew
        have HAl : Hid (∀ (wx : World) (o : Obj), Hid (VB w0 b lk wr.heap.size (.cells #[.string s.name, .int .i64 s.who, .int .i64 s.price] 137 (0, 0)) wx) → Hid (VB w0 b lk wr.heap.size (.cells #[.string s.name, .int .i64 s.who, .int .i64 s.price] 137 (0, 0)) (wx.alloc o))) := fun wx o h => h.out.at (alloc_at wx o)
        clear hw1' d0 d1 d2 x1
        go_region_held3 (fun w' => w'.cell? ⟨wr.heap.size, 0, none⟩ = some (.string s.name) ∧ w'.cell? ⟨wr.heap.size, 2, none⟩ = some (.int .i64 s.price)) (first | assumption | exact ⟨x0, x2⟩ | exact HS.out _ (HAl.out _ _ (by assumption)).out.o) (first | (go_at_call 20; refine (HI.out _ (by assumption)).mono ?_; rintro e w2 ⟨rfl, B2⟩; have S2 := HS.out _ B2.out.o) | (go_at_call 113; refine (HTe.out _ (by assumption)).mono ?_; rintro e w3 ⟨rfl, V3h⟩; have S3 := HS.out _ V3h.out.o))
        all_goals
          go_wp2
          refine ⟨⟨k + 1, by omega, by go_num, ?_⟩, by simp [intOf]; omega⟩
          unfold Hid
          rw [HF.out, HL.out]
          exact V3h.out.v
      · have hw1' : (s.who == (n : Int)) = false := beq_eq_false_iff_ne.2 hw1
        by_cases hw2 : s.who = -1
        · have hw2' : (s.who == (-1 : Int)) = true := by simp [hw2]
          have HL : Hid (saleL n s = lineL [wPassed, s.name]) := by unfold Hid saleL; rw [if_neg hw1, if_pos hw2]
          have HLn : (lineL [wPassed, s.name]).length ≤ 20000000 := by rw [← HL.out]; exact hsL
          have HTe : Hid (∀ (wx : World), Hid (VW w0 b lk wx) → Calls Tryz.prog 113 #[.pointer (some ⟨b, 0, none⟩), .slice (some ⟨wx.heap.size, 0, none⟩) 2 2] (wx.alloc (.cells #[.string ⟨#[112, 97, 115, 115, 101, 100]⟩, .string s.name] 9)) fun e w' => e = .returned (.tuple #[]) ∧ VW w0 b (lk ++ lineL [wPassed, s.name]) w') := fun wx h =>
            tell_new w0 wx b lk [wPassed, s.name] _ 2 h.out rfl rfl (by omega) (by omega) (by simp)
          clear hw1 hw2 hsL
          go_upto_region 8 with fail
          obtain ⟨w1, hw1⟩ : ∃ w1, w1 = wr.alloc (.cells #[.string s.name, .int .i64 s.who, .int .i64 s.price] 137) := ⟨_, rfl⟩
          rw [← hw1] at V1 x0 x1 x2 k1 ⊢
          clear hw1
          go_wp2_with (go_at_call 113; refine (HTe.out _ V1).mono ?_; rintro e w3 ⟨rfl, V3⟩)
          refine ⟨⟨k + 1, by omega, by go_num, ?_⟩, by simp [intOf]; omega⟩
          unfold Hid
          rw [HF.out, HL.out]
          exact V3
        · have hw2' : (s.who == (-1 : Int)) = false := beq_eq_false_iff_ne.2 hw2
          have HL : Hid (saleL n s = lineL [wSold, s.name]) := by unfold Hid saleL; rw [if_neg hw1, if_neg hw2]
          have HLn : (lineL [wSold, s.name]).length ≤ 20000000 := by rw [← HL.out]; exact hsL
          have HTe : Hid (∀ (wx : World), Hid (VW w0 b lk wx) → Calls Tryz.prog 113 #[.pointer (some ⟨b, 0, none⟩), .slice (some ⟨wx.heap.size, 0, none⟩) 2 2] (wx.alloc (.cells #[.string ⟨#[115, 111, 108, 100]⟩, .string s.name] 9)) fun e w' => e = .returned (.tuple #[]) ∧ VW w0 b (lk ++ lineL [wSold, s.name]) w') := fun wx h =>
            tell_new w0 wx b lk [wSold, s.name] _ 2 h.out rfl rfl (by omega) (by omega) (by simp)
          clear hw1 hw2 hsL
          go_upto_region 4 with fail
          obtain ⟨w1, hw1⟩ : ∃ w1, w1 = wr.alloc (.cells #[.string s.name, .int .i64 s.who, .int .i64 s.price] 137) := ⟨_, rfl⟩
          rw [← hw1] at V1 x0 x1 x2 k1 ⊢
          clear hw1
          go_wp2_with (go_at_call 113; refine (HTe.out _ V1).mono ?_; rintro e w3 ⟨rfl, V3⟩)
          refine ⟨⟨k + 1, by omega, by go_num, ?_⟩, by simp [intOf]; omega⟩
          unfold Hid
          rw [HF.out, HL.out]
          exact V3
    · have hkl : k = X.sales.length := by omega
      have Vz : Hid (VW w0 b (l ++ X.sales.flatMap (saleL n)) wr) := by rw [hkl, List.take_of_length_le (Nat.le_refl _)] at Vk; exact Vk
      clear hkl Vk
      go_wp2
      go_end0
      exact ⟨rfl, Vz.out⟩
end Go.Proofs.YtlafddeoheambaaGreatDoor

/-
  The function tellOpen of package haze.
-/
namespace Go.Proofs.YtlafddeoheambaaGreatDoor
open Go.RowKit

def lotL (n : Nat) (l : XLot) : List UInt8 := lineL (lotWs (l.bid n) (lotOf l))
structure LotSz (l : XLot) (n : Nat) : Prop where
  nm : l.name.size ≤ 2000000
  ends : 0 ≤ l.ends ∧ l.ends ≤ 10000
  least : 0 ≤ l.least ∧ l.least ≤ 100000
  bid : 0 ≤ l.bid n ∧ l.bid n ≤ 100000
theorem lotL_len (n : Nat) (l : XLot) (h : LotSz l n) : (lotL n l).length ≤ 20000000 := by
  have hb : ∀ x ∈ lotWs (l.bid n) (lotOf l), x.size ≤ 2000000 := by
    intro x hx
    unfold lotWs lotOf at hx
    rcases List.mem_append.1 hx with hx | hx
    · simp at hx
      rcases hx with rfl | rfl | rfl | rfl | rfl | rfl
      · decide
      · exact h.nm
      · decide
      · have := itoaB_size l.ends (by have := h.ends; omega); omega
      · decide
      · have := itoaB_size l.least (by have := h.least; omega); omega
    · split at hx
      · simp at hx
        rcases hx with rfl | rfl
        · decide
        · have := itoaB_size (l.bid n) (by have := h.bid; omega); omega
      · simp at hx
  have := line_len _ 2000000 hb
  have hl : (lotWs (l.bid n) (lotOf l)).length ≤ 8 := by
    unfold lotWs
    rw [List.length_append]
    split <;> simp
  unfold lotL
  have h2 : (lotWs (l.bid n) (lotOf l)).length * (2000000 + 1) ≤ 8 * 2000001 := Nat.mul_le_mul_right _ hl
  omega
def lotO (l : XLot) : Obj := .cells #[.string l.name, .int .i64 l.ends, .int .i64 l.least, .int .i64 (l.bid 0), .int .i64 (l.bid 1), .int .i64 (l.bid 2), .int .i64 (l.bid 3)] 108 (0, 0)
theorem lotO_bid {w : World} {g : Nat} {l : XLot} (h : w.heap[g]? = some (lotO l)) (n : Nat) (hn : n < 4) : w.cell? ⟨g, 3 + n, none⟩ = some (.int .i64 (l.bid n)) := by
  unfold lotO at h
  rw [cell_of_row _ _ _ _ _ _ h]
  rcases (show n = 0 ∨ n = 1 ∨ n = 2 ∨ n = 3 by omega) with rfl | rfl | rfl | rfl <;> rfl
def words6 (l : XLot) : List Value := [.string ⟨#[108, 111, 116]⟩, .string l.name, .string ⟨#[117, 110, 116, 105, 108]⟩, .string (itoaB l.ends), .string ⟨#[108, 101, 97, 115, 116]⟩, .string (itoaB l.least)]

set_option maxRecDepth 100000 in
set_option maxHeartbeats 8000000 in
theorem tellOpen_any (w0 w : World) (X : XW) (n : Nat) (b : Nat) (l : List UInt8) (hV : VW w0 b l w) (hr : RepX w0 X) (ht : Tab w0) (hs : ∀ o ∈ X.opens, LotSz o n) (hol : X.opens.length ≤ 4) (hn4 : n < 4) (hl : l.length ≤ 10000000000) :
    Calls Tryz.prog 78 #[.pointer (some ⟨X.b, 0, none⟩), .pointer (some ⟨b, 0, none⟩), .int .i64 n] w fun e w' => e = .returned (.tuple #[]) ∧ VW w0 b (l ++ X.opens.flatMap (lotL n)) w' := by
  obtain ⟨ao, g, cap, hv, hcap, hmax, rd⟩ := own_rd hr.lot.1
  have r0 := hr.below hV.bl
  have c7 : w.cell? ⟨X.b, 7, none⟩ = some (.slice ao X.opens.length cap) := by rw [← hv]; exact r0.cellTop rfl
  unfold maxLen at hmax
  have hgl : 0 < X.opens.length → g < w0.heap.size := fun h => by
    have e := rd.base h
    exact own_lt hr.lot.1 g (by rw [hv, e]; simp [blk_slice])
  have HRd := hidOf rd
  have HG := hidOf hgl
  have HSl := hidOf hs
  have HT := hidOf ht
  have V0 := hidOf hV
  obtain ⟨i0, hi0, hz0, hz1, hz2⟩ := info_parts Tryz.infoString
  clear hV hr ht hs rd hgl hv r0
  go_enter Tryz.func78, Tryz.ntmps78
  go_wp2_with fail
  go_loopw [7, 8, 9, 15] (fun _ _ _ i w' => ∃ k : Nat, k ≤ X.opens.length ∧ i = .int .i64 k ∧ Hid (VW w0 b (l ++ (X.opens.take k).flatMap (lotL n)) w')) (fun _ _ _ i _ => X.opens.length + 1 - (intOf i).toNat)
  case atStart => exact ⟨0, Nat.zero_le _, rfl, by simpa using V0⟩
  case round =>
    clear c7 V0
    obtain ⟨k, hk, rfl, Vk⟩ := hrel
    by_cases hlt : k < X.opens.length
    · obtain rfl := HRd.out.base (by omega)
      have hg0 := HG.out (by omega)
      obtain ⟨c0, c1, c2, c3⟩ := lotCellsAt HRd.out hlt
      have d0 := (Vk.out.bl.cell (p := ⟨g, k * 7, none⟩) hg0).trans c0
      have d1 := (Vk.out.bl.cell (p := ⟨g, k * 7 + 1, none⟩) hg0).trans c1
      have d2 := (Vk.out.bl.cell (p := ⟨g, k * 7 + 2, none⟩) hg0).trans c2
      have d3 := (Vk.out.bl.cell (p := ⟨g, k * 7 + 3, none⟩) hg0).trans (c3 0 (by omega))
      have d4 := (Vk.out.bl.cell (p := ⟨g, k * 7 + 4, none⟩) hg0).trans (c3 1 (by omega))
      have d5 := (Vk.out.bl.cell (p := ⟨g, k * 7 + 5, none⟩) hg0).trans (c3 2 (by omega))
      have d6 := (Vk.out.bl.cell (p := ⟨g, k * 7 + 6, none⟩) hg0).trans (c3 3 (by omega))
      have hse := HSl.out X.opens[k] (List.getElem_mem hlt)
      have hfl := flat_take (lotL n) X.opens k hlt
      have hfb := flat_len (lotL n) (X.opens.take k) 20000000 (fun s hs => lotL_len n s (HSl.out s (List.mem_of_mem_take hs)))
      have htk : (X.opens.take k).length ≤ 4 := by rw [List.length_take]; omega
      have hlk : (l ++ (X.opens.take k).flatMap (lotL n)).length ≤ 20000000000 := by rw [List.length_append]; omega
      obtain ⟨s, hse'⟩ : ∃ s, s = X.opens[k] := ⟨_, rfl⟩
      rw [← hse'] at d0 d1 d2 d3 d4 d5 d6 hse hfl
      have hsL := lotL_len n s hse
      obtain ⟨s1, s2, s3, s4⟩ := hse
      obtain ⟨lk, hlke⟩ : ∃ lk, lk = l ++ (X.opens.take k).flatMap (lotL n) := ⟨_, rfl⟩
      have HF : Hid (l ++ (X.opens.take (k + 1)).flatMap (lotL n) = lk ++ lotL n s) := by unfold Hid; rw [hfl, hlke, List.append_assoc]
      rw [← hlke] at Vk hlk
      have hb1 := alloc_at wr (lotO s)
      have V1 := hidOf (Vk.out.at hb1)
      have k1 : (wr.alloc (lotO s)).heap[wr.heap.size]? = some (lotO s) := Go.heap_alloc_new wr _
      have HBn : Hid (wr.heap.size ≠ b) := by unfold Hid; have := Vk.out.lt; omega
      clear hfl hfb hse' hlke Vk c0 c1 c2 c3 hb1 htk
      unfold lotO at V1 k1
      go_wp2_with fail
      obtain ⟨w1, hw1⟩ : ∃ w1, w1 = wr.alloc (.cells #[.string s.name, .int .i64 s.ends, .int .i64 s.least, .int .i64 (s.bid 0), .int .i64 (s.bid 1), .int .i64 (s.bid 2), .int .i64 (s.bid 3)] 108) := ⟨_, rfl⟩
      rw [← hw1] at V1 k1 ⊢
      clear hw1 d0 d1 d2 d3 d4 d5 d6
      have x0 : w1.cell? ⟨wr.heap.size, 0, none⟩ = some (.string s.name) := by rw [cell_of_row _ _ _ _ _ _ k1]; rfl
      have x1 : w1.cell? ⟨wr.heap.size, 1, none⟩ = some (.int .i64 s.ends) := by rw [cell_of_row _ _ _ _ _ _ k1]; rfl
      have x2 : w1.cell? ⟨wr.heap.size, 2, none⟩ = some (.int .i64 s.least) := by rw [cell_of_row _ _ _ _ _ _ k1]; rfl
      have B1 : Hid (Below w1.heap.size w1 w1.drew) := (Below.refl _ w1).drew
      have K1 := hidOf k1
      have HS : Hid (∀ wx : World, Hid (Below w1.heap.size w1 wx) → (wx.cell? ⟨wr.heap.size, 0, none⟩ = some (.string s.name) ∧ wx.cell? ⟨wr.heap.size, 1, none⟩ = some (.int .i64 s.ends) ∧ wx.cell? ⟨wr.heap.size, 2, none⟩ = some (.int .i64 s.least))) := fun wx h => ⟨(h.out.cell (block_lt_of_cell x0)).trans x0, (h.out.cell (block_lt_of_cell x1)).trans x1, (h.out.cell (block_lt_of_cell x2)).trans x2⟩
      have HI : Hid (∀ (m : Int) (wx : World), 0 ≤ m ∧ m ≤ 1000000000000 → Hid (Below w1.heap.size w1 wx) → Calls Tryz.prog 20 #[.int .i64 m] wx fun e w' => e = .returned (.string (itoaB m)) ∧ Hid (Below w1.heap.size w1 w')) := fun m wx hm h => by
        refine (itoa_any m hm wx ((V1.out.at h.out).tab HT.out)).mono ?_
        rintro e w' ⟨rfl, hb⟩
        exact ⟨rfl, h.out.trans (hb.mono h.out.size)⟩
      have HAl : Hid (∀ (wx : World) (o : Obj), Hid (Below w1.heap.size w1 wx) → Hid (Below w1.heap.size w1 (wx.alloc o))) := fun wx o h => h.out.alloc h.out.size o
      clear k1
      go_cut [8] (fun v8 wc => ∃ g8 : Nat, v8 = .slice (some ⟨g8, 0, none⟩) 6 6 ∧ Hid (Below w1.heap.size w1 wc) ∧ Hid (wc.heap[g8]? = some (.cells #[.string ⟨#[108, 111, 116]⟩, .string s.name, .string ⟨#[117, 110, 116, 105, 108]⟩, .string (itoaB s.ends), .string ⟨#[108, 101, 97, 115, 116]⟩, .string (itoaB s.least)] 9 (0, 0))) ∧ Hid (w1.heap.size ≤ g8))
      case first =>
        go_region_held3 (fun w' => w'.cell? ⟨wr.heap.size, 0, none⟩ = some (.string s.name) ∧ w'.cell? ⟨wr.heap.size, 1, none⟩ = some (.int .i64 s.ends) ∧ w'.cell? ⟨wr.heap.size, 2, none⟩ = some (.int .i64 s.least)) (first | assumption | exact ⟨x0, x1, x2⟩ | exact HS.out _ (HAl.out _ _ (by assumption))) (first | (go_at_call 20; refine (HI.out _ _ (by omega) (by assumption)).mono ?_; rintro e w2 ⟨rfl, B2⟩; have S2 := HS.out _ B2))
        all_goals
          go_wp2_with fail
          go_meet
          exact ⟨_, rfl, HAl.out _ _ (by assumption), Go.heap_alloc_new _ _, Below.size (Hid.out (by assumption))⟩
      case rest =>
        obtain ⟨g8, rfl, Bc, R8, G8⟩ := hcut
        have hbd : wc.cell? ⟨wr.heap.size, 3 + n, none⟩ = some (.int .i64 (s.bid n)) := lotO_bid (by rw [Bc.out.block _ (lt_of_some K1.out)]; exact K1.out) n hn4
        have Vc := hidOf (V1.out.at Bc.out)
        obtain ⟨bd, hbde⟩ : ∃ bd, bd = s.bid n := ⟨_, rfl⟩
        have HLw : Hid (lotL n s = lineL ([wLot, s.name, wUntil, itoaB s.ends, wLeast, itoaB s.least] ++ (if 0 < bd then [wBid, itoaB bd] else []))) := by unfold Hid lotL lotWs lotOf; rw [hbde]
        rw [← hbde] at hbd s4
        clear hbde x0 x1 x2 B1
        by_cases hp : 0 < bd
        · rw [if_pos hp] at HLw
          have HOw : Hid (∀ wx : World, Below wc.heap.size wc wx → wx.ownsRow 0 9 1 (.slice (some ⟨g8, 0, none⟩) 6 6) 6 (words6 s)) := fun wx h => ⟨rfl, .inr ⟨g8, 6, _, rfl, Nat.zero_le _, by rw [h.block _ (lt_of_some R8.out)]; exact R8.out, Nat.le_refl _, by unfold maxLen; omega, rfl, rfl⟩⟩
          have HIc := hidOf (itoa_any bd (by omega) wc (Vc.out.tab HT.out))
          go_wp2_with fail
          refine HIc.out.mono ?_
          rintro e w2 ⟨rfl, hb2⟩
          have HO2 := hidOf (HOw.out _ (hb2.trans ((alloc_at w2 (.cells #[.string ⟨#[98, 105, 100]⟩, .string (itoaB bd)] 9)).mono hb2.size)))
          have B2 := hidOf (Bc.out.trans (hb2.mono Bc.out.size))
          clear hb2
          go_wp2_with (at_builtin; refine wpList_append_lies _ rfl _ _ _ rfl 0 9 i0 _ 1 16 Tryz.underlying93 hi0 hz0 hz1 hz2 rfl (by omega) (.slice (some ⟨g8, 0, none⟩) 6 6) 6 (words6 s) rfl (by exact HO2.out) ⟨w2.heap.size, 0, none⟩ 2 2 [.string ⟨#[98, 105, 100]⟩, .string (itoaB bd)] rfl rfl (by exact World.news_of_block (Go.heap_alloc_new w2 _)) (by intro u hu; simp at hu; rcases hu with rfl | rfl <;> rfl) (by omega) (by unfold maxLen; omega) (by omega) (by omega) (w2.heap.size + 1) (by simp) ?_; intro g9 cap9 w9 hown9 hgrow hat hlt9)
          have B9 : Hid (Below w1.heap.size w1 w9) := by
            unfold Hid
            refine (B2.out.alloc B2.out.size _).grown hgrow (by have := B2.out.size; simp; omega) (fun r hr => ?_)
            have e : g8 = r := by simpa [Value.ownBlock] using hr
            have := G8.out
            omega
          have hcp : 8 ≤ cap9 := by
            rcases own_form hown9 with ⟨h, _⟩ | ⟨g', c', h, h1, _⟩
            · cases h
            · injection h with _ _ h
              omega
          have hg9 : g9 < w9.heap.size := own_lt hown9 g9 (by simp [blk_slice])
          have HTe := hidOf (tell_any w0 w9 b lk g9 cap9 [wLot, s.name, wUntil, itoaB s.ends, wLeast, itoaB s.least, wBid, itoaB bd] (V1.out.at B9.out) (fun j x hj => own_cell hown9 (by
            have e : words6 s ++ [.string ⟨#[98, 105, 100]⟩, .string (itoaB bd)] = [wLot, s.name, wUntil, itoaB s.ends, wLeast, itoaB s.least, wBid, itoaB bd].map (fun x => Value.string x) := rfl
            rw [e, List.getElem?_map, hj]
            rfl)) hg9 hcp (by have := hsL; rw [HLw.out] at this; have e : (lineL [wLot, s.name, wUntil, itoaB s.ends, wLeast, itoaB s.least, wBid, itoaB bd]).length ≤ 20000000 := this; omega) (by omega) (by simp))
          clear hown9 hgrow hat hlt9 hg9 hcp
          refine HTe.out.mono ?_
          rintro e w10 ⟨rfl, V10⟩
          go_wp2
          refine ⟨⟨k + 1, by omega, by go_num, ?_⟩, by simp [intOf]; omega⟩
          unfold Hid
          rw [HF.out, HLw.out]
          exact V10
        · rw [if_neg hp] at HLw
          have hp' : decide (0 < bd) = false := decide_eq_false hp
          have HTe := hidOf (tell_any w0 wc b lk g8 6 [wLot, s.name, wUntil, itoaB s.ends, wLeast, itoaB s.least] Vc.out (fun j x hj => by
            rw [cell_of_row _ _ _ _ _ _ R8.out]
            have e : (#[.string ⟨#[108, 111, 116]⟩, .string s.name, .string ⟨#[117, 110, 116, 105, 108]⟩, .string (itoaB s.ends), .string ⟨#[108, 101, 97, 115, 116]⟩, .string (itoaB s.least)] : Array Value)[j]? = ([wLot, s.name, wUntil, itoaB s.ends, wLeast, itoaB s.least].map (fun x => Value.string x))[j]? := by simp [wLot, wUntil, wLeast]
            rw [e, List.getElem?_map, hj]
            rfl) (lt_of_some R8.out) (by simp) (by have := hsL; rw [HLw.out] at this; have e : (lineL [wLot, s.name, wUntil, itoaB s.ends, wLeast, itoaB s.least]).length ≤ 20000000 := this; omega) (by omega) (by simp))
          go_wp2_with fail
          refine HTe.out.mono ?_
          rintro e w10 ⟨rfl, V10⟩
          go_wp2
          refine ⟨⟨k + 1, by omega, by go_num, ?_⟩, by simp [intOf]; omega⟩
          unfold Hid
          rw [HF.out, HLw.out]
          exact V10
    · have hkl : k = X.opens.length := by omega
      have Vz : Hid (VW w0 b (l ++ X.opens.flatMap (lotL n)) wr) := by rw [hkl, List.take_of_length_le (Nat.le_refl _)] at Vk; exact Vk
      clear hkl Vk
      go_wp2
      go_end0
      exact ⟨rfl, Vz.out⟩
end Go.Proofs.YtlafddeoheambaaGreatDoor

/-
  The function View of package haze.
-/
namespace Go.Proofs.YtlafddeoheambaaGreatDoor
open Go.RowKit

/-- Names are no longer than a text that was handed in. -/
structure NmS (s : SWorld) : Prop where
  u : ∀ p ∈ s.players, ∀ u ∈ p.units, u.name.size ≤ 2000000 ∧ u.arg.size ≤ 2000000
  l : ∀ l ∈ s.lots, l.name.size ≤ 2000000

theorem flatMap_congr {α β : Type} {f g : α → List β} {l : List α} (h : ∀ a ∈ l, f a = g a) : l.flatMap f = l.flatMap g := by
  induction l with
  | nil => rfl
  | cons a l ih =>
    simp only [List.flatMap_cons]
    rw [h a (by simp), ih (fun x hx => h x (by simp [hx]))]
theorem lots_are {X : XW} {n : Nat} {p : SPlayer} {v : XV} (ho : OkX X) (hq : X.pls[n]? = some (p, v)) : lotsL X.S p = X.opens.flatMap (lotL n) := by
  unfold lotsL
  have e : sortL X.S.lots = X.opens.map lotOf := ho.lot.eq.symm
  rw [e, List.flatMap_map]
  refine flatMap_congr (fun l hl => ?_)
  have hb := ho.lot.bid l hl n
  have e' : ((X.pls.map (·.1.bids))[n]?).getD [] = p.bids := by simp [hq]
  unfold bidAt at hb
  rw [e'] at hb
  unfold lotL
  rw [hb]
  rfl
theorem line2 (a b : ByteArray) : lineL [a, b] = a.data.toList ++ 32 :: (b.data.toList ++ [10]) := by simp [lineL, Lib.join_cons, Lib.joinTail]
theorem line4 (a b c d : ByteArray) : lineL [a, b, c, d] = a.data.toList ++ 32 :: (b.data.toList ++ 32 :: (c.data.toList ++ 32 :: (d.data.toList ++ [10]))) := by simp [lineL, Lib.join_cons, Lib.joinTail]
theorem sale_news (s : XSale) (n : Nat) (h : -1 ≤ s.who) : (newsB s.name s.who s.price n).data.toList ++ [10] = saleL n s := by
  unfold newsB saleL
  by_cases h1 : (n : Int) = s.who
  · rw [if_pos h1, if_pos h1.symm, line4]
    simp [wonW, forW, wWon, wFor, ByteArray.data_append]
  · rw [if_neg h1, if_neg (Ne.symm h1)]
    by_cases h2 : s.who = -1
    · rw [if_pos (by omega), if_pos h2, line2]
      simp [passW, wPassed, ByteArray.data_append]
    · rw [if_neg (by omega), if_neg h2, line2]
      simp [soldW, wSold, ByteArray.data_append]
theorem news_are {X : XW} {n : Nat} {p : SPlayer} {v : XV} (hN : NewsOK X) (hs : SaleOK X.sales) (hq : X.pls[n]? = some (p, v)) : newsL p = X.sales.flatMap (saleL n) := by
  unfold newsL
  have e := hN n _ hq
  simp only at e
  rw [e, List.flatMap_map]
  exact flatMap_congr (fun s hs' => sale_news s n (hs.each s hs').1)
theorem lots_sz {X : XW} {M : Int} (hA : AllX X M) (hnow : 0 ≤ X.now ∧ X.now ≤ 1000) (hnm : NmS X.S) (n : Nat) : ∀ o ∈ X.opens, LotSz o n := by
  intro o ho
  have hm := hA.ok.lot.mem ho
  have h1 := hA.lw.ends _ hm
  have h2 := hA.lw.lst _ hm
  have e1 : (lotOf o).ends = o.ends := rfl
  have e2 : (lotOf o).least = o.least := rfl
  rw [e1] at h1
  rw [e2] at h2
  exact ⟨hnm.l _ hm, by omega, h2, hA.ok.lot.bidBd hA.lw o ho n⟩
theorem rows_len {X : XW} {M : Int} (hA : AllX X M) (n : Nat) (us : List SUnit) : (rowsTo X.S n us X.S.height.toNat).length ≤ 200000 := by
  have hw := hA.wf.wd
  have hh := hA.wf.ht
  exact rowsTo_len X.S n us _ (by omega) (by omega) hA.wf.ora hA.wf.pl.2
theorem own_len {X : XW} {M : Int} (hA : AllX X M) (hM : M ≤ 100000000000) (hnow : 0 ≤ X.now ∧ X.now ≤ 1000) (hnm : NmS X.S) {p : SPlayer} (hp : p ∈ X.S.players) : (ownL X.S p).length ≤ 200000000 := by
  have pk := hA.wf.each p hp
  have h1 := tickL_len X.S.now p.money (by have : X.S.now = X.now := rfl; omega) (by have := pk.mo; omega)
  have hw := hA.wf.wd
  have hh := hA.wf.ht
  have h2 := flat_len unitL p.units 20000000 (fun u hu => by
    have uk := pk.each u hu
    have ux := uk.x
    have uy := uk.y
    exact unitL_len u (hnm.u p hp u hu).1 (by omega) (by omega) uk.cargo)
  have := pk.un
  unfold ownL
  rw [List.length_append]
  omega
theorem lots_len {X : XW} {M : Int} (hA : AllX X M) (hnow : 0 ≤ X.now ∧ X.now ≤ 1000) (hnm : NmS X.S) (n : Nat) : (X.opens.flatMap (lotL n)).length ≤ 100000000 := by
  have := flat_len (lotL n) X.opens 20000000 (fun o ho => lotL_len n o (lots_sz hA hnow hnm n o ho))
  have h4 : X.opens.length ≤ 4 := by rw [hA.ok.lot.len]; exact hA.lw.len
  omega

set_option maxRecDepth 100000 in
set_option maxHeartbeats 4000000 in
theorem xview_any (w : World) (X : XW) (M : Int) (n : Int) (hr : RepX w X) (ht : Tab w) (hA : AllX X M) (hM : M ≤ 100000000000) (hnow : 0 ≤ X.now ∧ X.now ≤ 1000) (hnm : NmS X.S) (hN : NewsOK X) (hSl : SaleOK X.sales) :
    Calls Tryz.prog 38 #[.pointer (some ⟨X.b, 0, none⟩), .int .i64 n] w fun e w' => e = .returned (.tuple #[.string (viewS X.S n).1, .int .i64 (viewS X.S n).2]) ∧ Below w.heap.size w w' := by
  have hpl : X.S.players.length = X.pls.length := by simp [XW.S]
  have h4 := hA.wf.pl
  rw [hpl] at h4
  obtain ⟨pb, pcap, hvp, hpc, hpm⟩ := hr.plForm h4.1
  have c5 : w.cell? ⟨X.b, 6, none⟩ = some (.slice (some ⟨pb, 0, none⟩) X.pls.length pcap) := by rw [← hvp]; exact hr.cellTop rfl
  have HH := hidOf (has_any X.b n X.pls.length pcap _ w c5)
  by_cases hn : 0 ≤ n ∧ n < X.pls.length
  · obtain ⟨hn0, hn1⟩ := hn
    obtain ⟨k, rfl⟩ := Int.eq_ofNat_of_zero_le hn0
    obtain ⟨p, v, hq⟩ := xat_of_lt (X := X) (n := k) (by omega)
    have hi : hasB (k : Int) X.pls.length = true := by rw [hasB_pl]; simp; omega
    rw [hi] at HH
    have hpm' : p ∈ X.S.players := List.mem_of_getElem? (XS_at hq)
    have HVS : Hid (viewS X.S k = (bytesOf (viewL X.S k p), 0)) := by
      unfold Hid viewS
      rw [if_pos (by rw [hpl]; omega), Int.toNat_natCast, XS_at hq]
    have l1 := own_len hA hM hnow hnm hpm'
    have l2 := rows_len hA k p.units
    have l3 := lots_len hA hnow hnm k
    have HVl : Hid (viewL X.S k p = ((ownL X.S p ++ rowsTo X.S k p.units X.S.height.toNat) ++ X.opens.flatMap (lotL k)) ++ X.sales.flatMap (saleL k)) := by
      unfold Hid viewL
      rw [lots_are hA.ok hq, news_are hN hSl hq]
    obtain ⟨a1, ha1⟩ : ∃ a1, a1 = ownL X.S p := ⟨_, rfl⟩
    obtain ⟨a2, ha2⟩ : ∃ a2, a2 = rowsTo X.S k p.units X.S.height.toNat := ⟨_, rfl⟩
    obtain ⟨a3, ha3⟩ : ∃ a3, a3 = X.opens.flatMap (lotL k) := ⟨_, rfl⟩
    obtain ⟨a4, ha4⟩ : ∃ a4, a4 = X.sales.flatMap (saleL k) := ⟨_, rfl⟩
    have H1 : Hid (∀ wx, Hid (VW w w.heap.size [] wx) → Calls Tryz.prog 76 #[.pointer (some ⟨X.b, 0, none⟩), .pointer (some ⟨w.heap.size, 0, none⟩), .int .i64 k] wx fun e w' => e = .returned (.tuple #[]) ∧ Hid (VW w w.heap.size ([] ++ a1) w')) := fun wx h => by
      rw [ha1]
      exact tellOwn_any w wx X M k p v w.heap.size [] h.out hr ht hA hM hnow hq (fun u hu => (hnm.u p hpm' u hu).1) (by simp)
    have H2 : Hid (∀ wx, Hid (VW w w.heap.size ([] ++ a1) wx) → Calls Tryz.prog 77 #[.pointer (some ⟨X.b, 0, none⟩), .pointer (some ⟨w.heap.size, 0, none⟩), .int .i64 k] wx fun e w' => e = .returned (.tuple #[]) ∧ Hid (VW w w.heap.size (([] ++ a1) ++ a2) w')) := fun wx h => by
      rw [ha2]
      exact tellNear_any w wx X M k p v w.heap.size _ h.out hr ht hA hq (by rw [ha1, List.nil_append]; omega)
    have H3 : Hid (∀ wx, Hid (VW w w.heap.size (([] ++ a1) ++ a2) wx) → Calls Tryz.prog 78 #[.pointer (some ⟨X.b, 0, none⟩), .pointer (some ⟨w.heap.size, 0, none⟩), .int .i64 k] wx fun e w' => e = .returned (.tuple #[]) ∧ Hid (VW w w.heap.size ((([] ++ a1) ++ a2) ++ a3) w')) := fun wx h => by
      rw [ha3]
      exact tellOpen_any w wx X k w.heap.size _ h.out hr ht (lots_sz hA hnow hnm k) (by rw [hA.ok.lot.len]; exact hA.lw.len) (by omega) (by rw [List.length_append, ha1, ha2, List.nil_append]; omega)
    have H4 : Hid (∀ wx, Hid (VW w w.heap.size ((([] ++ a1) ++ a2) ++ a3) wx) → Calls Tryz.prog 79 #[.pointer (some ⟨X.b, 0, none⟩), .pointer (some ⟨w.heap.size, 0, none⟩), .int .i64 k] wx fun e w' => e = .returned (.tuple #[]) ∧ Hid (VW w w.heap.size (((([] ++ a1) ++ a2) ++ a3) ++ a4) w')) := fun wx h => by
      rw [ha4]
      exact tellClosed_any w wx X k w.heap.size _ h.out hr ht hSl (by omega) (by rw [List.length_append, List.length_append, ha1, ha2, ha3, List.nil_append]; omega)
    have H5 : Hid (∀ wx, Hid (VW w w.heap.size (((([] ++ a1) ++ a2) ++ a3) ++ a4) wx) → Calls Tryz.prog 80 #[.pointer (some ⟨w.heap.size, 0, none⟩)] wx fun e w' => e = .returned (.string ⟨(((([] ++ a1) ++ a2) ++ a3) ++ a4).toArray⟩) ∧ Hid (Below w.heap.size w w')) := fun wx h => by
      refine (bstring_any w.heap.size w.heap.size _ wx h.out.bd h.out.bl.size).mono ?_
      rintro e w' ⟨rfl, hb⟩
      exact ⟨rfl, h.out.bl.trans hb⟩
    rw [← ha1, ← ha2, ← ha3, ← ha4] at HVl
    have V0 : Hid (VW w w.heap.size [] (w.alloc (.cells #[.pointer none, .slice none 0 0] 143))) := ⟨alloc_at w _, Lib.IsBuilderF.of (Lib.fresh_isBuilder _ _ w)⟩
    clear hr ht hA hnm hN hSl hq hvp hpl ha1 ha2 ha3 ha4 hpm' hn0
    go_enter Tryz.func38, Tryz.ntmps38
    go_wp2_with (first | (go_at_call 26; refine HH.out.mono ?_; rintro e w' ⟨rfl, h⟩; rw [h]; clear h w') | (go_at_call 76; refine (H1.out _ V0).mono ?_; rintro e w1 ⟨rfl, V1⟩) | (go_at_call 77; refine (H2.out _ V1).mono ?_; rintro e w2 ⟨rfl, V2⟩) | (go_at_call 78; refine (H3.out _ V2).mono ?_; rintro e w3 ⟨rfl, V3⟩) | (go_at_call 79; refine (H4.out _ V3).mono ?_; rintro e w4 ⟨rfl, V4⟩) | (go_at_call 80; refine (H5.out _ V4).mono ?_; rintro e w5 ⟨rfl, B5⟩))
    go_ret2
    refine ⟨?_, B5.out⟩
    rw [HVS.out]
    unfold bytesOf
    rw [HVl.out, List.append_assoc, List.append_assoc]
    rfl
  · have hi : hasB n X.pls.length = false := by rw [hasB_pl]; exact decide_eq_false hn
    have HVS : Hid (viewS X.S n = (⟨#[]⟩, 1)) := by
      unfold Hid viewS
      rw [if_neg (by rw [hpl]; exact hn)]
    rw [hi] at HH
    clear hn hpl hr ht hA hnm hN hSl hvp
    go_enter Tryz.func38, Tryz.ntmps38
    go_wp2_with (go_at_call 26; refine HH.out.mono ?_; rintro e w' ⟨rfl, h⟩; rw [h]; clear h w')
    go_ret2
    refine ⟨?_, Below.refl _ _⟩
    rw [HVS.out]
    rfl
end Go.Proofs.YtlafddeoheambaaGreatDoor

/-
  That names stay short.
-/
namespace Go.Proofs.YtlafddeoheambaaGreatDoor
open Go.RowKit

def Sz (b : ByteArray) : Prop := b.size ≤ 2000000
def NmU (u : SUnit) : Prop := Sz u.name ∧ Sz u.arg
def NmP2 (p : SPlayer) : Prop := ∀ u ∈ p.units, NmU u
theorem sz_empty : Sz emptyB := by unfold Sz; decide
theorem NmS.pl {s : SWorld} (h : NmS s) {p : SPlayer} (hp : p ∈ s.players) : NmP2 p := fun u hu => h.u p hp u hu
theorem NmS.setPl {s : SWorld} (h : NmS s) (n : Nat) {p : SPlayer} (hp : NmP2 p) : NmS (s.setPl n p) := by
  refine ⟨fun q hq u hu => ?_, h.l⟩
  rcases List.mem_or_eq_of_mem_set hq with h' | rfl
  · exact h.u q h' u hu
  · exact hp u hu
theorem NmP2.setU {p : SPlayer} (h : NmP2 p) (k : Nat) {u : SUnit} (hu : NmU u) (m : Int) : NmP2 { p with money := m, units := p.units.set k u } := by
  intro v hv
  rcases List.mem_or_eq_of_mem_set hv with h' | rfl
  · exact h v h'
  · exact hu
theorem NmS.act {s : SWorld} (h : NmS s) (n k : Nat) {p : SPlayer} {u : SUnit} (hp : NmP2 p) (hu : NmU u) (what arg : ByteArray) (ha : Sz arg) : NmS (actS s n k p u what arg) := by
  unfold actS
  simp only
  split
  · split
    · exact h.setPl n (hp.setU k (u := { u with x := u.x + dxI u.head, y := u.y + dyI u.head }) hu p.money)
    · exact h
  split
  · exact h.setPl n (hp.setU k (u := { u with head := (u.head + 1) % 4 }) hu p.money)
  split
  · exact h.setPl n (hp.setU k (u := { u with head := (u.head + 2) % 4 }) hu p.money)
  split
  · exact h.setPl n (hp.setU k (u := { u with head := (u.head + 3) % 4 }) hu p.money)
  split
  · split
    · split
      · have := h.setPl n (hp.setU k (u := { u with cargo := u.cargo + 1 }) hu p.money)
        exact ⟨this.u, this.l⟩
      · exact h
    · exact h
  split
  · exact h.setPl n (hp.setU k (u := { u with cargo := 0 }) hu _)
  split
  · split
    · exact h.setPl n (hp.setU k (u := { u with name := arg }) ⟨ha, hu.2⟩ p.money)
    · exact h
  split
  · split
    · refine h.setPl n (fun v hv => ?_)
      rcases List.mem_append.1 hv with h5 | h5
      · exact hp v h5
      · simp at h5
        rw [h5]
        exact ⟨ha, sz_empty⟩
    · exact h
  · exact h
theorem NmS.does {s : SWorld} (h : NmS s) (n k : Nat) : NmS (doesS s n k) := by
  unfold doesS
  split
  · exact h
  · rename_i p hp
    have hpn := h.pl (List.mem_of_getElem? hp)
    split
    · exact h
    · rename_i u hu
      have hun := hpn u (List.mem_of_getElem? hu)
      have hu0 : NmU { u with what := emptyB, arg := emptyB } := ⟨hun.1, sz_empty⟩
      have hp0 := hpn.setU k hu0 p.money
      exact (h.setPl n hp0).act n k hp0 hu0 u.what u.arg hun.2
theorem NmS.unitsTo {s : SWorld} (h : NmS s) (n j : Nat) : NmS (unitsTo s n j) := by
  induction j with
  | zero => exact h
  | succ j ih => exact ih.does n j
theorem NmS.clearN {s : SWorld} (h : NmS s) (n : Nat) : NmS (clearN s n) := by
  unfold Proofs.YtlafddeoheambaaGreatDoor.clearN
  split
  · exact h
  · rename_i p hp
    exact h.setPl n (p := { p with news := [] }) (fun u hu => h.pl (List.mem_of_getElem? hp) u hu)
theorem NmS.tickTo {s : SWorld} (h : NmS s) (n : Nat) : NmS (tickTo s n) := by
  induction n with
  | zero => exact h
  | succ n ih => exact (ih.clearN n).unitsTo n _
theorem NmS.tell {s : SWorld} (h : NmS s) (k : Nat) (p : SPlayer) (a b c : List UInt8) (hp : s.players[k]? = some p) (hc : c.length ≤ 2000000) : NmS (tellS s k p a b c).2 := by
  unfold tellS
  split
  · exact h
  · split
    · exact h
    · rename_i u hu
      have hpn := h.pl (List.mem_of_getElem? hp)
      have hun := hpn u (List.mem_of_getElem? hu)
      refine h.setPl k (hpn.setU _ (u := { u with what := bytesOf b, arg := bytesOf c }) ⟨hun.1, ?_⟩ p.money)
      unfold Sz
      rw [bytesOf_size]
      exact hc
theorem NmS.order {s : SWorld} (h : NmS s) (n : Int) (t : List UInt8) (ht : t.length ≤ 2000000) : NmS (orderS s n t).2 := by
  have hsz := splitB_sizes t
  unfold orderS
  split
  · split
    · exact h
    · rename_i p hp
      have bid : ∀ nm k, NmS (bidS s n.toNat p nm k).2 := by
        intro nm k
        unfold bidS
        repeat' split
        all_goals first
          | exact h
          | exact h.setPl _ (p := { p with bids := setB p.bids nm k }) (fun u hu => h.pl (List.mem_of_getElem? hp) u hu)
      unfold wordsS
      split
      · split
        · exact h.tell _ _ _ _ _ hp (by simp)
        · exact h
      · rename_i a b c e
        split
        · exact bid _ _
        · split
          · exact h.tell _ _ _ _ _ hp (by have := hsz c (by rw [e]; simp); omega)
          · exact h
      · exact h
  · exact h
theorem NmS.new {W H S : Int} {ore starts : List SSpot} : NmS (newS W H S ore starts) := by
  refine ⟨fun p hp u hu => ?_, fun l hl => by simp [newS] at hl⟩
  simp only [newS, List.mem_map] at hp
  obtain ⟨s, _, rfl⟩ := hp
  simp only [firstP, List.mem_singleton] at hu
  subst hu
  exact ⟨by show (1 : Nat) ≤ 2000000; omega, sz_empty⟩
/-- No news, no sales. -/
theorem sale_nil {X : XW} (hN : NewsOK X) (h1 : 1 ≤ X.pls.length) (h : ∀ p ∈ X.S.players, p.news = []) : X.sales = [] := by
  have hq : X.pls[0]? = some X.pls[0] := by simp [show 0 < X.pls.length by omega]
  have e := hN 0 _ hq
  have e2 := h X.pls[0].1 (by simp only [XW.S]; exact List.mem_map_of_mem (List.getElem_mem _))
  rw [e2] at e
  simpa using e.symm
theorem SaleOK.nil : SaleOK [] := ⟨by simp, by simp⟩
theorem newsB_size (nm : ByteArray) (who pays : Int) (i : Nat) (hn : nm.size ≤ 2000000) (hp : 0 ≤ pays ∧ pays ≤ 100000) : (newsB nm who pays i).size ≤ 3000000 := by
  have hz := itoaB_size pays (by omega)
  unfold newsB
  have e1 : wonW.size = 4 := rfl
  have e2 : forW.size = 5 := rfl
  have e3 : passW.size = 7 := rfl
  have e4 : soldW.size = 5 := rfl
  repeat' split
  all_goals
    simp only [ByteArray.size_append]
    omega
end Go.Proofs.YtlafddeoheambaaGreatDoor

/-
  The worlds of a script, in pairs (the program's, the document's), as they lie in memory.
-/
namespace Go.Proofs.YtlafddeoheambaaGreatDoor
open Go.RowKit

structure PRole where
  t : Nat
  i : Nat
abbrev PRole.top : PRole := ⟨0, 0⟩
abbrev PRole.row : PRole := ⟨1, 0⟩
abbrev PRole.x (i : Nat) : PRole := ⟨2, i⟩
abbrev PRole.y (i : Nat) : PRole := ⟨3, i⟩
structure LW where
  b : Nat
  v : Value
  ps : List (XW × YW)
  R : Nat → PRole
def pairCells (q : XW × YW) : List Value := [.pointer (some ⟨q.1.b, 0, none⟩), .pointer (some ⟨q.2.b, 0, none⟩)]
def LW.foot (L : LW) : List Nat := L.b :: (blk L.v ++ L.ps.flatMap (fun q => q.1.foot ++ q.2.foot))
structure LRep (w : World) (L : LW) : Prop where
  top : w.heap[L.b]? = some (.cells #[L.v] 53 (0, 0))
  row : w.ownsRow 0 119 2 L.v L.ps.length (L.ps.flatMap pairCells)
  x : ∀ (i : Nat) q, L.ps[i]? = some q → RepX w q.1
  y : ∀ (i : Nat) q, L.ps[i]? = some q → RepY w q.2
  rb : L.R L.b = .top
  rr : ∀ r ∈ blk L.v, L.R r = .row
  rx : ∀ (i : Nat) q, L.ps[i]? = some q → ∀ r ∈ q.1.foot, L.R r = .x i
  ry : ∀ (i : Nat) q, L.ps[i]? = some q → ∀ r ∈ q.2.foot, L.R r = .y i

theorem lfoot_b {L : LW} : L.b ∈ L.foot := by simp [LW.foot]
theorem lfoot_r {L : LW} {r : Nat} (h : r ∈ blk L.v) : r ∈ L.foot := by simp [LW.foot, h]
theorem lfoot_x {L : LW} {i : Nat} {q : XW × YW} (hq : L.ps[i]? = some q) {r : Nat} (h : r ∈ q.1.foot) : r ∈ L.foot := by
  have := List.mem_of_getElem? hq
  simp only [LW.foot, List.mem_cons, List.mem_append, List.mem_flatMap]
  exact .inr (.inr ⟨q, this, .inl h⟩)
theorem lfoot_y {L : LW} {i : Nat} {q : XW × YW} (hq : L.ps[i]? = some q) {r : Nat} (h : r ∈ q.2.foot) : r ∈ L.foot := by
  have := List.mem_of_getElem? hq
  simp only [LW.foot, List.mem_cons, List.mem_append, List.mem_flatMap]
  exact .inr (.inr ⟨q, this, .inr h⟩)
theorem lfoot_cases {L : LW} {r : Nat} (h : r ∈ L.foot) : r = L.b ∨ r ∈ blk L.v ∨ ∃ (i : Nat) (q : XW × YW), L.ps[i]? = some q ∧ (r ∈ q.1.foot ∨ r ∈ q.2.foot) := by
  simp only [LW.foot, List.mem_cons, List.mem_append, List.mem_flatMap] at h
  rcases h with h | h | ⟨q, hq, h⟩
  · exact .inl h
  · exact .inr (.inl h)
  · obtain ⟨i, hi⟩ := List.getElem?_of_mem hq
    exact .inr (.inr ⟨i, q, hi, h⟩)
theorem LRep.lt {w : World} {L : LW} (h : LRep w L) : ∀ r ∈ L.foot, r < w.heap.size := by
  intro r hr
  rcases lfoot_cases hr with rfl | hr | ⟨i, q, hq, hr | hr⟩
  · exact lt_of_some h.top
  · exact own_lt h.row r hr
  · exact (h.x i q hq).lt r hr
  · exact (h.y i q hq).lt r hr
theorem LRep.same {w w' : World} {L : LW} (h : LRep w L) (hs : ∀ r ∈ L.foot, w'.heap[r]? = w.heap[r]?) : LRep w' L :=
  ⟨by rw [hs _ lfoot_b]; exact h.top, own_same h.row (fun r hr => hs r (lfoot_r hr)), fun i q hq => (h.x i q hq).same (fun r hr => hs r (lfoot_x hq hr)), fun i q hq => (h.y i q hq).same (fun r hr => hs r (lfoot_y hq hr)), h.rb, h.rr, h.rx, h.ry⟩
theorem LRep.below {w w' : World} {L : LW} (h : LRep w L) (hb : Below w.heap.size w w') : LRep w' L := h.same (fun r hr => hb.block r (h.lt r hr))

structure LTurn (w : World) (L : LW) (w' : World) (L' : LW) : Prop where
  rep : LRep w' L'
  kept : Kept L.foot w w'
  ext : ∀ r ∈ L'.foot, r ∈ L.foot ∨ w.heap.size ≤ r
  b : L'.b = L.b
theorem LTurn.refl {w : World} {L : LW} (h : LRep w L) : LTurn w L w L := ⟨h, Kept.refl _ _, fun _ h => .inl h, rfl⟩
theorem LTurn.trans {w w1 w2 : World} {L L1 L2 : LW} (h : LTurn w L w1 L1) (h1 : LTurn w1 L1 w2 L2) : LTurn w L w2 L2 := by
  refine ⟨h1.rep, h.kept.trans h1.kept h.ext, fun r hr => ?_, h1.b.trans h.b⟩
  rcases h1.ext r hr with h' | h'
  · exact h.ext r h'
  · exact .inr (Nat.le_trans h.kept.size h')
theorem LTurn.below {w w1 w2 : World} {L L1 : LW} (h : LTurn w L w1 L1) (hb : Below w1.heap.size w1 w2) : LTurn w L w2 L1 :=
  h.trans ⟨h.rep.below hb, Kept.of_below hb, fun _ h => .inl h, rfl⟩

def newR (R : Nat → PRole) (H : Nat) (ρ : PRole) : Nat → PRole := fun r => if r < H then R r else ρ
def LW.setX (L : LW) (H i : Nat) (X' : XW) (Y : YW) : LW := { L with ps := L.ps.set i (X', Y), R := newR L.R H (.x i) }
def LW.setY (L : LW) (H i : Nat) (X : XW) (Y' : YW) : LW := { L with ps := L.ps.set i (X, Y'), R := newR L.R H (.y i) }

theorem pair_set (L : LW) (i : Nat) (q q' : XW × YW) (hq : L.ps[i]? = some q) (h : pairCells q' = pairCells q) : (L.ps.set i q').flatMap pairCells = L.ps.flatMap pairCells := by
  obtain ⟨hi, rfl⟩ := at_some hq
  rw [List.flatMap_def, List.flatMap_def, List.map_set, h]
  have : (L.ps.map pairCells).set i (pairCells L.ps[i]) = L.ps.map pairCells := set_id (by simp [hi])
  rw [this]

/-- The program's world of a pair turns. -/
theorem LRep.turnX {w w' : World} {L : LW} (h : LRep w L) {i : Nat} {X X' : XW} {Y : YW} (hq : L.ps[i]? = some (X, Y)) (T : TurnX w X w' X') : LTurn w L w' (L.setX w.heap.size i X' Y) := by
  have lt := h.lt
  have far : ∀ r ρ, r ∈ L.foot → L.R r = ρ → ρ ≠ .x i → w'.heap[r]? = w.heap[r]? := fun r ρ hr h1 h2 => T.kept.block r (lt r hr) (fun hm => h2 (by rw [← h1]; exact h.rx i _ hq r hm))
  have old : ∀ r, r < w.heap.size → (L.setX w.heap.size i X' Y).R r = L.R r := fun r hr => by simp [LW.setX, newR, hr]
  have e : (L.ps.set i (X', Y)).flatMap pairCells = L.ps.flatMap pairCells := pair_set L i (X, Y) (X', Y) hq (by simp [pairCells, T.b])
  refine ⟨⟨?_, ?_, ?_, ?_, ?_, ?_, ?_, ?_⟩, ?_, ?_, rfl⟩
  · show w'.heap[L.b]? = _
    rw [far _ _ lfoot_b h.rb (by simp)]
    exact h.top
  · show w'.ownsRow 0 _ 2 L.v (L.ps.set i (X', Y)).length ((L.ps.set i (X', Y)).flatMap pairCells)
    rw [List.length_set, e]
    exact own_same h.row (fun r hr => far r _ (lfoot_r hr) (h.rr r hr) (by simp))
  · intro j q hj
    rcases set_get hq hj with ⟨rfl, rfl⟩ | ⟨hne, hj'⟩
    · exact T.rep
    · exact (h.x j q hj').same (fun r hr => far r _ (lfoot_x hj' hr) (h.rx j q hj' r hr) (by simpa using hne))
  · intro j q hj
    rcases set_get hq hj with ⟨rfl, rfl⟩ | ⟨hne, hj'⟩
    · exact (h.y j _ hq).same (fun r hr => far r _ (lfoot_y hq hr) (h.ry j _ hq r hr) (by simp))
    · exact (h.y j q hj').same (fun r hr => far r _ (lfoot_y hj' hr) (h.ry j q hj' r hr) (by simp))
  · exact (old _ (lt _ lfoot_b)).trans h.rb
  · exact fun r hr => (old _ (lt _ (lfoot_r hr))).trans (h.rr r hr)
  · intro j q hj r hr
    rcases set_get hq hj with ⟨rfl, rfl⟩ | ⟨hne, hj'⟩
    · rcases T.ext r hr with h' | h'
      · exact (old _ (lt _ (lfoot_x hq h'))).trans (h.rx j _ hq r h')
      · show newR L.R w.heap.size (.x j) r = _
        simp [newR, Nat.not_lt.2 h']
    · exact (old _ (lt _ (lfoot_x hj' hr))).trans (h.rx j q hj' r hr)
  · intro j q hj r hr
    rcases set_get hq hj with ⟨rfl, rfl⟩ | ⟨hne, hj'⟩
    · exact (old _ (lt _ (lfoot_y hq hr))).trans (h.ry j _ hq r hr)
    · exact (old _ (lt _ (lfoot_y hj' hr))).trans (h.ry j q hj' r hr)
  · exact ⟨T.kept.os, T.kept.tape, T.kept.output, T.kept.size, fun k hk hn => T.kept.block k hk (fun hm => hn (lfoot_x hq hm))⟩
  · intro r hr
    rcases lfoot_cases hr with rfl | hr | ⟨j, q, hj, hr⟩
    · exact .inl lfoot_b
    · exact .inl (lfoot_r hr)
    · rcases set_get hq hj with ⟨rfl, rfl⟩ | ⟨hne, hj'⟩
      · rcases hr with hr | hr
        · rcases T.ext r hr with h' | h'
          · exact .inl (lfoot_x hq h')
          · exact .inr h'
        · exact .inl (lfoot_y hq hr)
      · rcases hr with hr | hr
        · exact .inl (lfoot_x hj' hr)
        · exact .inl (lfoot_y hj' hr)
/-- The document's world of a pair turns. -/
theorem LRep.turnY {w w' : World} {L : LW} (h : LRep w L) {i : Nat} {X : XW} {Y Y' : YW} (hq : L.ps[i]? = some (X, Y)) (T : Turn w Y w' Y') : LTurn w L w' (L.setY w.heap.size i X Y') := by
  have lt := h.lt
  have far : ∀ r ρ, r ∈ L.foot → L.R r = ρ → ρ ≠ .y i → w'.heap[r]? = w.heap[r]? := fun r ρ hr h1 h2 => T.kept.block r (lt r hr) (fun hm => h2 (by rw [← h1]; exact h.ry i _ hq r hm))
  have old : ∀ r, r < w.heap.size → (L.setY w.heap.size i X Y').R r = L.R r := fun r hr => by simp [LW.setY, newR, hr]
  have e : (L.ps.set i (X, Y')).flatMap pairCells = L.ps.flatMap pairCells := pair_set L i (X, Y) (X, Y') hq (by simp [pairCells, T.b])
  refine ⟨⟨?_, ?_, ?_, ?_, ?_, ?_, ?_, ?_⟩, ?_, ?_, rfl⟩
  · show w'.heap[L.b]? = _
    rw [far _ _ lfoot_b h.rb (by simp)]
    exact h.top
  · show w'.ownsRow 0 _ 2 L.v (L.ps.set i (X, Y')).length ((L.ps.set i (X, Y')).flatMap pairCells)
    rw [List.length_set, e]
    exact own_same h.row (fun r hr => far r _ (lfoot_r hr) (h.rr r hr) (by simp))
  · intro j q hj
    rcases set_get hq hj with ⟨rfl, rfl⟩ | ⟨hne, hj'⟩
    · exact (h.x j _ hq).same (fun r hr => far r _ (lfoot_x hq hr) (h.rx j _ hq r hr) (by simp))
    · exact (h.x j q hj').same (fun r hr => far r _ (lfoot_x hj' hr) (h.rx j q hj' r hr) (by simp))
  · intro j q hj
    rcases set_get hq hj with ⟨rfl, rfl⟩ | ⟨hne, hj'⟩
    · exact T.rep
    · exact (h.y j q hj').same (fun r hr => far r _ (lfoot_y hj' hr) (h.ry j q hj' r hr) (by simpa using hne))
  · exact (old _ (lt _ lfoot_b)).trans h.rb
  · exact fun r hr => (old _ (lt _ (lfoot_r hr))).trans (h.rr r hr)
  · intro j q hj r hr
    rcases set_get hq hj with ⟨rfl, rfl⟩ | ⟨hne, hj'⟩
    · exact (old _ (lt _ (lfoot_x hq hr))).trans (h.rx j _ hq r hr)
    · exact (old _ (lt _ (lfoot_x hj' hr))).trans (h.rx j q hj' r hr)
  · intro j q hj r hr
    rcases set_get hq hj with ⟨rfl, rfl⟩ | ⟨hne, hj'⟩
    · rcases T.ext r hr with h' | h'
      · exact (old _ (lt _ (lfoot_y hq h'))).trans (h.ry j _ hq r h')
      · show newR L.R w.heap.size (.y j) r = _
        simp [newR, Nat.not_lt.2 h']
    · exact (old _ (lt _ (lfoot_y hj' hr))).trans (h.ry j q hj' r hr)
  · exact ⟨T.kept.os, T.kept.tape, T.kept.output, T.kept.size, fun k hk hn => T.kept.block k hk (fun hm => hn (lfoot_y hq hm))⟩
  · intro r hr
    rcases lfoot_cases hr with rfl | hr | ⟨j, q, hj, hr⟩
    · exact .inl lfoot_b
    · exact .inl (lfoot_r hr)
    · rcases set_get hq hj with ⟨rfl, rfl⟩ | ⟨hne, hj'⟩
      · rcases hr with hr | hr
        · exact .inl (lfoot_x hq hr)
        · rcases T.ext r hr with h' | h'
          · exact .inl (lfoot_y hq h')
          · exact .inr h'
      · rcases hr with hr | hr
        · exact .inl (lfoot_x hj' hr)
        · exact .inl (lfoot_y hj' hr)

/-- What holds of a world at any time in a script without lots. -/
structure GoodS (s : SWorld) : Prop where
  now : 0 ≤ s.now ∧ s.now ≤ 1000
  wf : WFS s (100 + 1800 * s.now)
  lw : LotWF s.lots (s.players.map (·.bids)) s.now
  lo : s.lots = []
  nm : NmS s
structure Sync (ps : List (XW × YW)) : Prop where
  s : ∀ q ∈ ps, q.1.S = q.2.S
  o : ∀ q ∈ ps, OkX q.1
  g : ∀ q ∈ ps, GoodS q.2.S
  n : ∀ q ∈ ps, NewsOK q.1
  sl : ∀ q ∈ ps, SaleOK q.1.sales
theorem lw_nil {bss : List (List SBid)} {now : Int} (h : LotWF [] bss now) (now' : Int) : LotWF [] bss now' := ⟨by simp [Apart], by simp, by simp, by simp, by simp, h.bids⟩
theorem GoodS.tick {s : SWorld} (h : GoodS s) (hn : s.now < 1000) : GoodS (tickS s) := by
  have hp := h.wf.pl
  have hw := h.wf.tickTo s.players.length
  have hl := tickTo_len s s.players.length
  rw [tickS_nil h.lo]
  refine ⟨⟨?_, ?_⟩, ?_, ?_, rfl, ⟨(h.nm.tickTo s.players.length).u, by simp⟩⟩
  · show 0 ≤ s.now + 1
    have := h.now.1; omega
  · show s.now + 1 ≤ 1000
    omega
  · have : WFS (tickTo s s.players.length) (100 + 1800 * (s.now + 1)) := hw.mono (by omega)
    exact ⟨this.pl, this.wd, this.ht, this.orn, this.ora, this.each⟩
  · show LotWF [] ((tickTo s s.players.length).players.map (·.bids)) (s.now + 1)
    rw [tickTo_bids]
    have := h.lw
    rw [h.lo] at this
    exact lw_nil this _
theorem tell_bn (s : SWorld) (k : Nat) (p : SPlayer) (a b c : List UInt8) (hp : s.players[k]? = some p) : (tellS s k p a b c).2.players.map bnP = s.players.map bnP ∧ (tellS s k p a b c).2.lots = s.lots ∧ (tellS s k p a b c).2.now = s.now := by
  unfold tellS
  split
  · exact ⟨rfl, rfl, rfl⟩
  · split
    · exact ⟨rfl, rfl, rfl⟩
    · exact ⟨map_set_same bnP s.players k p _ hp rfl, rfl, rfl⟩
theorem WFS.tell {s : SWorld} {M : Int} (h : WFS s M) (k : Nat) (p : SPlayer) (a b c : List UInt8) (hp : s.players[k]? = some p) : WFS (tellS s k p a b c).2 M := by
  unfold tellS
  split
  · exact h
  · split
    · exact h
    · rename_i u hu
      have pk := h.each p (List.mem_of_getElem? hp)
      have hum := List.mem_of_getElem? hu
      have uk := pk.each u hum
      refine h.setPl k ⟨by simpa using pk.un, ?_, pk.mo, pk.bi⟩
      intro v hv
      rcases List.mem_or_eq_of_mem_set hv with hv | rfl
      · exact pk.each v hv
      · exact ⟨uk.x, uk.y, uk.head, uk.cargo⟩
theorem GoodS.order {s : SWorld} (h : GoodS s) (n : Int) (t : List UInt8) (ht : t.length ≤ 2000000) : GoodS (orderS s n t).2 := by
  have hnm := h.nm.order n t ht
  revert hnm
  have tell : ∀ (k : Nat) (p : SPlayer) a b c, s.players[k]? = some p → NmS (tellS s k p a b c).2 → GoodS (tellS s k p a b c).2 := by
    intro k p a b c hp hnm
    obtain ⟨h1, h2, h3⟩ := tell_bn s k p a b c hp
    refine ⟨by rw [h3]; exact h.now, by rw [h3]; exact h.wf.tell k p a b c hp, ?_, by rw [h2]; exact h.lo, hnm⟩
    rw [bn_bids h1, h2, h3]
    exact h.lw
  unfold orderS
  split
  · split
    · exact fun _ => h
    · rename_i p hp
      unfold wordsS
      repeat' split
      all_goals first
        | exact fun _ => h
        | exact fun hnm => tell _ _ _ _ _ hp hnm
        | (rw [bidS_nil h.lo]; exact fun _ => h)
  · exact fun _ => h
/-- An order turns no news. -/
theorem order_news (s : SWorld) (n : Int) (t : List UInt8) : (orderS s n t).2.players.map (·.news) = s.players.map (·.news) := by
  unfold orderS
  split
  · split
    · rfl
    · rename_i p hp
      have bid : ∀ nm k, (bidS s n.toNat p nm k).2.players.map (·.news) = s.players.map (·.news) := by
        intro nm k
        unfold bidS
        repeat' split
        all_goals first
          | rfl
          | exact map_set_same (·.news) s.players _ p { p with bids := setB p.bids nm k } hp rfl
      unfold wordsS
      repeat' split
      all_goals first
        | rfl
        | exact bn_news (tell_bn _ _ _ _ _ _ hp).1
        | exact bid _ _
  · rfl
theorem NewsOK.of {X X' : XW} (h : NewsOK X) (hn : X'.S.players.map (·.news) = X.S.players.map (·.news)) (hs : X'.sales = X.sales) : NewsOK X' := by
  intro i q hq
  rw [hs]
  have e : (X'.S.players.map (·.news))[i]? = some q.1.news := by simp [XW.S, hq]
  rw [hn] at e
  simp only [XW.S, List.map_map, List.getElem?_map, Option.map_eq_some_iff] at e
  obtain ⟨q', hq', e'⟩ := e
  have := h i q' hq'
  simp only [Function.comp] at e'
  rw [← e', this]
end Go.Proofs.YtlafddeoheambaaGreatDoor
