/-
  The functions of package hazeref that only look (unit, open, among, staked, bid): each returns what its text says, and leaves the world as it was.
-/
import Derived.Test.YtdpmadoccimgcaaT01
set_option linter.unusedVariables false
namespace Go.Proofs.Ytdpmadoccimgcaa
open Go.RowKit

/-- No one so far. -/
def noneTo {α : Type} (p : α → Bool) (l : List α) (k : Nat) : Prop := ∀ j (hj : j < l.length), j < k → p l[j] = false
theorem noneTo_zero {α : Type} (p : α → Bool) (l : List α) : noneTo p l 0 := fun _ _ h => by omega
theorem noneTo_succ {α : Type} {p : α → Bool} {l : List α} {k : Nat} (h : noneTo p l k) (hk : k < l.length) (hp : p l[k] = false) : noneTo p l (k + 1) := by
  intro j hj hjk
  by_cases e : j = k
  · subst e; exact hp
  · exact h j hj (by omega)
theorem noneTo_all {α : Type} {p : α → Bool} {l : List α} {k : Nat} (h : noneTo p l k) (hk : ¬ k < l.length) : ∀ j (hj : j < l.length), p l[j] = false := fun j hj => h j hj (by omega)

set_option maxHeartbeats 1000000 in
theorem unit_any (pb po : Nat) (us : List SUnit) (vU : Value) (nm : ByteArray) (w : World) (hc : w.cell? ⟨pb, po + 1, none⟩ = some vU) (hu : w.ownsRow 0 95 7 vU us.length (us.flatMap unitCells)) :
    Calls Try.prog 42 #[.pointer (some ⟨pb, po, none⟩), .string nm] w fun e w' => e = .returned (.int .i64 (unitIx us nm)) ∧ w' = w := by
  obtain ⟨ao, g, cap, rfl, hcap, hmax, rd⟩ := own_rd hu
  unfold maxLen at hmax
  clear hu
  go_enter Try.func42, Try.ntmps42
  go_wp2
  go_loop [5] (fun i => ∃ k : Nat, k ≤ us.length ∧ i = .int .i64 k ∧ Hid (noneTo (fun u => eqS u.name nm) us k)) (fun i => us.length + 1 - (intOf i).toNat)
  case atStart => exact ⟨0, Nat.zero_le _, rfl, noneTo_zero _ _⟩
  case round =>
    obtain ⟨k, hk, rfl, hn⟩ := hrel
    by_cases hlt : k < us.length
    · obtain rfl := rd.base (by omega)
      have c0 : w.cell? ⟨g, k * 7, none⟩ = some (.string us[k].name) := rd.cell (k * 7 + 0) _ (by rw [flat_at unitCells 7 (fun _ => rfl) us k 0 hlt (by omega)]; rfl)
      cases he : eqS us[k].name nm
      · have he' : (us[k].name.toList == nm.toList) = false := he
        have hn' : Hid _ := noneTo_succ hn.out hlt he
        clear he hn
        go_wp2
        exact ⟨⟨k + 1, by omega, by go_num, hn'⟩, by simp [intOf]; omega⟩
      · have he' : (us[k].name.toList == nm.toList) = true := he
        have G : Hid (_ = _) := ixOf_hit (fun u : SUnit => eqS u.name nm) us k hlt hn.out he
        clear he hn
        go_wp2
        go_ret
        exact ⟨ret_int G.out.symm, rfl⟩
    · have G : Hid (_ = _) := ixOf_miss (fun u : SUnit => eqS u.name nm) us (noneTo_all hn.out hlt)
      go_wp2
      go_ret
      exact ⟨ret_int G.out.symm, rfl⟩

set_option maxHeartbeats 1000000 in
theorem open_any (b : Nat) (ls : List SLot) (vL : Value) (nm : ByteArray) (w : World) (hc : w.cell? ⟨b, 6, none⟩ = some vL) (hu : w.ownsRow 0 113 3 vL ls.length (ls.flatMap lotCells)) :
    Calls Try.prog 38 #[.pointer (some ⟨b, 0, none⟩), .string nm] w fun e w' => e = .returned (.bool (openB ls nm)) ∧ w' = w := by
  obtain ⟨ao, g, cap, rfl, hcap, hmax, rd⟩ := own_rd hu
  unfold maxLen at hmax
  clear hu
  go_enter Try.func38, Try.ntmps38
  go_wp2
  go_loop [5] (fun i => ∃ k : Nat, k ≤ ls.length ∧ i = .int .i64 k ∧ Hid (noneTo (fun u => eqS u.name nm) ls k)) (fun i => ls.length + 1 - (intOf i).toNat)
  case atStart => exact ⟨0, Nat.zero_le _, rfl, noneTo_zero _ _⟩
  case round =>
    obtain ⟨k, hk, rfl, hn⟩ := hrel
    by_cases hlt : k < ls.length
    · obtain rfl := rd.base (by omega)
      have c0 : w.cell? ⟨g, k * 3, none⟩ = some (.string ls[k].name) := rd.cell (k * 3 + 0) _ (by rw [flat_at lotCells 3 (fun _ => rfl) ls k 0 hlt (by omega)]; rfl)
      cases he : eqS ls[k].name nm
      · have he' : (ls[k].name.toList == nm.toList) = false := he
        have hn' : Hid _ := noneTo_succ hn.out hlt he
        clear he hn
        go_wp2
        exact ⟨⟨k + 1, by omega, by go_num, hn'⟩, by simp [intOf]; omega⟩
      · have he' : (ls[k].name.toList == nm.toList) = true := he
        have G : Hid (_ = _) := any_hit (fun u : SLot => eqS u.name nm) ls k hlt he
        clear he hn
        go_wp2
        go_ret
        exact ⟨ret_bool G.out.symm, rfl⟩
    · have G : Hid (_ = _) := any_miss (fun u : SLot => eqS u.name nm) ls (noneTo_all hn.out hlt)
      go_wp2
      go_ret
      exact ⟨ret_bool G.out.symm, rfl⟩

set_option maxHeartbeats 1000000 in
theorem among_any (vL : Value) (ls : List ByteArray) (nm : ByteArray) (w : World) (hu : w.ownsRow 0 9 1 vL ls.length (ls.map Value.string)) :
    Calls Try.prog 41 #[vL, .string nm] w fun e w' => e = .returned (.bool (amongB ls nm)) ∧ w' = w := by
  obtain ⟨ao, g, cap, rfl, hcap, hmax, rd⟩ := own_rd hu
  unfold maxLen at hmax
  clear hu
  go_enter Try.func41, Try.ntmps41
  go_wp2
  go_loop [5] (fun i => ∃ k : Nat, k ≤ ls.length ∧ i = .int .i64 k ∧ Hid (noneTo (fun u => eqS u nm) ls k)) (fun i => ls.length + 1 - (intOf i).toNat)
  case atStart => exact ⟨0, Nat.zero_le _, rfl, noneTo_zero _ _⟩
  case round =>
    obtain ⟨k, hk, rfl, hn⟩ := hrel
    by_cases hlt : k < ls.length
    · obtain rfl := rd.base (by omega)
      have c0 : w.cell? ⟨g, k, none⟩ = some (.string ls[k]) := rd.cell k _ (by simp [hlt])
      cases he : eqS ls[k] nm
      · have he' : (ls[k].toList == nm.toList) = false := he
        have hn' : Hid _ := noneTo_succ hn.out hlt he
        clear he hn
        go_wp2
        exact ⟨⟨k + 1, by omega, by go_num, hn'⟩, by simp [intOf]; omega⟩
      · have he' : (ls[k].toList == nm.toList) = true := he
        have G : Hid (_ = _) := any_hit (fun u : ByteArray => eqS u nm) ls k hlt he
        clear he hn
        go_wp2
        go_ret
        exact ⟨ret_bool G.out.symm, rfl⟩
    · have G : Hid (_ = _) := any_miss (fun u : ByteArray => eqS u nm) ls (noneTo_all hn.out hlt)
      go_wp2
      go_ret
      exact ⟨ret_bool G.out.symm, rfl⟩

set_option maxHeartbeats 1000000 in
theorem bid_any (pb po : Nat) (bs : List SBid) (vB : Value) (nm : ByteArray) (w : World) (hc : w.cell? ⟨pb, po + 2, none⟩ = some vB) (hu : w.ownsRow 0 127 2 vB bs.length (bs.flatMap bidCells)) :
    Calls Try.prog 50 #[.pointer (some ⟨pb, po, none⟩), .string nm] w fun e w' => e = .returned (.int .i64 (bidI bs nm)) ∧ w' = w := by
  obtain ⟨ao, g, cap, rfl, hcap, hmax, rd⟩ := own_rd hu
  unfold maxLen at hmax
  clear hu
  go_enter Try.func50, Try.ntmps50
  go_wp2
  go_loop [5] (fun i => ∃ k : Nat, k ≤ bs.length ∧ i = .int .i64 k ∧ Hid (noneTo (fun u => eqS u.lot nm) bs k)) (fun i => bs.length + 1 - (intOf i).toNat)
  case atStart => exact ⟨0, Nat.zero_le _, rfl, noneTo_zero _ _⟩
  case round =>
    obtain ⟨k, hk, rfl, hn⟩ := hrel
    by_cases hlt : k < bs.length
    · obtain rfl := rd.base (by omega)
      have c0 : w.cell? ⟨g, k * 2, none⟩ = some (.string bs[k].lot) := rd.cell (k * 2 + 0) _ (by rw [flat_at bidCells 2 (fun _ => rfl) bs k 0 hlt (by omega)]; rfl)
      have c1 : w.cell? ⟨g, k * 2 + 1, none⟩ = some (.int .i64 bs[k].n) := rd.cell (k * 2 + 1) _ (by rw [flat_at bidCells 2 (fun _ => rfl) bs k 1 hlt (by omega)]; rfl)
      cases he : eqS bs[k].lot nm
      · have he' : (bs[k].lot.toList == nm.toList) = false := he
        have hn' : Hid _ := noneTo_succ hn.out hlt he
        clear he hn
        go_wp2
        exact ⟨⟨k + 1, by omega, by go_num, hn'⟩, by simp [intOf]; omega⟩
      · have he' : (bs[k].lot.toList == nm.toList) = true := he
        have G : Hid (_ = _) := bidI_hit bs nm k hlt hn.out he
        clear he hn
        go_wp2
        go_ret
        exact ⟨ret_int G.out.symm, rfl⟩
    · have G : Hid (_ = _) := bidI_miss bs nm (noneTo_all hn.out hlt)
      go_wp2
      go_ret
      exact ⟨ret_int G.out.symm, rfl⟩

set_option maxHeartbeats 1000000 in
theorem staked_any (pb po : Nat) (bs : List SBid) (vB : Value) (nm : ByteArray) (w : World) (hc : w.cell? ⟨pb, po + 2, none⟩ = some vB) (hu : w.ownsRow 0 127 2 vB bs.length (bs.flatMap bidCells)) (hb : ∀ b ∈ bs, 0 ≤ b.n ∧ b.n ≤ 100000) (hbl : bs.length ≤ 1000000) :
    Calls Try.prog 39 #[.pointer (some ⟨pb, po, none⟩), .string nm] w fun e w' => e = .returned (.int .i64 (stakedI bs nm)) ∧ w' = w := by
  obtain ⟨ao, g, cap, rfl, hcap, hmax, rd⟩ := own_rd hu
  unfold maxLen at hmax
  clear hu
  go_enter Try.func39, Try.ntmps39
  go_wp2
  go_loop [5, 6] (fun n i => ∃ k : Nat, k ≤ bs.length ∧ i = .int .i64 k ∧ n = .int .i64 (stakedI (bs.take k) nm)) (fun _ i => bs.length + 1 - (intOf i).toNat)
  case atStart => exact ⟨0, Nat.zero_le _, rfl, rfl⟩
  case round =>
    obtain ⟨k, hk, rfl, rfl⟩ := hrel
    have bd := stakedI_bd (bs.take k) nm (fun b hb' => hb b (List.mem_of_mem_take hb'))
    have bl : (bs.take k).length ≤ k := List.length_take_le _ _
    by_cases hlt : k < bs.length
    · obtain rfl := rd.base (by omega)
      have c0 : w.cell? ⟨g, k * 2, none⟩ = some (.string bs[k].lot) := rd.cell (k * 2 + 0) _ (by rw [flat_at bidCells 2 (fun _ => rfl) bs k 0 hlt (by omega)]; rfl)
      have c1 : w.cell? ⟨g, k * 2 + 1, none⟩ = some (.int .i64 bs[k].n) := rd.cell (k * 2 + 1) _ (by rw [flat_at bidCells 2 (fun _ => rfl) bs k 1 hlt (by omega)]; rfl)
      have hs : Hid (stakedI (bs.take (k + 1)) nm = stakedI (bs.take k) nm + (if eqS bs[k].lot nm then 0 else bs[k].n)) := by
        unfold Hid; rw [List.take_succ_eq_append_getElem hlt, stakedI_snoc]
      have hbk := hb bs[k] (List.getElem_mem hlt)
      cases he : eqS bs[k].lot nm
      · have he' : (bs[k].lot.toList == nm.toList) = false := he
        have hs' : Hid (stakedI (bs.take (k + 1)) nm = stakedI (bs.take k) nm + bs[k].n) := by unfold Hid; rw [hs.out, he]; rfl
        clear he hs hb
        go_wp2
        exact ⟨⟨k + 1, by omega, by go_num, vint hs'.out.symm⟩, by simp [intOf]; omega⟩
      · have he' : (bs[k].lot.toList == nm.toList) = true := he
        have hs' : Hid (stakedI (bs.take (k + 1)) nm = stakedI (bs.take k) nm) := by unfold Hid; rw [hs.out, he]; simp
        clear he hs hb
        go_wp2
        exact ⟨⟨k + 1, by omega, by go_num, vint hs'.out.symm⟩, by simp [intOf]; omega⟩
    · have G : Hid (stakedI (bs.take k) nm = stakedI bs nm) := by unfold Hid; rw [List.take_of_length_le (by omega)]
      go_wp2
      go_ret
      exact ⟨ret_int G.out, rfl⟩
end Go.Proofs.Ytdpmadoccimgcaa

/-
  The function holder of package hazeref: it returns the number of the player whose unit stands on a spot, or -1, and nothing that was there has turned.
-/
namespace Go.Proofs.Ytdpmadoccimgcaa
open Go.RowKit

/-- What holds of a world's lists: there are players, each has units. -/
structure Full (y : YW) : Prop where
  pl1 : 1 ≤ y.pls.length
  un1 : ∀ p ∈ y.pls, 1 ≤ p.1.units.length

theorem at_split {p : SPlayer} {x y : Int} {k : Nat} (hk : k < p.units.length) (h1 : p.units[k].x = x) (h2 : p.units[k].y = y) : standsB x y p = true :=
  any_hit _ _ k hk (by simp [h1, h2])

set_option maxHeartbeats 2000000 in
theorem holder_any (w : World) (Y : YW) (x y : Int) (hr : RepY w Y) (hf : Full Y) :
    Calls Try.prog 72 #[.pointer (some ⟨Y.b, 0, none⟩), .int .i64 x, .int .i64 y] w fun e w' => e = .returned (.int .i64 (holderI (Y.pls.map (·.1)) x y)) ∧ Below w.heap.size w w' := by
  rcases own_form hr.pl with ⟨_, h0, _⟩ | ⟨pb, pcap, hvp, hpc, hpm, hpb⟩
  · have := hf.pl1; omega
  unfold maxLen at hpm
  go_enter Try.func72, Try.ntmps72
  go_wp2
  go_loopw [7] (fun i w' => ∃ k : Nat, k ≤ Y.pls.length ∧ i = .int .i64 k ∧ Below w.heap.size w w' ∧ Hid (noneTo (fun p => standsB x y p.1) Y.pls k)) (fun i _ => Y.pls.length + 1 - (intOf i).toNat)
  case atStart => exact ⟨0, Nat.zero_le _, rfl, Below.refl _ _, noneTo_zero _ _⟩
  case round =>
    obtain ⟨k, hk, rfl, hb, hn⟩ := hrel
    have hr1 := hr.below hb
    have c5 : wr.cell? ⟨Y.b, 5, none⟩ = some (.slice (some ⟨pb, 0, none⟩) Y.pls.length pcap) := by rw [← hvp]; exact hr1.cellTop rfl
    by_cases hlt : k < Y.pls.length
    · have hmem : Y.pls[k] ∈ Y.pls := List.getElem_mem hlt
      rcases own_form (hr.each _ hmem).units with ⟨_, h0, _⟩ | ⟨ub, ucap, hvu, huc, hum, hub⟩
      · have := hf.un1 _ hmem; omega
      unfold maxLen at hum
      have cu : wr.cell? ⟨pb, k * 4 + 1, none⟩ = some (.slice (some ⟨ub, 0, none⟩) Y.pls[k].1.units.length ucap) := by
        rw [← hvu]; exact own_cell (hvp ▸ hr1.pl) (by rw [flat_at plCells 4 (fun _ => rfl) Y.pls k 1 hlt (by omega)]; rfl)
      have hbr : Below wr.heap.size wr wr := Below.refl _ _
      go_wp2
      go_loopw [8] (fun i w' => ∃ j : Nat, j ≤ Y.pls[k].1.units.length ∧ i = .int .i64 j ∧ Below w.heap.size w w' ∧ Hid (noneTo (fun u : SUnit => decide (u.x = x) && decide (u.y = y)) Y.pls[k].1.units j)) (fun i _ => Y.pls[k].1.units.length + 1 - (intOf i).toNat)
      case atStart => exact ⟨0, Nat.zero_le _, rfl, hb, noneTo_zero _ _⟩
      case round =>
        clear c5 cu hr1
        obtain ⟨j, hj, rfl, hb1, hn1⟩ := hrel
        have hr1 := hr.below hb1
        have c5 : wr.cell? ⟨Y.b, 5, none⟩ = some (.slice (some ⟨pb, 0, none⟩) Y.pls.length pcap) := by rw [← hvp]; exact hr1.cellTop rfl
        have cu : wr.cell? ⟨pb, k * 4 + 1, none⟩ = some (.slice (some ⟨ub, 0, none⟩) Y.pls[k].1.units.length ucap) := by
          rw [← hvu]; exact own_cell (hvp ▸ hr1.pl) (by rw [flat_at plCells 4 (fun _ => rfl) Y.pls k 1 hlt (by omega)]; rfl)
        by_cases hlt1 : j < Y.pls[k].1.units.length
        · obtain ⟨d0, d1, d2, d3, d4, d5, d6⟩ := unit_cells (hvu ▸ (hr1.each _ hmem).units) hlt1
          by_cases e1 : Y.pls[k].1.units[j].x = x
          · by_cases e2 : Y.pls[k].1.units[j].y = y
            · have G : Hid (holderI (Y.pls.map (·.1)) x y = k) := by
                unfold Hid holderI
                refine ixOf_hit _ _ k (by simpa using hlt) (fun i hi hik => by have := hn.out i (by simpa using hi) hik; simpa using this) ?_
                simpa using at_split hlt1 e1 e2
              have e1' : (Y.pls[k].1.units[j].x == x) = true := by simpa using e1
              have e2' : (Y.pls[k].1.units[j].y == y) = true := by simpa using e2
              clear e1 e2
              go_wp2
              go_ret
              exact ⟨ret_int G.out.symm, hb1.alloc hb1.size _⟩
            · have hn1' : Hid _ := noneTo_succ hn1.out hlt1 (by simp [e2])
              have e1' : (Y.pls[k].1.units[j].x == x) = true := by simpa using e1
              have e2' : (Y.pls[k].1.units[j].y == y) = false := by simpa using e2
              clear e1 e2
              go_wp2
              exact ⟨⟨j + 1, by omega, by go_num, hb1.alloc hb1.size _, hn1'⟩, by simp [intOf]; omega⟩
          · have hn1' : Hid _ := noneTo_succ hn1.out hlt1 (by simp [e1])
            have e1' : (Y.pls[k].1.units[j].x == x) = false := by simpa using e1
            clear e1
            go_wp2
            exact ⟨⟨j + 1, by omega, by go_num, hb1.alloc hb1.size _, hn1'⟩, by simp [intOf]; omega⟩
        · have hn' : Hid _ := noneTo_succ hn.out hlt (any_miss _ _ (noneTo_all hn1.out hlt1))
          go_wp2
          exact ⟨⟨k + 1, by omega, by go_num, hb1, hn'⟩, by simp [intOf]; omega⟩
    · have G : Hid (holderI (Y.pls.map (·.1)) x y = -1) := by
        unfold Hid holderI
        exact ixOf_miss _ _ (fun j hj => by have := noneTo_all hn.out hlt j (by simpa using hj); simpa using this)
      go_wp2
      go_ret
      exact ⟨ret_int G.out.symm, hb⟩
end Go.Proofs.Ytdpmadoccimgcaa
