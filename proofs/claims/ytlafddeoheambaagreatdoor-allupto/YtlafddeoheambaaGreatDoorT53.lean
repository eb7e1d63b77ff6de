/-
  A script that is handed in, opened: its steps, their lists of spots, their texts.
-/
import Derived.Test.YtlafddeoheambaaGreatDoorT52
import Derived.Test.YtlafddeoheambaaGreatDoorRows
import Derived.ProofKit
import Derived.Deep.Slices
import Derived.Deep.Strs
import Derived.Lib.SmallJoins
set_option linter.unusedVariables false
namespace Go.Proofs.YtlafddeoheambaaGreatDoor
open Go.RowKit Go.Deep

theorem bulk_one {H : Type} (d : DataW H) : 1 ≤ Rows.uptoBulk d := by
  cases d with
  | lit l => cases l <;> simp [Rows.uptoBulk]
  | _ => simp [Rows.uptoBulk]
theorem bulk_part {H : Type} {d : DataW H} {l : List (DataW H)} (h : d ∈ l) : Rows.uptoBulk d ≤ Rows.uptoBulkAll l := by
  induction l with
  | nil => cases h
  | cons x r ih =>
    simp only [Rows.uptoBulkAll]
    rcases List.mem_cons.1 h with e | e
    · subst e; omega
    · have := ih e; omega
theorem bulk_len {H : Type} (l : List (DataW H)) : l.length ≤ Rows.uptoBulkAll l := by
  induction l with
  | nil => simp [Rows.uptoBulkAll]
  | cons x r ih => have := bulk_one x; simp only [Rows.uptoBulkAll, List.length_cons]; omega

theorem Tryz.cells1 : Tryz.prog.cellsOf 3 = 1 := by kernel_rfl
theorem Tryz.cellsS : Tryz.prog.cellsOf 9 = 1 := by kernel_rfl
theorem Tryz.cellsSp : Tryz.prog.cellsOf 63 = 3 := by kernel_rfl
theorem Tryz.cellsSl : Tryz.prog.cellsOf 55 = 1 := by kernel_rfl
theorem Tryz.cellsC : Tryz.prog.cellsOf 57 = 5 := by kernel_rfl
theorem Tryz.cellsSt : Tryz.prog.cellsOf 60 = 11 := by kernel_rfl
theorem wf_i64 {n : Int} (h : (Lit.int .i64 n).wf = true) : -9223372036854775808 ≤ n ∧ n ≤ 9223372036854775807 := by
  simpa [Lit.wf, IntKind.min, IntKind.max, IntKind.signed, IntKind.bits] using h

theorem list3 {α : Type} {l : List α} (h : l.length = 3) : ∃ a0 a1 a2, l = [a0, a1, a2] := by
  match l, h with
  | [a0, a1, a2], _ => exact ⟨a0, a1, a2, rfl⟩
theorem list5 {α : Type} {l : List α} (h : l.length = 5) : ∃ a0 a1 a2 a3 a4, l = [a0, a1, a2, a3, a4] := by
  match l, h with
  | [a0, a1, a2, a3, a4], _ => exact ⟨a0, a1, a2, a3, a4, rfl⟩
theorem list7 {α : Type} {l : List α} (h : l.length = 7) : ∃ a0 a1 a2 a3 a4 a5 a6, l = [a0, a1, a2, a3, a4, a5, a6] := by
  match l, h with
  | [a0, a1, a2, a3, a4, a5, a6], _ => exact ⟨a0, a1, a2, a3, a4, a5, a6, rfl⟩
theorem list11 {α : Type} {l : List α} (h : l.length = 11) : ∃ a0 a1 a2 a3 a4 a5 a6 a7 a8 a9 a10, l = [a0, a1, a2, a3, a4, a5, a6, a7, a8, a9, a10] := by
  match l, h with
  | [a0, a1, a2, a3, a4, a5, a6, a7, a8, a9, a10], _ => exact ⟨a0, a1, a2, a3, a4, a5, a6, a7, a8, a9, a10, rfl⟩
/-- The cells of a list of things, from those of each thing. -/
theorem flat_cells {α : Type} (cells : α → List Value) (sz : Nat) (hsz : ∀ a, (cells a).length = sz) (hpos : 0 < sz) (l : List α) (w : World) (b off : Nat) (h : ∀ i (hi : i < l.length) r, r < sz → w.cell? ⟨b, off + (i * sz + r), none⟩ = (cells l[i])[r]?) :
    ∀ j u, (l.flatMap cells)[j]? = some u → w.cell? ⟨b, off + j, none⟩ = some u := by
  intro j u hu
  have hj := (at_some hu).1
  rw [flat_length cells sz hsz] at hj
  have e : j / sz * sz + j % sz = j := by rw [Nat.mul_comm]; exact Nat.div_add_mod j sz
  have hr := Nat.mod_lt j hpos
  have hi : j / sz < l.length := (Nat.div_lt_iff_lt_mul hpos).2 hj
  have f := flat_at cells sz hsz l (j / sz) (j % sz) hi hr
  rw [e, hu] at f
  have := h (j / sz) hi (j % sz) hr
  rw [e] at this
  rw [this, ← f]

section
variable {H : Type} {enc : TypeId × Value → H} {w : World} {base : Nat} {spare : Nat → Bool} {held : Bool}

theorem spot_open {fuel : Nat} {cs : List Value} {x : DataW H × List MemPlace} (h : DataW.trod enc Tryz.prog w base spare held fuel 63 cs = some x) : ∃ s : SSpot, cs = spotCells s ∧ (-9223372036854775808 ≤ s.x ∧ s.x ≤ 9223372036854775807) ∧ (-9223372036854775808 ≤ s.y ∧ s.y ≤ 9223372036854775807) := by
  obtain ⟨y0, y1, y2, n, _, hl, h0, h1, h2⟩ := trod_struct3 Tryz.underlying63 h
  rw [Tryz.cellsSp] at hl
  obtain ⟨c0, c1, c2, rfl⟩ := list3 hl
  · simp only [Tryz.cells1] at h0 h1 h2
    obtain ⟨a, e0, _, wa⟩ := DataW.trod_int Tryz.underlying3 h0
    obtain ⟨b, e1, _, wb⟩ := DataW.trod_int Tryz.underlying3 h1
    obtain ⟨c, e2, _, _⟩ := DataW.trod_int Tryz.underlying3 h2
    simp at e0 e1 e2
    subst e0 e1 e2
    exact ⟨⟨a, b, c⟩, rfl, wf_i64 wa, wf_i64 wb⟩

theorem spots_open {fuel : Nat} {cs : List Value} {x : DataW H × List MemPlace} (h : DataW.trod enc Tryz.prog w base spare held fuel 55 cs = some x) : ∃ v l, cs = [v] ∧ SpA w v l ∧ I64s l ∧ l.length ≤ Rows.uptoBulk x.1 := by
  rcases open_slice Tryz.underlying55 h with ⟨rfl, rfl⟩ | ⟨a, len, cap, m, n, D, Pl, rfl, hb, hlc, hcm, hm, rfl, hel⟩
  · exact ⟨_, [], rfl, spA_nil w, by intro s hs; simp at hs, by simp⟩
  · have hlm : len ≤ m := by rw [hm]; split <;> omega
    have ex : ∀ i, ∃ s : SSpot, i < len → (w.cells? base (a.add (i * 3)) 3 = some (spotCells s) ∧ (-9223372036854775808 ≤ s.x ∧ s.x ≤ 9223372036854775807) ∧ (-9223372036854775808 ≤ s.y ∧ s.y ≤ 9223372036854775807)) := by
      intro i
      by_cases hi : i < len
      · obtain ⟨cs', h1, h2⟩ := hel i (by omega)
        rw [Tryz.cellsSp] at h1
        obtain ⟨s, rfl, h3, h4⟩ := spot_open h2
        exact ⟨s, fun _ => ⟨h1, h3, h4⟩⟩
      · exact ⟨⟨0, 0, 0⟩, fun h => absurd h hi⟩
    obtain ⟨f, hf⟩ := Classical.axiomOfChoice ex
    have hll : ((List.range len).map f).length = len := by simp
    refine ⟨_, (List.range len).map f, rfl, ⟨⟨some a, cap, by rw [hll], fun hpos => ?_⟩, .inr ⟨a, cap, by rw [hll]⟩⟩, ?_, ?_⟩
    · rw [hll] at hpos
      obtain ⟨c0, _, _⟩ := hf 0 hpos
      obtain ⟨hb0, _, hc0⟩ := World.cells?_some c0
      have h00 := hc0 0 (by omega)
      obtain ⟨b, off, spot⟩ := a
      have hspot : spot = none := by simpa [Addr.add] using World.cell?_spot (h00.trans rfl)
      subst hspot
      refine ⟨b, off, rfl, ?_, ?_⟩
      · have := block_lt_of_cell (h00.trans rfl)
        simpa [Addr.add] using this
      · refine flat_cells spotCells 3 (fun _ => rfl) (by omega) _ w b off (fun i hi r hr => ?_)
        have hi' : i < len := by simpa using hi
        obtain ⟨ci, _, _⟩ := hf i hi'
        obtain ⟨_, _, hci⟩ := World.cells?_some ci
        have := hci r hr
        rw [Addr.add_add, Go.WideShapes.add_plain] at this
        simpa using this
    · intro s hs
      simp only [List.mem_map, List.mem_range] at hs
      obtain ⟨i, hi, rfl⟩ := hs
      exact (hf i hi).2
    · rw [hll]
      simp only [Rows.uptoBulk]
      have := bulk_len ((List.range len).map D)
      simp at this
      omega

theorem conf_open {fuel : Nat} {cs : List Value} {x : DataW H × List MemPlace} (h : DataW.trod enc Tryz.prog w base spare held fuel 57 cs = some x) :
    ∃ W Ht S vo vs ore starts, cs = [.int .i64 W, .int .i64 Ht, .int .i64 S, vo, vs] ∧ SpA w vo ore ∧ SpA w vs starts ∧ I64s ore ∧ I64s starts ∧ ore.length ≤ Rows.uptoBulk x.1 ∧ starts.length ≤ Rows.uptoBulk x.1 := by
  obtain ⟨xs, n, _, rfl, hl, hlen, hf⟩ := DataW.trod_struct Tryz.underlying57 h
  rw [Tryz.cellsC] at hl
  obtain ⟨c0, c1, c2, c3, c4, rfl⟩ := list5 hl
  · have f0 : DataW.trod enc Tryz.prog w base spare held n 3 (([c0, c1, c2, c3, c4].drop 0).take (Tryz.prog.cellsOf 3)) = xs[0]? := hf 0 _ rfl
    have f1 : DataW.trod enc Tryz.prog w base spare held n 3 (([c0, c1, c2, c3, c4].drop 1).take (Tryz.prog.cellsOf 3)) = xs[1]? := hf 1 _ rfl
    have f2 : DataW.trod enc Tryz.prog w base spare held n 3 (([c0, c1, c2, c3, c4].drop 2).take (Tryz.prog.cellsOf 3)) = xs[2]? := hf 2 _ rfl
    have f3 : DataW.trod enc Tryz.prog w base spare held n 55 (([c0, c1, c2, c3, c4].drop 3).take (Tryz.prog.cellsOf 55)) = xs[3]? := hf 3 _ rfl
    have f4 : DataW.trod enc Tryz.prog w base spare held n 55 (([c0, c1, c2, c3, c4].drop 4).take (Tryz.prog.cellsOf 55)) = xs[4]? := hf 4 _ rfl
    simp only [Tryz.cells1, Tryz.cellsSl] at f0 f1 f2 f3 f4
    have hl5 : xs.length = 5 := hlen
    obtain ⟨y0, y1, y2, y3, y4, rfl⟩ := list5 hl5
    · obtain ⟨a, e0, _, _⟩ := DataW.trod_int Tryz.underlying3 f0
      obtain ⟨b, e1, _, _⟩ := DataW.trod_int Tryz.underlying3 f1
      obtain ⟨c, e2, _, _⟩ := DataW.trod_int Tryz.underlying3 f2
      obtain ⟨vo, ore, e3, ho, io, lo⟩ := spots_open f3
      obtain ⟨vs, starts, e4, hs, is, ls⟩ := spots_open f4
      simp at e0 e1 e2 e3 e4
      subst e0 e1 e2 e3 e4
      refine ⟨a, b, c, _, _, ore, starts, rfl, ho, hs, io, is, ?_, ?_⟩
      · simp only [Rows.uptoBulk, List.map_cons, List.map_nil, Rows.uptoBulkAll]; omega
      · simp only [Rows.uptoBulk, List.map_cons, List.map_nil, Rows.uptoBulkAll]; omega

theorem step_open {fuel : Nat} {cs : List Value} {x : DataW H × List MemPlace} (h : DataW.trod enc Tryz.prog w base spare held fuel 60 cs = some x) (hbk : Rows.uptoBulk x.1 ≤ 1048576) : ∃ d : StepD, cs = d.cells.toList ∧ d.ok w := by
  obtain ⟨xs, n, _, rfl, hl, hlen, hf⟩ := DataW.trod_struct Tryz.underlying60 h
  rw [Tryz.cellsSt] at hl
  obtain ⟨c0, c1, c2, c3, c4, c5, c6, c7, c8, c9, c10, rfl⟩ := list11 hl
  · have f0 : DataW.trod enc Tryz.prog w base spare held n 3 (([c0, c1, c2, c3, c4, c5, c6, c7, c8, c9, c10].drop 0).take (Tryz.prog.cellsOf 3)) = xs[0]? := hf 0 _ rfl
    have f1 : DataW.trod enc Tryz.prog w base spare held n 3 (([c0, c1, c2, c3, c4, c5, c6, c7, c8, c9, c10].drop 1).take (Tryz.prog.cellsOf 3)) = xs[1]? := hf 1 _ rfl
    have f2 : DataW.trod enc Tryz.prog w base spare held n 57 (([c0, c1, c2, c3, c4, c5, c6, c7, c8, c9, c10].drop 2).take (Tryz.prog.cellsOf 57)) = xs[2]? := hf 2 _ rfl
    have f3 : DataW.trod enc Tryz.prog w base spare held n 3 (([c0, c1, c2, c3, c4, c5, c6, c7, c8, c9, c10].drop 7).take (Tryz.prog.cellsOf 3)) = xs[3]? := hf 3 _ rfl
    have f4 : DataW.trod enc Tryz.prog w base spare held n 9 (([c0, c1, c2, c3, c4, c5, c6, c7, c8, c9, c10].drop 8).take (Tryz.prog.cellsOf 9)) = xs[4]? := hf 4 _ rfl
    have f5 : DataW.trod enc Tryz.prog w base spare held n 3 (([c0, c1, c2, c3, c4, c5, c6, c7, c8, c9, c10].drop 9).take (Tryz.prog.cellsOf 3)) = xs[5]? := hf 5 _ rfl
    have f6 : DataW.trod enc Tryz.prog w base spare held n 3 (([c0, c1, c2, c3, c4, c5, c6, c7, c8, c9, c10].drop 10).take (Tryz.prog.cellsOf 3)) = xs[6]? := hf 6 _ rfl
    simp only [Tryz.cells1, Tryz.cellsS, Tryz.cellsC] at f0 f1 f2 f3 f4 f5 f6
    have hl7 : xs.length = 7 := hlen
    obtain ⟨y0, y1, y2, y3, y4, y5, y6, rfl⟩ := list7 hl7
    · obtain ⟨kd, e0, _, _⟩ := DataW.trod_int Tryz.underlying3 f0
      obtain ⟨ee, e1, _, we⟩ := DataW.trod_int Tryz.underlying3 f1
      obtain ⟨W, Ht, S, vo, vs, ore, starts, e2, ho, hs, io, is, lo, ls⟩ := conf_open f2
      obtain ⟨p, e3, _, _⟩ := DataW.trod_int Tryz.underlying3 f3
      obtain ⟨t, e4, ht, _⟩ := DataW.trod_string Tryz.underlying9 f4
      obtain ⟨a, e5, _, _⟩ := DataW.trod_int Tryz.underlying3 f5
      obtain ⟨b, e6, _, _⟩ := DataW.trod_int Tryz.underlying3 f6
      simp at e0 e1 e2 e3 e4 e5 e6
      obtain ⟨r1, r2, r3, r4, r5⟩ := e2
      subst e0 e1 e3 e4 e5 e6 r1 r2 r3 r4 r5
      simp only [Rows.uptoBulk, List.map_cons, List.map_nil, Rows.uptoBulkAll] at hbk
      have ht' : y4.1 = .lit (.string t.data.toList) := by rw [ht]
      have hts : Rows.uptoBulk y4.1 = t.data.toList.length + 1 := by rw [ht']; simp [Rows.uptoBulk]
      have htz : t.data.toList.length = t.size := by simp
      exact ⟨⟨kd, ee, W, Ht, S, _, _, ore, starts, p, t, a, b⟩, rfl, ⟨wf_i64 we, ho, hs, by show ore.length ≤ 2000000; omega, by show starts.length ≤ 2000000; omega, io, is, by show t.size ≤ 2000000; omega⟩⟩

theorem script_open {fuel : Nat} {cs : List Value} {x : DataW H × List MemPlace} (h : DataW.trod enc Tryz.prog w base spare held fuel 22 cs = some x) (hbk : Rows.uptoBulk x.1 ≤ 1048576) :
    ∃ v ds, cs = [v] ∧ ScIn w v ds ∧ (∀ d ∈ ds, d.ok w) ∧ ds.length ≤ 1500000 := by
  rcases open_slice Tryz.underlying22 h with ⟨rfl, rfl⟩ | ⟨a, len, cap, m, n, D, Pl, rfl, hb, hlc, hcm, hm, rfl, hel⟩
  · exact ⟨_, [], rfl, ⟨none, 0, rfl, fun h => absurd h (by simp)⟩, by intro d hd; simp at hd, by simp⟩
  · have hlm : len ≤ m := by rw [hm]; split <;> omega
    simp only [Rows.uptoBulk] at hbk
    have ex : ∀ i, ∃ d : StepD, i < len → (w.cells? base (a.add (i * 11)) 11 = some d.cells.toList ∧ d.ok w) := by
      intro i
      by_cases hi : i < len
      · obtain ⟨cs', h1, h2⟩ := hel i (by omega)
        rw [Tryz.cellsSt] at h1
        obtain ⟨d, rfl, h3⟩ := step_open h2 (by
          have := bulk_part (d := D i) (l := (List.range len).map D) (List.mem_map.2 ⟨i, by simpa using hi, rfl⟩)
          show Rows.uptoBulk (D i) ≤ _
          omega)
        exact ⟨d, fun _ => ⟨h1, h3⟩⟩
      · exact ⟨lookD 4 0 0, fun h => absurd h hi⟩
    obtain ⟨f, hf⟩ := Classical.axiomOfChoice ex
    have hll : ((List.range len).map f).length = len := by simp
    refine ⟨_, (List.range len).map f, rfl, ⟨some a, cap, by rw [hll], fun hpos => ?_⟩, ?_, ?_⟩
    · rw [hll] at hpos
      obtain ⟨c0, _⟩ := hf 0 hpos
      obtain ⟨hb0, _, hc0⟩ := World.cells?_some c0
      have h00 := hc0 0 (by omega)
      obtain ⟨b, off, spot⟩ := a
      have hspot : spot = none := by simpa [Addr.add] using World.cell?_spot (h00.trans rfl)
      subst hspot
      refine ⟨b, off, rfl, ?_, ?_⟩
      · have := block_lt_of_cell (h00.trans rfl)
        simpa [Addr.add] using this
      · refine flat_cells (fun d : StepD => d.cells.toList) 11 (fun _ => rfl) (by omega) _ w b off (fun i hi r hr => ?_)
        have hi' : i < len := by simpa using hi
        obtain ⟨ci, _⟩ := hf i hi'
        obtain ⟨_, _, hci⟩ := World.cells?_some ci
        have := hci r hr
        rw [Addr.add_add, Go.WideShapes.add_plain] at this
        simpa using this
    · intro d hd
      simp only [List.mem_map, List.mem_range] at hd
      obtain ⟨i, hi, rfl⟩ := hd
      exact (hf i hi).2
    · rw [hll]
      have := bulk_len ((List.range len).map D)
      simp at this
      omega
end
end Go.Proofs.YtlafddeoheambaaGreatDoor

/-
  The functions plays and All of package hazelaw.
-/
namespace Go.Proofs.YtlafddeoheambaaGreatDoor
open Go.RowKit
set_option maxRecDepth 100000 in
set_option maxHeartbeats 8000000 in
theorem plays_all (w : World) (v : Value) (ds : List StepD) (hv : ScIn w v ds) (hd : ∀ d ∈ ds, d.ok w) (hn : ds.length ≤ 1500000) (ht : Tab w) :
    Calls Tryz.prog 8 #[v, .int .i64 7] w fun e w' => e = .returned (.bool true) ∧ Below w.heap.size w w' := by
  obtain ⟨ao, cap, rfl, hsrc⟩ := hv
  have P0 := hidOf (firstL_in w)
  have HD := hidOf hd
  have HT := hidOf ht
  clear hd ht
  go_enter Tryz.func8, Tryz.ntmps8
  go_wp2_with fail
  refine (field_any _).mono ?_
  rintro e w2 ⟨hb2, vo, vs, rfl, ho, hs⟩
  have T2 := hidOf ((LTurn.refl P0.out.rep).below hb2)
  have P2 := hidOf (P0.out.turn T2.out)
  have HBg := hidOf (begins_any w2 (firstL w.heap.size) P2.out.rep ⟨by simp [firstL], by simp [firstL], by simp [firstL], by simp [firstL], by simp [firstL]⟩ (by simp [firstL]) 5 4 1 vo vs fieldOre fieldStarts ho hs (by simp [fieldStarts]) (by simp [fieldOre]) (by intro s hs; simp [fieldOre] at hs; subst hs; simp) (by intro s hs; simp [fieldStarts] at hs; rcases hs with rfl | rfl <;> simp) 1 (by rw [field_new]; rfl))
  clear hb2 ho hs T2
  go_wp2_with fail
  refine HBg.out.mono ?_
  rintro e w3 ⟨rfl, L3, T3, S3, N3⟩
  have P3 := hidOf (P2.out.turn T3)
  have HS3 := hidOf S3
  have N3' : L3.ps.length = 1 := N3
  obtain ⟨al, cl, c0⟩ := P3.out.cell
  rw [N3'] at c0
  have HN3 := hidOf N3'
  clear T3 S3 N3 N3' HBg
  go_wp2_with fail
  go_loopw [6, 7] (fun ok i w' => ∃ (k : Nat) (L : LW), k ≤ ds.length ∧ i = .int .i64 k ∧ ok = .bool true ∧ Hid (PlayIn w w' L) ∧ Hid (SyncL L.ps) ∧ Hid (1 ≤ L.ps.length ∧ L.ps.length ≤ k + 1)) (fun _ i _ => ds.length + 1 - (intOf i).toNat)
  case atStart => exact ⟨0, L3, Nat.zero_le _, rfl, rfl, P3, HS3, by unfold Hid; rw [HN3.out]; omega⟩
  case round =>
    clear c0
    obtain ⟨k, L, hk, rfl, rfl, P, HSy, HN⟩ := hrel
    by_cases hlt : k < ds.length
    · obtain ⟨b, off, rfl, hbl, hc⟩ := hsrc (by omega)
      have f := fun j (hj : j < 11) => flat_at (fun d : StepD => d.cells.toList) 11 (fun _ => rfl) ds k j hlt hj
      have g := fun j (hj : j < 11) u (hu : (ds[k].cells.toList)[j]? = some u) => (P.out.b.cell (p := ⟨b, off + (k * 11 + j), none⟩) hbl).trans (hc (k * 11 + j) u ((f j hj).trans hu))
      have d0 : wr.cell? ⟨b, off + k * 11, none⟩ = some (.int .i64 ds[k].kd) := g 0 (by omega) _ rfl
      have d1 : wr.cell? ⟨b, off + k * 11 + 1, none⟩ = some (.int .i64 ds[k].e) := g 1 (by omega) _ rfl
      have d2 : wr.cell? ⟨b, off + k * 11 + 2, none⟩ = some (.int .i64 ds[k].W) := g 2 (by omega) _ rfl
      have d3 : wr.cell? ⟨b, off + k * 11 + 3, none⟩ = some (.int .i64 ds[k].H) := g 3 (by omega) _ rfl
      have d4 : wr.cell? ⟨b, off + k * 11 + 4, none⟩ = some (.int .i64 ds[k].S) := g 4 (by omega) _ rfl
      have d5 : wr.cell? ⟨b, off + k * 11 + 5, none⟩ = some ds[k].vo := g 5 (by omega) _ rfl
      have d6 : wr.cell? ⟨b, off + k * 11 + 6, none⟩ = some ds[k].vs := g 6 (by omega) _ rfl
      have d7 : wr.cell? ⟨b, off + k * 11 + 7, none⟩ = some (.int .i64 ds[k].p) := g 7 (by omega) _ rfl
      have d8 : wr.cell? ⟨b, off + k * 11 + 8, none⟩ = some (.string ds[k].t) := g 8 (by omega) _ rfl
      have d9 : wr.cell? ⟨b, off + k * 11 + 9, none⟩ = some (.int .i64 ds[k].a) := g 9 (by omega) _ rfl
      have d10 : wr.cell? ⟨b, off + k * 11 + 10, none⟩ = some (.int .i64 ds[k].b) := g 10 (by omega) _ rfl
      by_cases hkd : ds[k].kd ≤ 7
      · have hkd' : decide (7 < ds[k].kd) = false := decide_eq_false (by omega)
        have HSt := hidOf (step_any wr L P.out.rep HSy.out HN.out.1 (by have := HN.out.2; omega) ds[k] ((HD.out _ (List.getElem_mem hlt)).below P.out.b) (by omega) (HT.out.below P.out.b HT.out.lt) (P.out.tab HT.out))
        rw [P.out.is] at HSt
        obtain ⟨o1, o2, o3, evo⟩ := (HD.out _ (List.getElem_mem hlt)).o.form
        obtain ⟨s1, s2, s3, evs⟩ := (HD.out _ (List.getElem_mem hlt)).s.form
        unfold StepD.cells stepCells at HSt
        rw [evo, evs] at HSt
        rw [evo] at d5
        rw [evs] at d6
        clear hc f g hkd evo evs
        go_wp2_with (go_at_call 24; refine HSt.out.mono ?_; rintro e w5 ⟨rfl, L5, T5, S5, N5, M5⟩)
        exact ⟨⟨k + 1, L5, by omega, by go_num, rfl, P.out.turn T5, S5, by unfold Hid; have := HN.out; omega⟩, by simp [intOf]; omega⟩
      · have hkd' : decide (7 < ds[k].kd) = true := decide_eq_true (by omega)
        clear hc f g hkd
        go_wp2
        exact ⟨⟨k + 1, L, by omega, by go_num, rfl, P, HSy, by unfold Hid; have := HN.out; omega⟩, by simp [intOf]; omega⟩
    · have HN2 : Hid (1 ≤ L.ps.length ∧ L.ps.length ≤ 1500001) := by unfold Hid; have := HN.out; omega
      obtain ⟨al2, cl2, e0⟩ := P.out.cell
      clear HN
      go_wp2_with fail
      go_loopw [6, 8, 9, 10, 11] (fun ok i _ _ _ w' => ∃ (j : Nat) (L : LW), i = .int .i64 j ∧ ok = .bool true ∧ Hid (PlayIn w w' L) ∧ Hid (SyncL L.ps) ∧ j ≤ L.ps.length ∧ Hid (1 ≤ L.ps.length ∧ L.ps.length ≤ 1500001)) (fun _ i _ _ _ _ => 1500002 - (intOf i).toNat)
      case atStart => exact ⟨0, L, rfl, rfl, P, HSy, Nat.zero_le _, HN2⟩
      case round =>
        clear e0 P HSy HN2
        obtain ⟨j, L4, rfl, rfl, P4, S4, hj, N4⟩ := hrel
        obtain ⟨al4, cl4, e4⟩ := P4.out.cell
        by_cases hjl : j < L4.ps.length
        · have hjl' : (j : Int) < (L4.ps.length : Int) := by omega
          go_wp2_with fail
          go_loopw [6, 9, 10, 11] (fun ok i _ _ w' => ∃ (q : Nat) (L : LW), i = .int .i64 q ∧ q ≤ 4 ∧ ok = .bool true ∧ Hid (PlayIn w w' L) ∧ Hid (SyncL L.ps) ∧ Hid (L.ps.length = L4.ps.length)) (fun _ i _ _ _ => 5 - (intOf i).toNat)
          case atStart => exact ⟨0, L4, rfl, by omega, rfl, P4, S4, rfl⟩
          case round =>
            clear e4
            obtain ⟨q, L5, rfl, hq, rfl, P5, S5, N5⟩ := hrel
            by_cases hq4 : q < 4
            · have hq4' : (q : Int) < 4 := by omega
              have HSt := hidOf (step_look wr L5 P5.out.rep S5.out (by rw [N5.out]; exact N4.out.1) (by rw [N5.out]; have := N4.out.2; omega) (lookD 4 j q) (lookD_ok wr 4 j q (by have := N4.out.2; omega)) (.inl rfl))
              rw [P5.out.is] at HSt
              unfold StepD.cells stepCells lookD at HSt
              go_wp2_with fail
              refine HSt.out.mono ?_
              rintro e w6 ⟨rfl, L6, T6, S6, N6⟩
              have P6 := hidOf (P5.out.turn T6)
              have NN : Hid (L6.ps.length = L4.ps.length) := by unfold Hid; rw [N6, N5.out]
              have HSv := hidOf (step_look w6 L6 P6.out.rep S6 (by rw [NN.out]; exact N4.out.1) (by rw [NN.out]; have := N4.out.2; omega) (lookD 5 j q) (lookD_ok w6 5 j q (by have := N4.out.2; omega)) (.inr ⟨rfl, HT.out.below P6.out.b HT.out.lt, P6.out.tab HT.out⟩))
              rw [P6.out.is] at HSv
              unfold StepD.cells stepCells lookD at HSv
              clear HSt T6 N6
              go_wp2_with (go_at_call 24; refine HSv.out.mono ?_; rintro e w7 ⟨rfl, L7, T7, S7, N7⟩)
              exact ⟨⟨q + 1, L7, by go_num, by omega, rfl, P6.out.turn T7, S7, by unfold Hid; rw [N7, NN.out]⟩, by simp [intOf]; omega⟩
            · have hq4' : decide ((q : Int) < 4) = false := decide_eq_false (by omega)
              have hjb : (j : Int) ≤ 1500001 := by have := N4.out.2; omega
              go_wp2
              exact ⟨⟨j + 1, L5, by go_num, rfl, P5, S5, by rw [N5.out]; omega, by unfold Hid; rw [N5.out]; exact N4.out⟩, by have := N4.out.2; simp [intOf]; omega⟩
        · have hjl' : decide ((j : Int) < (L4.ps.length : Int)) = false := decide_eq_false (by omega)
          go_wp2
          go_ret
          exact ⟨rfl, P4.out.b⟩

set_option maxRecDepth 100000 in
set_option maxHeartbeats 1000000 in
theorem all_any (w : World) (v : Value) (ds : List StepD) (hv : ScIn w v ds) (hd : ∀ d ∈ ds, d.ok w) (hn : ds.length ≤ 1500000) (ht : Tab w) :
    Calls Tryz.prog 5 #[v] w fun e w' => e = .returned (.bool true) ∧ Below w.heap.size w w' := by
  have HP := hidOf (plays_all w v ds hv hd hn ht)
  obtain ⟨ao, cap, rfl, _⟩ := hv
  clear hd ht
  go_enter Tryz.func5, Tryz.ntmps5
  go_wp2_with (go_at_call 8; refine HP.out.mono ?_; rintro e w1 ⟨rfl, hb⟩)
  go_ret
  exact ⟨rfl, hb⟩
end Go.Proofs.YtlafddeoheambaaGreatDoor
