/-
  The function place of package haze: a unit more.
-/
import Derived.Test.YtlafddeoheambaaGreatDoorT12
import Derived.Test.YtlafddeoheambaaGreatDoorT11
set_option linter.unusedVariables false
namespace Go.Proofs.YtlafddeoheambaaGreatDoor
open Go.RowKit

theorem Tryz.infoPtr : (Tryz.prog.info? 73).map (fun i => (i.zero, i.size, i.bytes)) = some (some (.pointer none), 1, 8) := by kernel_rfl

theorem placeMid {w0 w w6 : World} {X0 X : XW} (T : TurnX w0 X0 w X) {i : Nat} {p : SPlayer} {v : XV} (hq : X.pls[i]? = some (p, v)) {pb pcap : Nat} (hvp : X.vPl = .slice (some ⟨pb, 0, none⟩) X.pls.length pcap) {u : SUnit} {x : XU} (hu : RepU w u x) (hx : x.g ∉ X.foot) (hx0 : w0.heap.size ≤ x.g)
    {ao : Option Addr} {vcap gr cap : Nat} {o : Obj} (hv : v.v = .slice ao v.us.length vcap) (hg : (w.alloc o).drew.grownBy w6 (Value.slice ao v.us.length vcap).ownBlock) (hg2 : (w.alloc o).drew.grownBy w6 (some gr))
    (ho : w6.ownsRow 0 73 1 (.slice (some ⟨gr, 0, none⟩) (v.us.length + 1) cap) (v.us.length + 1) (v.us.map ptrV ++ [ptrV x])) (hat : (Value.slice ao v.us.length vcap).ownBlock = some gr ∨ gr = w.heap.size + 1) :
    TurnX w0 X0 (w6.setCell ⟨pb, i * 2 + 1, none⟩ (.slice (some ⟨gr, 0, none⟩) (v.us.length + 1) cap)) (X.addU i p v u x (.slice (some ⟨gr, 0, none⟩) (v.us.length + 1) cap) gr) := by
  have hb : Below w.heap.size w (w.alloc o).drew := ((Below.refl _ w).alloc (Nat.le_refl _) _).drew
  refine (T.below hb).addU hq hvp (hu.same (hb.block _ (lt_of_some hu.is))) hx hx0 (by rw [hv]; exact hg) gr cap _ hg2 rfl ho ?_
  rw [hv]
  rcases hat with h | h
  · exact .inl h
  · refine .inr ?_
    show (w.alloc o).heap.size ≤ gr
    simp
    omega
theorem placeCells {w0 w7 : World} {X0 X X7 : XW} {i : Nat} {p : SPlayer} {v : XV} {u : SUnit} {x : XU} {val : Value} {gr : Nat} (hX : X7 = X.addU i p v u x val gr) (T : TurnX w0 X0 w7 X7) (hq : X.pls[i]? = some (p, v)) (hlen : v.us.length = p.units.length) :
    w7.cell? ⟨X.b, 5, none⟩ = some (.map (some X.ms)) ∧ w7.cell? ⟨x.g, 1, none⟩ = some (.complex .f64 (flI u.x) (flI u.y)) := by
  subst hX
  obtain ⟨hi, _⟩ := at_some hq
  refine ⟨T.rep.cellTop rfl, ?_⟩
  have hq7 : (X.addU i p v u x val gr).pls[i]? = some ({ p with units := p.units ++ [u] }, ⟨val, v.us ++ [x]⟩) := by simp [XW.addU, hi]
  have := (T.rep.each i _ hq7).unit v.us.length u x (by simp [hlen]) (by simp)
  exact this.cell rfl

set_option maxRecDepth 100000 in
set_option maxHeartbeats 4000000 in
theorem place_any (w0 w : World) (X0 X : XW) (T : TurnX w0 X0 w X) (i : Nat) (p : SPlayer) (v : XV) (hq : X.pls[i]? = some (p, v)) (h2 : 2 ≤ X.pls.length ∧ X.pls.length ≤ 4) (u : SUnit) (x : XU) (hu : RepU w u x) (hx : x.g ∉ X.foot) (hx0 : w0.heap.size ≤ x.g)
    (bx : 0 ≤ u.x ∧ u.x ≤ 9) (bY : 0 ≤ u.y ∧ u.y ≤ 9) (hl : v.us.length ≤ 10) :
    Calls Tryz.prog 59 #[.pointer (some ⟨X.b, 0, none⟩), .int .i64 i, .pointer (some ⟨x.g, 0, none⟩)] w fun e w' => e = .returned (.tuple #[]) ∧ ∃ val gr, TurnX w0 X0 w' ((X.addU i p v u x val gr).withLs (cput u.x u.y i X.cs X.ls) (cclock u.x u.y X.ls X.cs)) := by
  obtain ⟨pb, pcap, hvp, hpc, hpm⟩ := T.rep.plForm h2.1
  unfold maxLen at hpm
  obtain ⟨hi, _⟩ := at_some hq
  have hi2 : (i : Int) < X.pls.length := by omega
  have c5 : w.cell? ⟨X.b, 6, none⟩ = some (.slice (some ⟨pb, 0, none⟩) X.pls.length pcap) := by rw [← hvp]; exact T.rep.cellTop rfl
  have m1 := (T.rep.plCell hq hvp).2
  have fz := T.rep.plFrozen hvp (i * 2 + 1)
  obtain ⟨ao, g0, vcap, hv, hvc, hvm, _⟩ := own_rd (T.rep.each i _ hq).row
  simp only at hv hvc
  unfold maxLen at hvm
  rw [hv] at m1
  have hownX : Hid (∀ (wx : World) (o : Obj), wx.heap = w.heap.push o → wx.ownsRow 0 73 1 (.slice ao v.us.length vcap) v.us.length (v.us.map ptrV)) := by
    intro wx o hxx
    have h1 := (T.rep.each i _ hq).row
    simp only [hv] at h1
    refine own_same h1 (fun r hr => ?_)
    have := own_lt h1 r hr
    rw [hxx]
    simp [Array.getElem?_push, Nat.ne_of_lt this]
  have hpbf : pb ∈ blk X.vPl := by simp [hvp, blk_slice]
  have hlb := hidOf (T.rep.lt pb (xfoot_pl hpbf))
  have hne : Hid ((Value.slice ao v.us.length vcap).ownBlock ≠ some pb) := by
    intro e
    have e1 := T.rep.roles.row i _ hq pb (by simp only [hv]; simp [blk, e])
    rw [T.rep.roles.pl pb hpbf] at e1
    cases e1
  have hlX := hidOf (T.rep.lt X.b xfoot_b)
  have hneX : Hid ((Value.slice ao v.us.length vcap).ownBlock ≠ some X.b) := by
    intro e
    have e1 := T.rep.roles.row i _ hq X.b (by simp only [hv]; simp [blk, e])
    rw [T.rep.roles.b] at e1
    cases e1
  have a5 : ∀ o, (w.alloc o).cell? ⟨X.b, 6, none⟩ = some (.slice (some ⟨pb, 0, none⟩) X.pls.length pcap) := fun o => by rw [World.cell?_alloc_past _ _ _ hlX.out]; exact c5
  have a1 : ∀ o, (w.alloc o).cell? ⟨pb, i * 2 + 1, none⟩ = some (.slice ao v.us.length vcap) := fun o => by rw [World.cell?_alloc_past _ _ _ hlb.out]; exact m1
  have HT := hidOf T
  have HV := hidOf hv
  have HVP := hidOf hvp
  have HQ := hidOf hq
  have HU := hidOf hu
  have hX := hidOf hx
  have xlt := hidOf (lt_of_some hu.is)
  obtain ⟨i0, hi0, hz0, hz1, hz2⟩ := info_parts Tryz.infoPtr
  clear hv hvp hu hx T hpbf hq
  go_enter Tryz.func59, Tryz.ntmps59
  go_wp2_with fail
  go_region_law (refine step_append_only (by rfl) _ _ _ (by rfl) 0 73 i0 _ 1 8 Tryz.underlying74 hi0 hz0 hz1 hz2 (by rfl) (by omega) (.slice ao v.us.length vcap) v.us.length (v.us.map ptrV) (by rfl) (by exact hownX.out _ _ rfl) ⟨w.heap.size, 0, none⟩ 1 1 [ptrV x] (by rfl) (by rfl) (by exact World.news_of_block (Go.heap_alloc_new w _)) (by intro u hu; simp [ptrV] at hu; rcases hu with rfl <;> rfl) (by omega) (by unfold maxLen; omega) (by omega) (by omega) (w.heap.size + 1) (by simp) ?_; intro gr cap w6 hown6 hgrow hat hgrow2; obtain ⟨q1, q2⟩ := keepOther (((Below.refl _ w).alloc (Nat.le_refl _) _).drew) hgrow hlb.out (Ne.symm hne.out) (i * 2 + 1); rw [m1] at q1; rw [fz] at q2; have q5 := (keepOther (((Below.refl _ w).alloc (Nat.le_refl _) _).drew) hgrow hlX.out (Ne.symm hneX.out) 6).1; rw [c5] at q5)
  all_goals
    have T7 := hidOf (placeMid HT.out HQ.out HVP.out HU.out hX.out hx0 HV.out hgrow hgrow2 hown6 hat)
    obtain ⟨w7, hw7⟩ : ∃ w7, w7 = w6.setCell ⟨pb, i * 2 + 1, none⟩ (.slice (some ⟨gr, 0, none⟩) (v.us.length + 1) cap) := ⟨_, rfl⟩
    rw [← hw7] at T7 ⊢
    obtain ⟨e4, d1⟩ := placeCells rfl T7.out HQ.out (HT.out.rep.each i _ HQ.out).len
    obtain ⟨w8, hup, hm8, hp8⟩ := T7.out.rep.st.drew.update u.x u.y i bx bY
    have hup' : (Instr.mapUpdate 79 (.map (some X.ms)) (.complex .f64 (flI u.x) (flI u.y)) (.int .i64 i)).run Tryz.prog w7.drew = .ok () w8 := hup
    have T8 := hidOf (T7.out.drew.st1 hp8 hm8)
    clear hw7 hup hm8 hp8 q1 q2 q5 hgrow hown6 hat hgrow2 c5 m1 fz a5 a1
    go_wp2_with fail
    go_region
    all_goals
      go_wp2
      go_end0
      exact ⟨rfl, _, _, T8.out⟩
end Go.Proofs.YtlafddeoheambaaGreatDoor

/-
  What New lays: the program's world at its beginning.
-/
namespace Go.Proofs.YtlafddeoheambaaGreatDoor
open Go.RowKit

theorem apartGo_facts (W H : Int) : ∀ (l pre : List SSpot), apartGo W H pre l = true → (∀ s ∈ l, okSpot W H s = true) ∧ oreD l ∧ ∀ s ∈ l, ∀ a ∈ pre, ¬ (a.x = s.x ∧ a.y = s.y) := by
  intro l
  induction l with
  | nil => intro pre _; exact ⟨by simp, List.Pairwise.nil, by simp⟩
  | cons s l ih =>
    intro pre h
    simp only [apartGo, Bool.and_eq_true, Bool.not_eq_true'] at h
    obtain ⟨⟨h1, h2⟩, h3⟩ := h
    obtain ⟨a1, a2, a3⟩ := ih (pre ++ [s]) h3
    have hp : ∀ a ∈ pre, ¬ (a.x = s.x ∧ a.y = s.y) := by
      intro a ha e
      have := List.any_eq_false.1 h2 a ha
      simp [sameXY, e.1, e.2] at this
    refine ⟨?_, List.pairwise_cons.2 ⟨fun t ht e => a3 t ht s (by simp) e, a2⟩, ?_⟩
    · intro t ht
      rcases List.mem_cons.1 ht with rfl | ht
      · exact h1
      · exact a1 t ht
    · intro t ht
      rcases List.mem_cons.1 ht with rfl | ht
      · exact hp
      · exact fun a ha => a3 t ht a (by simp [ha])
theorem apart_facts {W H : Int} {l : List SSpot} (h : apartB l W H = true) (hW : W ≤ 10) (hH : H ≤ 10) : (∀ s ∈ l, (0 ≤ s.x ∧ s.x ≤ 9) ∧ (0 ≤ s.y ∧ s.y ≤ 9)) ∧ oreD l := by
  obtain ⟨h1, h2, _⟩ := apartGo_facts W H l [] h
  refine ⟨fun s hs => ?_, h2⟩
  have := h1 s hs
  simp [okSpot, inB] at this
  omega

def zeroP : SPlayer := { money := 0, units := [], bids := [], news := [] }
def zeroV : XV := ⟨.slice none 0 0, []⟩
def zeroX (b mo ms pb n : Nat) (W H S : Int) : XW :=
  { b := b, width := W, height := H, sight := S, now := 0, ore := [], lots := [], mo := mo, lo := [], co := 0, ms := ms, ls := [], cs := 0, pls := List.replicate n (zeroP, zeroV), vPl := .slice (some ⟨pb, 0, none⟩) n n, opens := [], vOp := .slice none 0 0, sales := [], vCl := .slice none 0 0,
    R := fun r => if r = b then .top else if r = mo then .ore else if r = ms then .st else .pls }
theorem madeRow (n : Nat) (hn : 2 ≤ n ∧ n ≤ 4) : (madeCells #[.int .i64 0, .slice none 0 0] (n * 2)).toList = (List.replicate n (zeroP, zeroV)).flatMap xplCells := by
  obtain ⟨h1, h2⟩ := hn
  rcases (show n = 2 ∨ n = 3 ∨ n = 4 by omega) with rfl | rfl | rfl
  all_goals simp [madeCells, zeroP, zeroV, xplCells, List.replicate, List.range, List.range.loop]
theorem zeroX_rep {w : World} {b mo ms pb n : Nat} {W H S : Int} (hn : 2 ≤ n ∧ n ≤ 4) (h1 : w.heap[b]? = some (.cells #[.int .i64 0, .int .i64 W, .int .i64 H, .int .i64 S, .map (some mo), .map (some ms), .slice (some ⟨pb, 0, none⟩) n n, .slice none 0 0, .slice none 0 0] 84 (0, 0)))
    (h2 : w.heap[mo]? = some (.map #[] 0)) (h3 : w.heap[ms]? = some (.map #[] 0)) (h4 : w.heap[pb]? = some (.cells (madeCells #[.int .i64 0, .slice none 0 0] (n * 2)) 76 (0, 0))) (hne : b ≠ mo ∧ b ≠ ms ∧ b ≠ pb ∧ mo ≠ ms ∧ mo ≠ pb ∧ ms ≠ pb) :
    RepX w (zeroX b mo ms pb n W H S) := by
  obtain ⟨n1, n2, n3, n4, n5, n6⟩ := hne
  have hrow := madeRow n hn
  have hq : ∀ (i : Nat) q, (zeroX b mo ms pb n W H S).pls[i]? = some q → q = (zeroP, zeroV) := fun i q hq => by
    have := List.mem_of_getElem? hq
    exact List.eq_of_mem_replicate this
  refine ⟨h1, ⟨⟨h2, by simp [zeroX]⟩, by simp [zeroX, keysD]⟩, ⟨⟨h3, by simp [zeroX]⟩, by simp [zeroX, keysD]⟩, ?_, ⟨⟨rfl, .inl ⟨rfl, rfl⟩⟩, ⟨rfl, .inl ⟨rfl, rfl⟩⟩⟩, ?_, ⟨?_, ?_, ?_, ?_, ⟨fun r hr => by simp [zeroX, blk, Value.ownBlock] at hr, fun r hr => by simp [zeroX, blk, Value.ownBlock] at hr⟩, ?_, ?_⟩⟩
  · show w.ownsRow 0 _ 2 (.slice (some ⟨pb, 0, none⟩) n n) (List.replicate n (zeroP, zeroV)).length ((List.replicate n (zeroP, zeroV)).flatMap xplCells)
    rw [List.length_replicate, ← hrow]
    have hs : (madeCells #[.int .i64 0, .slice none 0 0] (n * 2)).size = n * 2 := size_madeCells _ _
    refine ⟨by rw [Array.length_toList, hs], .inr ⟨pb, n, _, rfl, Nat.zero_le _, h4, Nat.le_refl _, by unfold maxLen; omega, hs, ?_⟩⟩
    rw [List.take_of_length_le (by rw [Array.length_toList, hs]; exact Nat.le_refl _)]
  · intro i q hi
    rw [hq i q hi]
    refine ⟨⟨rfl, .inl ⟨rfl, rfl⟩⟩, rfl, fun k u x hu _ => by simp [zeroP] at hu⟩
  · simp [zeroX]
  · simp [zeroX, Ne.symm n1]
  · simp [zeroX, Ne.symm n2, Ne.symm n4]
  · intro r hr
    have h' : r ∈ blk (.slice (some ⟨pb, 0, none⟩) n n) := hr
    have : r = pb := by simpa [blk_slice] using h'
    subst this
    simp [zeroX, Ne.symm n3, Ne.symm n5, Ne.symm n6]
  · intro i q hi r hr
    rw [hq i q hi] at hr
    simp [zeroV, blk, Value.ownBlock] at hr
  · intro i q k x hi hx
    rw [hq i q hi] at hx
    simp [zeroV] at hx
theorem zeroX_foot (b mo ms pb n : Nat) (W H S : Int) : ∀ r ∈ (zeroX b mo ms pb n W H S).foot, r = b ∨ r = mo ∨ r = ms ∨ r = pb := by
  intro r hr
  simp only [XW.foot, zeroX, List.mem_cons, List.mem_append, List.mem_flatMap, blk_slice] at hr
  rcases hr with h | h | h | h | ⟨q, hq, h⟩ | h | h
  · exact .inl h
  · exact .inr (.inl h)
  · exact .inr (.inr (.inl h))
  · exact .inr (.inr (.inr (by simpa using h)))
  · have := List.eq_of_mem_replicate hq
    rw [this] at h
    simp [xvFoot, zeroV, blk, Value.ownBlock] at h
  · simp [blk, Value.ownBlock] at h
  · simp [blk, Value.ownBlock] at h

def eastF : Nat := 4607182418800017408
theorem head_east : HeadC 0 eastF 0 := by
  unfold HeadC
  simp [eastF, oneF]
theorem firstCells (s : SSpot) (g : Nat) : xuCells (firstU s) ⟨g, eastF, 0⟩ = #[.string ⟨#[97]⟩, .complex .f64 (flI s.x) (flI s.y), .complex .f64 4607182418800017408 0, .int .i64 0, .int .i64 0, .string ⟨#[]⟩, .string ⟨#[]⟩, .int .i64 0] := by
  simp [xuCells, firstU, firstU.bytesA, emptyB, Lib.toList_data, kindW, kindP, kindN, eastF]
theorem firstRep (w : World) (s : SSpot) : RepU (w.alloc (.cells #[.string ⟨#[97]⟩, .complex .f64 (flI s.x) (flI s.y), .complex .f64 4607182418800017408 0, .int .i64 0, .int .i64 0, .string ⟨#[]⟩, .string ⟨#[]⟩, .int .i64 0] 91)) (firstU s) ⟨w.heap.size, eastF, 0⟩ := by
  refine ⟨?_, head_east, by simp [firstU, emptyB, whatW, Lib.toList_data]⟩
  rw [firstCells]
  exact Go.heap_alloc_new w _
end Go.Proofs.YtlafddeoheambaaGreatDoor
