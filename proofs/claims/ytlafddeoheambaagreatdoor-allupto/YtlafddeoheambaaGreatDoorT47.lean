/-
  The function closeLots of package haze.
-/
import Derived.Test.YtlafddeoheambaaGreatDoorT43
import Derived.Test.YtlafddeoheambaaGreatDoorT46
import Derived.Deep.AppendLies
set_option linter.unusedVariables false
namespace Go.Proofs.YtlafddeoheambaaGreatDoor
open Go.RowKit

theorem Tryz.infoLot : (Tryz.prog.info? 108).map (fun i => (i.zero, i.size, i.bytes)) = some (some (.agg #[.string ⟨#[]⟩, .int .i64 0, .int .i64 0, .int .i64 0, .int .i64 0, .int .i64 0, .int .i64 0]), 7, 64) := by kernel_rfl
theorem Tryz.infoSale : (Tryz.prog.info? 137).map (fun i => (i.zero, i.size, i.bytes)) = some (some (.agg #[.string ⟨#[]⟩, .int .i64 0, .int .i64 0]), 3, 32) := by kernel_rfl
/-- What closeLots asks of the world. -/
structure ClA (X : XW) : Prop where
  pl : 2 ≤ X.pls.length ∧ X.pls.length ≤ 4
  mo : ∀ p ∈ X.S.players, -1000000000000 ≤ p.money ∧ p.money ≤ 1000000000000
  ap : Apart X.lots
  len : X.lots.length ≤ 4
  lst : ∀ l ∈ X.lots, 0 ≤ l.least ∧ l.least ≤ 100000
  en : ∀ l ∈ X.lots, X.S.now ≤ l.ends
  bd : ∀ l ∈ X.opens, ∀ i, 0 ≤ l.bid i ∧ l.bid i ≤ 100000
theorem clK_first {w : World} {X : XW} (hr : RepX w X) (hO : OkX X) (hn : ∀ p ∈ X.S.players, p.news = []) : ClK w X (w.setCell ⟨X.b, 8, none⟩ (.slice none 0 0)) 0 (X.withL X.vOp X.opens (.slice none 0 0) [] X.R) (.slice none 0 0) := by
  have hb0 : blk (.slice none 0 0) = [] := rfl
  have R := hr.roles
  have nop : ∀ r ∈ blk X.vOp, r ≠ X.b := fun r hr' e => by
    have h1 := R.lot.1 r hr'
    rw [e, R.b] at h1
    cases h1
  have ht : (w.setCell ⟨X.b, 8, none⟩ (.slice none 0 0)).heap[X.b]? = some (.cells (X.withL X.vOp X.opens (.slice none 0 0) [] X.R).cells 84 (0, 0)) := by
    rw [cells_set hr.top]
    rfl
  have hrep := hr.withL (v := X.vOp) (v' := .slice none 0 0) (l := X.opens) (l' := []) (R' := X.R) (w' := w.setCell ⟨X.b, 8, none⟩ (.slice none 0 0)) (fun r _ hb _ _ => setCell_far _ _ _ _ r hb) ht
    ⟨own_same hr.lot.1 (fun r hr' => setCell_far _ _ _ _ r (nop r hr')), ⟨rfl, .inl ⟨rfl, rfl⟩⟩⟩ (fun _ _ _ _ => rfl) ⟨fun r hr' => R.lot.1 r hr', by simp [hb0]⟩
  refine ⟨(TurnX.refl hr).withL hrep ((Kept.refl _ _).setCell _ _ _ (.inl xfoot_b)) (fun r hr' => .inl (by simp [XW.foot, hr'])) (by simp [hb0]), rfl, rfl, rfl, rfl, fun i q hq => ?_, hO.st, hO.ore, hO.dist, World.ownsRow_nil _ _ _ _, by simp [hb0]⟩
  have : q.1 ∈ X.S.players := List.mem_map_of_mem (List.mem_of_getElem? hq)
  exact hn _ this
theorem bel_drewN {B : Nat} {w w' : World} (h : Below B w w') (n : Nat) : Below B w (w'.drewN n) := ⟨h.os, h.tape, h.output, h.size, h.block⟩
theorem mem_mapIdx' {α β : Type} {f : Nat → α → β} {l : List α} {b : β} (h : b ∈ l.mapIdx f) : ∃ i a, l[i]? = some a ∧ b = f i a := by
  obtain ⟨i, hi⟩ := List.getElem?_of_mem h
  rw [List.getElem?_mapIdx, Option.map_eq_some_iff] at hi
  obtain ⟨a, h1, h2⟩ := hi
  exact ⟨i, a, h1, h2.symm⟩
/-- No player has more than it had, or much less. -/
theorem ClK.money {w : World} {X : XW} (hO : OkX X) (hA : ClA X) : ∀ (k : Nat), k ≤ X.opens.length → ∀ (w1 : World) (Xk : XW) (v : Value), ClK w X w1 k Xk v → ∀ p ∈ Xk.S.players, -1000000000000 - 100000 * (k : Int) ≤ p.money ∧ p.money ≤ 1000000000000 := by
  intro k
  have gen : ∀ k, k ≤ X.opens.length → (∀ p ∈ (soldTo X.S X.opens k).players, -1000000000000 - 100000 * (k : Int) ≤ p.money ∧ p.money ≤ 1000000000000) := by
    intro k
    induction k with
    | zero => intro _ p hp; have := hA.mo p hp; push_cast; omega
    | succ k ih =>
      intro hk p hp
      have ih' := ih (by omega)
      obtain ⟨l, hl⟩ : ∃ l, X.opens[k]? = some l := ⟨X.opens[k], by simp [show k < X.opens.length by omega]⟩
      cases ho : openX X.S.now l
      · rw [sold_yes hl ho] at hp
        have hm := List.mem_of_getElem? hl
        have hb : ∀ i, bidsOf (soldTo X.S X.opens k).players l.name i = l.bid i := by
          intro i
          have hn : l.name ∉ (dueTo X.opens X.S.now k).map (·.name) := by
            intro hm'
            obtain ⟨x, hx, e⟩ := List.mem_map.1 hm'
            have hx2 : x ∈ X.opens.take k := (List.mem_filter.1 hx).1
            have := opens_inj hO hA.ap (List.mem_of_mem_take hx2) hm e
            subst this
            obtain ⟨j, hj⟩ := List.getElem?_of_mem hx2
            rw [List.getElem?_take] at hj
            split at hj
            · rename_i hjk
              have hd := asc_names (hO.lot.asc hA.ap)
              obtain ⟨hjo, ej⟩ := at_some hj
              obtain ⟨hko, ek⟩ := at_some hl
              have := List.pairwise_iff_getElem.1 hd j k (by simpa using hjo) (by simpa using hko) hjk
              apply this
              simp only [List.getElem_map, ej, ek]
            · cases hj
          unfold soldTo
          rw [fold_bids _ i hn, bidsOf_at, hO.lot.bid l hm i]
          congr 1
          simp [XW.S, Function.comp_def]
        have h4 : (soldTo X.S X.opens k).players.length ≤ 4 := by
          have := (fold_len (dueTo X.opens X.S.now k) X.S).1
          have e : X.S.players.length = X.pls.length := by simp [XW.S]
          have := hA.pl
          unfold soldTo
          omega
        obtain ⟨e1, e2⟩ := sell_eq hb (fun i => (hA.bd l hm i).1) h4
        rw [e1] at hp
        obtain ⟨i, q, hq, rfl⟩ := mem_mapIdx' hp
        have hq' := ih' q (List.mem_of_getElem? hq)
        have hpr : 0 ≤ (saleOf l).price ∧ (saleOf l).price ≤ 100000 := by
          rcases e2 with ⟨_, h⟩ | ⟨j, _, _, h1, h2⟩
          · omega
          · have := hA.lst (lotOf l) (hO.lot.mem hm)
            have := hA.bd l hm j
            have h3 : (lotOf l).least = l.least := rfl
            omega
        unfold soldX
        push_cast
        show _ ≤ (if (i : Int) = (saleOf l).who then q.money - (saleOf l).price else q.money) ∧ (if (i : Int) = (saleOf l).who then q.money - (saleOf l).price else q.money) ≤ _
        split <;> omega
      · rw [sold_no hl ho] at hp
        have := ih' p hp
        push_cast
        omega
  intro hk w1 Xk v h p hp
  rw [h.s] at hp
  exact gen k hk p hp

set_option maxRecDepth 100000 in
set_option maxHeartbeats 8000000 in
theorem xclose_any (w : World) (X : XW) (hr : RepX w X) (hO : OkX X) (hn : ∀ p ∈ X.S.players, p.news = []) (hA : ClA X) :
    Calls Tryz.prog 32 #[.pointer (some ⟨X.b, 0, none⟩)] w fun e w' => e = .returned (.tuple #[]) ∧ ∃ X', TurnX w X w' X' ∧ OkX X' ∧ X'.S = closeS X.S ∧ NewsOK X' ∧ X'.sales = (dueTo X.opens X.S.now X.opens.length).map saleOf := by
  obtain ⟨ao, g, cap, hv, hcap, hmax, rd⟩ := own_rd hr.lot.1
  unfold maxLen at hmax
  have c7 : w.cell? ⟨X.b, 7, none⟩ = some (.slice ao X.opens.length cap) := by rw [← hv]; exact hr.cellTop rfl
  have c8 : w.cell? ⟨X.b, 8, none⟩ = some X.vCl := hr.cellTop rfl
  have f8 : w.frozen? ⟨X.b, 8, none⟩ = false := hr.frozenTop 8
  have hol : X.opens.length ≤ 4 := by rw [hO.lot.len]; exact hA.len
  have HF := hidOf (clK_first hr hO hn)
  have HE : Hid (∀ (w1 : World) (Xk : XW) (v : Value), ClK w X w1 X.opens.length Xk v → ∃ X', TurnX w X (w1.setCell ⟨Xk.b, 7, none⟩ v) X' ∧ OkX X' ∧ X'.S = closeS X.S ∧ NewsOK X' ∧ X'.sales = (dueTo X.opens X.S.now X.opens.length).map saleOf) := fun w1 Xk v h => closed_all h hO hA.ap hA.en
  have HA := hidOf hA
  have HO := hidOf hO
  have HV := hidOf hv
  have HB0 := hidOf rd.base
  obtain ⟨i0, hi0, hz0, hz1, hz2⟩ := info_parts Tryz.infoLot
  obtain ⟨j0, hj0, hy0, hy1, hy2⟩ := info_parts Tryz.infoSale
  clear hr hO hn hA hv rd
  go_enter Tryz.func32, Tryz.ntmps32
  go_wp2_with fail
  go_loopw [2, 3, 4, 5, 14] (fun o _ _ _ i w' => ∃ (k c : Nat) (a : Option Addr) (Xk : XW), k ≤ X.opens.length ∧ i = .int .i64 k ∧ o = .slice a (keepTo X.opens X.S.now k).length c ∧ Hid (ClK w X w' k Xk (.slice a (keepTo X.opens X.S.now k).length c))) (fun _ _ _ _ i _ => X.opens.length + 1 - (intOf i).toNat)
  case atStart => exact ⟨0, 0, none, _, Nat.zero_le _, rfl, rfl, HF⟩
  case round =>
    clear c7 c8 f8 HF
    obtain ⟨k, c, a, Xk, hk, rfl, rfl, K⟩ := hrel
    have hb : Xk.b = X.b := K.out.t.b
    have c7 : wr.cell? ⟨X.b, 7, none⟩ = some (.slice ao X.opens.length cap) := by rw [← hb, ← HV.out, ← K.out.vo]; exact K.out.t.rep.cellTop rfl
    have f7 : wr.frozen? ⟨X.b, 7, none⟩ = false := by rw [← hb]; exact K.out.t.rep.frozenTop 7
    have hn4 : (keepTo X.opens X.S.now k).length ≤ 4 := by
      unfold keepTo
      have h1 := List.length_filter_le (openX X.S.now) (X.opens.take k)
      have h2 := List.length_take_le k X.opens
      omega
    by_cases hlt : k < X.opens.length
    · have hlt' : (k : Int) < (X.opens.length : Int) := by omega
      obtain ⟨l, hl⟩ : ∃ l, X.opens[k]? = some l := ⟨X.opens[k], by simp [hlt]⟩
      have eao : ao = some ⟨g, 0, none⟩ := HB0.out (by omega)
      subst eao
      have LA : Hid (∀ wx, Below wr.heap.size wr wx → LotAt wx g (k * 7) l) := fun wx hbx => by
        have hrow := K.out.t.rep.lot.1
        rw [K.out.vo, K.out.op, HV.out] at hrow
        exact (lot_at hrow hl).below hbx
      have hnow : Xk.now = X.S.now := by
        have e : Xk.S.now = (soldTo X.S X.opens k).now := by rw [K.out.s]
        exact e.trans (fold_len _ _).2.1
      have c0 : wr.cell? ⟨X.b, 0, none⟩ = some (.int .i64 X.S.now) := by rw [← hb, ← hnow]; exact K.out.t.rep.cellTop rfl
      obtain ⟨l0, l1, l2, l3, l4, l5, l6⟩ := LA.out wr (Below.refl _ _)
      have HL := hidOf hl
      clear hnow hl
      obtain ⟨now, hnw⟩ : ∃ now, now = X.S.now := ⟨_, rfl⟩
      rw [← hnw] at c0
      have HNw := hidOf hnw
      cases hop : openX X.S.now l
      · have e1 : decide (now < l.ends) = false := by rw [hnw]; exact hop
        have HOp := hidOf hop
        have hm := List.mem_of_getElem? HL.out
        have hpls : Xk.S.players.length = Xk.pls.length := by simp [XW.S]
        have hlenp : Xk.pls.length = X.pls.length := by
          have e : Xk.S.players.length = (soldTo X.S X.opens k).players.length := by rw [K.out.s]
          have e2 := (fold_len (dueTo X.opens X.S.now k) X.S).1
          have e3 : X.S.players.length = X.pls.length := by simp [XW.S]
          unfold soldTo at e
          omega
        have hp4 := HA.out.pl
        obtain ⟨se, sw⟩ := sell_eq (K.out.bid HO.out HA.out.ap HL.out) (fun i => (HA.out.bd l hm i).1) (by omega)
        have HSe := hidOf se
        have hpb : 0 ≤ (saleOf l).price ∧ (saleOf l).price ≤ 100000 := by
          rcases sw with ⟨_, h⟩ | ⟨j, _, _, h1, h2⟩
          · omega
          · have := HA.out.lst (lotOf l) (HO.out.lot.mem hm)
            have := HA.out.bd l hm j
            have h3 : (lotOf l).least = l.least := rfl
            omega
        have HCl : Hid (∀ wx, Below wr.heap.size wr wx → Calls Tryz.prog 73 #[.pointer (some ⟨g, k * 7, none⟩)] wx fun e w' => e = .returned (.agg #[.string l.name, .int .i64 (saleOf l).who, .int .i64 (saleOf l).price]) ∧ Below wx.heap.size wx w') := fun wx h => lclose_any wx g (k * 7) l (LA.out wx h)
        have hkeq : Hid (keepTo X.opens X.S.now (k + 1) = keepTo X.opens X.S.now k) := keep_no HL.out HOp.out
        have hsc : Hid (xsaleCells (saleOf l) = [.string l.name, .int .i64 (saleOf l).who, .int .i64 (saleOf l).price]) := rfl
        obtain ⟨wh, hwh⟩ : ∃ wh, wh = (saleOf l).who := ⟨_, rfl⟩
        obtain ⟨pr, hpr⟩ : ∃ pr, pr = (saleOf l).price := ⟨_, rfl⟩
        rw [← hwh, ← hpr] at HCl hsc
        rw [← hpr] at hpb
        have HWh := hidOf hwh
        have HPr := hidOf hpr
        have hdl : Hid ((dueTo X.opens X.S.now k).length ≤ 4) := by
          unfold Hid dueTo
          have h1 := List.length_filter_le (fun l => !openX X.S.now l) (X.opens.take k)
          have h2 := List.length_take_le k X.opens
          omega
        clear hop hnw hm se hpls hpr
        go_wp2_with fail
        go_quiet (fail)
        go_wp2_with fail
        refine (HCl.out (wr.drewN nq) (bel_drewN (Below.refl _ _) nq)).mono ?_
        rintro e w1 ⟨rfl, hb1⟩
        have B1 : Hid (Below wr.heap.size wr w1) := (bel_drewN (Below.refl _ _) nq).trans hb1
        have B2 : Hid (Below w1.heap.size w1 (w1.alloc (.cells #[.string l.name, .int .i64 wh, .int .i64 pr] 137))) := (Below.refl _ _).alloc (Nat.le_refl _) _
        have hnew := Go.heap_alloc_new w1 (.cells #[.string l.name, .int .i64 wh, .int .i64 pr] 137)
        have HNew := hidOf hnew
        clear hb1 HCl hnew c7 c0 l0 l1 l2 l3 l4 l5 l6 f7
        have K2 := hidOf ((K.out.below B1.out).below B2.out)
        have HKp2 := hidOf (K.out.below B1.out)
        clear K
        rcases sw with ⟨hw1, _⟩ | ⟨j, hj, hwj, _, _⟩
        · have hwm : wh = -1 := hwh.trans hw1
          clear hwh
          subst hwm
          have M3 := hidOf (K2.out.sell0 HL.out HOp.out hw1 HSe.out)
          obtain ⟨Xm, hXm⟩ : ∃ Xm, Xm = saleG Xk l := ⟨_, rfl⟩
          have hbm : Xm.b = X.b := M3.out.t.b ▸ (by rw [hXm])
          rw [← hXm] at M3
          clear hXm K2
          go_wp2_with fail
          obtain ⟨w3, hw3⟩ : ∃ w3, w3 = w1.alloc (.cells #[.string l.name, .int .i64 (-1), .int .i64 pr] 137) := ⟨_, rfl⟩
          rw [← hw3] at M3 HNew B2
          rw [← hw3]
          clear hw3
          have t0 : w3.cell? ⟨w1.heap.size, 0, none⟩ = some (.string l.name) := by rw [cell_of_row _ _ _ _ _ _ HNew.out]; rfl
          have t1 : w3.cell? ⟨w1.heap.size, 1, none⟩ = some (.int .i64 (-1)) := by rw [cell_of_row _ _ _ _ _ _ HNew.out]; rfl
          have t2 : w3.cell? ⟨w1.heap.size, 2, none⟩ = some (.int .i64 pr) := by rw [cell_of_row _ _ _ _ _ _ HNew.out]; rfl
          obtain ⟨wq, hwq⟩ : ∃ wq : Int, wq = -1 := ⟨_, rfl⟩
          rw [← hwq] at hsc t1
          rw [← hwq]
          clear hwq
          obtain ⟨a8, g8, c8n, hv8, hc8, hm8, _⟩ := own_rd M3.out.t.rep.lot.2
          unfold maxLen at hm8
          have c8 : w3.cell? ⟨X.b, 8, none⟩ = some (.slice a8 Xm.sales.length c8n) := by rw [← hbm, ← hv8]; exact M3.out.t.rep.cellTop rfl
          have f8 : w3.frozen? ⟨X.b, 8, none⟩ = false := by rw [← hbm]; exact M3.out.t.rep.frozenTop 8
          have hs4 : Xm.sales.length ≤ 4 := by rw [M3.out.sl, List.length_map]; exact hdl.out
          have hownX : Hid (∀ (wx : World) (o : Obj), wx.heap = w3.heap.push o → wx.ownsRow 0 137 3 (.slice a8 Xm.sales.length c8n) Xm.sales.length (Xm.sales.flatMap xsaleCells)) := by
            intro wx o hxx
            have h1 := M3.out.t.rep.lot.2
            rw [hv8] at h1
            refine own_same h1 (fun r hr => ?_)
            have := own_lt h1 r hr
            rw [hxx]
            simp [Array.getElem?_push, Nat.ne_of_lt this]
          have hlX : Hid (X.b < w3.heap.size) := by rw [← hbm]; exact M3.out.t.rep.lt _ xfoot_b
          have hneX : Hid ((Value.slice a8 Xm.sales.length c8n).ownBlock ≠ some X.b) := by
            intro e
            have e1 := M3.out.t.rep.roles.lot.2 X.b (by rw [hv8]; simp [blk, e])
            rw [← hbm, M3.out.t.rep.roles.b] at e1
            cases e1
          have a8' : ∀ o, (w3.alloc o).cell? ⟨X.b, 8, none⟩ = some (.slice a8 Xm.sales.length c8n) := fun o => by rw [World.cell?_alloc_past _ _ _ hlX.out]; exact c8
          have HV8 := hidOf hv8
          have HDn : Hid (∀ (o : Obj) (gr cp : Nat) (w6 : World), (w3.alloc o).drew.grownBy w6 (some gr) → w6.ownsRow 0 137 3 (.slice (some ⟨gr, 0, none⟩) (Xm.sales.length + 1) cp) (Xm.sales.length + 1) (Xm.sales.flatMap xsaleCells ++ [.string l.name, .int .i64 wq, .int .i64 pr]) → ((Value.slice a8 Xm.sales.length c8n).ownBlock = some gr ∨ gr = w3.heap.size + 1) → ∃ Xn, Hid (ClK w X (w6.setCell ⟨X.b, 8, none⟩ (.slice (some ⟨gr, 0, none⟩) (Xm.sales.length + 1) cp)) (k + 1) Xn (.slice a (keepTo X.opens X.S.now (k + 1)).length c))) := fun o gr cp w6 h1 h2 h3 => by
            rw [← hsc.out] at h2
            have := M3.out.done HL.out HOp.out h1 h2 (by rw [HV8.out]; exact h3)
            rw [hbm] at this
            rw [hkeq.out]
            exact ⟨_, this⟩
          obtain ⟨m8, hm8e⟩ : ∃ m8, m8 = Xm.sales.length := ⟨_, rfl⟩
          obtain ⟨xs8, hx8⟩ : ∃ xs8, xs8 = Xm.sales.flatMap xsaleCells := ⟨_, rfl⟩
          rw [← hm8e, ← hx8] at HDn hownX
          rw [← hm8e] at a8' c8 hs4 hc8
          rw [← hm8e] at hneX
          clear hv8 HV8 hm8e hx8 M3
          go_region_law (refine step_append_only (by rfl) _ _ _ (by rfl) 0 137 j0 _ 3 32 Tryz.underlying82 hj0 hy0 hy1 hy2 (by rfl) (by omega) (.slice a8 m8 c8n) m8 xs8 (by rfl) (by exact hownX.out _ _ rfl) ⟨w3.heap.size, 0, none⟩ 1 1 [.string l.name, .int .i64 wq, .int .i64 pr] (by rfl) (by rfl) (by exact World.news_of_block (Go.heap_alloc_new w3 _)) (by intro u hu; simp at hu; rcases hu with rfl | rfl | rfl <;> rfl) (by omega) (by unfold maxLen; omega) (by omega) (by omega) (w3.heap.size + 1) (by simp) ?_; intro gr cp6 w6 hown6 hgrow hat hgrow2; obtain ⟨q1, q2⟩ := keepOther (((Below.refl _ w3).alloc (Nat.le_refl _) _).drew) hgrow hlX.out (Ne.symm hneX.out) 8; rw [c8] at q1; rw [f8] at q2)
          all_goals
            obtain ⟨Xn, KN⟩ := HDn.out _ gr cp6 w6 hgrow2 hown6 hat
            clear hgrow2 hown6 hat hgrow
            go_wp2
            exact ⟨⟨k + 1, c, a, Xn, by omega, by go_num, by rw [hkeq.out], KN⟩, by simp [intOf]; omega⟩
        · have hwm : wh = (j : Int) := hwh.trans hwj
          clear hwh
          subst hwm
          have hjl : j < Xk.pls.length := by
            have : Xk.S.players.length = Xk.pls.length := by simp [XW.S]
            omega
          obtain ⟨p, u, hq⟩ := xat_of_lt hjl
          obtain ⟨pb, pcap, hvp, hpc, hpm⟩ := K2.out.t.rep.plForm (by omega)
          unfold maxLen at hpm
          have hmo := ClK.money HO.out HA.out k (by omega) _ _ _ K2.out p (List.mem_of_getElem? (XS_at hq))
          have M2 := hidOf (K2.out.sell1 HL.out HOp.out hwj HSe.out hq hvp)
          rw [← HPr.out] at M2
          obtain ⟨Xm, hXm⟩ : ∃ Xm, Xm = saleG (Xk.setQ j ({ p with money := p.money - pr }, u)) l := ⟨_, rfl⟩
          have hbm : Xm.b = X.b := by rw [hXm]; exact hb
          rw [← hXm] at M2
          have c6 : (w1.alloc (.cells #[.string l.name, .int .i64 (j : Int), .int .i64 pr] 137)).cell? ⟨X.b, 6, none⟩ = some (.slice (some ⟨pb, 0, none⟩) Xk.pls.length pcap) := by rw [← hb, ← hvp]; exact K2.out.t.rep.cellTop rfl
          have m0 : (w1.alloc (.cells #[.string l.name, .int .i64 (j : Int), .int .i64 pr] 137)).cell? ⟨pb, j * 2, none⟩ = some (.int .i64 p.money) := (K2.out.t.rep.plCell hq hvp).1
          have fz : (w1.alloc (.cells #[.string l.name, .int .i64 (j : Int), .int .i64 pr] 137)).frozen? ⟨pb, j * 2, none⟩ = false := K2.out.t.rep.plFrozen hvp (j * 2)
          have t0 : (w1.alloc (.cells #[.string l.name, .int .i64 (j : Int), .int .i64 pr] 137)).cell? ⟨w1.heap.size, 0, none⟩ = some (.string l.name) := by rw [cell_of_row _ _ _ _ _ _ HNew.out]; rfl
          have t1 : (w1.alloc (.cells #[.string l.name, .int .i64 (j : Int), .int .i64 pr] 137)).cell? ⟨w1.heap.size, 1, none⟩ = some (.int .i64 (j : Int)) := by rw [cell_of_row _ _ _ _ _ _ HNew.out]; rfl
          have t2 : (w1.alloc (.cells #[.string l.name, .int .i64 (j : Int), .int .i64 pr] 137)).cell? ⟨w1.heap.size, 2, none⟩ = some (.int .i64 pr) := by rw [cell_of_row _ _ _ _ _ _ HNew.out]; rfl
          have hpbw : pb ≠ w1.heap.size := by
            have h1 := HKp2.out.t.rep.lt pb (xfoot_pl (by rw [hvp]; simp [blk_slice]))
            omega
          have hwr : IntKind.i64.wrap (p.money - pr) = p.money - pr := by rw [IntKind.wrap_i64]; omega
          have e2 : ((j : Int) == -1) = false := by rw [beq_eq_false_iff_ne]; omega
          have hjl' : (j : Int) < (Xk.pls.length : Int) := by omega
          clear hXm hvp hq hmo K2
          go_wp2_with fail
          go_region
          have HN3 : Hid (((w1.alloc (.cells #[.string l.name, .int .i64 (j : Int), .int .i64 pr] 137)).setCell ⟨pb, j * 2, none⟩ (.int .i64 (p.money - pr))).drew.heap[w1.heap.size]? = some (.cells #[.string l.name, .int .i64 (j : Int), .int .i64 pr] 137 (0, 0))) := by
            unfold Hid
            show ((w1.alloc (.cells #[.string l.name, .int .i64 (j : Int), .int .i64 pr] 137)).setCell ⟨pb, j * 2, none⟩ (.int .i64 (p.money - pr))).heap[w1.heap.size]? = _
            rw [setCell_far _ _ _ _ _ (Ne.symm hpbw)]
            exact HNew.out
          have M3 : Hid (ClM w X ((w1.alloc (.cells #[.string l.name, .int .i64 (j : Int), .int .i64 pr] 137)).setCell ⟨pb, j * 2, none⟩ (.int .i64 (p.money - pr))).drew k Xm (.slice a (keepTo X.opens X.S.now k).length c) l) := M2.out.below (bel_drewN (Below.refl _ _) 1)
          clear M2 c6 m0 fz t0 t1 t2 HNew
          go_wp2_with fail
          obtain ⟨w3, hw3⟩ : ∃ w3, w3 = ((w1.alloc (.cells #[.string l.name, .int .i64 (j : Int), .int .i64 pr] 137)).setCell ⟨pb, j * 2, none⟩ (.int .i64 (p.money - pr))).drew := ⟨_, rfl⟩
          rw [← hw3] at M3 HN3
          rw [← hw3]
          have t0 : w3.cell? ⟨w1.heap.size, 0, none⟩ = some (.string l.name) := by rw [cell_of_row _ _ _ _ _ _ HN3.out]; rfl
          have t1 : w3.cell? ⟨w1.heap.size, 1, none⟩ = some (.int .i64 (j : Int)) := by rw [cell_of_row _ _ _ _ _ _ HN3.out]; rfl
          have t2 : w3.cell? ⟨w1.heap.size, 2, none⟩ = some (.int .i64 pr) := by rw [cell_of_row _ _ _ _ _ _ HN3.out]; rfl
          clear hw3
          obtain ⟨wq, hwq⟩ : ∃ wq : Int, wq = (j : Int) := ⟨_, rfl⟩
          rw [← hwq] at hsc t1
          rw [← hwq]
          clear hwq
          obtain ⟨a8, g8, c8n, hv8, hc8, hm8, _⟩ := own_rd M3.out.t.rep.lot.2
          unfold maxLen at hm8
          have c8 : w3.cell? ⟨X.b, 8, none⟩ = some (.slice a8 Xm.sales.length c8n) := by rw [← hbm, ← hv8]; exact M3.out.t.rep.cellTop rfl
          have f8 : w3.frozen? ⟨X.b, 8, none⟩ = false := by rw [← hbm]; exact M3.out.t.rep.frozenTop 8
          have hs4 : Xm.sales.length ≤ 4 := by rw [M3.out.sl, List.length_map]; exact hdl.out
          have hownX : Hid (∀ (wx : World) (o : Obj), wx.heap = w3.heap.push o → wx.ownsRow 0 137 3 (.slice a8 Xm.sales.length c8n) Xm.sales.length (Xm.sales.flatMap xsaleCells)) := by
            intro wx o hxx
            have h1 := M3.out.t.rep.lot.2
            rw [hv8] at h1
            refine own_same h1 (fun r hr => ?_)
            have := own_lt h1 r hr
            rw [hxx]
            simp [Array.getElem?_push, Nat.ne_of_lt this]
          have hlX : Hid (X.b < w3.heap.size) := by rw [← hbm]; exact M3.out.t.rep.lt _ xfoot_b
          have hneX : Hid ((Value.slice a8 Xm.sales.length c8n).ownBlock ≠ some X.b) := by
            intro e
            have e1 := M3.out.t.rep.roles.lot.2 X.b (by rw [hv8]; simp [blk, e])
            rw [← hbm, M3.out.t.rep.roles.b] at e1
            cases e1
          have a8' : ∀ o, (w3.alloc o).cell? ⟨X.b, 8, none⟩ = some (.slice a8 Xm.sales.length c8n) := fun o => by rw [World.cell?_alloc_past _ _ _ hlX.out]; exact c8
          have HV8 := hidOf hv8
          have HDn : Hid (∀ (o : Obj) (gr cp : Nat) (w6 : World), (w3.alloc o).drew.grownBy w6 (some gr) → w6.ownsRow 0 137 3 (.slice (some ⟨gr, 0, none⟩) (Xm.sales.length + 1) cp) (Xm.sales.length + 1) (Xm.sales.flatMap xsaleCells ++ [.string l.name, .int .i64 wq, .int .i64 pr]) → ((Value.slice a8 Xm.sales.length c8n).ownBlock = some gr ∨ gr = w3.heap.size + 1) → ∃ Xn, Hid (ClK w X (w6.setCell ⟨X.b, 8, none⟩ (.slice (some ⟨gr, 0, none⟩) (Xm.sales.length + 1) cp)) (k + 1) Xn (.slice a (keepTo X.opens X.S.now (k + 1)).length c))) := fun o gr cp w6 h1 h2 h3 => by
            rw [← hsc.out] at h2
            have := M3.out.done HL.out HOp.out h1 h2 (by rw [HV8.out]; exact h3)
            rw [hbm] at this
            rw [hkeq.out]
            exact ⟨_, this⟩
          obtain ⟨m8, hm8e⟩ : ∃ m8, m8 = Xm.sales.length := ⟨_, rfl⟩
          obtain ⟨xs8, hx8⟩ : ∃ xs8, xs8 = Xm.sales.flatMap xsaleCells := ⟨_, rfl⟩
          rw [← hm8e, ← hx8] at HDn hownX
          rw [← hm8e] at a8' c8 hs4 hc8
          rw [← hm8e] at hneX
          clear hv8 HV8 hm8e hx8 M3
          go_region_law (refine step_append_only (by rfl) _ _ _ (by rfl) 0 137 j0 _ 3 32 Tryz.underlying82 hj0 hy0 hy1 hy2 (by rfl) (by omega) (.slice a8 m8 c8n) m8 xs8 (by rfl) (by exact hownX.out _ _ rfl) ⟨w3.heap.size, 0, none⟩ 1 1 [.string l.name, .int .i64 wq, .int .i64 pr] (by rfl) (by rfl) (by exact World.news_of_block (Go.heap_alloc_new w3 _)) (by intro u hu; simp at hu; rcases hu with rfl | rfl | rfl <;> rfl) (by omega) (by unfold maxLen; omega) (by omega) (by omega) (w3.heap.size + 1) (by simp) ?_; intro gr cp6 w6 hown6 hgrow hat hgrow2; obtain ⟨q1, q2⟩ := keepOther (((Below.refl _ w3).alloc (Nat.le_refl _) _).drew) hgrow hlX.out (Ne.symm hneX.out) 8; rw [c8] at q1; rw [f8] at q2)
          all_goals
            obtain ⟨Xn, KN⟩ := HDn.out _ gr cp6 w6 hgrow2 hown6 hat
            clear hgrow2 hown6 hat hgrow
            go_wp2
            exact ⟨⟨k + 1, c, a, Xn, by omega, by go_num, by rw [hkeq.out], KN⟩, by simp [intOf]; omega⟩
      · have e1 : decide (now < l.ends) = true := by rw [hnw]; exact hop
        have HOp := hidOf hop
        clear hop hnw
        have HO2 : Hid (∀ o nq, ((wr.drewN nq).alloc o).ownsRow w.heap.size 108 7 (.slice a (keepTo X.opens X.S.now k).length c) (keepTo X.opens X.S.now k).length ((keepTo X.opens X.S.now k).flatMap xlotCells)) := fun o nq => ownsRow_alloc (own_same2 K.out.row (fun _ _ => rfl)) o
        have HBs := hidOf K.out.t.kept.size
        have HKp : Hid (∀ (o : Obj) (w2 : World) (g' cap' nq : Nat), ((wr.drewN nq).alloc o).grownBy w2 (Value.slice a (keepTo X.opens X.S.now k).length c).ownBlock → ((Value.slice a (keepTo X.opens X.S.now k).length c).ownBlock = some g' ∨ g' = wr.heap.size + 1) → w2.ownsRow w.heap.size 108 7 (.slice (some ⟨g', 0, none⟩) ((keepTo X.opens X.S.now k).length + 1) cap') ((keepTo X.opens X.S.now k).length + 1) ((keepTo X.opens X.S.now k).flatMap xlotCells ++ xlotCells l) → Hid (ClK w X w2 (k + 1) Xk (.slice (some ⟨g', 0, none⟩) (keepTo X.opens X.S.now (k + 1)).length cap'))) := fun o w2 g' cap' nq hg hat ho => by
          have hsz : ((wr.drewN nq).alloc o).heap.size = wr.heap.size + 1 := by
            show ((wr.drewN nq).heap.push _).size = _
            rw [Array.size_push]
            rfl
          have hK : ClK w X (wr.drewN nq) k Xk (.slice a (keepTo X.opens X.S.now k).length c) := K.out.below ⟨rfl, rfl, rfl, Nat.le_refl _, fun _ _ => rfl⟩
          exact hK.keep HL.out HOp.out hg (hat.imp id (fun e => by omega)) ho
        have hlen : Hid ((keepTo X.opens X.S.now (k + 1)).length = (keepTo X.opens X.S.now k).length + 1) := by unfold Hid; rw [keep_yes HL.out HOp.out]; simp
        have hgw : g < wr.heap.size := block_lt_of_cell l0
        clear K
        go_wp2_with fail
        go_quiet (fail)
        go_wp2_with (at_builtin; refine wpList_append_lies _ rfl _ _ _ rfl w.heap.size 108 i0 _ 7 64 Tryz.underlying81 hi0 hz0 hz1 hz2 rfl (by omega) (.slice a (keepTo X.opens X.S.now k).length c) (keepTo X.opens X.S.now k).length ((keepTo X.opens X.S.now k).flatMap xlotCells) rfl (by exact HO2.out _ _) ⟨wr.heap.size, 0, none⟩ 1 1 (xlotCells l) rfl rfl (by exact World.news_of_block (Go.heap_alloc_new _ _)) (by intro u hu; simp [xlotCells] at hu; rcases hu with rfl | rfl | rfl | rfl | rfl | rfl | rfl <;> rfl) (by omega) (by unfold maxLen; omega) (by omega) (by have := HBs.out; simp; omega) (wr.heap.size + 1) (by simp) ?_; intro g' cap' w2 hown1 hgrow hat hlt2)
        have K2 := HKp.out _ w2 g' cap' _ hgrow hat hown1
        exact ⟨⟨k + 1, cap', _, Xk, by omega, by go_num, by rw [hlen.out], K2⟩, by simp [intOf]; omega⟩
    · have hlt' : decide ((k : Int) < (X.opens.length : Int)) = false := decide_eq_false (by omega)
      have hke : k = X.opens.length := by omega
      have HEk : Hid (∃ X', TurnX w X (wr.setCell ⟨X.b, 7, none⟩ (.slice a (keepTo X.opens X.S.now k).length c)) X' ∧ OkX X' ∧ X'.S = closeS X.S ∧ NewsOK X' ∧ X'.sales = (dueTo X.opens X.S.now X.opens.length).map saleOf) := by
        have := HE.out wr Xk _ (by rw [← hke]; exact K.out)
        rw [hb] at this
        exact this
      clear hke K
      go_wp2
      go_end0
      exact ⟨rfl, HEk.out⟩
end Go.Proofs.YtlafddeoheambaaGreatDoor
