/-
  The library's functions that View calls, by the shelf's contracts: strings.Join, the Builder's WriteString, WriteByte and String, strconv.Itoa.
-/
import Derived.Test.YtlafddeoheambaaGreatDoorT02
import Derived.Test.YtlafddeoheambaaGreatDoorT01
import Derived.Shelf.Lay
import Derived.Shelf.Strings.OnBuilder
import Derived.Shelf.Strings.BuilderK
import Derived.Shelf.Strconv.Itoa3
import Derived.Laws.FloatArith
import Derived.Laws.ComplexArith
import Derived.Test.YtlafddeoheambaaGreatDoorT14
import Derived.Test.YtlafddeoheambaaGreatDoorT07
import Derived.Lib.Join
import Derived.Lib.ItoaLen
import Derived.Test.YtlafddeoheambaaGreatDoorT15
import Derived.Deep.DeepCutAuto
import Derived.Deep.RegionHeld3
import Derived.Test.YtlafddeoheambaaGreatDoorT09
set_option linter.unusedVariables false
namespace Go.Proofs.YtlafddeoheambaaGreatDoor
open Go.Shelf
shelf_lay Lays.n156 Nm 156 at Tryz as Tryz.laysJoin
theorem Tryz.extraJoin : Builder.Extra Tryz.prog Tryz.laysJoin_ren where
  sizeBuilder := by kernel_rfl
  liesBuilder := by kernel_rfl
  t5 := Tryz.underlying5
  a5 := Tryz.isAgg5
  z5 := Tryz.sizeOf5
  v5 := Tryz.zeroValue5
  infoByte := by kernel_rfl
  cellsByte := by kernel_rfl
  sizeByte := by kernel_rfl
  neB5 := by decide
theorem Tryz.laysWriteString : Lays.n166 Tryz.prog Tryz.laysJoin_ren := { mixed := Tryz.laysJoin.mixed, f166 := Tryz.laysJoin.f166, f240 := Tryz.laysJoin.f240, f276 := Tryz.laysJoin.f276, t0 := Tryz.laysJoin.t0, a0 := Tryz.laysJoin.a0, z0 := Tryz.laysJoin.z0, v0 := Tryz.laysJoin.v0, t3 := Tryz.laysJoin.t3, a3 := Tryz.laysJoin.a3, z3 := Tryz.laysJoin.z3, v3 := Tryz.laysJoin.v3, t4 := Tryz.laysJoin.t4, a4 := Tryz.laysJoin.a4, z4 := Tryz.laysJoin.z4, v4 := Tryz.laysJoin.v4, t9 := Tryz.laysJoin.t9, a9 := Tryz.laysJoin.a9, z9 := Tryz.laysJoin.z9, v9 := Tryz.laysJoin.v9, t20 := Tryz.laysJoin.t20, a20 := Tryz.laysJoin.a20, z20 := Tryz.laysJoin.z20, v20 := Tryz.laysJoin.v20, t37 := Tryz.laysJoin.t37, a37 := Tryz.laysJoin.a37, z37 := Tryz.laysJoin.z37, v37 := Tryz.laysJoin.v37, t70 := Tryz.laysJoin.t70, a70 := Tryz.laysJoin.a70, z70 := Tryz.laysJoin.z70, v70 := Tryz.laysJoin.v70, t72 := Tryz.laysJoin.t72, a72 := Tryz.laysJoin.a72, z72 := Tryz.laysJoin.z72, v72 := Tryz.laysJoin.v72, t75 := Tryz.laysJoin.t75, a75 := Tryz.laysJoin.a75, z75 := Tryz.laysJoin.z75, v75 := Tryz.laysJoin.v75, t164 := Tryz.laysJoin.t164, a164 := Tryz.laysJoin.a164, z164 := Tryz.laysJoin.z164, v164 := Tryz.laysJoin.v164 }
def Tryz.wb_ren : Ren := ⟨fun n => if n = 167 then 136 else Tryz.laysJoin_ren.f n, Tryz.laysJoin_ren.t, Tryz.laysJoin_ren.g⟩
theorem Tryz.laysWriteByte : Lays.n167 Tryz.prog Tryz.wb_ren := { mixed := Tryz.laysJoin.mixed, f167 := Tryz.func136.trans (congrArg some (by kernel_rfl)), f240 := Tryz.laysJoin.f240.trans (congrArg some (by kernel_rfl)), f276 := Tryz.laysJoin.f276.trans (congrArg some (by kernel_rfl)), t0 := Tryz.laysJoin.t0, a0 := Tryz.laysJoin.a0, z0 := Tryz.laysJoin.z0, v0 := Tryz.laysJoin.v0, t4 := Tryz.laysJoin.t4, a4 := Tryz.laysJoin.a4, z4 := Tryz.laysJoin.z4, v4 := Tryz.laysJoin.v4, t5 := Tryz.extraJoin.t5, a5 := Tryz.extraJoin.a5, z5 := Tryz.extraJoin.z5, v5 := Tryz.extraJoin.v5, t9 := Tryz.laysJoin.t9, a9 := Tryz.laysJoin.a9, z9 := Tryz.laysJoin.z9, v9 := Tryz.laysJoin.v9, t20 := Tryz.laysJoin.t20, a20 := Tryz.laysJoin.a20, z20 := Tryz.laysJoin.z20, v20 := Tryz.laysJoin.v20, t37 := Tryz.laysJoin.t37, a37 := Tryz.laysJoin.a37, z37 := Tryz.laysJoin.z37, v37 := Tryz.laysJoin.v37, t70 := Tryz.laysJoin.t70, a70 := Tryz.laysJoin.a70, z70 := Tryz.laysJoin.z70, v70 := Tryz.laysJoin.v70, t72 := Tryz.laysJoin.t72, a72 := Tryz.laysJoin.a72, z72 := Tryz.laysJoin.z72, v72 := Tryz.laysJoin.v72, t75 := Tryz.laysJoin.t75, a75 := Tryz.laysJoin.a75, z75 := Tryz.laysJoin.z75, v75 := Tryz.laysJoin.v75, t164 := Tryz.laysJoin.t164, a164 := Tryz.laysJoin.a164, z164 := Tryz.laysJoin.z164, v164 := Tryz.laysJoin.v164 }
theorem Tryz.extraByte : Builder.Extra Tryz.prog Tryz.wb_ren where
  sizeBuilder := by kernel_rfl
  liesBuilder := by kernel_rfl
  t5 := Tryz.underlying5
  a5 := Tryz.isAgg5
  z5 := Tryz.sizeOf5
  v5 := Tryz.zeroValue5
  infoByte := by kernel_rfl
  cellsByte := by kernel_rfl
  sizeByte := by kernel_rfl
  neB5 := by decide
theorem Tryz.laysString : Lays.n169 Tryz.prog Tryz.laysJoin_ren := { mixed := Tryz.laysJoin.mixed, f169 := Tryz.laysJoin.f169, t0 := Tryz.laysJoin.t0, a0 := Tryz.laysJoin.a0, z0 := Tryz.laysJoin.z0, v0 := Tryz.laysJoin.v0, t3 := Tryz.laysJoin.t3, a3 := Tryz.laysJoin.a3, z3 := Tryz.laysJoin.z3, v3 := Tryz.laysJoin.v3, t9 := Tryz.laysJoin.t9, a9 := Tryz.laysJoin.a9, z9 := Tryz.laysJoin.z9, v9 := Tryz.laysJoin.v9, t37 := Tryz.laysJoin.t37, a37 := Tryz.laysJoin.a37, z37 := Tryz.laysJoin.z37, v37 := Tryz.laysJoin.v37, t70 := Tryz.laysJoin.t70, a70 := Tryz.laysJoin.a70, z70 := Tryz.laysJoin.z70, v70 := Tryz.laysJoin.v70, t72 := Tryz.laysJoin.t72, a72 := Tryz.laysJoin.a72, z72 := Tryz.laysJoin.z72, v72 := Tryz.laysJoin.v72, t127 := Tryz.laysJoin.t127, a127 := Tryz.laysJoin.a127, z127 := Tryz.laysJoin.z127, v127 := Tryz.laysJoin.v127 }
shelf_lay LaysM.n171 Nm 171 at Tryz as Tryz.laysItoa
end Go.Proofs.YtlafddeoheambaaGreatDoor
namespace Go.Proofs.YtlafddeoheambaaGreatDoor
open Go.RowKit

theorem join_any (bk o c : Nat) (xs : List ByteArray) (sep : ByteArray) (w : World) (hcells : ∀ (j : Nat) x, xs[j]? = some x → w.cell? ⟨bk, o + j, none⟩ = some (.string x)) (hbk : bk < w.heap.size) (hN : xs.length ≤ 140737488355328) (hcap : xs.length ≤ c) (hlen : (Lib.join (xs.map (·.data.toList)) sep.data.toList).length ≤ 140737488355328) :
    Calls Tryz.prog 135 #[.slice (some ⟨bk, o, none⟩) xs.length c, .string sep] w fun e w' => e = .returned (.string ⟨(Lib.join (xs.map (·.data.toList)) sep.data.toList).toArray⟩) ∧ Below w.heap.size w w' := Any.strings_Join Tryz.laysJoin Tryz.extraJoin bk o c xs sep w hcells hbk hN hcap hlen
theorem writeString_any (B b : Nat) (bs : List Value) (s : ByteArray) (w : World) (h : Lib.IsBuilderF 143 5 B b bs w) (hlen : bs.length + s.size ≤ 140737488355328) (hBw : B ≤ w.heap.size) :
    Calls Tryz.prog 134 #[.pointer (some ⟨b, 0, none⟩), .string s] w fun e w' => e = .returned (.tuple #[.int .i64 s.size, .nilIface]) ∧ (Lib.BuilderAtF 143 5 B b (.pointer (some ⟨b, 0, none⟩)) (bs ++ Lib.strCells s) w' ∧ Below B w w' ∧ Lib.OthersKept 5 (some b) w w') := Any.Builder_WriteString_k Tryz.laysWriteString Tryz.extraJoin B b bs s w h hlen hBw
theorem writeByte_any (B b : Nat) (bs : List Value) (c : Int) (w : World) (h : Lib.IsBuilderF 143 5 B b bs w) (hlen : bs.length + 1 ≤ 140737488355328) (hBw : B ≤ w.heap.size) :
    Calls Tryz.prog 136 #[.pointer (some ⟨b, 0, none⟩), .int .u8 c] w fun e w' => e = .returned .nilIface ∧ (Lib.BuilderAtF 143 5 B b (.pointer (some ⟨b, 0, none⟩)) (bs ++ [.int .u8 c]) w' ∧ Below B w w' ∧ Lib.OthersKept 5 (some b) w w') := Any.Builder_WriteByte_k Tryz.laysWriteByte Tryz.extraByte B b bs c w h hlen hBw
theorem bstring_any (B b : Nat) (l : List UInt8) (w : World) (h : Lib.IsBuilderF 143 5 B b (Lib.byteCells l) w) (hBw : B ≤ w.heap.size) :
    Calls Tryz.prog 80 #[.pointer (some ⟨b, 0, none⟩)] w fun e w' => e = .returned (.string ⟨l.toArray⟩) ∧ Below B w w' := by
  refine (Any.Builder_String_any_f Tryz.laysString Tryz.extraJoin B b l w h hBw).mono ?_
  rintro e w' ⟨rfl, _, hb⟩
  exact ⟨rfl, hb⟩

/-- The library's table of powers of ten, as it lies in memory. -/
def Tab (w : World) : Prop := Lib.TabIs Tryz.prog w "internal/strconv.uint64pow10" .u64 Lib.pow10Tab
theorem Tryz.gTab : Tryz.prog.globalNamed "internal/strconv.uint64pow10" = some 3 := by kernel_rfl
theorem Tab.same {w w' : World} (h : Tab w) (e : w'.heap[3]? = w.heap[3]?) : Tab w' := by
  unfold Tab Lib.TabIs World.var? at *
  rw [Tryz.gTab] at h ⊢
  simp only [Option.bind_some] at h ⊢
  rw [e]
  exact h
theorem Tab.lt {w : World} (h : Tab w) : 3 < w.heap.size := by
  unfold Tab Lib.TabIs World.var? at h
  rw [Tryz.gTab] at h
  simp only [Option.bind_some] at h
  cases e : w.heap[3]? with
  | none => rw [e] at h; cases h
  | some o => exact (Array.getElem?_eq_some_iff.1 e).1
theorem Tab.below {w w' : World} {B : Nat} (h : Tab w) (hb : Below B w w') (hB : 3 < B) : Tab w' := h.same (hb.block _ hB)
theorem grow_below (w : World) (k : Nat) (os : Array Obj) : Below w.heap.size w (Sort.grow (w.drewN k) os) :=
  ⟨rfl, rfl, rfl, by simp [Sort.grow], fun j hj => by
    show (w.heap ++ os)[j]? = w.heap[j]?
    rw [Array.getElem?_append_left hj]⟩
theorem itoa_any (n : Int) (h : 0 ≤ n ∧ n ≤ 1000000000000) (w : World) (ht : Tab w) :
    Calls Tryz.prog 20 #[.int .i64 n] w fun e w' => e = .returned (.string (itoaB n)) ∧ Below w.heap.size w w' := by
  refine (Any.strconv_Itoa Tryz.laysItoa n (by omega) (by omega) w ht).mono ?_
  rintro e w' ⟨rfl, k, os, rfl⟩
  exact ⟨rfl, grow_below w k os⟩
end Go.Proofs.YtlafddeoheambaaGreatDoor

/-
  Whole small numbers as floats: taken from one another, without a sign, the greater one, and as numbers again.
-/
namespace Go.Proofs.YtlafddeoheambaaGreatDoor
open Go.RowKit

theorem fl_int : ∀ x : Fin 100, floatToIntVal .f64 (flI (x.val : Int)) .i64 = some (x.val : Int) := by decide +kernel
theorem fl_sub : ∀ x y : Fin 10, floatBits .sub .f64 (flI (x.val : Int)) (flI (y.val : Int)) = some (flI ((x.val : Int) - (y.val : Int))) := by decide +kernel
def absI (d : Int) : Int := if d < 0 then -d else d
theorem fl_abs : ∀ x y : Fin 10, bits .andNot .u64 (flI ((x.val : Int) - (y.val : Int)) : Int) 9223372036854775808 = (flI (absI ((x.val : Int) - (y.val : Int))) : Int) := by decide +kernel
def maxB (a b : Nat) : Nat := match FloatKind.f64.format.order a b with
  | none => 0
  | some .lt => b
  | some .gt => a
  | some .eq => if (FloatKind.f64.decode a).neg then b else a
theorem fl_max : ∀ x y : Fin 10, (FloatKind.f64.format.order (flI (x.val : Int)) (flI (y.val : Int))).isSome = true ∧ maxB (flI (x.val : Int)) (flI (y.val : Int)) = flI (max (x.val : Int) (y.val : Int)) := by decide +kernel
theorem run_max {P : Program} (w : World) (a b : Nat) (h : (FloatKind.f64.format.order a b).isSome = true) : (Builtin.max2 (.float .f64 a) (.float .f64 b)).run P w = .ok (.float .f64 (maxB a b)) w := by
  unfold Builtin.max2 maxB
  cases ho : FloatKind.f64.format.order a b with
  | none => rw [ho] at h; cases h
  | some o => cases o <;> simp [ho]
/-- How far two numbers are apart; how far two spots are. -/
def farI (a b x y : Int) : Int := max (absI (a - x)) (absI (b - y))
theorem absI_bd {x y : Int} (hx : 0 ≤ x ∧ x ≤ 9) (hy : 0 ≤ y ∧ y ≤ 9) : 0 ≤ absI (x - y) ∧ absI (x - y) ≤ 9 := by
  unfold absI
  split <;> omega
theorem fl_sub' {x y : Int} (hx : 0 ≤ x ∧ x ≤ 9) (hy : 0 ≤ y ∧ y ≤ 9) : floatBits .sub .f64 (flI x) (flI y) = some (flI (x - y)) := by
  obtain ⟨i, rfl⟩ := Int.eq_ofNat_of_zero_le hx.1
  obtain ⟨j, rfl⟩ := Int.eq_ofNat_of_zero_le hy.1
  exact fl_sub ⟨i, by omega⟩ ⟨j, by omega⟩
theorem fl_abs' {x y : Int} (hx : 0 ≤ x ∧ x ≤ 9) (hy : 0 ≤ y ∧ y ≤ 9) : bits .andNot .u64 (flI (x - y) : Int) 9223372036854775808 = (flI (absI (x - y)) : Int) := by
  obtain ⟨i, rfl⟩ := Int.eq_ofNat_of_zero_le hx.1
  obtain ⟨j, rfl⟩ := Int.eq_ofNat_of_zero_le hy.1
  exact fl_abs ⟨i, by omega⟩ ⟨j, by omega⟩
theorem fl_max' {x y : Int} (hx : 0 ≤ x ∧ x ≤ 9) (hy : 0 ≤ y ∧ y ≤ 9) : (FloatKind.f64.format.order (flI x) (flI y)).isSome = true ∧ maxB (flI x) (flI y) = flI (max x y) := by
  obtain ⟨i, rfl⟩ := Int.eq_ofNat_of_zero_le hx.1
  obtain ⟨j, rfl⟩ := Int.eq_ofNat_of_zero_le hy.1
  exact fl_max ⟨i, by omega⟩ ⟨j, by omega⟩
theorem fl_int' {x : Int} (hx : 0 ≤ x ∧ x ≤ 99) : floatToIntVal .f64 (flI x) .i64 = some x := by
  obtain ⟨i, rfl⟩ := Int.eq_ofNat_of_zero_le hx.1
  exact fl_int ⟨i, by omega⟩
theorem csub {x y a b : Int} (hx : 0 ≤ x ∧ x ≤ 9) (hy : 0 ≤ y ∧ y ≤ 9) (ha : 0 ≤ a ∧ a ≤ 9) (hb : 0 ≤ b ∧ b ≤ 9) : cSumBits .sub .f64 (flI a) (flI b) (flI x) (flI y) = some (flI (a - x), flI (b - y)) := by
  unfold cSumBits
  simp only [fl_sub' ha hx, fl_sub' hb hy]
  rfl
end Go.Proofs.YtlafddeoheambaaGreatDoor

/-
  What a View tells, said plainly: lines of words.
-/
namespace Go.Proofs.YtlafddeoheambaaGreatDoor
open Go.RowKit

/-- A line of words. -/
def lineL (xs : List ByteArray) : List UInt8 := Lib.join (xs.map (·.data.toList)) [32] ++ [10]
def blankB : ByteArray := ⟨#[32]⟩
def whereB (x y : Int) : ByteArray := itoaB x ++ blankB ++ itoaB y
def letterB (h : Int) : ByteArray := if h = 1 then ⟨#[110]⟩ else if h = 2 then ⟨#[119]⟩ else if h = 3 then ⟨#[115]⟩ else ⟨#[101]⟩
def wTick : ByteArray := ⟨#[116, 105, 99, 107]⟩
def wMoney : ByteArray := ⟨#[109, 111, 110, 101, 121]⟩
def wUnit : ByteArray := ⟨#[117, 110, 105, 116]⟩
def wCargo : ByteArray := ⟨#[99, 97, 114, 103, 111]⟩
def wOre : ByteArray := ⟨#[111, 114, 101]⟩
def wOther : ByteArray := ⟨#[111, 116, 104, 101, 114]⟩
def wLot : ByteArray := ⟨#[108, 111, 116]⟩
def wUntil : ByteArray := ⟨#[117, 110, 116, 105, 108]⟩
def wLeast : ByteArray := ⟨#[108, 101, 97, 115, 116]⟩
def wBid : ByteArray := ⟨#[98, 105, 100]⟩
def wWon : ByteArray := ⟨#[119, 111, 110]⟩
def wFor : ByteArray := ⟨#[102, 111, 114]⟩
def wSold : ByteArray := ⟨#[115, 111, 108, 100]⟩
def wPassed : ByteArray := ⟨#[112, 97, 115, 115, 101, 100]⟩

def tickL (now money : Int) : List UInt8 := lineL [wTick, itoaB now, wMoney, itoaB money]
def unitL (u : SUnit) : List UInt8 := lineL [wUnit, u.name, whereB u.x u.y, letterB u.head, wCargo, itoaB u.cargo]
def oreL (o : List SSpot) (x y : Int) : List UInt8 := match oreAt o x y with
  | none => []
  | some a => lineL [wOre, whereB x y, itoaB a]
def otherL (ps : List SPlayer) (n : Nat) (x y : Int) : List UInt8 := if 0 ≤ holderI ps x y ∧ holderI ps x y ≠ n then lineL [wOther, whereB x y, itoaB (holderI ps x y)] else []
def spotL (s : SWorld) (n : Nat) (x y : Int) : List UInt8 := oreL s.ore x y ++ otherL s.players n x y
def seesB (us : List SUnit) (sight x y : Int) : Bool := us.any (fun u => decide (farI u.x u.y x y ≤ sight))
def seenL (s : SWorld) (n : Nat) (us : List SUnit) (x y : Int) : List UInt8 := if seesB us s.sight x y then spotL s n x y else []
/-- The first k spots of the row y. -/
def rowTo (s : SWorld) (n : Nat) (us : List SUnit) (y : Int) (k : Nat) : List UInt8 := (List.range k).flatMap (fun (x : Nat) => seenL s n us x y)
/-- The first k rows. -/
def rowsTo (s : SWorld) (n : Nat) (us : List SUnit) (k : Nat) : List UInt8 := (List.range k).flatMap (fun (y : Nat) => rowTo s n us y s.width.toNat)
def lotWs (bid : Int) (l : SLot) : List ByteArray := [wLot, l.name, wUntil, itoaB l.ends, wLeast, itoaB l.least] ++ (if 0 < bid then [wBid, itoaB bid] else [])
def lotsL (s : SWorld) (p : SPlayer) : List UInt8 := (sortL s.lots).flatMap (fun l => lineL (lotWs (bidI p.bids l.name) l))
def newsL (p : SPlayer) : List UInt8 := p.news.flatMap (fun m => m.data.toList ++ [10])
def ownL (s : SWorld) (p : SPlayer) : List UInt8 := tickL s.now p.money ++ p.units.flatMap unitL
def viewL (s : SWorld) (n : Nat) (p : SPlayer) : List UInt8 := ownL s p ++ rowsTo s n p.units s.height.toNat ++ lotsL s p ++ newsL p
/-- What View answers. -/
def viewS (s : SWorld) (n : Int) : ByteArray × Int :=
  if 0 ≤ n ∧ n < s.players.length then match s.players[n.toNat]? with
    | none => (⟨#[]⟩, 1)
    | some p => (bytesOf (viewL s n.toNat p), 0)
  else (⟨#[]⟩, 1)

theorem rowTo_succ (s : SWorld) (n : Nat) (us : List SUnit) (y : Int) (k : Nat) : rowTo s n us y (k + 1) = rowTo s n us y k ++ seenL s n us k y := by simp [rowTo, List.range_succ]
theorem rowsTo_succ (s : SWorld) (n : Nat) (us : List SUnit) (k : Nat) : rowsTo s n us (k + 1) = rowsTo s n us k ++ rowTo s n us k s.width.toNat := by simp [rowsTo, List.range_succ]

/-- A unit stands where the map says so, and the map says whose it is. -/
theorem holder_look {ps : List SPlayer} {l : List CE} (h : StOK (posL ps) l) (x y : Int) : holderI ps x y = (look x y l).getD (-1) := by
  cases hl : look x y l with
  | none =>
    have := h.free x y
    rw [hl] at this
    have hn : holderI ps x y < 0 := of_decide_eq_true this
    have : ∀ (p : SPlayer → Bool) (l : List SPlayer), ixOf p l < 0 → ixOf p l = -1 := by
      intro p l
      induction l with
      | nil => intro _; rfl
      | cons a l ih =>
        simp only [ixOf]
        intro h
        split at h
        · omega
        · rename_i hp
          rw [if_neg hp]
          split at h
          · rename_i h2; rw [if_pos h2]
          · omega
    exact this _ _ hn
  | some m =>
    obtain ⟨n, us, k, h1, h2⟩ := h.b x y m hl
    have e := h.a n us k x y h1 h2
    rw [hl] at e
    injection e with e
    rw [e]
    simp only [posL, List.getElem?_map, Option.map_eq_some_iff] at h1
    obtain ⟨p, hp, rfl⟩ := h1
    obtain ⟨hn, ep⟩ := at_some hp
    show holderI ps x y = (n : Int)
    unfold holderI
    refine ixOf_hit _ ps n hn (fun j hj hjn => ?_) ?_
    · simp only [standsB, List.any_eq_false]
      intro u hu hc
      simp only [Bool.and_eq_true, decide_eq_true_eq] at hc
      obtain ⟨kk, hk⟩ := List.getElem?_of_mem hu
      have := h.a j _ kk u.x u.y (posL_at (p := ps[j]) (by simp [hj])) (posP_at hk)
      rw [hc.1, hc.2, hl] at this
      injection this with this
      omega
    · simp only [posP, List.getElem?_map, Option.map_eq_some_iff] at h2
      obtain ⟨u, hu, e2⟩ := h2
      injection e2 with e3 e4
      rw [ep]
      simp only [standsB, List.any_eq_true]
      exact ⟨u, List.mem_of_getElem? hu, by simp [e3, e4]⟩

/-- How long lines are. -/
theorem join_len (xs : List (List UInt8)) (k : Nat) (h : ∀ x ∈ xs, x.length ≤ k) : (Lib.join xs [32]).length ≤ xs.length * (k + 1) := by
  cases xs with
  | nil => simp [Lib.join_nil]
  | cons x r =>
    rw [Lib.join_cons]
    have h1 := h x (by simp)
    have h2 : (Lib.joinTail [32] r).length ≤ r.length * (k + 1) := by
      have hr : ∀ y ∈ r, y.length ≤ k := fun y hy => h y (by simp [hy])
      clear h h1
      induction r with
      | nil => simp [Lib.joinTail]
      | cons y r ih =>
        have := ih (fun z hz => hr z (by simp [hz]))
        have hy := hr y (by simp)
        simp only [Lib.joinTail, List.map_cons, List.flatten_cons, List.length_append, List.length_cons, List.length_nil] at this ⊢
        rw [Nat.add_mul]
        omega
    simp only [List.length_append, List.length_cons]
    rw [Nat.add_mul]
    omega
theorem line_len (xs : List ByteArray) (k : Nat) (h : ∀ x ∈ xs, x.size ≤ k) : (lineL xs).length ≤ xs.length * (k + 1) + 1 := by
  have := join_len (xs.map (·.data.toList)) k (fun x hx => by
    obtain ⟨b, hb, rfl⟩ := List.mem_map.1 hx
    have := h b hb
    simpa using this)
  simp only [lineL, List.length_append, List.length_cons, List.length_nil]
  simpa using this
theorem itoaB_size (n : Int) (h : 0 ≤ n ∧ n ≤ 1000000000000) : (itoaB n).size ≤ 21 := by
  have := Lib.itoa_length_le n (by omega) (by omega)
  show ((Lib.itoa n).toArray).size ≤ 21
  simpa using this
end Go.Proofs.YtlafddeoheambaaGreatDoor

/-
  The functions X, Y, Far and Letter of package spots.
-/
namespace Go.Proofs.YtlafddeoheambaaGreatDoor
open Go.RowKit

set_option maxRecDepth 100000 in
set_option maxHeartbeats 1000000 in
theorem spotX_any (x y : Int) (w : World) (hx : 0 ≤ x ∧ x ≤ 9) : Calls Tryz.prog 137 #[.complex .f64 (flI x) (flI y)] w fun e w' => e = .returned (.int .i64 x) ∧ w' = w := by
  have hc : ∀ w, (convert 174 3 (.float .f64 (flI x))).run Tryz.prog w = .ok (.int .i64 x) w := fun w => run_convert_float_int w 174 3 .f64 .i64 (flI x) x (by rw [Tryz.underlying174]; rfl) Tryz.underlying3 (fl_int' (by omega))
  go_enter Tryz.func137, Tryz.ntmps137
  go_wp2_with (simp only [hc])
  go_ret
  exact ⟨rfl, rfl⟩
set_option maxRecDepth 100000 in
set_option maxHeartbeats 1000000 in
theorem spotY_any (x y : Int) (w : World) (hy : 0 ≤ y ∧ y ≤ 9) : Calls Tryz.prog 138 #[.complex .f64 (flI x) (flI y)] w fun e w' => e = .returned (.int .i64 y) ∧ w' = w := by
  have hc : ∀ w, (convert 174 3 (.float .f64 (flI y))).run Tryz.prog w = .ok (.int .i64 y) w := fun w => run_convert_float_int w 174 3 .f64 .i64 (flI y) y (by rw [Tryz.underlying174]; rfl) Tryz.underlying3 (fl_int' (by omega))
  go_enter Tryz.func138, Tryz.ntmps138
  go_wp2_with (simp only [hc])
  go_ret
  exact ⟨rfl, rfl⟩
set_option maxRecDepth 100000 in
set_option maxHeartbeats 1000000 in
theorem fabs_any (a b : Nat) (w : World) (h : bits .andNot .u64 (a : Int) 9223372036854775808 = (b : Int)) : Calls Tryz.prog 151 #[.float .f64 a] w fun e w' => e = .returned (.float .f64 b) ∧ w' = w := by
  have b1 : ∀ w, (callFunc 157 #[.float .f64 a]).run Tryz.prog w = .ok (.value (.int .u64 a)) w := fun w => by
    rw [run_callFunc_extern Tryz.func157 (by kernel_rfl) (by kernel_rfl) (by kernel_rfl) (e := Extern.MathFloatBits.float64bits) (by kernel_rfl)]
    rfl
  have b2 : ∀ w, (callFunc 156 #[.int .u64 b]).run Tryz.prog w = .ok (.value (.float .f64 b)) w := fun w => by
    rw [run_callFunc_extern Tryz.func156 (by kernel_rfl) (by kernel_rfl) (by kernel_rfl) (e := Extern.MathFloatBits.float64frombits) (by kernel_rfl)]
    rfl
  go_enter Tryz.func151, Tryz.ntmps151
  go_wp2_with (simp only [b1, b2, h])
  go_ret
  exact ⟨rfl, rfl⟩
set_option maxRecDepth 100000 in
set_option maxHeartbeats 1000000 in
theorem far_any (a b x y : Int) (w : World) (ha : 0 ≤ a ∧ a ≤ 9) (hb : 0 ≤ b ∧ b ≤ 9) (hx : 0 ≤ x ∧ x ≤ 9) (hy : 0 ≤ y ∧ y ≤ 9) : Calls Tryz.prog 139 #[.complex .f64 (flI a) (flI b), .complex .f64 (flI x) (flI y)] w fun e w' => e = .returned (.int .i64 (farI a b x y)) ∧ w' = w := by
  have hs : ∀ w, (binOp .sub 88 (.complex .f64 (flI a) (flI b)) (.complex .f64 (flI x) (flI y))).run Tryz.prog w = .ok (.complex .f64 (flI (a - x)) (flI (b - y))) w := fun w => run_complex_sum w .sub (.inr rfl) 88 .f64 _ _ _ _ _ _ (csub hx hy ha hb)
  have h1 := absI_bd ha hx
  have h2 := absI_bd hb hy
  have hm := fl_max' h1 h2
  have hmx : ∀ w, (Builtin.max_ #[174, 174] 174 #[.float .f64 (flI (absI (a - x))), .float .f64 (flI (absI (b - y)))]).run Tryz.prog w = .ok (.float .f64 (flI (farI a b x y))) w := fun w => by
    have e := run_max (P := Tryz.prog) w _ _ hm.1
    rw [hm.2] at e
    simp [Builtin.max_, List.foldlM, e, farI]
  have hf : 0 ≤ farI a b x y ∧ farI a b x y ≤ 99 := by unfold farI; omega
  have hc : ∀ w, (convert 174 3 (.float .f64 (flI (farI a b x y)))).run Tryz.prog w = .ok (.int .i64 (farI a b x y)) w := fun w => run_convert_float_int w 174 3 .f64 .i64 _ _ (by rw [Tryz.underlying174]; rfl) Tryz.underlying3 (fl_int' hf)
  have A1 := hidOf4 (fun w => fabs_any (flI (a - x)) (flI (absI (a - x))) w (fl_abs' ha hx))
  have A2 := hidOf4 (fun w => fabs_any (flI (b - y)) (flI (absI (b - y))) w (fl_abs' hb hy))
  clear hm hf h1 h2
  generalize hgx : flI (a - x) = p at *
  generalize hgy : flI (b - y) = q at *
  go_enter Tryz.func139, Tryz.ntmps139
  go_wp2_with (first | (simp only []) | (go_at_call 151; refine (A1.out _).mono ?_; rintro e w' ⟨rfl, h⟩; rw [h]; clear h w') | (go_at_call 151; refine (A2.out _).mono ?_; rintro e w' ⟨rfl, h⟩; rw [h]; clear h w') | (simp only [hmx]) | (simp only [hc]))
  go_ret
  exact ⟨rfl, rfl⟩

set_option maxRecDepth 100000 in
set_option maxHeartbeats 1000000 in
theorem xletter_any (h : Int) (a b : Nat) (w : World) (hh : HeadC h a b) : Calls Tryz.prog 115 #[.complex .f64 a b] w fun e w' => e = .returned (.string (letterB h)) ∧ w' = w := by
  rcases hh with ⟨rfl, rfl, rfl | rfl⟩ | ⟨rfl, rfl, rfl | rfl⟩ | ⟨rfl, rfl, rfl | rfl⟩ | ⟨rfl, rfl, rfl | rfl⟩
  all_goals
    simp only [oneF, mOneF, mZeroF]
    go_enter Tryz.func115, Tryz.ntmps115
    go_wp2
    go_ret
    exact ⟨rfl, rfl⟩
end Go.Proofs.YtlafddeoheambaaGreatDoor

/-
  The functions tell and where of package haze: lines that go into a Builder.
-/
namespace Go.Proofs.YtlafddeoheambaaGreatDoor
open Go.RowKit

/-- A Builder of one's own holds these bytes; all that was there before lies as it did. -/
structure VW (w0 : World) (b : Nat) (l : List UInt8) (w : World) : Prop where
  bl : Below w0.heap.size w0 w
  bd : Lib.IsBuilderF 143 5 w0.heap.size b (Lib.byteCells l) w
theorem VW.at {w0 w w' : World} {b : Nat} {l : List UInt8} (h : VW w0 b l w) (hb : Below w.heap.size w w') : VW w0 b l w' := by
  refine ⟨h.bl.trans (hb.mono h.bl.size), ?_⟩
  have key : ∀ p, Lib.BuilderAtF 143 5 w0.heap.size b p (Lib.byteCells l) w → Lib.BuilderAtF 143 5 w0.heap.size b p (Lib.byteCells l) w' := by
    rintro p ⟨h1, v, h2, h3, h4⟩
    exact ⟨h1, v, by rw [hb.block _ (lt_of_some h2)]; exact h2, h3.kept (row := none) ⟨hb.os, hb.tape, hb.output, hb.size, fun k hk _ => hb.block k hk⟩ (by cases hv : v.ownBlock with | none => exact .inl rfl | some r => exact .inr (by simp)), h4⟩
  rcases h.bd with h | h
  · exact .inl (key _ h)
  · exact .inr (key _ h)
theorem VW.tab {w0 w : World} {b : Nat} {l : List UInt8} (h : VW w0 b l w) (ht : Tab w0) : Tab w := ht.below h.bl ht.lt
theorem alloc_at (w : World) (o : Obj) : Below w.heap.size w (w.alloc o) := (Below.refl _ w).alloc (Nat.le_refl _) o

theorem strCells_bytes (s : ByteArray) : Lib.strCells s = Lib.byteCells s.data.toList := by
  first
    | rfl
    | simp [Lib.strCells, Lib.byteCells]
theorem byteCells_append (a b : List UInt8) : Lib.byteCells (a ++ b) = Lib.byteCells a ++ Lib.byteCells b := by simp [Lib.byteCells]

set_option maxRecDepth 100000 in
set_option maxHeartbeats 1000000 in
theorem tell_anyK (w0 w : World) (b : Nat) (l : List UInt8) (bk c : Nat) (xs : List ByteArray) (h : VW w0 b l w) (hcells : ∀ (j : Nat) x, xs[j]? = some x → w.cell? ⟨bk, j, none⟩ = some (.string x)) (hbk : bk < w.heap.size) (hcap : xs.length ≤ c) (hx : (lineL xs).length ≤ 1000000000) (hl : l.length ≤ 100000000000) (hn : xs.length ≤ 100) :
    Calls Tryz.prog 113 #[.pointer (some ⟨b, 0, none⟩), .slice (some ⟨bk, 0, none⟩) xs.length c] w fun e w' => e = .returned (.tuple #[]) ∧ VW w0 b (l ++ lineL xs) w' ∧ Lib.OthersKept 5 (some b) w w' := by
  have hxl : (Lib.join (xs.map (·.data.toList)) [32]).length ≤ 1000000000 := by
    have : (lineL xs).length = (Lib.join (xs.map (·.data.toList)) [32]).length + 1 := by simp [lineL]
    omega
  have HJ := hidOf (join_any bk 0 c xs ⟨#[32]⟩ w (by intro j x hj; rw [Nat.zero_add]; exact hcells j x hj) hbk (by omega) hcap (by show (Lib.join (xs.map (·.data.toList)) [32]).length ≤ _; omega))
  have HV := hidOf h
  obtain ⟨jl, hjl⟩ : ∃ jl, jl = Lib.join (xs.map (·.data.toList)) [32] := ⟨_, rfl⟩
  have HE : Hid (l ++ lineL xs = (l ++ jl) ++ [10]) := by unfold Hid; rw [hjl]; simp [lineL]
  rw [← hjl] at hxl
  have e0 : (⟨#[32]⟩ : ByteArray).data.toList = [32] := rfl
  rw [e0, ← hjl] at HJ
  obtain ⟨lz, hlz⟩ : ∃ lz, lz = l ++ lineL xs := ⟨_, rfl⟩
  rw [← hlz] at HE ⊢
  clear hcells h hjl hx e0 hlz
  go_enter Tryz.func113, Tryz.ntmps113
  go_wp2_with fail
  refine HJ.out.mono ?_
  rintro e w1 ⟨rfl, hb1⟩
  have V1 := hidOf (HV.out.at hb1)
  have K1 : Hid (Lib.OthersKept 5 (some b) w w1) := fun k o hk _ _ => by rw [hb1.block k (lt_of_some hk)]; exact hk
  have H1 := hidOf (writeString_any w0.heap.size b (Lib.byteCells l) ⟨jl.toArray⟩ w1 V1.out.bd (by
    have e1 : (Lib.byteCells l).length = l.length := by simp [Lib.byteCells]
    have e2 : (⟨jl.toArray⟩ : ByteArray).size = jl.length := by show jl.toArray.size = _; simp
    omega) V1.out.bl.size)
  clear hb1
  go_wp2_with fail
  refine H1.out.mono ?_
  rintro e w2 ⟨rfl, hb2, hbl2, ok2⟩
  have V2 : Hid (VW w0 b (l ++ jl) w2) := by
    refine ⟨V1.out.bl.trans hbl2, .inr ?_⟩
    rw [byteCells_append]
    have e1 : Lib.strCells ⟨jl.toArray⟩ = Lib.byteCells jl := by rw [strCells_bytes]
    rw [← e1]
    exact hb2
  have H2 := hidOf (writeByte_any w0.heap.size b (Lib.byteCells (l ++ jl)) 10 w2 V2.out.bd (by
    have e1 : (Lib.byteCells (l ++ jl)).length = l.length + jl.length := by simp [Lib.byteCells]
    omega) V2.out.bl.size)
  have K2 := hidOf (K1.out.trans ok2)
  clear hb2 hbl2 ok2
  go_wp2_with fail
  refine H2.out.mono ?_
  rintro e w3 ⟨rfl, hb3, hbl3, ok3⟩
  have V3 : Hid (VW w0 b lz w3) := by
    unfold Hid
    rw [HE.out]
    refine ⟨V2.out.bl.trans hbl3, .inr ?_⟩
    rw [byteCells_append]
    exact hb3
  have K3 := hidOf (K2.out.trans ok3)
  clear hb3 hbl3 ok3
  go_wp2
  go_end0
  exact ⟨rfl, V3.out, K3.out⟩
theorem tell_any (w0 w : World) (b : Nat) (l : List UInt8) (bk c : Nat) (xs : List ByteArray) (h : VW w0 b l w) (hcells : ∀ (j : Nat) x, xs[j]? = some x → w.cell? ⟨bk, j, none⟩ = some (.string x)) (hbk : bk < w.heap.size) (hcap : xs.length ≤ c) (hx : (lineL xs).length ≤ 1000000000) (hl : l.length ≤ 100000000000) (hn : xs.length ≤ 100) :
    Calls Tryz.prog 113 #[.pointer (some ⟨b, 0, none⟩), .slice (some ⟨bk, 0, none⟩) xs.length c] w fun e w' => e = .returned (.tuple #[]) ∧ VW w0 b (l ++ lineL xs) w' :=
  (tell_anyK w0 w b l bk c xs h hcells hbk hcap hx hl hn).mono (fun _ _ ⟨h1, h2, _⟩ => ⟨h1, h2⟩)
/-- The words lie in a new row. -/
theorem tell_new (w0 w : World) (b : Nat) (l : List UInt8) (xs : List ByteArray) (cs : Array Value) (n : Nat) (h : VW w0 b l w) (hcs : cs = (xs.map (fun x => Value.string x)).toArray) (hn : n = xs.length) (hx : (lineL xs).length ≤ 1000000000) (hl : l.length ≤ 100000000000) (hn' : xs.length ≤ 100) :
    Calls Tryz.prog 113 #[.pointer (some ⟨b, 0, none⟩), .slice (some ⟨w.heap.size, 0, none⟩) n n] (w.alloc (.cells cs 9)) fun e w' => e = .returned (.tuple #[]) ∧ VW w0 b (l ++ lineL xs) w' := by
  subst hn hcs
  refine tell_any w0 _ b l w.heap.size xs.length xs (h.at (alloc_at w _)) (fun j x hj => ?_) (by simp) (Nat.le_refl _) hx hl hn'
  rw [cell_of_row _ _ _ _ _ _ (Go.heap_alloc_new w _)]
  simp [hj]

/-- The same, with what stays as it was. -/
theorem tell_newK (w0 w : World) (b : Nat) (l : List UInt8) (xs : List ByteArray) (cs : Array Value) (n : Nat) (h : VW w0 b l w) (hcs : cs = (xs.map (fun x => Value.string x)).toArray) (hn : n = xs.length) (hx : (lineL xs).length ≤ 1000000000) (hl : l.length ≤ 100000000000) (hn' : xs.length ≤ 100) :
    Calls Tryz.prog 113 #[.pointer (some ⟨b, 0, none⟩), .slice (some ⟨w.heap.size, 0, none⟩) n n] (w.alloc (.cells cs 9)) fun e w' => e = .returned (.tuple #[]) ∧ VW w0 b (l ++ lineL xs) w' ∧ Lib.OthersKept 5 (some b) w w' := by
  subst hn hcs
  refine (tell_anyK w0 _ b l w.heap.size xs.length xs (h.at (alloc_at w _)) (fun j x hj => ?_) (by simp) (Nat.le_refl _) hx hl hn').mono ?_
  · rw [cell_of_row _ _ _ _ _ _ (Go.heap_alloc_new w _)]
    simp [hj]
  · rintro e w' ⟨h1, h2, h3⟩
    exact ⟨h1, h2, ((Lib.OthersKept.refl _ _ w).alloc _).trans h3⟩

set_option maxRecDepth 100000 in
set_option maxHeartbeats 1000000 in
theorem where_any (x y : Int) (w : World) (hx : 0 ≤ x ∧ x ≤ 9) (hy : 0 ≤ y ∧ y ≤ 9) (ht : Tab w) : Calls Tryz.prog 114 #[.complex .f64 (flI x) (flI y)] w fun e w' => e = .returned (.string (whereB x y)) ∧ Below w.heap.size w w' := by
  have HX := hidOf (fun w => spotX_any x y w hx)
  have HY := hidOf (fun w => spotY_any x y w hy)
  have H1 := hidOf (itoa_any x (by omega) w ht)
  have HT := hidOf ht
  have HI := hidOf (fun (w1 : World) (h : Below w.heap.size w w1) => itoa_any y (by omega) w1 (HT.out.below h HT.out.lt))
  have zx := itoaB_size x (by omega)
  have zy := itoaB_size y (by omega)
  have z1 : (itoaB x).size + (⟨#[32]⟩ : ByteArray).size ≤ 9223372036854775807 := by
    have : (⟨#[32]⟩ : ByteArray).size = 1 := rfl
    omega
  have z2 : (itoaB x ++ (⟨#[32]⟩ : ByteArray)).size + (itoaB y).size ≤ 9223372036854775807 := by
    have : (itoaB x ++ (⟨#[32]⟩ : ByteArray)).size = (itoaB x).size + 1 := by rw [ByteArray.size_append]; rfl
    omega
  have a1 : ∀ w, (Op.stringOp .add (itoaB x) ⟨#[32]⟩).run Tryz.prog w = .ok (.string (itoaB x ++ ⟨#[32]⟩)) w := fun w => run_string_add_sum w _ _ z1
  have a2 : ∀ w, (Op.stringOp .add (itoaB x ++ ⟨#[32]⟩) (itoaB y)).run Tryz.prog w = .ok (.string (itoaB x ++ ⟨#[32]⟩ ++ itoaB y)) w := fun w => run_string_add_sum w _ _ z2
  clear ht zx zy z1 z2
  go_enter Tryz.func114, Tryz.ntmps114
  go_wp2_with fail
  refine (HX.out _).mono ?_
  rintro e w' ⟨rfl, h⟩; rw [h]; clear h w'
  go_wp2_with fail
  refine H1.out.mono ?_
  rintro e w1 ⟨rfl, hb1⟩
  go_wp2_with (simp only [])
  refine (HY.out _).mono ?_
  rintro e w' ⟨rfl, h⟩; rw [h]; clear h w'
  go_wp2_with fail
  refine (HI.out _ hb1).mono ?_
  rintro e w2 ⟨rfl, hb2⟩
  go_wp2_with (simp only [])
  go_ret
  exact ⟨rfl, hb1.trans (hb2.mono hb1.size)⟩
end Go.Proofs.YtlafddeoheambaaGreatDoor

/-
  The function tellOwn of package haze.
-/
namespace Go.Proofs.YtlafddeoheambaaGreatDoor
open Go.RowKit

/-- Names are no longer than a text that was handed in. -/
def NmP (p : SPlayer) : Prop := ∀ u ∈ p.units, u.name.size ≤ 2000000
theorem tickL_len (now money : Int) (h : 0 ≤ now ∧ now ≤ 1000000000000) (hm : 0 ≤ money ∧ money ≤ 1000000000000) : (tickL now money).length ≤ 1000 := by
  have := line_len [wTick, itoaB now, wMoney, itoaB money] 21 (fun x hx => by
    simp at hx
    rcases hx with rfl | rfl | rfl | rfl
    · decide
    · exact itoaB_size _ h
    · decide
    · exact itoaB_size _ hm)
  unfold tickL
  simp at this
  omega
theorem whereB_size (x y : Int) (hx : 0 ≤ x ∧ x ≤ 9) (hy : 0 ≤ y ∧ y ≤ 9) : (whereB x y).size ≤ 50 := by
  have h1 := itoaB_size x (by omega)
  have h2 := itoaB_size y (by omega)
  unfold whereB
  rw [ByteArray.size_append, ByteArray.size_append]
  have : blankB.size = 1 := rfl
  omega
theorem letterB_size (h : Int) : (letterB h).size ≤ 1 := by
  unfold letterB
  repeat' split
  all_goals exact Nat.le_refl 1
theorem unitL_len (u : SUnit) (hn : u.name.size ≤ 2000000) (hx : 0 ≤ u.x ∧ u.x ≤ 9) (hy : 0 ≤ u.y ∧ u.y ≤ 9) (hc : 0 ≤ u.cargo ∧ u.cargo ≤ 9) : (unitL u).length ≤ 20000000 := by
  have := line_len [wUnit, u.name, whereB u.x u.y, letterB u.head, wCargo, itoaB u.cargo] 2000000 (fun x hx' => by
    simp at hx'
    rcases hx' with rfl | rfl | rfl | rfl | rfl | rfl
    · decide
    · exact hn
    · have := whereB_size u.x u.y hx hy; omega
    · have := letterB_size u.head; omega
    · decide
    · have := itoaB_size u.cargo (by omega); omega)
  unfold unitL
  simp at this
  omega
theorem flat_take {α : Type} (f : α → List UInt8) (l : List α) (k : Nat) (hk : k < l.length) : (l.take (k + 1)).flatMap f = (l.take k).flatMap f ++ f l[k] := by
  rw [List.take_succ_eq_append_getElem hk, List.flatMap_append, List.flatMap_singleton]
theorem flat_len {α : Type} (f : α → List UInt8) (l : List α) (m : Nat) (h : ∀ a ∈ l, (f a).length ≤ m) : (l.flatMap f).length ≤ l.length * m := by
  induction l with
  | nil => simp
  | cons a l ih =>
    have h1 := h a (by simp)
    have h2 := ih (fun x hx => h x (by simp [hx]))
    simp only [List.flatMap_cons, List.length_append, List.length_cons, Nat.add_mul]
    omega

set_option maxRecDepth 100000 in
set_option maxHeartbeats 8000000 in
theorem tellOwn_any (w0 w : World) (X : XW) (M : Int) (n : Nat) (p : SPlayer) (v : XV) (b : Nat) (l : List UInt8) (hV : VW w0 b l w) (hr : RepX w0 X) (ht : Tab w0) (hA : AllX X M) (hM : M ≤ 100000000000) (hnow : 0 ≤ X.now ∧ X.now ≤ 1000) (hq : X.pls[n]? = some (p, v)) (hnm : NmP p) (hl : l.length ≤ 1000000) :
    Calls Tryz.prog 76 #[.pointer (some ⟨X.b, 0, none⟩), .pointer (some ⟨b, 0, none⟩), .int .i64 n] w fun e w' => e = .returned (.tuple #[]) ∧ VW w0 b (l ++ ownL X.S p) w' := by
  have hpl : X.S.players.length = X.pls.length := by simp [XW.S]
  have h4 := hA.wf.pl
  rw [hpl] at h4
  obtain ⟨hn, _⟩ := at_some hq
  have hn2 : (n : Int) < X.pls.length := by omega
  have pk := hA.wf.each p (List.mem_of_getElem? (XS_at hq))
  obtain ⟨m0, m1⟩ := pk.mo
  have hlen := (hr.each n _ hq).len
  simp only at hlen
  have hun := pk.un
  have hwd : X.S.width = X.width := rfl
  have hht : X.S.height = X.height := rfl
  have bw := hA.wf.wd
  have bh := hA.wf.ht
  obtain ⟨pb, pcap, hvp, hpc, hpm⟩ := hr.plForm h4.1
  unfold maxLen at hpm
  rcases own_form (hr.each n _ hq).row with ⟨_, h0, _⟩ | ⟨ub, ucap, hvu, huc, hum, hub⟩
  · simp only at h0; omega
  simp only at hvu huc
  unfold maxLen at hum
  have HR : Hid (∀ wx, Below w0.heap.size w0 wx → RepX wx X) := fun wx h => hr.below h
  have r0 := HR.out w hV.bl
  have c6 : w.cell? ⟨X.b, 6, none⟩ = some (.slice (some ⟨pb, 0, none⟩) X.pls.length pcap) := by rw [← hvp]; exact r0.cellTop rfl
  have c0 : w.cell? ⟨X.b, 0, none⟩ = some (.int .i64 X.now) := r0.cellTop rfl
  have c1 : w.cell? ⟨pb, n * 2, none⟩ = some (.int .i64 p.money) := (r0.plCell hq hvp).1
  have HVd := hidOf (hV.at (Below.refl _ w).drew)
  have HT := hidOf ht
  have HQ := hidOf hq
  have HVP := hidOf hvp
  have HVU := hidOf hvu
  have HNm := hidOf hnm
  have HPk := hidOf pk
  have HI : Hid (∀ (lx : List UInt8) (m : Int) (wx : World), 0 ≤ m ∧ m ≤ 1000000000000 → Hid (VW w0 b lx wx) → Calls Tryz.prog 20 #[.int .i64 m] wx fun e w' => e = .returned (.string (itoaB m)) ∧ Below wx.heap.size wx w') := fun lx m wx hm h => itoa_any m hm wx (h.out.tab HT.out)
  have HS : Hid (∀ wx : World, Below w0.heap.size w0 wx → (wx.cell? ⟨X.b, 0, none⟩ = some (.int .i64 X.now) ∧ wx.cell? ⟨pb, n * 2, none⟩ = some (.int .i64 p.money))) := fun wx h => ⟨(HR.out wx h).cellTop rfl, ((HR.out wx h).plCell HQ.out HVP.out).1⟩
  have VS : Hid (∀ (lx : List UInt8) (w1 w2 : World), Hid (VW w0 b lx w1) → Below w1.heap.size w1 w2 → Hid (VW w0 b lx w2)) := fun lx w1 w2 h hb => h.out.at hb
  have HTe : Hid (∀ (wx : World), Hid (VW w0 b l wx) → Calls Tryz.prog 113 #[.pointer (some ⟨b, 0, none⟩), .slice (some ⟨wx.heap.size, 0, none⟩) 4 4] (wx.alloc (.cells #[.string ⟨#[116, 105, 99, 107]⟩, .string (itoaB X.now), .string ⟨#[109, 111, 110, 101, 121]⟩, .string (itoaB p.money)] 9)) fun e w' => e = .returned (.tuple #[]) ∧ VW w0 b (l ++ tickL X.now p.money) w') := fun wx h =>
    tell_new w0 wx b l [wTick, itoaB X.now, wMoney, itoaB p.money] _ 4 h.out rfl rfl (by have := tickL_len X.now p.money (by omega) (by omega); unfold tickL at this; omega) (by omega) (by simp)
  have HE : Hid (l ++ ownL X.S p = (l ++ tickL X.now p.money) ++ p.units.flatMap unitL) := by unfold Hid ownL; rw [List.append_assoc]; rfl
  have hl1 : (l ++ tickL X.now p.money).length ≤ 2000000 := by
    have := tickL_len X.now p.money (by omega) (by omega)
    rw [List.length_append]
    omega
  obtain ⟨l1, hl1e⟩ : ∃ l1, l1 = l ++ tickL X.now p.money := ⟨_, rfl⟩
  obtain ⟨lz, hlz⟩ : ∃ lz, lz = l ++ ownL X.S p := ⟨_, rfl⟩
  rw [← hl1e] at HTe HE hl1
  rw [← hlz] at HE ⊢
  clear hV hr ht hA hq hnm hvp hvu r0 hl1e hlz pk hpl hub
  go_enter Tryz.func76, Tryz.ntmps76
  go_wp2_with fail
  go_cut [] (fun wc => Hid (VW w0 b l1 wc))
  case first =>
    go_region_held3 (fun w' => w'.cell? ⟨X.b, 0, none⟩ = some (.int .i64 X.now) ∧ w'.cell? ⟨pb, n * 2, none⟩ = some (.int .i64 p.money)) (first | assumption | exact ⟨c0, c1⟩ | exact HS.out _ (VS.out l _ _ (by assumption) (alloc_at _ _)).out.bl) (first | (go_at_call 20; refine (HI.out l _ _ (by omega) (by assumption)).mono ?_; rintro e w1 ⟨rfl, hb1⟩; have V1 := VS.out l _ _ (by assumption) hb1; have S1 := HS.out _ V1.out.bl) | (go_at_call 113; refine (HTe.out _ (by assumption)).mono ?_; rintro e w1 ⟨rfl, V1⟩; have S1 := HS.out _ V1.bl; have V2 := hidOf V1))
    all_goals
      go_wp2_with fail
      go_meet
      assumption
  case rest =>
    clear c0 c1 c6 HVd HTe
    have V1 := hcut
    clear hcut
    have u1 : wc.cell? ⟨pb, n * 2 + 1, none⟩ = some (.slice (some ⟨ub, 0, none⟩) v.us.length ucap) := by rw [← HVU.out]; exact ((HR.out wc V1.out.bl).plCell HQ.out HVP.out).2
    go_wp2_with fail
    go_loopw [8, 33] (fun _ i w' => ∃ k : Nat, k ≤ v.us.length ∧ i = .int .i64 k ∧ Hid (VW w0 b (l1 ++ (p.units.take k).flatMap unitL) w')) (fun _ i _ => v.us.length + 1 - (intOf i).toNat)
    case atStart => exact ⟨0, Nat.zero_le _, rfl, by simpa using V1⟩
    case round =>
      clear u1 V1
      obtain ⟨k, hk, rfl, Vk⟩ := hrel
      by_cases hlt : k < v.us.length
      · have hku : k < p.units.length := by omega
        have hx : v.us[k]? = some v.us[k] := by simp [hlt]
        have hu : p.units[k]? = some p.units[k] := by simp [hku]
        have uk := HPk.out.each p.units[k] (List.getElem_mem hku)
        have ux := uk.x
        have uy := uk.y
        have ucg := uk.cargo
        rw [hwd] at ux
        rw [hht] at uy
        rw [hwd] at bw
        rw [hht] at bh
        have nmk := HNm.out p.units[k] (List.getElem_mem hku)
        have hfl := flat_take unitL p.units k hku
        have hfb := flat_len unitL (p.units.take k) 20000000 (fun u hu => by
          have hu' := List.mem_of_mem_take hu
          have uk := HPk.out.each u hu'
          have ux := uk.x
          have uy := uk.y
          rw [hwd] at ux
          rw [hht] at uy
          exact unitL_len u (HNm.out u hu') (by omega) (by omega) uk.cargo)
        have htk : (p.units.take k).length ≤ 5 := by rw [List.length_take]; omega
        have hlk : (l1 ++ (p.units.take k).flatMap unitL).length ≤ 200000000 := by rw [List.length_append]; omega
        have hul := unitL_len p.units[k] nmk (by omega) (by omega) ucg
        obtain ⟨u, hue⟩ : ∃ u, u = p.units[k] := ⟨_, rfl⟩
        obtain ⟨x, hxe⟩ : ∃ x, x = v.us[k] := ⟨_, rfl⟩
        rw [← hue] at hu ux uy ucg nmk hfl hul
        rw [← hxe] at hx
        obtain ⟨lk, hlke⟩ : ∃ lk, lk = l1 ++ (p.units.take k).flatMap unitL := ⟨_, rfl⟩
        have HF : Hid (l1 ++ (p.units.take (k + 1)).flatMap unitL = lk ++ unitL u) := by unfold Hid; rw [hfl, hlke, List.append_assoc]
        rw [← hlke] at Vk hlk
        have rk := HR.out wr Vk.out.bl
        have hru := (rk.each n _ HQ.out).unit k u x hu hx
        have d0 : wr.cell? ⟨ub, k, none⟩ = some (.pointer (some ⟨x.g, 0, none⟩)) := by
          have o := (rk.each n _ HQ.out).row
          simp only [HVU.out] at o
          exact own_cell o (by simp [hx, ptrV])
        have e0 : wr.cell? ⟨x.g, 0, none⟩ = some (.string u.name) := hru.cell rfl
        have e1 : wr.cell? ⟨x.g, 1, none⟩ = some (.complex .f64 (flI u.x) (flI u.y)) := hru.cell rfl
        have e2 : wr.cell? ⟨x.g, 2, none⟩ = some (.complex .f64 x.a x.b) := hru.cell rfl
        have e3 : wr.cell? ⟨x.g, 3, none⟩ = some (.int .i64 u.cargo) := hru.cell rfl
        have HSu : Hid (∀ wx : World, Below w0.heap.size w0 wx → (wx.cell? ⟨x.g, 0, none⟩ = some (.string u.name) ∧ wx.cell? ⟨x.g, 1, none⟩ = some (.complex .f64 (flI u.x) (flI u.y)) ∧ wx.cell? ⟨x.g, 2, none⟩ = some (.complex .f64 x.a x.b) ∧ wx.cell? ⟨x.g, 3, none⟩ = some (.int .i64 u.cargo))) := fun wx h => by
          have ru := ((HR.out wx h).each n _ HQ.out).unit k u x hu hx
          exact ⟨ru.cell rfl, ru.cell rfl, ru.cell rfl, ru.cell rfl⟩
        have HLe := hidOf (fun wx => xletter_any u.head x.a x.b wx hru.head)
        have HWh : Hid (∀ (wx : World), Hid (VW w0 b lk wx) → Calls Tryz.prog 114 #[.complex .f64 (flI u.x) (flI u.y)] wx fun e w' => e = .returned (.string (whereB u.x u.y)) ∧ Below wx.heap.size wx w') := fun wx h => where_any u.x u.y wx (by omega) (by omega) (h.out.tab HT.out)
        have HTu : Hid (∀ (wx : World), Hid (VW w0 b lk wx) → Calls Tryz.prog 113 #[.pointer (some ⟨b, 0, none⟩), .slice (some ⟨wx.heap.size, 0, none⟩) 6 6] (wx.alloc (.cells #[.string ⟨#[117, 110, 105, 116]⟩, .string u.name, .string (whereB u.x u.y), .string (letterB u.head), .string ⟨#[99, 97, 114, 103, 111]⟩, .string (itoaB u.cargo)] 9)) fun e w' => e = .returned (.tuple #[]) ∧ VW w0 b (lk ++ unitL u) w') := fun wx h =>
          tell_new w0 wx b lk [wUnit, u.name, whereB u.x u.y, letterB u.head, wCargo, itoaB u.cargo] _ 6 h.out rfl rfl (by unfold unitL at hul; omega) (by omega) (by simp)
        have Vd := hidOf (Vk.out.at (Below.refl _ wr).drew)
        clear rk hru hfl hfb hue hxe hlke Vk hx hu uk hul hlk htk nmk
        go_wp2_with fail
        go_region_held3 (fun w' => w'.cell? ⟨x.g, 0, none⟩ = some (.string u.name) ∧ w'.cell? ⟨x.g, 1, none⟩ = some (.complex .f64 (flI u.x) (flI u.y)) ∧ w'.cell? ⟨x.g, 2, none⟩ = some (.complex .f64 x.a x.b) ∧ w'.cell? ⟨x.g, 3, none⟩ = some (.int .i64 u.cargo)) (first | assumption | exact ⟨e0, e1, e2, e3⟩ | exact HSu.out _ (VS.out lk _ _ (by assumption) (alloc_at _ _)).out.bl) (first | (go_at_call 20; refine (HI.out lk _ _ (by omega) (by assumption)).mono ?_; rintro e w1 ⟨rfl, hb1⟩; have V1 := VS.out lk _ _ (by assumption) hb1; have S1 := HSu.out _ V1.out.bl) | (go_at_call 114; refine (HWh.out _ (by assumption)).mono ?_; rintro e w1 ⟨rfl, hb1⟩; have V1 := VS.out lk _ _ (by assumption) hb1; have S1 := HSu.out _ V1.out.bl) | (go_at_call 115; refine (HLe.out _).mono ?_; rintro e w' ⟨rfl, h⟩; rw [h]; clear h w') | (go_at_call 113; refine (HTu.out _ (by assumption)).mono ?_; rintro e w1 ⟨rfl, V1⟩; have S1 := HSu.out _ V1.bl; have V2 := hidOf V1))
        all_goals
          go_wp2
          refine ⟨⟨k + 1, by omega, by go_num, ?_⟩, by simp [intOf]; omega⟩
          unfold Hid
          rw [HF.out]
          assumption
      · have hkl : k = p.units.length := by omega
        have HEz : Hid (VW w0 b lz wr) := by
          unfold Hid
          rw [HE.out]
          have := Vk.out
          rw [hkl, List.take_of_length_le (Nat.le_refl _)] at this
          exact this
        clear hkl Vk
        go_wp2
        go_end0
        exact ⟨rfl, HEz.out⟩
end Go.Proofs.YtlafddeoheambaaGreatDoor

/-
  The functions near, tellSpot and tellNear of package haze.
-/
namespace Go.Proofs.YtlafddeoheambaaGreatDoor
open Go.RowKit

set_option maxRecDepth 100000 in
set_option maxHeartbeats 2000000 in
theorem near_any (pb po : Nat) (q : SPlayer × XV) (x y sight : Int) (w : World) (hc : w.cell? ⟨pb, po + 1, none⟩ = some q.2.v) (hq : RepQ w q) (hx : 0 ≤ x ∧ x ≤ 9) (hy : 0 ≤ y ∧ y ≤ 9) (hb : ∀ u ∈ q.1.units, (0 ≤ u.x ∧ u.x ≤ 9) ∧ (0 ≤ u.y ∧ u.y ≤ 9)) :
    Calls Tryz.prog 116 #[.pointer (some ⟨pb, po, none⟩), .complex .f64 (flI x) (flI y), .int .i64 sight] w fun e w' => e = .returned (.bool (seesB q.1.units sight x y)) ∧ w' = w := by
  obtain ⟨p, v⟩ := q
  obtain ⟨hrow, hlen, hu⟩ := hq
  simp only at hc hrow hlen hu hb
  obtain ⟨ao, g, cap, hv, hcap, hmax, rd⟩ := own_rd hrow
  rw [hv] at hc
  unfold maxLen at hmax
  have hun : Hid (∀ k (hk : k < v.us.length), w.cell? ⟨(v.us[k]).g, 1, none⟩ = some (.complex .f64 (flI (p.units[k]'(by omega)).x) (flI (p.units[k]'(by omega)).y))) := fun k hk => (hu k _ _ (List.getElem?_eq_getElem (by omega)) (List.getElem?_eq_getElem hk)).cell rfl
  have HB := hidOf hb
  clear hrow hu hv hb
  go_enter Tryz.func116, Tryz.ntmps116
  go_wp2
  go_loop [8, 14] (fun _ i => ∃ k : Nat, k ≤ v.us.length ∧ i = .int .i64 k ∧ Hid (noneTo (fun u => decide (farI u.x u.y x y ≤ sight)) p.units k)) (fun _ i => v.us.length + 1 - (intOf i).toNat)
  case atStart => exact ⟨0, Nat.zero_le _, rfl, noneTo_zero _ _⟩
  case round =>
    obtain ⟨k, hk, rfl, hn⟩ := hrel
    by_cases hlt : k < v.us.length
    · have hlt' : k < p.units.length := by omega
      obtain rfl := rd.base (by omega)
      have c0 : w.cell? ⟨g, k, none⟩ = some (.pointer (some ⟨v.us[k].g, 0, none⟩)) := rd.cell k _ (by simp [hlt, ptrV])
      have c1 := hun.out k hlt
      obtain ⟨bx, bY⟩ := HB.out p.units[k] (List.getElem_mem hlt')
      have HFa := hidOf (fun wx => far_any p.units[k].x p.units[k].y x y wx bx bY hx hy)
      obtain ⟨d, hd⟩ : ∃ d, d = farI p.units[k].x p.units[k].y x y := ⟨_, rfl⟩
      rw [← hd] at HFa
      by_cases he : d ≤ sight
      · have G : Hid (seesB p.units sight x y = true) := any_hit (fun u : SUnit => decide (farI u.x u.y x y ≤ sight)) p.units k hlt' (decide_eq_true (by rw [← hd]; exact he))
        clear hd hn
        go_wp2_with (go_at_call 139; refine (HFa.out _).mono ?_; rintro e w' ⟨rfl, h⟩; rw [h]; clear h w')
        go_ret
        exact ⟨ret_bool G.out.symm, rfl⟩
      · have hn' : Hid _ := noneTo_succ hn.out hlt' (decide_eq_false (by rw [← hd]; exact he))
        have he' : decide (d ≤ sight) = false := decide_eq_false he
        clear hd hn
        go_wp2_with (go_at_call 139; refine (HFa.out _).mono ?_; rintro e w' ⟨rfl, h⟩; rw [h]; clear h w')
        exact ⟨⟨k + 1, by omega, by go_num, hn'⟩, by simp [intOf]; omega⟩
    · have G : Hid (seesB p.units sight x y = false) := any_miss (fun u : SUnit => decide (farI u.x u.y x y ≤ sight)) p.units (noneTo_all hn.out (by omega))
      go_wp2
      go_ret
      exact ⟨ret_bool G.out.symm, rfl⟩

theorem oreL_len (o : List SSpot) (x y : Int) (hx : 0 ≤ x ∧ x ≤ 9) (hy : 0 ≤ y ∧ y ≤ 9) (ho : ∀ s ∈ o, 0 ≤ s.amount ∧ s.amount ≤ 99) : (oreL o x y).length ≤ 1000 := by
  unfold oreL
  cases h : oreAt o x y with
  | none => simp
  | some a =>
    obtain ⟨s, hs, e⟩ := oreAt_mem h
    have := ho s hs
    have := line_len [wOre, whereB x y, itoaB a] 50 (fun z hz => by
      simp at hz
      rcases hz with rfl | rfl | rfl
      · decide
      · exact whereB_size x y hx hy
      · have := itoaB_size a (by omega); omega)
    simp at this
    simp only
    omega
theorem holder_bd (ps : List SPlayer) (x y : Int) : -1 ≤ holderI ps x y ∧ holderI ps x y < ps.length := by
  unfold holderI
  induction ps with
  | nil => simp [ixOf]
  | cons a l ih =>
    simp only [ixOf, List.length_cons]
    split
    · omega
    · split <;> omega
theorem otherL_len (ps : List SPlayer) (n : Nat) (x y : Int) (hx : 0 ≤ x ∧ x ≤ 9) (hy : 0 ≤ y ∧ y ≤ 9) (hp : ps.length ≤ 4) : (otherL ps n x y).length ≤ 1000 := by
  unfold otherL
  have hb := holder_bd ps x y
  split
  · have := line_len [wOther, whereB x y, itoaB (holderI ps x y)] 50 (fun z hz => by
      simp at hz
      rcases hz with rfl | rfl | rfl
      · decide
      · exact whereB_size x y hx hy
      · have := itoaB_size (holderI ps x y) (by omega); omega)
    simp at this
    omega
  · simp

set_option maxRecDepth 100000 in
set_option maxHeartbeats 8000000 in
theorem tellSpot_any (w0 w : World) (X : XW) (n : Nat) (b : Nat) (l : List UInt8) (x y : Int) (hV : VW w0 b l w) (hr : RepX w0 X) (ht : Tab w0) (hO : OkX X) (hx : 0 ≤ x ∧ x ≤ 9) (hy : 0 ≤ y ∧ y ≤ 9) (hor : ∀ s ∈ X.ore, 0 ≤ s.amount ∧ s.amount ≤ 99) (h4 : X.pls.length ≤ 4) (hl : l.length ≤ 10000000000) :
    Calls Tryz.prog 117 #[.pointer (some ⟨X.b, 0, none⟩), .pointer (some ⟨b, 0, none⟩), .int .i64 n, .complex .f64 (flI x) (flI y)] w fun e w' => e = .returned (.tuple #[]) ∧ VW w0 b (l ++ spotL X.S n x y) w' := by
  have hol := oreL_len X.ore x y hx hy hor
  have hotl := otherL_len X.S.players n x y hx hy (by simpa [XW.S] using h4)
  have HT := hidOf ht
  have HR : Hid (∀ wx, Below w0.heap.size w0 wx → RepX wx X) := fun wx h => hr.below h
  have HMo : Hid (∀ (lx : List UInt8) wx, Hid (VW w0 b lx wx) → MapD wx X.mo X.lo X.co) := fun lx wx h => (hr.below h.out.bl).ore
  have HMs : Hid (∀ (lx : List UInt8) wx, Hid (VW w0 b lx wx) → MapD wx X.ms X.ls X.cs) := fun lx wx h => (hr.below h.out.bl).st
  have HC : Hid (∀ (lx : List UInt8) wx, Hid (VW w0 b lx wx) → wx.cell? ⟨X.b, 5, none⟩ = some (.map (some X.ms))) := fun lx wx h => (hr.below h.out.bl).cellTop rfl
  have c4 : w.cell? ⟨X.b, 4, none⟩ = some (.map (some X.mo)) := (hr.below hV.bl).cellTop rfl
  have HI : Hid (∀ (lx : List UInt8) (m : Int) (wx : World), 0 ≤ m ∧ m ≤ 1000000000000 → Hid (VW w0 b lx wx) → Calls Tryz.prog 20 #[.int .i64 m] wx fun e w' => e = .returned (.string (itoaB m)) ∧ Hid (VW w0 b lx w')) := fun lx m wx hm h => by
    refine (itoa_any m hm wx (h.out.tab HT.out)).mono ?_
    rintro e w' ⟨rfl, hb⟩
    exact ⟨rfl, h.out.at hb⟩
  have HWh : Hid (∀ (lx : List UInt8) (wx : World), Hid (VW w0 b lx wx) → Calls Tryz.prog 114 #[.complex .f64 (flI x) (flI y)] wx fun e w' => e = .returned (.string (whereB x y)) ∧ Hid (VW w0 b lx w')) := fun lx wx h => by
    refine (where_any x y wx hx hy (h.out.tab HT.out)).mono ?_
    rintro e w' ⟨rfl, hb⟩
    exact ⟨rfl, h.out.at hb⟩
  have HE : Hid (l ++ spotL X.S n x y = (l ++ oreL X.ore x y) ++ otherL X.S.players n x y) := by unfold Hid spotL; rw [List.append_assoc]; rfl
  have e1 : look x y X.lo = oreAt X.ore x y := hO.ore x y
  have e2 : holderI X.S.players x y = (look x y X.ls).getD (-1) := holder_look hO.st x y
  have V0 := hidOf hV
  -- what is told of ore
  obtain ⟨am, l1, ham, hA⟩ : ∃ (am : Int) (l1 : List UInt8), (look x y X.lo).getD 0 = am ∧ l1 = l ++ oreL X.ore x y ∧ ((am = 0 ∧ l1 = l) ∨ (0 < am ∧ am ≤ 99 ∧ l1 = l ++ lineL [wOre, whereB x y, itoaB am])) := by
    cases ho : oreAt X.ore x y with
    | none => exact ⟨0, l, by rw [e1, ho]; rfl, by simp [oreL, ho], .inl ⟨rfl, rfl⟩⟩
    | some a =>
      obtain ⟨s, hs, e⟩ := oreAt_mem ho
      have := (hor s hs).2
      exact ⟨a, _, by rw [e1, ho]; rfl, rfl, .inr ⟨oreAt_pos ho, by omega, by simp [oreL, ho]⟩⟩
  obtain ⟨hl1, hA⟩ := hA
  have hl1b : l1.length ≤ 20000000000 := by rw [hl1, List.length_append]; omega
  obtain ⟨lz, hlz⟩ : ∃ lz, lz = l ++ spotL X.S n x y := ⟨_, rfl⟩
  rw [← hlz, ← hl1] at HE
  rw [← hlz]
  have HB : Hid ((look x y X.ls = none ∧ lz = l1) ∨ ∃ m : Nat, look x y X.ls = some (m : Int) ∧ m ≤ 4 ∧ ((m = n ∧ lz = l1) ∨ (m ≠ n ∧ lz = l1 ++ lineL [wOther, whereB x y, itoaB m]))) := by
    unfold Hid
    rw [HE.out]
    unfold otherL
    rw [e2]
    cases hk : look x y X.ls with
    | none => exact .inl ⟨rfl, by simp⟩
    | some m =>
      obtain ⟨j, us, k, h1, h2⟩ := hO.st.b x y m hk
      have h3 := hO.st.a j us k x y h1 h2
      rw [hk] at h3
      injection h3 with h3
      subst h3
      have hj := (at_some h1).1
      simp [posL] at hj
      refine .inr ⟨j, rfl, by omega, ?_⟩
      by_cases e : j = n
      · exact .inl ⟨e, by simp [e]⟩
      · refine .inr ⟨e, ?_⟩
        have : ((j : Int) ≠ (n : Int)) := by omega
        simp [this]
  have HTo : Hid (∀ (wx : World), Hid (VW w0 b l wx) → 0 < am → l1 = l ++ lineL [wOre, whereB x y, itoaB am] → Calls Tryz.prog 113 #[.pointer (some ⟨b, 0, none⟩), .slice (some ⟨wx.heap.size, 0, none⟩) 3 3] (wx.alloc (.cells #[.string ⟨#[111, 114, 101]⟩, .string (whereB x y), .string (itoaB am)] 9)) fun e w' => e = .returned (.tuple #[]) ∧ Hid (VW w0 b l1 w')) := fun wx h _ e => by
    have hlen : (lineL [wOre, whereB x y, itoaB am]).length ≤ 1000 := by
      have h1 := congrArg List.length (hl1.symm.trans e)
      rw [List.length_append, List.length_append] at h1
      omega
    rw [e]
    exact tell_new w0 wx b l [wOre, whereB x y, itoaB am] _ 3 h.out rfl rfl (by omega) (by omega) (by simp)
  have HTt : Hid (∀ (m : Nat) (wx : World), m ≤ 4 → Hid (VW w0 b l1 wx) → lz = l1 ++ lineL [wOther, whereB x y, itoaB m] → Calls Tryz.prog 113 #[.pointer (some ⟨b, 0, none⟩), .slice (some ⟨wx.heap.size, 0, none⟩) 3 3] (wx.alloc (.cells #[.string ⟨#[111, 116, 104, 101, 114]⟩, .string (whereB x y), .string (itoaB m)] 9)) fun e w' => e = .returned (.tuple #[]) ∧ Hid (VW w0 b lz w')) := fun m wx hm h e => by
    have hlen : (lineL [wOther, whereB x y, itoaB m]).length ≤ 1000 := by
      have h1 := congrArg List.length (HE.out.symm.trans e)
      rw [List.length_append, List.length_append] at h1
      omega
    rw [e]
    exact tell_new w0 wx b l1 [wOther, whereB x y, itoaB m] _ 3 h.out rfl rfl (by omega) (by omega) (by simp)
  have HAm := hidOf ham
  clear hV hr ht hO hor HE e1 e2 hol hotl hl1 hlz ham
  rcases hA with ⟨a0, el⟩ | ⟨a0, a9, el⟩
  · subst a0 el
    go_enter Tryz.func117, Tryz.ntmps117
    go_upto_region 3 with (at_lookup; refine wpList_lookup_c _ rfl _ _ 79 rfl 88 3 Tryz.underlying79 Tryz.underlying88 Tryz.zeroInt X.mo X.co X.lo rfl (HMo.out _ _ V0) x y rfl hx hy ?_; rw [HAm.out])
    have V3 := V0
    have c5 := HC.out _ _ V3
    rcases HB.out with ⟨h1, h2⟩ | ⟨m, h1, hm, ⟨h2, h3⟩ | ⟨h2, h3⟩⟩
    · have HL := hidOf h1
      have HZ := hidOf h2
      clear h1 h2
      go_wp2_with (at_lookup; refine wpList_lookup_ok_c _ rfl _ _ 79 rfl 88 3 Tryz.underlying79 Tryz.underlying88 Tryz.zeroInt X.ms X.cs X.ls rfl (HMs.out _ _ V3) x y rfl hx hy ?_; rw [HL.out])
      go_end0
      exact ⟨rfl, by rw [HZ.out]; exact V3.out⟩
    · have HL := hidOf h1
      have HZ := hidOf h3
      have hmn : ((m : Int) == (n : Int)) = true := by simp [h2]
      clear h1 h2 h3
      go_wp2_with (at_lookup; refine wpList_lookup_ok_c _ rfl _ _ 79 rfl 88 3 Tryz.underlying79 Tryz.underlying88 Tryz.zeroInt X.ms X.cs X.ls rfl (HMs.out _ _ V3) x y rfl hx hy ?_; rw [HL.out])
      go_end0
      exact ⟨rfl, by rw [HZ.out]; exact V3.out⟩
    · have HL := hidOf h1
      have HZ := hidOf h3
      have hmn : ((m : Int) == (n : Int)) = false := beq_eq_false_iff_ne.2 (by omega)
      clear h1 h2 h3
      go_wp2_with (first | (at_lookup; refine wpList_lookup_ok_c _ rfl _ _ 79 rfl 88 3 Tryz.underlying79 Tryz.underlying88 Tryz.zeroInt X.ms X.cs X.ls rfl (HMs.out _ _ V3) x y rfl hx hy ?_; rw [HL.out]) | (go_at_call 114; refine (HWh.out _ _ V3).mono ?_; rintro e w4 ⟨rfl, V4⟩) | (go_at_call 20; refine (HI.out _ _ _ (by omega) V4).mono ?_; rintro e w5 ⟨rfl, V5⟩) | (go_at_call 113; refine (HTt.out m _ hm V5 HZ.out).mono ?_; rintro e w6 ⟨rfl, V6⟩))
      go_end0
      exact ⟨rfl, V6.out⟩
  · have HEl := hidOf el
    clear el
    have V1 := V0
    go_enter Tryz.func117, Tryz.ntmps117
    go_upto_region 3 with (first | (at_lookup; refine wpList_lookup_c _ rfl _ _ 79 rfl 88 3 Tryz.underlying79 Tryz.underlying88 Tryz.zeroInt X.mo X.co X.lo rfl (HMo.out _ _ V0) x y rfl hx hy ?_; rw [HAm.out]) | (go_at_call 114; refine (HWh.out _ _ V1).mono ?_; rintro e w1 ⟨rfl, V2⟩) | (go_at_call 20; refine (HI.out _ _ _ (by omega) V2).mono ?_; rintro e w2 ⟨rfl, V2b⟩) | (go_at_call 113; refine (HTo.out _ V2b a0 HEl.out).mono ?_; rintro e w3 ⟨rfl, V3⟩))
    have c5 := HC.out _ _ V3
    rcases HB.out with ⟨h1, h2⟩ | ⟨m, h1, hm, ⟨h2, h3⟩ | ⟨h2, h3⟩⟩
    · have HL := hidOf h1
      have HZ := hidOf h2
      clear h1 h2
      go_wp2_with (at_lookup; refine wpList_lookup_ok_c _ rfl _ _ 79 rfl 88 3 Tryz.underlying79 Tryz.underlying88 Tryz.zeroInt X.ms X.cs X.ls rfl (HMs.out _ _ V3) x y rfl hx hy ?_; rw [HL.out])
      go_end0
      exact ⟨rfl, by rw [HZ.out]; exact V3.out⟩
    · have HL := hidOf h1
      have HZ := hidOf h3
      have hmn : ((m : Int) == (n : Int)) = true := by simp [h2]
      clear h1 h2 h3
      go_wp2_with (at_lookup; refine wpList_lookup_ok_c _ rfl _ _ 79 rfl 88 3 Tryz.underlying79 Tryz.underlying88 Tryz.zeroInt X.ms X.cs X.ls rfl (HMs.out _ _ V3) x y rfl hx hy ?_; rw [HL.out])
      go_end0
      exact ⟨rfl, by rw [HZ.out]; exact V3.out⟩
    · have HL := hidOf h1
      have HZ := hidOf h3
      have hmn : ((m : Int) == (n : Int)) = false := beq_eq_false_iff_ne.2 (by omega)
      clear h1 h2 h3
      go_wp2_with (first | (at_lookup; refine wpList_lookup_ok_c _ rfl _ _ 79 rfl 88 3 Tryz.underlying79 Tryz.underlying88 Tryz.zeroInt X.ms X.cs X.ls rfl (HMs.out _ _ V3) x y rfl hx hy ?_; rw [HL.out]) | (go_at_call 114; refine (HWh.out _ _ V3).mono ?_; rintro e w4 ⟨rfl, V4⟩) | (go_at_call 20; refine (HI.out _ _ _ (by omega) V4).mono ?_; rintro e w5 ⟨rfl, V5⟩) | (go_at_call 113; refine (HTt.out m _ hm V5 HZ.out).mono ?_; rintro e w6 ⟨rfl, V6⟩))
      go_end0
      exact ⟨rfl, V6.out⟩
end Go.Proofs.YtlafddeoheambaaGreatDoor
