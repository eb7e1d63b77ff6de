/-
  DERIVED. GIVEN WITH THE SEED: THE CARDS: each row of YtlafddeoheambaaGreatDoorRows.lean that lists a variable, with what it lists TIED to the program's text (the seventh form; the later family's looks); each row that meets fmt, with fmt's text TOLD by the authors' own Lean function (tested against real Go, not proved from fmt's source: count such statements apart). THE CARD IS WHAT COUNTS. Prove the row's statement (the work); the ties are given (YtlafddeoheambaaGreatDoorTie.lean); close each card by the builder's one call (the guide's Derived/Test/ToyasCard.lean, 'card_holds'). Laid BY PROGRAM, IN A SANDBOX (cutbox-door.mjs). By AI agents, Wed Nov 11 2026. No macro, syntax, notation, axiom, sorry.
-/
import Derived.Test.YtlafddeoheambaaGreatDoorRows
import GoSem.ClaimSeven
namespace Go.Proofs.YtlafddeoheambaaGreatDoor
namespace Rows

/-- THE TIED CARD OF 'hazelaw.Worlds'. -/
def worldsCard : Claim7 := { stood := { row := worldsRow, standIns := [], harness := (true, "13d336bd90bf91dc969d9e7b3452dc9a70c89f85e318fa0048853bce1d244c4e"), looks := true }, kinds := [], alts := [], laidByText := true, laidKinds := [.data, .data, .data], laidTests := true, laidLooks := .later }
def WorldsCardSaid : Prop := Claim7.holds Tryz.pinned (.plain (OpenSpec.ofChange worldsSpec)) worldsCard

/-- THE TIED CARD OF 'hazelaw.Views'. -/
def viewsCard : Claim7 := { stood := { row := viewsRow, standIns := [], harness := (true, "13d336bd90bf91dc969d9e7b3452dc9a70c89f85e318fa0048853bce1d244c4e"), looks := true }, kinds := [], alts := [], laidByText := true, laidKinds := [.data, .data, .data], laidTests := true, laidLooks := .later }
def ViewsCardSaid : Prop := Claim7.holds Tryz.pinned (.plain (OpenSpec.ofChange viewsSpec)) viewsCard

/-- THE TIED CARD OF 'hazelaw.All'. -/
def allCard : Claim7 := { stood := { row := allRow, standIns := [], harness := (true, "13d336bd90bf91dc969d9e7b3452dc9a70c89f85e318fa0048853bce1d244c4e"), looks := true }, kinds := [], alts := [], laidByText := true, laidKinds := [.data, .data, .data], laidTests := true, laidLooks := .later }
def AllCardSaid : Prop := Claim7.holds Tryz.pinned (.plain (OpenSpec.ofChange allSpec)) allCard

/-- THE TIED CARD OF 'hazekeep.Turned'. -/
def turnedCard : Claim7 := { stood := { row := turnedRow, standIns := [], harness := (true, "13d336bd90bf91dc969d9e7b3452dc9a70c89f85e318fa0048853bce1d244c4e"), looks := true }, kinds := [], alts := [], laidByText := true, laidKinds := [.data, .data, .data, .sentinel, .sentinel], laidTests := true, laidLooks := .later }
def TurnedCardSaid : Prop := Claim7.holds Tryz.pinned (.plain (OpenSpec.ofChange turnedSpec)) turnedCard

/-- THE TIED CARD OF 'hazekeep.Balance'. -/
def balanceCard : Claim7 := { stood := { row := balanceRow, standIns := [], harness := (true, "13d336bd90bf91dc969d9e7b3452dc9a70c89f85e318fa0048853bce1d244c4e"), looks := true }, kinds := [], alts := [], laidByText := true, laidKinds := [.data, .data, .data, .sentinel, .sentinel], laidTests := true, laidLooks := .later }
def BalanceCardSaid : Prop := Claim7.holds Tryz.pinned (.plain (OpenSpec.ofChange balanceSpec)) balanceCard

/-- THE SECOND FORM's CARD OF 'hazelaw.Worlds'. -/
def worldsUptoCard : Claim7 := { stood := { row := worldsUptoRow, standIns := [], harness := (true, "13d336bd90bf91dc969d9e7b3452dc9a70c89f85e318fa0048853bce1d244c4e"), looks := true }, kinds := [], alts := [], laidByText := true, laidKinds := [.data, .data, .data], laidTests := true, laidLooks := .later }
def WorldsUptoCardSaid : Prop := Claim7.holds Tryz.pinned (.plain (OpenSpec.upto worldsSpec)) worldsUptoCard

/-- THE SECOND FORM's CARD OF 'hazelaw.Views'. -/
def viewsUptoCard : Claim7 := { stood := { row := viewsUptoRow, standIns := [], harness := (true, "13d336bd90bf91dc969d9e7b3452dc9a70c89f85e318fa0048853bce1d244c4e"), looks := true }, kinds := [], alts := [], laidByText := true, laidKinds := [.data, .data, .data], laidTests := true, laidLooks := .later }
def ViewsUptoCardSaid : Prop := Claim7.holds Tryz.pinned (.plain (OpenSpec.upto viewsSpec)) viewsUptoCard

/-- THE SECOND FORM's CARD OF 'hazelaw.All'. -/
def allUptoCard : Claim7 := { stood := { row := allUptoRow, standIns := [], harness := (true, "13d336bd90bf91dc969d9e7b3452dc9a70c89f85e318fa0048853bce1d244c4e"), looks := true }, kinds := [], alts := [], laidByText := true, laidKinds := [.data, .data, .data], laidTests := true, laidLooks := .later }
def AllUptoCardSaid : Prop := Claim7.holds Tryz.pinned (.plain (OpenSpec.upto allSpec)) allUptoCard

/-- THE SECOND FORM's CARD OF 'hazekeep.Turned'. -/
def turnedUptoCard : Claim7 := { stood := { row := turnedUptoRow, standIns := [], harness := (true, "13d336bd90bf91dc969d9e7b3452dc9a70c89f85e318fa0048853bce1d244c4e"), looks := true }, kinds := [], alts := [], laidByText := true, laidKinds := [.data, .data, .data, .sentinel, .sentinel], laidTests := true, laidLooks := .later }
def TurnedUptoCardSaid : Prop := Claim7.holds Tryz.pinned (.plain (OpenSpec.upto turnedSpec)) turnedUptoCard

/-- THE SECOND FORM's CARD OF 'hazekeep.Balance'. -/
def balanceUptoCard : Claim7 := { stood := { row := balanceUptoRow, standIns := [], harness := (true, "13d336bd90bf91dc969d9e7b3452dc9a70c89f85e318fa0048853bce1d244c4e"), looks := true }, kinds := [], alts := [], laidByText := true, laidKinds := [.data, .data, .data, .sentinel, .sentinel], laidTests := true, laidLooks := .later }
def BalanceUptoCardSaid : Prop := Claim7.holds Tryz.pinned (.plain (OpenSpec.upto balanceSpec)) balanceUptoCard
end Rows
end Go.Proofs.YtlafddeoheambaaGreatDoor
