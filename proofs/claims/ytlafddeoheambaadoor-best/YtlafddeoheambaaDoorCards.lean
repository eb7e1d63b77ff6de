/-
  DERIVED. GIVEN WITH THE SEED: THE CARDS: each row of YtlafddeoheambaaDoorRows.lean that lists a variable, with what it lists TIED to the program's text (the seventh form; the later family's looks); each row that meets fmt, with fmt's text TOLD by the authors' own Lean function (tested against real Go, not proved from fmt's source: count such statements apart). THE CARD IS WHAT COUNTS. Prove the row's statement (the work); the ties are given (YtlafddeoheambaaDoorTie.lean); close each card by the builder's one call (the guide's Derived/Test/ToyasCard.lean, 'card_holds'). Laid BY PROGRAM, IN A SANDBOX (cutbox-door.mjs). By AI agents, Wed Nov 11 2026. No macro, syntax, notation, axiom, sorry.
-/
import Derived.Test.YtlafddeoheambaaDoorRows
import GoSem.ClaimSeven
namespace Go.Proofs.YtlafddeoheambaaDoor
namespace Rows

/-- THE TIED CARD OF 'hazekeep.Turns'. -/
def turnsCard : Claim7 := { stood := { row := turnsRow, standIns := [], harness := (true, "4c125e6dd0fa537c74afd38ad8cec6fe1ccf4129602fc708144efeaa954897e2"), looks := false }, kinds := [], alts := [], laidByText := true, laidKinds := [.data, .data, .data], laidTests := true, laidLooks := .later }
def TurnsCardSaid : Prop := Claim7.holds Tryd.pinned (.plain (OpenSpec.ofChange turnsSpec)) turnsCard

/-- THE TIED CARD OF 'hazekeep.Hidden'. -/
def hiddenCard : Claim7 := { stood := { row := hiddenRow, standIns := [], harness := (true, "4c125e6dd0fa537c74afd38ad8cec6fe1ccf4129602fc708144efeaa954897e2"), looks := false }, kinds := [], alts := [], laidByText := true, laidKinds := [.data, .data, .data], laidTests := true, laidLooks := .later }
def HiddenCardSaid : Prop := Claim7.holds Tryd.pinned (.plain (OpenSpec.ofChange hiddenSpec)) hiddenCard

/-- THE TIED CARD OF 'hazekeep.Best'. -/
def bestCard : Claim7 := { stood := { row := bestRow, standIns := [], harness := (true, "4c125e6dd0fa537c74afd38ad8cec6fe1ccf4129602fc708144efeaa954897e2"), looks := false }, kinds := [], alts := [], laidByText := true, laidKinds := [.data, .data, .data], laidTests := true, laidLooks := .later }
def BestCardSaid : Prop := Claim7.holds Tryd.pinned (.plain (OpenSpec.ofChange bestSpec)) bestCard

/-- THE TIED CARD OF 'hazekeep.Sealed'. -/
def sealedCard : Claim7 := { stood := { row := sealedRow, standIns := [], harness := (true, "4c125e6dd0fa537c74afd38ad8cec6fe1ccf4129602fc708144efeaa954897e2"), looks := false }, kinds := [], alts := [], laidByText := true, laidKinds := [.data, .data, .data], laidTests := true, laidLooks := .later }
def SealedCardSaid : Prop := Claim7.holds Tryd.pinned (.plain (OpenSpec.ofChange sealedSpec)) sealedCard

/-- THE SECOND FORM's CARD OF 'hazekeep.Turns'. -/
def turnsUptoCard : Claim7 := { stood := { row := turnsUptoRow, standIns := [], harness := (true, "4c125e6dd0fa537c74afd38ad8cec6fe1ccf4129602fc708144efeaa954897e2"), looks := false }, kinds := [], alts := [], laidByText := true, laidKinds := [.data, .data, .data], laidTests := true, laidLooks := .later }
def TurnsUptoCardSaid : Prop := Claim7.holds Tryd.pinned (.plain (OpenSpec.upto turnsSpec)) turnsUptoCard

/-- THE SECOND FORM's CARD OF 'hazekeep.Hidden'. -/
def hiddenUptoCard : Claim7 := { stood := { row := hiddenUptoRow, standIns := [], harness := (true, "4c125e6dd0fa537c74afd38ad8cec6fe1ccf4129602fc708144efeaa954897e2"), looks := false }, kinds := [], alts := [], laidByText := true, laidKinds := [.data, .data, .data], laidTests := true, laidLooks := .later }
def HiddenUptoCardSaid : Prop := Claim7.holds Tryd.pinned (.plain (OpenSpec.upto hiddenSpec)) hiddenUptoCard

/-- THE SECOND FORM's CARD OF 'hazekeep.Best'. -/
def bestUptoCard : Claim7 := { stood := { row := bestUptoRow, standIns := [], harness := (true, "4c125e6dd0fa537c74afd38ad8cec6fe1ccf4129602fc708144efeaa954897e2"), looks := false }, kinds := [], alts := [], laidByText := true, laidKinds := [.data, .data, .data], laidTests := true, laidLooks := .later }
def BestUptoCardSaid : Prop := Claim7.holds Tryd.pinned (.plain (OpenSpec.upto bestSpec)) bestUptoCard

/-- THE SECOND FORM's CARD OF 'hazekeep.Sealed'. -/
def sealedUptoCard : Claim7 := { stood := { row := sealedUptoRow, standIns := [], harness := (true, "4c125e6dd0fa537c74afd38ad8cec6fe1ccf4129602fc708144efeaa954897e2"), looks := false }, kinds := [], alts := [], laidByText := true, laidKinds := [.data, .data, .data], laidTests := true, laidLooks := .later }
def SealedUptoCardSaid : Prop := Claim7.holds Tryd.pinned (.plain (OpenSpec.upto sealedSpec)) sealedUptoCard
end Rows
end Go.Proofs.YtlafddeoheambaaDoor
