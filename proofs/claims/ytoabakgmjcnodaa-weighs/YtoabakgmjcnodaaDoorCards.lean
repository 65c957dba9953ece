/-
  DERIVED. GIVEN WITH THE SEED: THE CARDS: each row of YtoabakgmjcnodaaDoorRows.lean that lists a variable, with what it lists TIED to the program's text (the seventh form; the later family's looks); each row that meets fmt, with fmt's text TOLD by the authors' own Lean function (tested against real Go, not proved from fmt's source: count such statements apart). THE CARD IS WHAT COUNTS. Prove the row's statement (the work); the ties are given (YtoabakgmjcnodaaDoorTie.lean); close each card by the builder's one call (the guide's Derived/Test/ToyasCard.lean, 'card_holds'). Laid BY PROGRAM, IN A SANDBOX (cutbox-door.mjs). By AI agents, Wed Nov 11 2026. No macro, syntax, notation, axiom, sorry.
-/
import Derived.Test.YtoabakgmjcnodaaDoorRows
import GoSem.ClaimSeven
namespace Go.Proofs.YtoabakgmjcnodaaDoor
namespace Rows

/-- THE TIED CARD OF 'milllaw.Checks'. -/
def checksCard : Claim7 := { stood := { row := checksRow, standIns := [], harness := (true, "c910cd5658b75dc9aa3186942d5fb0a1a0e9bac8a5f0efae1de60d377ae58209"), looks := false }, kinds := [], alts := [], laidByText := true, laidKinds := [.data, .data, .pinned], laidTests := true, laidLooks := .later }
def ChecksCardSaid : Prop := Claim7.holds Tryd.pinned (.plain (OpenSpec.ofChange checksSpec)) checksCard

/-- THE TIED CARD OF 'milllaw.Weighs'. -/
def weighsCard : Claim7 := { stood := { row := weighsRow, standIns := [], harness := (true, "c910cd5658b75dc9aa3186942d5fb0a1a0e9bac8a5f0efae1de60d377ae58209"), looks := false }, kinds := [], alts := [], laidByText := true, laidKinds := [.data, .data, .pinned], laidTests := true, laidLooks := .later }
def WeighsCardSaid : Prop := Claim7.holds Tryd.pinned (.plain (OpenSpec.ofChange weighsSpec)) weighsCard

/-- THE TIED CARD OF 'millkeep.Graphs'. -/
def graphsCard : Claim7 := { stood := { row := graphsRow, standIns := [], harness := (true, "c910cd5658b75dc9aa3186942d5fb0a1a0e9bac8a5f0efae1de60d377ae58209"), looks := false }, kinds := [], alts := [], laidByText := true, laidKinds := [.data, .data, .pinned], laidTests := true, laidLooks := .later }
def GraphsCardSaid : Prop := Claim7.holds Tryd.pinned (.plain (OpenSpec.ofChange graphsSpec)) graphsCard

/-- THE SECOND FORM's CARD OF 'milllaw.Checks'. -/
def checksUptoCard : Claim7 := { stood := { row := checksUptoRow, standIns := [], harness := (true, "c910cd5658b75dc9aa3186942d5fb0a1a0e9bac8a5f0efae1de60d377ae58209"), looks := false }, kinds := [], alts := [], laidByText := true, laidKinds := [.data, .data, .pinned], laidTests := true, laidLooks := .later }
def ChecksUptoCardSaid : Prop := Claim7.holds Tryd.pinned (.plain (OpenSpec.upto checksSpec)) checksUptoCard

/-- THE SECOND FORM's CARD OF 'milllaw.Weighs'. -/
def weighsUptoCard : Claim7 := { stood := { row := weighsUptoRow, standIns := [], harness := (true, "c910cd5658b75dc9aa3186942d5fb0a1a0e9bac8a5f0efae1de60d377ae58209"), looks := false }, kinds := [], alts := [], laidByText := true, laidKinds := [.data, .data, .pinned], laidTests := true, laidLooks := .later }
def WeighsUptoCardSaid : Prop := Claim7.holds Tryd.pinned (.plain (OpenSpec.upto weighsSpec)) weighsUptoCard

/-- THE SECOND FORM's CARD OF 'millkeep.Graphs'. -/
def graphsUptoCard : Claim7 := { stood := { row := graphsUptoRow, standIns := [], harness := (true, "c910cd5658b75dc9aa3186942d5fb0a1a0e9bac8a5f0efae1de60d377ae58209"), looks := false }, kinds := [], alts := [], laidByText := true, laidKinds := [.data, .data, .pinned], laidTests := true, laidLooks := .later }
def GraphsUptoCardSaid : Prop := Claim7.holds Tryd.pinned (.plain (OpenSpec.upto graphsSpec)) graphsUptoCard
end Rows
end Go.Proofs.YtoabakgmjcnodaaDoor
