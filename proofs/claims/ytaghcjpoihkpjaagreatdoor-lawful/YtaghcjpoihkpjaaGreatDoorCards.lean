/-
  DERIVED. GIVEN WITH THE SEED: THE CARDS: each row of YtaghcjpoihkpjaaGreatDoorRows.lean that lists a variable, with what it lists TIED to the program's text (the seventh form; the later family's looks); each row that meets fmt, with fmt's text TOLD by the authors' own Lean function (tested against real Go, not proved from fmt's source: count such statements apart). THE CARD IS WHAT COUNTS. Prove the row's statement (the work); the ties are given (YtaghcjpoihkpjaaGreatDoorTie.lean); close each card by the builder's one call (the guide's Derived/Test/ToyasCard.lean, 'card_holds'). Laid BY PROGRAM, IN A SANDBOX (cutbox-door.mjs). By AI agents, Wed Nov 11 2026. No macro, syntax, notation, axiom, sorry.
-/
import Derived.Test.YtaghcjpoihkpjaaGreatDoorRows
import GoSem.ClaimSeven
namespace Go.Proofs.YtaghcjpoihkpjaaGreatDoor
namespace Rows

/-- THE TIED CARD OF 'scalerkeep.Lazy'. -/
def lazyCard : Claim7 := { stood := { row := lazyRow, standIns := [], harness := (true, "33389407098a63bb41e9cf03273231631a2e3b1686b2a2b47c4958c774fc53e5"), looks := true }, kinds := [], alts := [], laidByText := true, laidKinds := [.data, .data, .data, .data, .handle, .sentinel, .sentinel, .sentinel, .sentinel, .sentinel, .sentinel, .sentinel, .sentinel, .data, .pinned, .pinned, .pinned], laidTests := true, laidLooks := .later }
def LazyCardSaid : Prop := Claim7.holds Tryz.pinned (.plain (OpenSpec.ofChange lazySpec)) lazyCard

/-- THE TIED CARD OF 'scalerkeep.Truths'. -/
def truthsCard : Claim7 := { stood := { row := truthsRow, standIns := [], harness := (true, "33389407098a63bb41e9cf03273231631a2e3b1686b2a2b47c4958c774fc53e5"), looks := true }, kinds := [], alts := [], laidByText := true, laidKinds := [.data, .data, .data, .data, .handle, .sentinel, .sentinel, .sentinel, .sentinel, .sentinel, .sentinel, .sentinel, .sentinel, .data, .pinned, .pinned, .pinned], laidTests := true, laidLooks := .later }
def TruthsCardSaid : Prop := Claim7.holds Tryz.pinned (.plain (OpenSpec.ofChange truthsSpec)) truthsCard

/-- THE TIED CARD OF 'scalerkeep.Bytes'. -/
def bytesCard : Claim7 := { stood := { row := bytesRow, standIns := [], harness := (true, "33389407098a63bb41e9cf03273231631a2e3b1686b2a2b47c4958c774fc53e5"), looks := true }, kinds := [], alts := [], laidByText := true, laidKinds := [.data, .data, .data, .data, .handle, .sentinel, .sentinel, .sentinel, .sentinel, .sentinel, .sentinel, .sentinel, .sentinel, .data, .pinned, .pinned, .pinned], laidTests := true, laidLooks := .later }
def BytesCardSaid : Prop := Claim7.holds Tryz.pinned (.plain (OpenSpec.ofChange bytesSpec)) bytesCard

/-- THE TIED CARD OF 'scalerkeep.Lawful'. -/
def lawfulCard : Claim7 := { stood := { row := lawfulRow, standIns := [], harness := (true, "33389407098a63bb41e9cf03273231631a2e3b1686b2a2b47c4958c774fc53e5"), looks := true }, kinds := [], alts := [], laidByText := true, laidKinds := [.data, .data, .data, .data, .handle, .sentinel, .sentinel, .sentinel, .sentinel, .sentinel, .sentinel, .sentinel, .sentinel, .data, .pinned, .pinned, .pinned], laidTests := true, laidLooks := .later }
def LawfulCardSaid : Prop := Claim7.holds Tryz.pinned (.plain (OpenSpec.ofChange lawfulSpec)) lawfulCard

/-- THE SECOND FORM's CARD OF 'scalerkeep.Lazy'. -/
def lazyUptoCard : Claim7 := { stood := { row := lazyUptoRow, standIns := [], harness := (true, "33389407098a63bb41e9cf03273231631a2e3b1686b2a2b47c4958c774fc53e5"), looks := true }, kinds := [], alts := [], laidByText := true, laidKinds := [.data, .data, .data, .data, .handle, .sentinel, .sentinel, .sentinel, .sentinel, .sentinel, .sentinel, .sentinel, .sentinel, .data, .pinned, .pinned, .pinned], laidTests := true, laidLooks := .later }
def LazyUptoCardSaid : Prop := Claim7.holds Tryz.pinned (.plain (OpenSpec.upto lazySpec)) lazyUptoCard

/-- THE SECOND FORM's CARD OF 'scalerkeep.Truths'. -/
def truthsUptoCard : Claim7 := { stood := { row := truthsUptoRow, standIns := [], harness := (true, "33389407098a63bb41e9cf03273231631a2e3b1686b2a2b47c4958c774fc53e5"), looks := true }, kinds := [], alts := [], laidByText := true, laidKinds := [.data, .data, .data, .data, .handle, .sentinel, .sentinel, .sentinel, .sentinel, .sentinel, .sentinel, .sentinel, .sentinel, .data, .pinned, .pinned, .pinned], laidTests := true, laidLooks := .later }
def TruthsUptoCardSaid : Prop := Claim7.holds Tryz.pinned (.plain (OpenSpec.upto truthsSpec)) truthsUptoCard

/-- THE SECOND FORM's CARD OF 'scalerkeep.Bytes'. -/
def bytesUptoCard : Claim7 := { stood := { row := bytesUptoRow, standIns := [], harness := (true, "33389407098a63bb41e9cf03273231631a2e3b1686b2a2b47c4958c774fc53e5"), looks := true }, kinds := [], alts := [], laidByText := true, laidKinds := [.data, .data, .data, .data, .handle, .sentinel, .sentinel, .sentinel, .sentinel, .sentinel, .sentinel, .sentinel, .sentinel, .data, .pinned, .pinned, .pinned], laidTests := true, laidLooks := .later }
def BytesUptoCardSaid : Prop := Claim7.holds Tryz.pinned (.plain (OpenSpec.upto bytesSpec)) bytesUptoCard

/-- THE SECOND FORM's CARD OF 'scalerkeep.Lawful'. -/
def lawfulUptoCard : Claim7 := { stood := { row := lawfulUptoRow, standIns := [], harness := (true, "33389407098a63bb41e9cf03273231631a2e3b1686b2a2b47c4958c774fc53e5"), looks := true }, kinds := [], alts := [], laidByText := true, laidKinds := [.data, .data, .data, .data, .handle, .sentinel, .sentinel, .sentinel, .sentinel, .sentinel, .sentinel, .sentinel, .sentinel, .data, .pinned, .pinned, .pinned], laidTests := true, laidLooks := .later }
def LawfulUptoCardSaid : Prop := Claim7.holds Tryz.pinned (.plain (OpenSpec.upto lawfulSpec)) lawfulUptoCard
end Rows
end Go.Proofs.YtaghcjpoihkpjaaGreatDoor
