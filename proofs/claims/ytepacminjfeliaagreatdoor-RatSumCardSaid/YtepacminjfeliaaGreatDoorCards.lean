/-
  DERIVED. GIVEN WITH THE SEED: THE CARDS: each row of YtepacminjfeliaaGreatDoorRows.lean that lists a variable, with what it lists TIED to the program's text (the seventh form; the later family's looks); each row that meets fmt, with fmt's text TOLD by the authors' own Lean function (tested against real Go, not proved from fmt's source: count such statements apart). THE CARD IS WHAT COUNTS. Prove the row's statement (the work); the ties are given (YtepacminjfeliaaGreatDoorTie.lean); close each card by the builder's one call (the guide's Derived/Test/ToyasCard.lean, 'card_holds'). Laid BY PROGRAM, IN A SANDBOX (cutbox-door.mjs). By AI agents, Wed Nov 11 2026. No macro, syntax, notation, axiom, sorry.
-/
import Derived.Test.YtepacminjfeliaaGreatDoorRows
import GoSem.ClaimSeven
namespace Go.Proofs.YtepacminjfeliaaGreatDoor
namespace Rows

/-- THE TIED CARD OF 'tribunallaw03.RatTells'. -/
def ratTellsCard : Claim7 := { stood := { row := ratTellsRow, standIns := [], harness := (true, "01d50f65187135af8ba319931573bfbbcdb4be558a9fb441b0f89287a6e92b63"), looks := false }, kinds := [], alts := [], laidByText := true, laidKinds := [.data, .pinned], laidTests := true, laidLooks := .later }
def RatTellsCardSaid : Prop := Claim7.holds Tryz.pinned (.plain (OpenSpec.ofChange ratTellsSpec)) ratTellsCard

/-- THE TIED CARD OF 'tribunallaw03.RatSum'. -/
def ratSumCard : Claim7 := { stood := { row := ratSumRow, standIns := [], harness := (true, "01d50f65187135af8ba319931573bfbbcdb4be558a9fb441b0f89287a6e92b63"), looks := false }, kinds := [], alts := [], laidByText := true, laidKinds := [.data, .pinned], laidTests := true, laidLooks := .later }
def RatSumCardSaid : Prop := Claim7.holds Tryz.pinned (.plain (OpenSpec.ofChange ratSumSpec)) ratSumCard

/-- THE SECOND FORM's CARD OF 'tribunallaw03.RatTells'. -/
def ratTellsUptoCard : Claim7 := { stood := { row := ratTellsUptoRow, standIns := [], harness := (true, "01d50f65187135af8ba319931573bfbbcdb4be558a9fb441b0f89287a6e92b63"), looks := false }, kinds := [], alts := [], laidByText := true, laidKinds := [.data, .pinned], laidTests := true, laidLooks := .later }
def RatTellsUptoCardSaid : Prop := Claim7.holds Tryz.pinned (.plain (OpenSpec.upto ratTellsSpec)) ratTellsUptoCard

/-- THE SECOND FORM's CARD OF 'tribunallaw03.RatSum'. -/
def ratSumUptoCard : Claim7 := { stood := { row := ratSumUptoRow, standIns := [], harness := (true, "01d50f65187135af8ba319931573bfbbcdb4be558a9fb441b0f89287a6e92b63"), looks := false }, kinds := [], alts := [], laidByText := true, laidKinds := [.data, .pinned], laidTests := true, laidLooks := .later }
def RatSumUptoCardSaid : Prop := Claim7.holds Tryz.pinned (.plain (OpenSpec.upto ratSumSpec)) ratSumUptoCard
end Rows
end Go.Proofs.YtepacminjfeliaaGreatDoor
