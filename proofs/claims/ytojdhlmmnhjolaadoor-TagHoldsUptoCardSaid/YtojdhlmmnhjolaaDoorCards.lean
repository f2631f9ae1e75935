/-
  DERIVED. GIVEN WITH THE SEED: THE CARDS: each row of YtojdhlmmnhjolaaDoorRows.lean that lists a variable, with what it lists TIED to the program's text (the seventh form; the later family's looks); each row that meets fmt, with fmt's text TOLD by the authors' own Lean function (tested against real Go, not proved from fmt's source: count such statements apart). THE CARD IS WHAT COUNTS. Prove the row's statement (the work); the ties are given (YtojdhlmmnhjolaaDoorTie.lean); close each card by the builder's one call (the guide's Derived/Test/ToyasCard.lean, 'card_holds'). Laid BY PROGRAM, IN A SANDBOX (cutbox-door.mjs). By AI agents, Wed Nov 11 2026. No macro, syntax, notation, axiom, sorry.
-/
import Derived.Test.YtojdhlmmnhjolaaDoorRows
import GoSem.ClaimSeven
namespace Go.Proofs.YtojdhlmmnhjolaaDoor
namespace Rows

/-- THE TIED CARD OF 'demoticlaw05.TagHolds'. -/
def tagHoldsCard : Claim7 := { stood := { row := tagHoldsRow, standIns := [], harness := (true, "0a2e84ad54308b52cf443e0edb04ffbcaa9cd7bfa147d05fc6f8e7c0c55b98a2"), looks := true }, kinds := [], alts := [], laidByText := true, laidKinds := [.data, .data, .data], laidTests := true, laidLooks := .later }
def TagHoldsCardSaid : Prop := Claim7.holds Tryd.pinned (.plain (OpenSpec.ofChange tagHoldsSpec)) tagHoldsCard

/-- THE TIED CARD OF 'demoticlaw05.TagBack'. -/
def tagBackCard : Claim7 := { stood := { row := tagBackRow, standIns := [], harness := (true, "0a2e84ad54308b52cf443e0edb04ffbcaa9cd7bfa147d05fc6f8e7c0c55b98a2"), looks := true }, kinds := [], alts := [], laidByText := true, laidKinds := [.data, .data, .data], laidTests := true, laidLooks := .later }
def TagBackCardSaid : Prop := Claim7.holds Tryd.pinned (.plain (OpenSpec.ofChange tagBackSpec)) tagBackCard

/-- THE TIED CARD OF 'demoticlaw05.TagTurns'. -/
def tagTurnsCard : Claim7 := { stood := { row := tagTurnsRow, standIns := [], harness := (true, "0a2e84ad54308b52cf443e0edb04ffbcaa9cd7bfa147d05fc6f8e7c0c55b98a2"), looks := true }, kinds := [], alts := [], laidByText := true, laidKinds := [.data, .data, .data], laidTests := true, laidLooks := .later }
def TagTurnsCardSaid : Prop := Claim7.holds Tryd.pinned (.plain (OpenSpec.ofChange tagTurnsSpec)) tagTurnsCard

/-- THE TIED CARD OF 'demoticlaw05.TagBrackets'. -/
def tagBracketsCard : Claim7 := { stood := { row := tagBracketsRow, standIns := [], harness := (true, "0a2e84ad54308b52cf443e0edb04ffbcaa9cd7bfa147d05fc6f8e7c0c55b98a2"), looks := true }, kinds := [], alts := [], laidByText := true, laidKinds := [.data, .data, .data], laidTests := true, laidLooks := .later }
def TagBracketsCardSaid : Prop := Claim7.holds Tryd.pinned (.plain (OpenSpec.ofChange tagBracketsSpec)) tagBracketsCard

/-- THE TIED CARD OF 'demoticlaw05.TagMore'. -/
def tagMoreCard : Claim7 := { stood := { row := tagMoreRow, standIns := [], harness := (true, "0a2e84ad54308b52cf443e0edb04ffbcaa9cd7bfa147d05fc6f8e7c0c55b98a2"), looks := true }, kinds := [], alts := [], laidByText := true, laidKinds := [.data, .data, .data], laidTests := true, laidLooks := .later }
def TagMoreCardSaid : Prop := Claim7.holds Tryd.pinned (.plain (OpenSpec.ofChange tagMoreSpec)) tagMoreCard

/-- THE TIED CARD OF 'demoticlaw05.TagAlone'. -/
def tagAloneCard : Claim7 := { stood := { row := tagAloneRow, standIns := [], harness := (true, "0a2e84ad54308b52cf443e0edb04ffbcaa9cd7bfa147d05fc6f8e7c0c55b98a2"), looks := true }, kinds := [], alts := [], laidByText := true, laidKinds := [.data, .data, .data], laidTests := true, laidLooks := .later }
def TagAloneCardSaid : Prop := Claim7.holds Tryd.pinned (.plain (OpenSpec.ofChange tagAloneSpec)) tagAloneCard

/-- THE TIED CARD OF 'demoticlaw05.TagLists'. -/
def tagListsCard : Claim7 := { stood := { row := tagListsRow, standIns := [], harness := (true, "0a2e84ad54308b52cf443e0edb04ffbcaa9cd7bfa147d05fc6f8e7c0c55b98a2"), looks := true }, kinds := [], alts := [], laidByText := true, laidKinds := [.data, .data, .data], laidTests := true, laidLooks := .later }
def TagListsCardSaid : Prop := Claim7.holds Tryd.pinned (.plain (OpenSpec.ofChange tagListsSpec)) tagListsCard

/-- THE SECOND FORM's CARD OF 'demoticlaw05.TagHolds'. -/
def tagHoldsUptoCard : Claim7 := { stood := { row := tagHoldsUptoRow, standIns := [], harness := (true, "0a2e84ad54308b52cf443e0edb04ffbcaa9cd7bfa147d05fc6f8e7c0c55b98a2"), looks := true }, kinds := [], alts := [], laidByText := true, laidKinds := [.data, .data, .data], laidTests := true, laidLooks := .later }
def TagHoldsUptoCardSaid : Prop := Claim7.holds Tryd.pinned (.plain (OpenSpec.upto tagHoldsSpec)) tagHoldsUptoCard

/-- THE SECOND FORM's CARD OF 'demoticlaw05.TagBack'. -/
def tagBackUptoCard : Claim7 := { stood := { row := tagBackUptoRow, standIns := [], harness := (true, "0a2e84ad54308b52cf443e0edb04ffbcaa9cd7bfa147d05fc6f8e7c0c55b98a2"), looks := true }, kinds := [], alts := [], laidByText := true, laidKinds := [.data, .data, .data], laidTests := true, laidLooks := .later }
def TagBackUptoCardSaid : Prop := Claim7.holds Tryd.pinned (.plain (OpenSpec.upto tagBackSpec)) tagBackUptoCard

/-- THE SECOND FORM's CARD OF 'demoticlaw05.TagTurns'. -/
def tagTurnsUptoCard : Claim7 := { stood := { row := tagTurnsUptoRow, standIns := [], harness := (true, "0a2e84ad54308b52cf443e0edb04ffbcaa9cd7bfa147d05fc6f8e7c0c55b98a2"), looks := true }, kinds := [], alts := [], laidByText := true, laidKinds := [.data, .data, .data], laidTests := true, laidLooks := .later }
def TagTurnsUptoCardSaid : Prop := Claim7.holds Tryd.pinned (.plain (OpenSpec.upto tagTurnsSpec)) tagTurnsUptoCard

/-- THE SECOND FORM's CARD OF 'demoticlaw05.TagBrackets'. -/
def tagBracketsUptoCard : Claim7 := { stood := { row := tagBracketsUptoRow, standIns := [], harness := (true, "0a2e84ad54308b52cf443e0edb04ffbcaa9cd7bfa147d05fc6f8e7c0c55b98a2"), looks := true }, kinds := [], alts := [], laidByText := true, laidKinds := [.data, .data, .data], laidTests := true, laidLooks := .later }
def TagBracketsUptoCardSaid : Prop := Claim7.holds Tryd.pinned (.plain (OpenSpec.upto tagBracketsSpec)) tagBracketsUptoCard

/-- THE SECOND FORM's CARD OF 'demoticlaw05.TagMore'. -/
def tagMoreUptoCard : Claim7 := { stood := { row := tagMoreUptoRow, standIns := [], harness := (true, "0a2e84ad54308b52cf443e0edb04ffbcaa9cd7bfa147d05fc6f8e7c0c55b98a2"), looks := true }, kinds := [], alts := [], laidByText := true, laidKinds := [.data, .data, .data], laidTests := true, laidLooks := .later }
def TagMoreUptoCardSaid : Prop := Claim7.holds Tryd.pinned (.plain (OpenSpec.upto tagMoreSpec)) tagMoreUptoCard

/-- THE SECOND FORM's CARD OF 'demoticlaw05.TagAlone'. -/
def tagAloneUptoCard : Claim7 := { stood := { row := tagAloneUptoRow, standIns := [], harness := (true, "0a2e84ad54308b52cf443e0edb04ffbcaa9cd7bfa147d05fc6f8e7c0c55b98a2"), looks := true }, kinds := [], alts := [], laidByText := true, laidKinds := [.data, .data, .data], laidTests := true, laidLooks := .later }
def TagAloneUptoCardSaid : Prop := Claim7.holds Tryd.pinned (.plain (OpenSpec.upto tagAloneSpec)) tagAloneUptoCard

/-- THE SECOND FORM's CARD OF 'demoticlaw05.TagLists'. -/
def tagListsUptoCard : Claim7 := { stood := { row := tagListsUptoRow, standIns := [], harness := (true, "0a2e84ad54308b52cf443e0edb04ffbcaa9cd7bfa147d05fc6f8e7c0c55b98a2"), looks := true }, kinds := [], alts := [], laidByText := true, laidKinds := [.data, .data, .data], laidTests := true, laidLooks := .later }
def TagListsUptoCardSaid : Prop := Claim7.holds Tryd.pinned (.plain (OpenSpec.upto tagListsSpec)) tagListsUptoCard
end Rows
end Go.Proofs.YtojdhlmmnhjolaaDoor
