/-
  DERIVED. GIVEN WITH THE SEED: THE CARDS: each row of YtdfcbccpdflbfaaGreatDoorRows.lean that lists a variable, with what it lists TIED to the program's text (the seventh form; the later family's looks); each row that meets fmt, with fmt's text TOLD by the authors' own Lean function (tested against real Go, not proved from fmt's source: count such statements apart). THE CARD IS WHAT COUNTS. Prove the row's statement (the work); the ties are given (YtdfcbccpdflbfaaGreatDoorTie.lean); close each card by the builder's one call (the guide's Derived/Test/ToyasCard.lean, 'card_holds'). Laid BY PROGRAM, IN A SANDBOX (cutbox-door.mjs). By AI agents, Wed Nov 11 2026. No macro, syntax, notation, axiom, sorry.
-/
import Derived.Test.YtdfcbccpdflbfaaGreatDoorRows
import GoSem.ClaimSeven
namespace Go.Proofs.YtdfcbccpdflbfaaGreatDoor
namespace Rows

/-- THE TIED CARD OF 'laws.FnExactFormatModule'. -/
def fnExactFormatModuleCard : Claim7 := { stood := { row := fnExactFormatModuleRow, standIns := [], harness := (true, "12fa5b7a05cd9ab10adea6236f99092f018bcbd4d0d9809dc1c5a87e73d10390"), looks := false }, kinds := [], alts := [], laidByText := true, laidKinds := [.data, .data, .data, .data], laidTests := true, laidLooks := .later }
def FnExactFormatModuleCardSaid : Prop := Claim7.holds Tryz.pinned (.plain (OpenSpec.ofChange fnExactFormatModuleSpec)) fnExactFormatModuleCard

/-- THE TIED CARD OF 'laws.FnExactFormatDesign'. -/
def fnExactFormatDesignCard : Claim7 := { stood := { row := fnExactFormatDesignRow, standIns := [], harness := (true, "12fa5b7a05cd9ab10adea6236f99092f018bcbd4d0d9809dc1c5a87e73d10390"), looks := false }, kinds := [], alts := [], laidByText := true, laidKinds := [.data, .data, .data, .data], laidTests := true, laidLooks := .later }
def FnExactFormatDesignCardSaid : Prop := Claim7.holds Tryz.pinned (.plain (OpenSpec.ofChange fnExactFormatDesignSpec)) fnExactFormatDesignCard

/-- THE SECOND FORM's CARD OF 'laws.FnExactFormatModule'. -/
def fnExactFormatModuleUptoCard : Claim7 := { stood := { row := fnExactFormatModuleUptoRow, standIns := [], harness := (true, "12fa5b7a05cd9ab10adea6236f99092f018bcbd4d0d9809dc1c5a87e73d10390"), looks := false }, kinds := [], alts := [], laidByText := true, laidKinds := [.data, .data, .data, .data], laidTests := true, laidLooks := .later }
def FnExactFormatModuleUptoCardSaid : Prop := Claim7.holds Tryz.pinned (.plain (OpenSpec.upto fnExactFormatModuleSpec)) fnExactFormatModuleUptoCard

/-- THE SECOND FORM's CARD OF 'laws.FnExactFormatDesign'. -/
def fnExactFormatDesignUptoCard : Claim7 := { stood := { row := fnExactFormatDesignUptoRow, standIns := [], harness := (true, "12fa5b7a05cd9ab10adea6236f99092f018bcbd4d0d9809dc1c5a87e73d10390"), looks := false }, kinds := [], alts := [], laidByText := true, laidKinds := [.data, .data, .data, .data], laidTests := true, laidLooks := .later }
def FnExactFormatDesignUptoCardSaid : Prop := Claim7.holds Tryz.pinned (.plain (OpenSpec.upto fnExactFormatDesignSpec)) fnExactFormatDesignUptoCard
end Rows
end Go.Proofs.YtdfcbccpdflbfaaGreatDoor
