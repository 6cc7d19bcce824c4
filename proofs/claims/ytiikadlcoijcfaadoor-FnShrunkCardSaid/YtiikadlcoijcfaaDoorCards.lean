/-
  DERIVED. GIVEN WITH THE SEED: THE CARDS: each row of YtiikadlcoijcfaaDoorRows.lean that lists a variable, with what it lists TIED to the program's text (the seventh form; the later family's looks); each row that meets fmt, with fmt's text TOLD by the authors' own Lean function (tested against real Go, not proved from fmt's source: count such statements apart). THE CARD IS WHAT COUNTS. Prove the row's statement (the work); the ties are given (YtiikadlcoijcfaaDoorTie.lean); close each card by the builder's one call (the guide's Derived/Test/ToyasCard.lean, 'card_holds'). Laid BY PROGRAM, IN A SANDBOX (cutbox-door.mjs). By AI agents, Wed Nov 11 2026. No macro, syntax, notation, axiom, sorry.
-/
import Derived.Test.YtiikadlcoijcfaaDoorRows
import GoSem.ClaimSeven
namespace Go.Proofs.YtiikadlcoijcfaaDoor
namespace Rows

/-- THE TIED CARD OF 'laws.FnShannon'. -/
def fnShannonCard : Claim7 := { stood := { row := fnShannonRow, standIns := [], harness := (true, "4973fc9975e791b0438e6d885d46848413a06f6e25e4037694f60ce337830ab2"), looks := false }, kinds := [], alts := [], laidByText := true, laidKinds := [.data], laidTests := true, laidLooks := .later }
def FnShannonCardSaid : Prop := Claim7.holds Tryd.pinned (.plain (OpenSpec.ofChange fnShannonSpec)) fnShannonCard

/-- THE TIED CARD OF 'laws.FnShrunk'. -/
def fnShrunkCard : Claim7 := { stood := { row := fnShrunkRow, standIns := [], harness := (true, "4973fc9975e791b0438e6d885d46848413a06f6e25e4037694f60ce337830ab2"), looks := false }, kinds := [], alts := [], laidByText := true, laidKinds := [.data], laidTests := true, laidLooks := .later }
def FnShrunkCardSaid : Prop := Claim7.holds Tryd.pinned (.plain (OpenSpec.ofChange fnShrunkSpec)) fnShrunkCard

/-- THE TIED CARD OF 'laws.FnExactTableVar'. -/
def fnExactTableVarCard : Claim7 := { stood := { row := fnExactTableVarRow, standIns := [], harness := (true, "4973fc9975e791b0438e6d885d46848413a06f6e25e4037694f60ce337830ab2"), looks := false }, kinds := [], alts := [], laidByText := true, laidKinds := [.data], laidTests := true, laidLooks := .later }
def FnExactTableVarCardSaid : Prop := Claim7.holds Tryd.pinned (.plain (OpenSpec.ofChange fnExactTableVarSpec)) fnExactTableVarCard

/-- THE TIED CARD OF 'laws.FnExactTableCofactor'. -/
def fnExactTableCofactorCard : Claim7 := { stood := { row := fnExactTableCofactorRow, standIns := [], harness := (true, "4973fc9975e791b0438e6d885d46848413a06f6e25e4037694f60ce337830ab2"), looks := false }, kinds := [], alts := [], laidByText := true, laidKinds := [.data], laidTests := true, laidLooks := .later }
def FnExactTableCofactorCardSaid : Prop := Claim7.holds Tryd.pinned (.plain (OpenSpec.ofChange fnExactTableCofactorSpec)) fnExactTableCofactorCard

/-- THE TIED CARD OF 'laws.FnExactTableDepends'. -/
def fnExactTableDependsCard : Claim7 := { stood := { row := fnExactTableDependsRow, standIns := [], harness := (true, "4973fc9975e791b0438e6d885d46848413a06f6e25e4037694f60ce337830ab2"), looks := false }, kinds := [], alts := [], laidByText := true, laidKinds := [.data], laidTests := true, laidLooks := .later }
def FnExactTableDependsCardSaid : Prop := Claim7.holds Tryd.pinned (.plain (OpenSpec.ofChange fnExactTableDependsSpec)) fnExactTableDependsCard

/-- THE TIED CARD OF 'laws.FnExactTableSupport'. -/
def fnExactTableSupportCard : Claim7 := { stood := { row := fnExactTableSupportRow, standIns := [], harness := (true, "4973fc9975e791b0438e6d885d46848413a06f6e25e4037694f60ce337830ab2"), looks := false }, kinds := [], alts := [], laidByText := true, laidKinds := [.data], laidTests := true, laidLooks := .later }
def FnExactTableSupportCardSaid : Prop := Claim7.holds Tryd.pinned (.plain (OpenSpec.ofChange fnExactTableSupportSpec)) fnExactTableSupportCard

/-- THE TIED CARD OF 'laws.FnExactTableShrink'. -/
def fnExactTableShrinkCard : Claim7 := { stood := { row := fnExactTableShrinkRow, standIns := [], harness := (true, "4973fc9975e791b0438e6d885d46848413a06f6e25e4037694f60ce337830ab2"), looks := false }, kinds := [], alts := [], laidByText := true, laidKinds := [.data], laidTests := true, laidLooks := .later }
def FnExactTableShrinkCardSaid : Prop := Claim7.holds Tryd.pinned (.plain (OpenSpec.ofChange fnExactTableShrinkSpec)) fnExactTableShrinkCard

/-- THE SECOND FORM's CARD OF 'laws.FnShannon'. -/
def fnShannonUptoCard : Claim7 := { stood := { row := fnShannonUptoRow, standIns := [], harness := (true, "4973fc9975e791b0438e6d885d46848413a06f6e25e4037694f60ce337830ab2"), looks := false }, kinds := [], alts := [], laidByText := true, laidKinds := [.data], laidTests := true, laidLooks := .later }
def FnShannonUptoCardSaid : Prop := Claim7.holds Tryd.pinned (.plain (OpenSpec.upto fnShannonSpec)) fnShannonUptoCard

/-- THE SECOND FORM's CARD OF 'laws.FnShrunk'. -/
def fnShrunkUptoCard : Claim7 := { stood := { row := fnShrunkUptoRow, standIns := [], harness := (true, "4973fc9975e791b0438e6d885d46848413a06f6e25e4037694f60ce337830ab2"), looks := false }, kinds := [], alts := [], laidByText := true, laidKinds := [.data], laidTests := true, laidLooks := .later }
def FnShrunkUptoCardSaid : Prop := Claim7.holds Tryd.pinned (.plain (OpenSpec.upto fnShrunkSpec)) fnShrunkUptoCard

/-- THE SECOND FORM's CARD OF 'laws.FnExactTableVar'. -/
def fnExactTableVarUptoCard : Claim7 := { stood := { row := fnExactTableVarUptoRow, standIns := [], harness := (true, "4973fc9975e791b0438e6d885d46848413a06f6e25e4037694f60ce337830ab2"), looks := false }, kinds := [], alts := [], laidByText := true, laidKinds := [.data], laidTests := true, laidLooks := .later }
def FnExactTableVarUptoCardSaid : Prop := Claim7.holds Tryd.pinned (.plain (OpenSpec.upto fnExactTableVarSpec)) fnExactTableVarUptoCard

/-- THE SECOND FORM's CARD OF 'laws.FnExactTableCofactor'. -/
def fnExactTableCofactorUptoCard : Claim7 := { stood := { row := fnExactTableCofactorUptoRow, standIns := [], harness := (true, "4973fc9975e791b0438e6d885d46848413a06f6e25e4037694f60ce337830ab2"), looks := false }, kinds := [], alts := [], laidByText := true, laidKinds := [.data], laidTests := true, laidLooks := .later }
def FnExactTableCofactorUptoCardSaid : Prop := Claim7.holds Tryd.pinned (.plain (OpenSpec.upto fnExactTableCofactorSpec)) fnExactTableCofactorUptoCard

/-- THE SECOND FORM's CARD OF 'laws.FnExactTableDepends'. -/
def fnExactTableDependsUptoCard : Claim7 := { stood := { row := fnExactTableDependsUptoRow, standIns := [], harness := (true, "4973fc9975e791b0438e6d885d46848413a06f6e25e4037694f60ce337830ab2"), looks := false }, kinds := [], alts := [], laidByText := true, laidKinds := [.data], laidTests := true, laidLooks := .later }
def FnExactTableDependsUptoCardSaid : Prop := Claim7.holds Tryd.pinned (.plain (OpenSpec.upto fnExactTableDependsSpec)) fnExactTableDependsUptoCard

/-- THE SECOND FORM's CARD OF 'laws.FnExactTableSupport'. -/
def fnExactTableSupportUptoCard : Claim7 := { stood := { row := fnExactTableSupportUptoRow, standIns := [], harness := (true, "4973fc9975e791b0438e6d885d46848413a06f6e25e4037694f60ce337830ab2"), looks := false }, kinds := [], alts := [], laidByText := true, laidKinds := [.data], laidTests := true, laidLooks := .later }
def FnExactTableSupportUptoCardSaid : Prop := Claim7.holds Tryd.pinned (.plain (OpenSpec.upto fnExactTableSupportSpec)) fnExactTableSupportUptoCard

/-- THE SECOND FORM's CARD OF 'laws.FnExactTableShrink'. -/
def fnExactTableShrinkUptoCard : Claim7 := { stood := { row := fnExactTableShrinkUptoRow, standIns := [], harness := (true, "4973fc9975e791b0438e6d885d46848413a06f6e25e4037694f60ce337830ab2"), looks := false }, kinds := [], alts := [], laidByText := true, laidKinds := [.data], laidTests := true, laidLooks := .later }
def FnExactTableShrinkUptoCardSaid : Prop := Claim7.holds Tryd.pinned (.plain (OpenSpec.upto fnExactTableShrinkSpec)) fnExactTableShrinkUptoCard
end Rows
end Go.Proofs.YtiikadlcoijcfaaDoor
