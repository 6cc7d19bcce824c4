/-
  The type []int as the exact laws' helpers see it.
-/
import Derived.Test.YtikibabknlpnkaaDoorReads
import Derived.Lib.QuietBelow
import Derived.Deep.RegionHeld3
namespace Go.Proofs.YtikibabknlpnkaaDoor
open Go.RowKit
set_option linter.unusedVariables false
set_option linter.unusedSimpArgs false
abbrev DInt : Type := Int
abbrev rdIntS : Rd (List Int) := rdS 1 rdInt
theorem good_IntS : Rd.Good rdIntS := rdS_good 1 rdInt_good

end Go.Proofs.YtikibabknlpnkaaDoor
