/-
  DzInt, DzOp, DzSignal, DzMem, DzAssign, DzInst, DzModule, DzDesign as one text.
-/
import Derived.Test.YtmalaleinmoihaaDtAll
/- DzInt: The type Int as the exact laws' helpers see it. -/
namespace Go.Proofs.Ytmalaleinmoihaa
open Go.RowKit
set_option linter.unusedVariables false
set_option linter.unusedSimpArgs false

end Go.Proofs.Ytmalaleinmoihaa
/- DzOp: The type Op as the exact laws' helpers see it. -/
namespace Go.Proofs.Ytmalaleinmoihaa
open Go.RowKit
set_option linter.unusedVariables false
set_option linter.unusedSimpArgs false

theorem szOpS_post (zs : List DOp) (a : Option Addr) (len cap : Nat) {B T : Nat} (left : Int) (w : World) (h : rdOpS B T w [.slice a len cap] zs) (h0 : 0 ≤ left) (h1 : left ≤ 1048576) :
    Calls Try.prog 4 #[.slice a len cap, .int .i64 left] w fun e w' => ∃ r : Int, e = .returned (.int .i64 r) ∧ (r = -1 ∨ (0 ≤ r ∧ r ≤ left ∧ smOpS zs)) ∧ Below w.heap.size w w' := by
  obtain ⟨A, c, ea, hm, -⟩ := h
  injection ea with ea _
  injection ea with e1 e2 e3
  subst e1 e2 e3
  by_cases hl : (zs.length : Int) ≤ left
  · refine (szOpS_any _ _ _ _ _ hl h1).mono ?_
    rintro e w1 ⟨rfl, hb⟩
    exact ⟨_, rfl, .inr ⟨by omega, by omega, ⟨by omega, fun _ _ => trivial⟩⟩, hb⟩
  · refine (szOpS_big _ _ _ _ _ (by omega) h0 h1 hm.1).mono ?_
    rintro e w1 ⟨rfl, hb⟩
    exact ⟨_, rfl, .inl rfl, hb⟩
end Go.Proofs.Ytmalaleinmoihaa
/- DzSignal: The type Signal as the exact laws' helpers see it. -/
namespace Go.Proofs.Ytmalaleinmoihaa
open Go.RowKit
set_option linter.unusedVariables false
set_option linter.unusedSimpArgs false

end Go.Proofs.Ytmalaleinmoihaa
/- DzMem: The type Mem as the exact laws' helpers see it. -/
namespace Go.Proofs.Ytmalaleinmoihaa
open Go.RowKit
set_option linter.unusedVariables false
set_option linter.unusedSimpArgs false

end Go.Proofs.Ytmalaleinmoihaa
/- DzAssign: The type Assign as the exact laws' helpers see it. -/
namespace Go.Proofs.Ytmalaleinmoihaa
open Go.RowKit
set_option linter.unusedVariables false
set_option linter.unusedSimpArgs false

end Go.Proofs.Ytmalaleinmoihaa
/- DzInst: The type Inst as the exact laws' helpers see it. -/
namespace Go.Proofs.Ytmalaleinmoihaa
open Go.RowKit
set_option linter.unusedVariables false
set_option linter.unusedSimpArgs false

end Go.Proofs.Ytmalaleinmoihaa
/- DzModule: The type Module as the exact laws' helpers see it. -/
namespace Go.Proofs.Ytmalaleinmoihaa
open Go.RowKit
set_option linter.unusedVariables false
set_option linter.unusedSimpArgs false

end Go.Proofs.Ytmalaleinmoihaa
/- DzDesign: The type Design as the exact laws' helpers see it. -/
namespace Go.Proofs.Ytmalaleinmoihaa
open Go.RowKit
set_option linter.unusedVariables false
set_option linter.unusedSimpArgs false

end Go.Proofs.Ytmalaleinmoihaa
