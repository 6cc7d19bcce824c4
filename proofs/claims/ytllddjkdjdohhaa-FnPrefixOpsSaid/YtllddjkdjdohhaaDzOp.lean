/-
  The type Op as the exact laws' helpers see it.
-/
import Derived.Test.YtllddjkdjdohhaaDtOp
namespace Go.Proofs.Ytllddjkdjdohhaa
open Go.RowKit
set_option linter.unusedVariables false
set_option linter.unusedSimpArgs false

theorem szOpS_post (zs : List DOp) (a : Option Addr) (len cap : Nat) {B T : Nat} (left : Int) (w : World) (h : rdOpS B T w [.slice a len cap] zs) (h0 : 0 ≤ left) (h1 : left ≤ 1048576) :
    Calls Try.prog 25 #[.slice a len cap, .int .i64 left] w fun e w' => ∃ r : Int, e = .returned (.int .i64 r) ∧ (r = -1 ∨ (0 ≤ r ∧ r ≤ left ∧ smOpS zs)) ∧ Below w.heap.size w w' := by
  obtain ⟨A, c, ea, hm, -⟩ := h
  injection ea with ea _
  injection ea with e1 e2 e3
  subst e1 e2 e3
  by_cases hl : (zs.length : Int) ≤ left
  · refine (szOpS_any _ _ _ _ _ hl h1).mono ?_
    rintro e w1 ⟨rfl, hb⟩
    exact ⟨_, rfl, .inr ⟨by omega, by omega, ⟨by omega, fun _ _ => trivial⟩⟩, hb⟩
  · refine (szOpS_big _ _ _ _ _ (by omega) h0 h1 hm).mono ?_
    rintro e w1 ⟨rfl, hb⟩
    exact ⟨_, rfl, .inl rfl, hb⟩
end Go.Proofs.Ytllddjkdjdohhaa
