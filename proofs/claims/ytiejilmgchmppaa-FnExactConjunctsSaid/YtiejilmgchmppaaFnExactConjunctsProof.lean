/-
  The law FnExactConjuncts returns true for every input and leaves its arguments as they were; no condition.
-/
import Derived.Test.YtiejilmgchmppaaRows
import Derived.Test.YtiejilmgchmppaaE12Conjuncts
import Derived.WalkKit
import Derived.ProofKit
import Derived.OpenShut
import Derived.ShutString
import Derived.ChangeOld
import Derived.Below
import Derived.Carry
import Derived.Lib.SmallJoins
namespace Go.Proofs.Ytiejilmgchmppaa.fnExactConjuncts
open Go.ChangeShapes Go.WideShapes Go.ChangeAt Go.RowKit Go.Joins
open Go.ChangeMaps (open_string shut_string)
set_option linter.unusedVariables false

theorem own : ownKnob Try.prog.godebug = none := by kernel_rfl
theorem laidOut : laidOutB Try.prog = true := by kernel_rfl

set_option maxRecDepth 100000 in
theorem lifted (os : Os) (started : os.Started) (H : Type) (enc : TypeId × Value → H) :
    ReturnsInHanded {} Try.checked os 4 .any (Rows.fnExactConjunctsSpec.pre6 enc Try.prog Try.f4 Rows.fnExactConjunctsRow.domain false) (Rows.fnExactConjunctsSpec.post enc Try.prog Try.f4 false true false false) := by
  refine returnsInHanded_of_change (C := Try.checked) own started (by kernel_rfl) Try.func4
    (ChangeSpec.witness6 (enc := enc) (C := Try.checked) false ⟨#[], #[.agg #[.int .i64 0, .slice none 0 0, .slice none 0 0, .slice none 0 0], .int .i64 0], []⟩ 8 (by kernel_rfl) (by kernel_rfl) (by kernel_rfl) (by kernel_rfl)) ?_
  intro W base args ds gs before hval0 hW hcnd _
  have hval : ∀ (j : Nat) t v, Try.f4.params[j]? = some t → args[j]? = some v → Value.okWide Try.prog W .any base t v := hval0
  have hW' := hW
  obtain ⟨p, q, hA0, hV, rfl, hfz, hnd⟩ := hW
  have hA : DataW.TrodAll enc Try.prog W 0 (fun _ => true) true Try.f4.params.toList args.toList ds p := hA0
  rw [Try.params4] at hA hval
  obtain ⟨v0, vs0, d0, ds0, p0, q0, hargs, rfl, rfl, h0, r0⟩ := trodAll_cons hA
  obtain ⟨v1, vs1, d1, ds1, p1, q1, rfl, rfl, rfl, h1, r1⟩ := trodAll_cons r0
  obtain ⟨rfl, rfl, rfl⟩ := trodAll_nil r1
  obtain rfl : args = #[v0, v1] := by cases args; simp_all
  obtain ⟨rfl, rfl⟩ := trodVars_none hV
  have k0 := h0
  have lt0 : ∀ x ∈ p0, x.block < W.heap.size := by obtain ⟨m, hm⟩ := k0; exact DataW.trod_lt m _ _ _ hm
  obtain ⟨u0_0, u0_1, u0_2, u0_3, z0, rfl, w0⟩ : ∃ u0_0 u0_1 u0_2 u0_3 : Value, ∃ z, v0 = .agg #[u0_0, u0_1, u0_2, u0_3] ∧ (rd4 rdInt (rdS 3 (rd3 rdInt rdInt (rdS 1 rdInt))) (rdS 2 (rd2 rdInt rdInt)) (rdS 1 rdInt)) 0 W.heap.size W [u0_0, u0_1, u0_2, u0_3] z := by
    obtain ⟨cs, rfl, hsz⟩ := okWide_struct Try.underlying39 (hval 0 39 v0 rfl rfl)
    obtain ⟨u0_0, u0_1, u0_2, u0_3, rfl⟩ := Joins.array4 (hsz.trans (by kernel_rfl : Try.prog.cellsOf 39 = 4))
    obtain ⟨fuel, hf⟩ := h0
    obtain ⟨z, hz⟩ := (comes_4 Try.underlying39 (by kernel_rfl) (by kernel_rfl) (comes_int Try.underlying3) (comes_slice (k := 3) Try.underlying36 (by kernel_rfl) (by omega) (comes_3 Try.underlying87 (by kernel_rfl) (by kernel_rfl) (comes_int Try.underlying3) (comes_int Try.underlying3) (comes_slice (k := 1) Try.underlying26 (by kernel_rfl) (by omega) (comes_int Try.underlying3)))) (comes_slice (k := 2) Try.underlying37 (by kernel_rfl) (by omega) (comes_2 Try.underlying90 (by kernel_rfl) (by kernel_rfl) (comes_int Try.underlying3) (comes_int Try.underlying3))) (comes_slice (k := 1) Try.underlying26 (by kernel_rfl) (by omega) (comes_int Try.underlying3))) _ _ _ hf
    exact ⟨_, _, _, _, z, rfl, by simpa [Value.cells] using hz⟩
  obtain ⟨a1, rfl, rfl, rfl, w1⟩ := open_int Try.underlying3 (hval 1 3 v1 rfl rfl) h1
  clear hA0 hval0
  refine (exactConj_walk u0_0 u0_1 u0_2 u0_3 z0 a1 (fit_wf w1) W w0).mono fun e W' ⟨he, bel⟩ => ?_
  subst he
  exact ⟨_, rfl, _, _, _, [], _, [], hW', trodAll_mk1 (shut_bool Try.underlying4 _), (trodAll_cons_mk (Below.trod laidOut (by kernel_rfl) (of_decide_eq_true (by kernel_rfl)) k0 bel lt0) (trodAll_cons_mk (shut_int Try.underlying3 w1) trodAll_mk0)), rfl, bel.frame _, fun h => by cases h⟩

theorem over : Rows.fnExactConjunctsRow.holds Try.pinned (OpenSpec.ofChange Rows.fnExactConjunctsSpec) :=
  OpenClaim.holds_of_wide 4 Try.f4 rfl rfl rfl rfl rfl rfl rfl ⟨rfl, rfl, rfl, rfl, rfl⟩ rfl rfl rfl rfl rfl (by kernel_rfl) Try.func4 (by kernel_rfl)
    (of_decide_eq_true (by kernel_rfl)) (by unfold Func.isWrapper; first | (rw [if_pos (by decide +kernel)]; kernel_rfl) | (rw [if_neg (by decide +kernel)]; exact ⟨rfl, rfl⟩))
    (fun os started H enc _ => lifted os started H enc)

/-- ████ THE STATEMENT ████ -/
theorem proved : Rows.FnExactConjunctsSaid :=
  over
end Go.Proofs.Ytiejilmgchmppaa.fnExactConjuncts
