/-
  The law FnExactSignalValues returns true for every input and leaves its arguments as they were; no condition.
-/
import Derived.Test.YtmjofpfkgbnknaaGreatRows
import Derived.Test.YtmjofpfkgbnknaaGreatE7V
import Derived.WalkKit
import Derived.ProofKit
import Derived.OpenShut
import Derived.ShutString
import Derived.ChangeOld
import Derived.Below
import Derived.Carry
import Derived.Lib.SmallJoins
namespace Go.Proofs.YtmjofpfkgbnknaaGreat.fnExactSignalValues
open Go.ChangeShapes Go.WideShapes Go.ChangeAt Go.RowKit Go.Joins
open Go.ChangeMaps (open_string shut_string)
set_option linter.unusedVariables false

theorem own : ownKnob Tryz.prog.godebug = none := by kernel_rfl
theorem laidOut : laidOutB Tryz.prog = true := by kernel_rfl

set_option maxRecDepth 100000 in
theorem lifted (os : Os) (started : os.Started) (H : Type) (enc : TypeId × Value → H) :
    ReturnsInHanded {} Tryz.checked os 4 .any (Rows.fnExactSignalValuesSpec.pre6 enc Tryz.prog Tryz.f4 Rows.fnExactSignalValuesRow.domain false) (Rows.fnExactSignalValuesSpec.post enc Tryz.prog Tryz.f4 false true false false) := by
  refine returnsInHanded_of_change (C := Tryz.checked) own started (by kernel_rfl) Tryz.func4
    (ChangeSpec.witness6 (enc := enc) (C := Tryz.checked) false ⟨#[], #[.agg #[.slice none 0 0, .slice none 0 0, .slice none 0 0, .slice none 0 0], .agg #[.slice none 0 0, .slice none 0 0], .slice none 0 0], []⟩ 8 (by kernel_rfl) (by kernel_rfl) (by kernel_rfl) (by kernel_rfl)) ?_
  intro W base args ds gs before hval0 hW hcnd _
  have hval : ∀ (j : Nat) t v, Tryz.f4.params[j]? = some t → args[j]? = some v → Value.okWide Tryz.prog W .any base t v := hval0
  have hW' := hW
  obtain ⟨p, q, hA0, hV, rfl, hfz, hnd⟩ := hW
  have hA : DataW.TrodAll enc Tryz.prog W 0 (fun _ => true) true Tryz.f4.params.toList args.toList ds p := hA0
  rw [Tryz.params4] at hA hval
  obtain ⟨v0, vs0, d0, ds0, p0, q0, hargs, rfl, rfl, h0, r0⟩ := trodAll_cons hA
  obtain ⟨v1, vs1, d1, ds1, p1, q1, rfl, rfl, rfl, h1, r1⟩ := trodAll_cons r0
  obtain ⟨v2, vs2, d2, ds2, p2, q2, rfl, rfl, rfl, h2, r2⟩ := trodAll_cons r1
  obtain ⟨rfl, rfl, rfl⟩ := trodAll_nil r2
  obtain rfl : args = #[v0, v1, v2] := by cases args; simp_all
  obtain ⟨rfl, rfl⟩ := trodVars_none hV
  have k0 := h0
  have lt0 : ∀ x ∈ p0, x.block < W.heap.size := by obtain ⟨m, hm⟩ := k0; exact DataW.trod_lt m _ _ _ hm
  obtain ⟨u0_0, u0_1, u0_2, u0_3, z0, rfl, w0⟩ : ∃ u0_0 u0_1 u0_2 u0_3 : Value, ∃ z, v0 = .agg #[u0_0, u0_1, u0_2, u0_3] ∧ (rd4 (rdS 3 (rd3 rdInt rdInt rdInt)) (rdS 2 (rd2 rdInt (rdS 3 (rd3 rdInt rdInt rdInt)))) (rdS 3 (rd3 rdInt rdInt (rdS 1 rdInt))) (rdS 4 (rd4 rdInt rdInt rdInt rdInt))) 0 W.heap.size W [u0_0, u0_1, u0_2, u0_3] z := by
    obtain ⟨cs, rfl, hsz⟩ := okWide_struct Tryz.underlying48 (hval 0 48 v0 rfl rfl)
    obtain ⟨u0_0, u0_1, u0_2, u0_3, rfl⟩ := Joins.array4 (hsz.trans (by kernel_rfl : Tryz.prog.cellsOf 48 = 4))
    obtain ⟨fuel, hf⟩ := h0
    obtain ⟨z, hz⟩ := (comes_4 Tryz.underlying48 (by kernel_rfl) (by kernel_rfl) (comes_slice (k := 3) Tryz.underlying43 (by kernel_rfl) (by omega) (comes_3 Tryz.underlying142 (by kernel_rfl) (by kernel_rfl) (comes_int Tryz.underlying3) (comes_int Tryz.underlying3) (comes_int Tryz.underlying3))) (comes_slice (k := 2) Tryz.underlying44 (by kernel_rfl) (by omega) (comes_2 Tryz.underlying134 (by kernel_rfl) (by kernel_rfl) (comes_int Tryz.underlying3) (comes_slice (k := 3) Tryz.underlying132 (by kernel_rfl) (by omega) (comes_3 Tryz.underlying176 (by kernel_rfl) (by kernel_rfl) (comes_int Tryz.underlying3) (comes_int Tryz.underlying3) (comes_int Tryz.underlying3))))) (comes_slice (k := 3) Tryz.underlying45 (by kernel_rfl) (by omega) (comes_3 Tryz.underlying136 (by kernel_rfl) (by kernel_rfl) (comes_int Tryz.underlying3) (comes_int Tryz.underlying3) (comes_slice (k := 1) Tryz.underlying49 (by kernel_rfl) (by omega) (comes_int Tryz.underlying3)))) (comes_slice (k := 4) Tryz.underlying46 (by kernel_rfl) (by omega) (comes_4 Tryz.underlying146 (by kernel_rfl) (by kernel_rfl) (comes_int Tryz.underlying3) (comes_int Tryz.underlying3) (comes_int Tryz.underlying3) (comes_int Tryz.underlying3)))) _ _ _ hf
    exact ⟨_, _, _, _, z, rfl, by simpa [Value.cells] using hz⟩
  have k1 := h1
  have lt1 : ∀ x ∈ p1, x.block < W.heap.size := by obtain ⟨m, hm⟩ := k1; exact DataW.trod_lt m _ _ _ hm
  obtain ⟨u1_0, u1_1, z1, rfl, w1⟩ : ∃ u1_0 u1_1 : Value, ∃ z, v1 = .agg #[u1_0, u1_1] ∧ (rd2 (rdS 1 rdInt) (rdS 1 rdInt)) 0 W.heap.size W [u1_0, u1_1] z := by
    obtain ⟨cs, rfl, hsz⟩ := okWide_struct Tryz.underlying51 (hval 1 51 v1 rfl rfl)
    obtain ⟨u1_0, u1_1, rfl⟩ := Joins.array2 (hsz.trans (by kernel_rfl : Tryz.prog.cellsOf 51 = 2))
    obtain ⟨fuel, hf⟩ := h1
    obtain ⟨z, hz⟩ := (comes_2 Tryz.underlying51 (by kernel_rfl) (by kernel_rfl) (comes_slice (k := 1) Tryz.underlying49 (by kernel_rfl) (by omega) (comes_int Tryz.underlying3)) (comes_slice (k := 1) Tryz.underlying49 (by kernel_rfl) (by omega) (comes_int Tryz.underlying3))) _ _ _ hf
    exact ⟨_, _, z, rfl, by simpa [Value.cells] using hz⟩
  obtain ⟨a2, len2, cap2, rfl⟩ := okWide_slice Tryz.underlying49 (hval 2 49 v2 rfl rfl)
  have k2 := h2
  have lt2 : ∀ x ∈ p2, x.block < W.heap.size := by obtain ⟨m, hm⟩ := k2; exact DataW.trod_lt m _ _ _ hm
  obtain ⟨z2, w2⟩ : ∃ z, (rdS 1 rdInt) 0 W.heap.size W [.slice a2 len2 cap2] z := by
    obtain ⟨fuel, hf⟩ := h2
    obtain ⟨z, hz⟩ := (comes_slice (k := 1) Tryz.underlying49 (by kernel_rfl) (by omega) (comes_int Tryz.underlying3)) _ _ _ hf
    exact ⟨z, by simpa [Value.cells] using hz⟩
  clear hA0 hval0
  refine (exactSig_walk u0_0 u0_1 u0_2 u0_3 z0 u1_0 u1_1 z1 a2 len2 cap2 z2 W w0 w1 w2).mono fun e W' ⟨he, bel⟩ => ?_
  subst he
  exact ⟨_, rfl, _, _, _, [], _, [], hW', trodAll_mk1 (shut_bool Tryz.underlying4 _), (trodAll_cons_mk (Below.trod laidOut (by kernel_rfl) (of_decide_eq_true (by kernel_rfl)) k0 bel lt0) (trodAll_cons_mk (Below.trod laidOut (by kernel_rfl) (of_decide_eq_true (by kernel_rfl)) k1 bel lt1) (trodAll_cons_mk (Below.trod laidOut (by kernel_rfl) (of_decide_eq_true (by kernel_rfl)) k2 bel lt2) trodAll_mk0))), rfl, bel.frame _, fun h => by cases h⟩

theorem over : Rows.fnExactSignalValuesRow.holds Tryz.pinned (OpenSpec.ofChange Rows.fnExactSignalValuesSpec) :=
  OpenClaim.holds_of_wide 4 Tryz.f4 rfl rfl rfl rfl rfl rfl rfl ⟨rfl, rfl, rfl, rfl, rfl⟩ rfl rfl rfl rfl rfl (by kernel_rfl) Tryz.func4 (by kernel_rfl)
    (of_decide_eq_true (by kernel_rfl)) (by unfold Func.isWrapper; first | (rw [if_pos (by decide +kernel)]; kernel_rfl) | (rw [if_neg (by decide +kernel)]; exact ⟨rfl, rfl⟩))
    (fun os started H enc _ => lifted os started H enc)

/-- ████ THE STATEMENT ████ -/
theorem proved : Rows.FnExactSignalValuesSaid :=
  over
end Go.Proofs.YtmjofpfkgbnknaaGreat.fnExactSignalValues
