/-
  The law FnExactFormatModule returns true for every input and leaves its arguments as they were, where the listed package variables hold what the program's text lays in them (the card ties them); no other condition.
-/
import Derived.Test.YtdfcbccpdflbfaaGreatDoorCards
import Derived.Test.YtdfcbccpdflbfaaGreatDoorTie
import Derived.Test.YtdfcbccpdflbfaaGreatDoorRows
import Derived.Test.YtdfcbccpdflbfaaGreatDoorWFm
import Derived.WalkKit
import Derived.ProofKit
import Derived.OpenShut
import Derived.ShutString
import Derived.ChangeOld
import Derived.Below
import Derived.Carry
import Derived.Lib.SmallJoins
import Derived.OpenVars
import Derived.Deep.DeepHandedRow
import Derived.Lib.LaidTab
namespace Go.Proofs.YtdfcbccpdflbfaaGreatDoor.fnExactFormatModule
open Go.ChangeShapes Go.WideShapes Go.ChangeAt Go.RowKit Go.Joins
open Go.ChangeMaps (open_string shut_string)
set_option linter.unusedVariables false

theorem own : ownKnob Tryz.prog.godebug = none := by kernel_rfl
theorem laidOut : laidOutB Tryz.prog = true := by kernel_rfl
theorem trodVars_len {H : Type} {enc : TypeId × Value → H} {P : Program} {w : World} {sp : Nat → Bool} : ∀ {ns : List String} {gs : List (DataW H)} {ps : List MemPlace}, DataW.TrodVars enc P w sp ns gs ps → gs.length = ns.length
  | [], [], _, _ => rfl
  | [], _ :: _, _, h => h.elim
  | _ :: _, [], _, h => h.elim
  | _ :: _, _ :: _, _, h => by
    obtain ⟨_, _, _, _, _, _, _, _, _, _, hs, _⟩ := h
    simp [trodVars_len hs]
theorem array_one {α : Type} {a : Array α} (h : a.size = 1) : ∃ x, a = #[x] := by
  match a, h with
  | ⟨[x]⟩, _ => exact ⟨x, rfl⟩

set_option maxRecDepth 100000 in
theorem contract (H : Type) (enc : TypeId × Value → H) (W : World) (base : Nat) (args : Array Value) (ds gs : List (DataW H)) (before : List MemPlace)
    (hval : ∀ (j : Nat) t v, Tryz.f3.params[j]? = some t → args[j]? = some v → Value.okWide Tryz.prog W .any base t v)
    (hW : DataW.Whole enc Tryz.prog Tryz.f3.params.toList Rows.fnExactFormatModuleSpec.vars false W args.toList ds gs before) (hL : laidMetH Tryz.prog Rows.fnExactFormatModuleRow.laid W) :
    Calls Tryz.prog 3 args W fun e W' => ∃ v, e = .returned v ∧ Rows.fnExactFormatModuleSpec.post enc Tryz.prog Tryz.f3 false true false false W args v W' := by
  have hW' := hW
  obtain ⟨p, q, hA0, hV, rfl, hfz, hnd⟩ := hW
  have hA : DataW.TrodAll enc Tryz.prog W 0 (fun _ => true) true Tryz.f3.params.toList args.toList ds p := hA0
  rw [Tryz.params3] at hA hval
  obtain ⟨v0, vs0, d0, ds0, p0, q0, hargs, rfl, rfl, h0, r0⟩ := trodAll_cons hA
  obtain ⟨v1, vs1, d1, ds1, p1, q1, rfl, rfl, rfl, h1, r1⟩ := trodAll_cons r0
  obtain ⟨rfl, rfl, rfl⟩ := trodAll_nil r1
  obtain rfl : args = #[v0, v1] := by cases args; simp_all
  have hVl := trodVars_len hV
  obtain ⟨g0, rfl⟩ : ∃ g0, gs = [g0] := by match gs, hVl with | [g0], _ => exact ⟨_, rfl⟩
  have k0 := h0
  have lt0 : ∀ x ∈ p0, x.block < W.heap.size := by obtain ⟨m, hm⟩ := k0; exact DataW.trod_lt m _ _ _ hm
  obtain ⟨u0_0, z0, rfl, w0⟩ : ∃ u0_0 : Value, ∃ z, v0 = .agg #[u0_0] ∧ (rd1 (rdS 4 (rd4 (rdS 3 (rd3 rdInt rdInt rdInt)) (rdS 2 (rd2 rdInt (rdS 3 (rd3 rdInt rdInt rdInt)))) (rdS 3 (rd3 rdInt rdInt (rdS 1 rdInt))) (rdS 4 (rd4 rdInt rdInt rdInt rdInt))))) 0 W.heap.size W [u0_0] z := by
    obtain ⟨cs, rfl, hsz⟩ := okWide_struct Tryz.underlying24 (hval 0 24 v0 rfl rfl)
    obtain ⟨u0_0, rfl⟩ := array_one (hsz.trans (by kernel_rfl : Tryz.prog.cellsOf 24 = 1))
    obtain ⟨fuel, hf⟩ := h0
    obtain ⟨z, hz⟩ := (comes_1 Tryz.underlying24 (by kernel_rfl) (by kernel_rfl) (comes_slice (k := 4) Tryz.underlying22 (by kernel_rfl) (by omega) (comes_4 Tryz.underlying84 (by kernel_rfl) (by kernel_rfl) (comes_slice (k := 3) Tryz.underlying79 (by kernel_rfl) (by omega) (comes_3 Tryz.underlying133 (by kernel_rfl) (by kernel_rfl) (comes_int Tryz.underlying3) (comes_int Tryz.underlying3) (comes_int Tryz.underlying3))) (comes_slice (k := 2) Tryz.underlying80 (by kernel_rfl) (by omega) (comes_2 Tryz.underlying129 (by kernel_rfl) (by kernel_rfl) (comes_int Tryz.underlying3) (comes_slice (k := 3) Tryz.underlying127 (by kernel_rfl) (by omega) (comes_3 Tryz.underlying150 (by kernel_rfl) (by kernel_rfl) (comes_int Tryz.underlying3) (comes_int Tryz.underlying3) (comes_int Tryz.underlying3))))) (comes_slice (k := 3) Tryz.underlying81 (by kernel_rfl) (by omega) (comes_3 Tryz.underlying131 (by kernel_rfl) (by kernel_rfl) (comes_int Tryz.underlying3) (comes_int Tryz.underlying3) (comes_slice (k := 1) Tryz.underlying58 (by kernel_rfl) (by omega) (comes_int Tryz.underlying3)))) (comes_slice (k := 4) Tryz.underlying82 (by kernel_rfl) (by omega) (comes_4 Tryz.underlying137 (by kernel_rfl) (by kernel_rfl) (comes_int Tryz.underlying3) (comes_int Tryz.underlying3) (comes_int Tryz.underlying3) (comes_int Tryz.underlying3)))))) _ _ _ hf
    exact ⟨_, z, rfl, by simpa [Value.cells] using hz⟩
  obtain ⟨a1, rfl, rfl, rfl, w1⟩ := open_int Tryz.underlying3 (hval 1 3 v1 rfl rfl) h1
  clear hA0
  refine (exactFmtMod_law u0_0 z0 a1 W w0 hL).mono fun e W' ⟨he, bel⟩ => ?_
  subst he
  exact ⟨_, rfl, _, _, _, [], _, _, hW', trodAll_mk1 (shut_bool Tryz.underlying4 _), (trodAll_cons_mk (Below.trod laidOut (by kernel_rfl) (of_decide_eq_true (by kernel_rfl)) k0 bel lt0) (trodAll_cons_mk (shut_int Tryz.underlying3 w1) trodAll_mk0)), Below.trodVars laidOut bel (by kernel_rfl) hV, bel.frame _, fun h => by cases h⟩

noncomputable def laidWorld (os : Os) : World :=
  { (World.holding Tryz.prog os ⟨#[], #[], []⟩) with heap := (((((World.holding Tryz.prog os ⟨#[], #[], []⟩).heap |>.modify 2 (fun | .cells _ t frozen => .cells #[.int .u8 0, .int .u8 1, .int .u8 28, .int .u8 2, .int .u8 29, .int .u8 14, .int .u8 24, .int .u8 3, .int .u8 30, .int .u8 22, .int .u8 20, .int .u8 15, .int .u8 25, .int .u8 17, .int .u8 4, .int .u8 8, .int .u8 31, .int .u8 27, .int .u8 13, .int .u8 23, .int .u8 21, .int .u8 19, .int .u8 16, .int .u8 7, .int .u8 26, .int .u8 12, .int .u8 18, .int .u8 6, .int .u8 11, .int .u8 5, .int .u8 10, .int .u8 9] t frozen | o => o)) |>.modify 3 (fun | .cells _ t frozen => .cells #[.int .u8 0, .int .u8 1, .int .u8 56, .int .u8 2, .int .u8 57, .int .u8 49, .int .u8 28, .int .u8 3, .int .u8 61, .int .u8 58, .int .u8 42, .int .u8 50, .int .u8 38, .int .u8 29, .int .u8 17, .int .u8 4, .int .u8 62, .int .u8 47, .int .u8 59, .int .u8 36, .int .u8 45, .int .u8 43, .int .u8 51, .int .u8 22, .int .u8 53, .int .u8 39, .int .u8 33, .int .u8 30, .int .u8 24, .int .u8 18, .int .u8 12, .int .u8 5, .int .u8 63, .int .u8 55, .int .u8 48, .int .u8 27, .int .u8 60, .int .u8 41, .int .u8 37, .int .u8 16, .int .u8 46, .int .u8 35, .int .u8 44, .int .u8 21, .int .u8 52, .int .u8 32, .int .u8 23, .int .u8 11, .int .u8 54, .int .u8 26, .int .u8 40, .int .u8 15, .int .u8 34, .int .u8 20, .int .u8 31, .int .u8 10, .int .u8 25, .int .u8 14, .int .u8 19, .int .u8 9, .int .u8 13, .int .u8 8, .int .u8 7, .int .u8 6] t frozen | o => o)) |>.modify 1 (fun | .cells _ t frozen => .cells #[.int .u64 1, .int .u64 10, .int .u64 100, .int .u64 1000, .int .u64 10000, .int .u64 100000, .int .u64 1000000, .int .u64 10000000, .int .u64 100000000, .int .u64 1000000000, .int .u64 10000000000, .int .u64 100000000000, .int .u64 1000000000000, .int .u64 10000000000000, .int .u64 100000000000000, .int .u64 1000000000000000, .int .u64 10000000000000000, .int .u64 100000000000000000, .int .u64 1000000000000000000, .int .u64 10000000000000000000] t frozen | o => o)) |>.modify 0 (fun | .cells _ t frozen => .cells #[.string ⟨#[105, 110]⟩, .string ⟨#[111, 117, 116]⟩, .string ⟨#[119, 105, 114, 101]⟩, .string ⟨#[114, 101, 103]⟩] t frozen | o => o)) }
theorem laid_met (os : Os) : laidMet Tryz.prog Rows.fnExactFormatModuleRow.laid ((laidWorld os).forCall (fun _ _ => 0) ⟨#[], #[.agg #[.slice none 0 0], .int .i64 0], []⟩).memory :=
  laidMet_of_run' 8 (by kernel_rfl) (by kernel_rfl)
theorem reads (os : Os) {H : Type} (enc : TypeId × Value → H) : ∃ places, DataW.whole enc Tryz.prog ((laidWorld os).forCall (fun _ _ => 0) ⟨#[], #[.agg #[.slice none 0 0], .int .i64 0], []⟩).memory Tryz.f3.params.toList Rows.fnExactFormatModuleSpec.vars false #[(.agg #[.slice none 0 0] : Value), (.int .i64 0 : Value)].toList 8 = some ([.agg [.nil], .lit (.int .i64 0)], [.agg [.lit (.string [105, 110]), .lit (.string [111, 117, 116]), .lit (.string [119, 105, 114, 101]), .lit (.string [114, 101, 103])]], places) :=
  ⟨MemPlace.row ⟨0, 0, none⟩ 4 ++ [], by kernel_rfl⟩

set_option maxRecDepth 100000 in
theorem lifted (os : Os) (started : os.Started) (H : Type) (enc : TypeId × Value → H) (F : Stop.Interp) :
    ReturnsInHanded {} Tryz.checked os 3 .any ((OpenSpec.ofChange Rows.fnExactFormatModuleSpec).preRow enc Tryz.prog Tryz.f3 Rows.fnExactFormatModuleRow.domain false Rows.fnExactFormatModuleRow.laid) (((OpenSpec.ofChange Rows.fnExactFormatModuleSpec).at F).post enc Tryz.prog Tryz.f3 false true false false) := by
  obtain ⟨places, hx⟩ := reads os enc
  refine returnsInHanded_of_row (C := Tryz.checked) (s := OpenSpec.ofChange Rows.fnExactFormatModuleSpec) own started (by kernel_rfl) Tryz.func3
    (witness_row_at (enc := enc) (C := Tryz.checked) false (laidWorld os) #[.agg #[.slice none 0 0], .int .i64 0] rfl (by kernel_rfl) (by kernel_rfl) (by kernel_rfl)
      (OpenSpec.preRow_of_cond 8 hx (by kernel_rfl) (fun k hk => by cases hk) (by kernel_rfl) (laid_met os))) ?_
  intro W base args ds gs before hval hW _ _ _ hL _ _
  exact contract H enc W base args ds gs before hval hW hL

theorem said : Rows.FnExactFormatModuleSaid :=
  OpenClaim.holds_of_cond 3 Tryz.f3 rfl rfl rfl rfl rfl rfl rfl ⟨rfl, rfl, rfl, rfl, rfl⟩ rfl rfl rfl rfl rfl (by kernel_rfl) Tryz.func3 (by kernel_rfl)
    (of_decide_eq_true (by kernel_rfl)) (by unfold Func.isWrapper; first | (rw [if_pos (by decide +kernel)]; kernel_rfl) | (rw [if_neg (by decide +kernel)]; exact ⟨rfl, rfl⟩))
    (fun os started H enc _ F => by rw [OpenClaim.pre_eq_preRow]; exact lifted os started H enc F)

theorem plain (f : FuncId) (fn : Func) (hf : Tryz.pinned.checked.prog.funcNamed "loop.example/g03311/laws.FnExactFormatModule" = some f) (hfn : Tryz.pinned.checked.prog.funcs[f]? = some fn) :
    false = Tryz.pinned.checked.prog.looks [] ∧ ∀ (j : Nat) t, fn.params[j]? = some t → Tryz.pinned.checked.prog.wantsStandIn t = false := by
  obtain rfl : f = 3 := Option.some.inj ((show Tryz.prog.funcNamed "loop.example/g03311/laws.FnExactFormatModule" = some 3 by kernel_rfl).symm.trans hf) |>.symm
  obtain rfl : fn = Tryz.f3 := (Option.some.inj (Tryz.func3.symm.trans hfn)).symm
  refine ⟨by kernel_rfl, fun j t ht => ?_⟩
  rw [Tryz.params3] at ht
  rcases (by simpa using Array.mem_of_getElem? ht : t = 24 ∨ t = 3) with rfl | rfl
  · exact (show Tryz.prog.wantsStandIn 24 = false by kernel_rfl)
  · exact (show Tryz.prog.wantsStandIn 3 = false by kernel_rfl)

/-- ████ THE CARD ████ -/
theorem card : Rows.FnExactFormatModuleCardSaid :=
  Claim7.holds_tied_plain_at .later [] _ _ _ _ said (fun _ h => by cases h) (by kernel_rfl) (fun _ h => by cases h) fnExactFormatModule_row_tie rfl ⟨rfl, rfl⟩ (by kernel_rfl) rfl plain (by kernel_rfl)
end Go.Proofs.YtdfcbccpdflbfaaGreatDoor.fnExactFormatModule
