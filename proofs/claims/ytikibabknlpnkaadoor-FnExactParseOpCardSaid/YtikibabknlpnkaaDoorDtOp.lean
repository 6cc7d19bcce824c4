/-
  The type Op as the exact laws' helpers see it.
-/
import Derived.Test.YtikibabknlpnkaaDoorShape
import Derived.Test.YtikibabknlpnkaaDoorDpOp
namespace Go.Proofs.YtikibabknlpnkaaDoor
open Go.RowKit
set_option linter.unusedVariables false
set_option linter.unusedSimpArgs false

abbrev rwOp : Rd DOp := rd3 rdInt rdInt rdInt
theorem goodw_Op : Rd.Good rwOp := rd3_good rdInt_good rdInt_good rdInt_good
theorem le_Op : Rd.Le rwOp rdOp := rd3_le (Rd.Le.refl rdInt) (Rd.Le.refl rdInt) (Rd.Le.refl rdInt)
abbrev rwOpS : Rd (List DOp) := rwS 3 rwOp
theorem goodw_OpS : Rd.Good rwOpS := rwS_good 3 goodw_Op
theorem le_OpS : Rd.Le rwOpS rdOpS := rwS_le 3 le_Op

def smOp (x : DOp) : Prop := True
def smOpS (L : List DOp) : Prop := L.length ≤ 1048576 ∧ ∀ x ∈ L, smOp x

theorem toOp_w (x : DOp) (us : List Value) {B T : Nat} (w : World) (h : rdOp B T w us x) (hT : T ≤ w.heap.size) (hs : smOp x) :
    Calls Tryd.prog 11 #[.agg us.toArray] w fun e w' => ∃ us', e = .returned (.agg us'.toArray) ∧ rwOp w.heap.size w'.heap.size w' us' x ∧ Below w.heap.size w w' := by
  obtain ⟨u0, u1, u2, rfl, uh0, uh1, uh2⟩ := h
  obtain ⟨ue0, uf0⟩ := uh0
  injection ue0 with ue0
  subst ue0
  obtain ⟨ue1, uf1⟩ := uh1
  injection ue1 with ue1
  subst ue1
  obtain ⟨ue2, uf2⟩ := uh2
  injection ue2 with ue2
  subst ue2
  go_enter Tryd.func11, Tryd.ntmps11
  go_wp2
  ((try simp only [Exit.inBlock, Exit.then]); refine bodyPost_ret (v := (.agg #[.int .i64 x.1, .int .i64 x.2.1, .int .i64 x.2.2])) (by rw [results_cell1 rfl]; go_simp) rfl ?_)
  exact ⟨[.int .i64 x.1, .int .i64 x.2.1, .int .i64 x.2.2], rfl, ⟨_, _, _, rfl, ⟨rfl, uf0⟩, ⟨rfl, uf1⟩, ⟨rfl, uf2⟩⟩, by (repeat' (first | assumption | exact Below.refl _ _ | refine bDrewN ?_ _ | refine Below.drew ?_ | refine bAlloc ?_ (Nat.le_refl _) _ | refine bSet ?_ (by first | exact Nat.le_refl _ | omega | (simp <;> omega)) _))⟩

theorem toOp_any (x : DOp) (us : List Value) {B T : Nat} (w : World) (h : rdOp B T w us x) (hT : T ≤ w.heap.size) (hs : smOp x) :
    Calls Tryd.prog 11 #[.agg us.toArray] w fun e w' => ∃ us', e = .returned (.agg us'.toArray) ∧ rdOp w.heap.size w'.heap.size w' us' x ∧ Below w.heap.size w w' :=
  (toOp_w x us w h hT hs).mono fun _ _ ⟨v, he, hr, hb⟩ => ⟨v, he, le_Op _ _ _ _ _ hr, hb⟩

theorem info_Op : (Tryd.prog.info? 25).map (fun i => (i.zero, i.size, i.bytes)) = some (some (.agg #[.int .i64 0, .int .i64 0, .int .i64 0]), 3, 24) := by kernel_rfl
end Go.Proofs.YtikibabknlpnkaaDoor
