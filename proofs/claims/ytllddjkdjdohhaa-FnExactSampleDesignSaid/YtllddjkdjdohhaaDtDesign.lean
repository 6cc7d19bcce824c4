/-
  The type Design as the exact laws' helpers see it.
-/
import Derived.Test.YtllddjkdjdohhaaShape
import Derived.Test.YtllddjkdjdohhaaDpDesign
import Derived.Test.YtllddjkdjdohhaaDtModule
namespace Go.Proofs.Ytllddjkdjdohhaa
open Go.RowKit
set_option linter.unusedVariables false
set_option linter.unusedSimpArgs false

abbrev rwDesign : Rd DDesign := rd1 rwModuleS
theorem goodw_Design : Rd.Good rwDesign := rd1_good goodw_ModuleS
theorem le_Design : Rd.Le rwDesign rdDesign := rd1_le le_ModuleS
abbrev rwDesignS : Rd (List DDesign) := rwS 1 rwDesign
theorem goodw_DesignS : Rd.Good rwDesignS := rwS_good 1 goodw_Design
theorem le_DesignS : Rd.Le rwDesignS rdDesignS := rwS_le 1 le_Design

def smDesign (x : DDesign) : Prop := smModuleS (x)
def smDesignS (L : List DDesign) : Prop := L.length ≤ 1048576 ∧ ∀ x ∈ L, smDesign x

set_option maxHeartbeats 3200000 in
theorem toDesign_w (x : DDesign) (us : List Value) {B T : Nat} (w : World) (h : rdDesign B T w us x) (hT : T ≤ w.heap.size) (hs : smDesign x) :
    Calls Try.prog 39 #[.agg us.toArray] w fun e w' => ∃ us', e = .returned (.agg us'.toArray) ∧ rwDesign w.heap.size w'.heap.size w' us' x ∧ Below w.heap.size w w' := by
  unfold smDesign at hs
  obtain ⟨u0, rfl, uh0⟩ := h
  have uq0 := uh0
  obtain ⟨u0A, u0c, ue0, -⟩ := uq0
  injection ue0 with ue0
  subst ue0
  have U0 := Lib.hid uh0
  clear uh0
  go_enter Try.func39, Try.ntmps39
  go_wp2_with fail
  refine (toModuleS_w (x) u0A (x).length u0c _ (good_ModuleS.below U0.out hT (by (repeat' (first | assumption | exact Below.refl _ _ | refine bDrewN ?_ _ | refine Below.drew ?_ | refine bAlloc ?_ (Nat.le_refl _) _ | refine bSet ?_ (by first | exact Nat.le_refl _ | omega | (simp <;> omega)) _)))) (Nat.le_trans hT (by simp <;> omega)) hs).mono ?_
  rintro e w1 ⟨v0, rfl, hr0, hb⟩
  have g := box3 hb
  have HP : w1.heap[w.heap.size]? = some (.cells #[.slice u0A (x).length u0c] 74 (0, 0)) := g.1
  have HR : w1.heap[w.heap.size + 1]? = some (.cells #[.slice none 0 0] 26 (0, 0)) := g.2.1
  have HL : w1.heap[w.heap.size + 1 + 1]? = some (.cells #[.slice none 0 0] 26 (0, 0)) := g.2.2.1
  have hW : Below w.heap.size w w1 := g.2.2.2
  replace hr0 := goodw_ModuleS.wider (B' := w.heap.size + 1 + 1 + 1) hr0 (by simp) (Nat.le_refl _)
  have hlt : w.heap.size + 1 + 1 < w1.heap.size := (Array.getElem?_eq_some_iff.1 HL).1
  clear hb g
  have vq0 := hr0
  obtain ⟨v0A, v0c, ve0, -⟩ := vq0
  injection ve0 with ve0
  subst ve0
  replace hr0 := Lib.hid hr0
  have uc0 : w1.cell? ⟨w.heap.size, 0, none⟩ = some (.slice u0A (x).length u0c) := box_cell HP 0 _ rfl
  have lc0 : w1.cell? ⟨w.heap.size + 1 + 1, 0, none⟩ = some (.slice none 0 0) := box_cell HL 0 _ rfl
  have lf0 : w1.frozen? ⟨w.heap.size + 1 + 1, 0, none⟩ = false := frozen_of_row _ _ 0 _ _ HL
  have rc0 : w1.cell? ⟨w.heap.size + 1, 0, none⟩ = some (.slice none 0 0) := box_cell HR 0 _ rfl
  have rf0 : w1.frozen? ⟨w.heap.size + 1, 0, none⟩ = false := frozen_of_row _ _ 0 _ _ HR
  have hW' := Lib.hid hW
  clear HP HR HL hW
  go_wp2
  ((try simp only [Exit.inBlock, Exit.then]); refine bodyPost_ret (v := (.agg #[.slice v0A (x).length v0c])) (by rw [results_cell1 rfl]; go_simp) rfl ?_)
  have hB := hW'.out
  exact ⟨[.slice v0A (x).length v0c], rfl, ⟨_, rfl, goodw_ModuleS _ _ _ _ w1 _ _ _ hr0.out (by omega) (by simp) (fun b hb1 _ => by (repeat (rw [Below.heap_setCell _ _ _ b (by simp; omega)])))⟩, by (repeat' (first | assumption | exact Below.refl _ _ | refine bDrewN ?_ _ | refine Below.drew ?_ | refine bAlloc ?_ (Nat.le_refl _) _ | refine bSet ?_ (by first | exact Nat.le_refl _ | omega | (simp <;> omega)) _))⟩

theorem toDesign_any (x : DDesign) (us : List Value) {B T : Nat} (w : World) (h : rdDesign B T w us x) (hT : T ≤ w.heap.size) (hs : smDesign x) :
    Calls Try.prog 39 #[.agg us.toArray] w fun e w' => ∃ us', e = .returned (.agg us'.toArray) ∧ rdDesign w.heap.size w'.heap.size w' us' x ∧ Below w.heap.size w w' :=
  (toDesign_w x us w h hT hs).mono fun _ _ ⟨v, he, hr, hb⟩ => ⟨v, he, le_Design _ _ _ _ _ hr, hb⟩
end Go.Proofs.Ytllddjkdjdohhaa
