/-
  The type Module as the exact laws' helpers see it.
-/
import Derived.Test.YtllddjkdjdohhaaShape
import Derived.Test.YtllddjkdjdohhaaDpModule
import Derived.Test.YtllddjkdjdohhaaDtSignal
import Derived.Test.YtllddjkdjdohhaaDtAssign
import Derived.Test.YtllddjkdjdohhaaDtInst
import Derived.Test.YtllddjkdjdohhaaDtMem
namespace Go.Proofs.Ytllddjkdjdohhaa
open Go.RowKit
set_option linter.unusedVariables false
set_option linter.unusedSimpArgs false

abbrev rwModule : Rd DModule := rd4 rwSignalS rwAssignS rwInstS rwMemS
theorem goodw_Module : Rd.Good rwModule := rd4_good goodw_SignalS goodw_AssignS goodw_InstS goodw_MemS
theorem le_Module : Rd.Le rwModule rdModule := rd4_le le_SignalS le_AssignS le_InstS le_MemS
abbrev rwModuleS : Rd (List DModule) := rwS 4 rwModule
theorem goodw_ModuleS : Rd.Good rwModuleS := rwS_good 4 goodw_Module
theorem le_ModuleS : Rd.Le rwModuleS rdModuleS := rwS_le 4 le_Module

def smModule (x : DModule) : Prop := smSignalS (x.1) ∧ smAssignS (x.2.1) ∧ smInstS (x.2.2.1) ∧ smMemS (x.2.2.2)
def smModuleS (L : List DModule) : Prop := L.length ≤ 1048576 ∧ ∀ x ∈ L, smModule x

set_option maxHeartbeats 3200000 in
theorem toModule_w (x : DModule) (us : List Value) {B T : Nat} (w : World) (h : rdModule B T w us x) (hT : T ≤ w.heap.size) (hs : smModule x) :
    Calls Try.prog 30 #[.agg us.toArray] w fun e w' => ∃ us', e = .returned (.agg us'.toArray) ∧ rwModule w.heap.size w'.heap.size w' us' x ∧ Below w.heap.size w w' := by
  unfold smModule at hs
  obtain ⟨u0, u1, u2, u3, rfl, uh0, uh1, uh2, uh3⟩ := h
  have uq0 := uh0
  obtain ⟨u0A, u0c, ue0, -⟩ := uq0
  injection ue0 with ue0
  subst ue0
  have U0 := Lib.hid uh0
  clear uh0
  have uq1 := uh1
  obtain ⟨u1A, u1c, ue1, -⟩ := uq1
  injection ue1 with ue1
  subst ue1
  have U1 := Lib.hid uh1
  clear uh1
  have uq2 := uh2
  obtain ⟨u2A, u2c, ue2, -⟩ := uq2
  injection ue2 with ue2
  subst ue2
  have U2 := Lib.hid uh2
  clear uh2
  have uq3 := uh3
  obtain ⟨u3A, u3c, ue3, -⟩ := uq3
  injection ue3 with ue3
  subst ue3
  have U3 := Lib.hid uh3
  clear uh3
  go_enter Try.func30, Try.ntmps30
  go_wp2_with fail
  refine (toSignalS_w (x.1) u0A (x.1).length u0c _ (good_SignalS.below U0.out hT (by (repeat' (first | assumption | exact Below.refl _ _ | refine bDrewN ?_ _ | refine Below.drew ?_ | refine bAlloc ?_ (Nat.le_refl _) _ | refine bSet ?_ (by first | exact Nat.le_refl _ | omega | (simp <;> omega)) _)))) (Nat.le_trans hT (by simp <;> omega)) hs.1).mono ?_
  rintro e w1 ⟨v0, rfl, hr0, hb⟩
  have g := box3 hb
  have HP : w1.heap[w.heap.size]? = some (.cells #[.slice u0A (x.1).length u0c, .slice u1A (x.2.1).length u1c, .slice u2A (x.2.2.1).length u2c, .slice u3A (x.2.2.2).length u3c] 62 (0, 0)) := g.1
  have HR : w1.heap[w.heap.size + 1]? = some (.cells #[.slice none 0 0, .slice none 0 0, .slice none 0 0, .slice none 0 0] 35 (0, 0)) := g.2.1
  have HL : w1.heap[w.heap.size + 1 + 1]? = some (.cells #[.slice none 0 0, .slice none 0 0, .slice none 0 0, .slice none 0 0] 35 (0, 0)) := g.2.2.1
  have hW : Below w.heap.size w w1 := g.2.2.2
  replace hr0 := goodw_SignalS.wider (B' := w.heap.size + 1 + 1 + 1) hr0 (by simp) (Nat.le_refl _)
  have hlt : w.heap.size + 1 + 1 < w1.heap.size := (Array.getElem?_eq_some_iff.1 HL).1
  clear hb g
  have vq0 := hr0
  obtain ⟨v0A, v0c, ve0, -⟩ := vq0
  injection ve0 with ve0
  subst ve0
  replace hr0 := Lib.hid hr0
  have uc0 : w1.cell? ⟨w.heap.size, 0, none⟩ = some (.slice u0A (x.1).length u0c) := box_cell HP 0 _ rfl
  have lc0 : w1.cell? ⟨w.heap.size + 1 + 1, 0, none⟩ = some (.slice none 0 0) := box_cell HL 0 _ rfl
  have lf0 : w1.frozen? ⟨w.heap.size + 1 + 1, 0, none⟩ = false := frozen_of_row _ _ 0 _ _ HL
  have rc0 : w1.cell? ⟨w.heap.size + 1, 0, none⟩ = some (.slice none 0 0) := box_cell HR 0 _ rfl
  have rf0 : w1.frozen? ⟨w.heap.size + 1, 0, none⟩ = false := frozen_of_row _ _ 0 _ _ HR
  have uc1 : w1.cell? ⟨w.heap.size, 1, none⟩ = some (.slice u1A (x.2.1).length u1c) := box_cell HP 1 _ rfl
  have lc1 : w1.cell? ⟨w.heap.size + 1 + 1, 1, none⟩ = some (.slice none 0 0) := box_cell HL 1 _ rfl
  have lf1 : w1.frozen? ⟨w.heap.size + 1 + 1, 1, none⟩ = false := frozen_of_row _ _ 1 _ _ HL
  have rc1 : w1.cell? ⟨w.heap.size + 1, 1, none⟩ = some (.slice none 0 0) := box_cell HR 1 _ rfl
  have rf1 : w1.frozen? ⟨w.heap.size + 1, 1, none⟩ = false := frozen_of_row _ _ 1 _ _ HR
  have uc2 : w1.cell? ⟨w.heap.size, 2, none⟩ = some (.slice u2A (x.2.2.1).length u2c) := box_cell HP 2 _ rfl
  have lc2 : w1.cell? ⟨w.heap.size + 1 + 1, 2, none⟩ = some (.slice none 0 0) := box_cell HL 2 _ rfl
  have lf2 : w1.frozen? ⟨w.heap.size + 1 + 1, 2, none⟩ = false := frozen_of_row _ _ 2 _ _ HL
  have rc2 : w1.cell? ⟨w.heap.size + 1, 2, none⟩ = some (.slice none 0 0) := box_cell HR 2 _ rfl
  have rf2 : w1.frozen? ⟨w.heap.size + 1, 2, none⟩ = false := frozen_of_row _ _ 2 _ _ HR
  have uc3 : w1.cell? ⟨w.heap.size, 3, none⟩ = some (.slice u3A (x.2.2.2).length u3c) := box_cell HP 3 _ rfl
  have lc3 : w1.cell? ⟨w.heap.size + 1 + 1, 3, none⟩ = some (.slice none 0 0) := box_cell HL 3 _ rfl
  have lf3 : w1.frozen? ⟨w.heap.size + 1 + 1, 3, none⟩ = false := frozen_of_row _ _ 3 _ _ HL
  have rc3 : w1.cell? ⟨w.heap.size + 1, 3, none⟩ = some (.slice none 0 0) := box_cell HR 3 _ rfl
  have rf3 : w1.frozen? ⟨w.heap.size + 1, 3, none⟩ = false := frozen_of_row _ _ 3 _ _ HR
  replace HP : (w1.setCell ⟨w.heap.size + 1 + 1, 0, none⟩ (.slice v0A (x.1).length v0c)).heap[w.heap.size]? = some (.cells #[.slice u0A (x.1).length u0c, .slice u1A (x.2.1).length u1c, .slice u2A (x.2.2.1).length u2c, .slice u3A (x.2.2.2).length u3c] 62 (0, 0)) := (Below.heap_setCell _ _ _ _ (by simp <;> omega)).trans HP
  replace HR : (w1.setCell ⟨w.heap.size + 1 + 1, 0, none⟩ (.slice v0A (x.1).length v0c)).heap[w.heap.size + 1]? = some (.cells #[.slice none 0 0, .slice none 0 0, .slice none 0 0, .slice none 0 0] 35 (0, 0)) := (Below.heap_setCell _ _ _ _ (by simp <;> omega)).trans HR
  replace HL : (w1.setCell ⟨w.heap.size + 1 + 1, 0, none⟩ (.slice v0A (x.1).length v0c)).heap[w.heap.size + 1 + 1]? = some (.cells #[.slice v0A (x.1).length v0c, .slice none 0 0, .slice none 0 0, .slice none 0 0] 35 (0, 0)) := heap_setCell_same _ _ 0 _ _ _ HL
  replace hW : Below w.heap.size w (w1.setCell ⟨w.heap.size + 1 + 1, 0, none⟩ (.slice v0A (x.1).length v0c)) := bSet hW (by simp <;> omega) _
  have HPh := Lib.hid HP
  have HRh := Lib.hid HR
  have HLh := Lib.hid HL
  have hWh := Lib.hid hW
  clear HP HR HL hW
  go_wp2_with fail
  refine (toAssignS_w (x.2.1) u1A (x.2.1).length u1c _ (good_AssignS.below U1.out hT hWh.out) (Nat.le_trans hT hWh.out.size) hs.2.1).mono ?_
  rintro e w2 ⟨v1, rfl, hr1, hb⟩
  have hszp : (w1.setCell ⟨w.heap.size + 1 + 1, 0, none⟩ (.slice v0A (x.1).length v0c)).heap.size = w1.heap.size := by simp
  have hsetp : ∀ b, w.heap.size + 1 + 1 + 1 ≤ b → (w1.setCell ⟨w.heap.size + 1 + 1, 0, none⟩ (.slice v0A (x.1).length v0c)).heap[b]? = w1.heap[b]? := fun b hb => by
    rw [Below.heap_setCell _ _ _ b (by simp; omega)]
  replace hr0 := rd_step goodw_SignalS hr0.out hsetp hszp hb
  replace hr1 := goodw_AssignS.wider (B' := w.heap.size + 1 + 1 + 1) hr1 (by rw [hszp]; omega) (Nat.le_refl _)
  have HP : w2.heap[w.heap.size]? = some (.cells #[.slice u0A (x.1).length u0c, .slice u1A (x.2.1).length u1c, .slice u2A (x.2.2.1).length u2c, .slice u3A (x.2.2.2).length u3c] 62 (0, 0)) := rowB' hb HPh.out
  have HR : w2.heap[w.heap.size + 1]? = some (.cells #[.slice none 0 0, .slice none 0 0, .slice none 0 0, .slice none 0 0] 35 (0, 0)) := rowB' hb HRh.out
  have HL : w2.heap[w.heap.size + 1 + 1]? = some (.cells #[.slice v0A (x.1).length v0c, .slice none 0 0, .slice none 0 0, .slice none 0 0] 35 (0, 0)) := rowB' hb HLh.out
  have hW : Below w.heap.size w w2 := bThen hWh.out hb
  have hlt : w.heap.size + 1 + 1 < w2.heap.size := (Array.getElem?_eq_some_iff.1 HL).1
  clear hb hszp hsetp HPh HRh HLh hWh
  clear uc0 lc0 lf0 rc0 rf0
  clear uc1 lc1 lf1 rc1 rf1
  clear uc2 lc2 lf2 rc2 rf2
  clear uc3 lc3 lf3 rc3 rf3
  have vq1 := hr1
  obtain ⟨v1A, v1c, ve1, -⟩ := vq1
  injection ve1 with ve1
  subst ve1
  replace hr0 := Lib.hid hr0
  replace hr1 := Lib.hid hr1
  have uc0 : w2.cell? ⟨w.heap.size, 0, none⟩ = some (.slice u0A (x.1).length u0c) := box_cell HP 0 _ rfl
  have lc0 : w2.cell? ⟨w.heap.size + 1 + 1, 0, none⟩ = some (.slice v0A (x.1).length v0c) := box_cell HL 0 _ rfl
  have lf0 : w2.frozen? ⟨w.heap.size + 1 + 1, 0, none⟩ = false := frozen_of_row _ _ 0 _ _ HL
  have rc0 : w2.cell? ⟨w.heap.size + 1, 0, none⟩ = some (.slice none 0 0) := box_cell HR 0 _ rfl
  have rf0 : w2.frozen? ⟨w.heap.size + 1, 0, none⟩ = false := frozen_of_row _ _ 0 _ _ HR
  have uc1 : w2.cell? ⟨w.heap.size, 1, none⟩ = some (.slice u1A (x.2.1).length u1c) := box_cell HP 1 _ rfl
  have lc1 : w2.cell? ⟨w.heap.size + 1 + 1, 1, none⟩ = some (.slice none 0 0) := box_cell HL 1 _ rfl
  have lf1 : w2.frozen? ⟨w.heap.size + 1 + 1, 1, none⟩ = false := frozen_of_row _ _ 1 _ _ HL
  have rc1 : w2.cell? ⟨w.heap.size + 1, 1, none⟩ = some (.slice none 0 0) := box_cell HR 1 _ rfl
  have rf1 : w2.frozen? ⟨w.heap.size + 1, 1, none⟩ = false := frozen_of_row _ _ 1 _ _ HR
  have uc2 : w2.cell? ⟨w.heap.size, 2, none⟩ = some (.slice u2A (x.2.2.1).length u2c) := box_cell HP 2 _ rfl
  have lc2 : w2.cell? ⟨w.heap.size + 1 + 1, 2, none⟩ = some (.slice none 0 0) := box_cell HL 2 _ rfl
  have lf2 : w2.frozen? ⟨w.heap.size + 1 + 1, 2, none⟩ = false := frozen_of_row _ _ 2 _ _ HL
  have rc2 : w2.cell? ⟨w.heap.size + 1, 2, none⟩ = some (.slice none 0 0) := box_cell HR 2 _ rfl
  have rf2 : w2.frozen? ⟨w.heap.size + 1, 2, none⟩ = false := frozen_of_row _ _ 2 _ _ HR
  have uc3 : w2.cell? ⟨w.heap.size, 3, none⟩ = some (.slice u3A (x.2.2.2).length u3c) := box_cell HP 3 _ rfl
  have lc3 : w2.cell? ⟨w.heap.size + 1 + 1, 3, none⟩ = some (.slice none 0 0) := box_cell HL 3 _ rfl
  have lf3 : w2.frozen? ⟨w.heap.size + 1 + 1, 3, none⟩ = false := frozen_of_row _ _ 3 _ _ HL
  have rc3 : w2.cell? ⟨w.heap.size + 1, 3, none⟩ = some (.slice none 0 0) := box_cell HR 3 _ rfl
  have rf3 : w2.frozen? ⟨w.heap.size + 1, 3, none⟩ = false := frozen_of_row _ _ 3 _ _ HR
  replace HP : (w2.setCell ⟨w.heap.size + 1 + 1, 1, none⟩ (.slice v1A (x.2.1).length v1c)).heap[w.heap.size]? = some (.cells #[.slice u0A (x.1).length u0c, .slice u1A (x.2.1).length u1c, .slice u2A (x.2.2.1).length u2c, .slice u3A (x.2.2.2).length u3c] 62 (0, 0)) := (Below.heap_setCell _ _ _ _ (by simp <;> omega)).trans HP
  replace HR : (w2.setCell ⟨w.heap.size + 1 + 1, 1, none⟩ (.slice v1A (x.2.1).length v1c)).heap[w.heap.size + 1]? = some (.cells #[.slice none 0 0, .slice none 0 0, .slice none 0 0, .slice none 0 0] 35 (0, 0)) := (Below.heap_setCell _ _ _ _ (by simp <;> omega)).trans HR
  replace HL : (w2.setCell ⟨w.heap.size + 1 + 1, 1, none⟩ (.slice v1A (x.2.1).length v1c)).heap[w.heap.size + 1 + 1]? = some (.cells #[.slice v0A (x.1).length v0c, .slice v1A (x.2.1).length v1c, .slice none 0 0, .slice none 0 0] 35 (0, 0)) := heap_setCell_same _ _ 1 _ _ _ HL
  replace hW : Below w.heap.size w (w2.setCell ⟨w.heap.size + 1 + 1, 1, none⟩ (.slice v1A (x.2.1).length v1c)) := bSet hW (by simp <;> omega) _
  have HPh := Lib.hid HP
  have HRh := Lib.hid HR
  have HLh := Lib.hid HL
  have hWh := Lib.hid hW
  clear HP HR HL hW
  go_wp2_with fail
  refine (toInstS_w (x.2.2.1) u2A (x.2.2.1).length u2c _ (good_InstS.below U2.out hT hWh.out) (Nat.le_trans hT hWh.out.size) hs.2.2.1).mono ?_
  rintro e w3 ⟨v2, rfl, hr2, hb⟩
  have hszp : (w2.setCell ⟨w.heap.size + 1 + 1, 1, none⟩ (.slice v1A (x.2.1).length v1c)).heap.size = w2.heap.size := by simp
  have hsetp : ∀ b, w.heap.size + 1 + 1 + 1 ≤ b → (w2.setCell ⟨w.heap.size + 1 + 1, 1, none⟩ (.slice v1A (x.2.1).length v1c)).heap[b]? = w2.heap[b]? := fun b hb => by
    rw [Below.heap_setCell _ _ _ b (by simp; omega)]
  replace hr0 := rd_step goodw_SignalS hr0.out hsetp hszp hb
  replace hr1 := rd_step goodw_AssignS hr1.out hsetp hszp hb
  replace hr2 := goodw_InstS.wider (B' := w.heap.size + 1 + 1 + 1) hr2 (by rw [hszp]; omega) (Nat.le_refl _)
  have HP : w3.heap[w.heap.size]? = some (.cells #[.slice u0A (x.1).length u0c, .slice u1A (x.2.1).length u1c, .slice u2A (x.2.2.1).length u2c, .slice u3A (x.2.2.2).length u3c] 62 (0, 0)) := rowB' hb HPh.out
  have HR : w3.heap[w.heap.size + 1]? = some (.cells #[.slice none 0 0, .slice none 0 0, .slice none 0 0, .slice none 0 0] 35 (0, 0)) := rowB' hb HRh.out
  have HL : w3.heap[w.heap.size + 1 + 1]? = some (.cells #[.slice v0A (x.1).length v0c, .slice v1A (x.2.1).length v1c, .slice none 0 0, .slice none 0 0] 35 (0, 0)) := rowB' hb HLh.out
  have hW : Below w.heap.size w w3 := bThen hWh.out hb
  have hlt : w.heap.size + 1 + 1 < w3.heap.size := (Array.getElem?_eq_some_iff.1 HL).1
  clear hb hszp hsetp HPh HRh HLh hWh
  clear uc0 lc0 lf0 rc0 rf0
  clear uc1 lc1 lf1 rc1 rf1
  clear uc2 lc2 lf2 rc2 rf2
  clear uc3 lc3 lf3 rc3 rf3
  have vq2 := hr2
  obtain ⟨v2A, v2c, ve2, -⟩ := vq2
  injection ve2 with ve2
  subst ve2
  replace hr0 := Lib.hid hr0
  replace hr1 := Lib.hid hr1
  replace hr2 := Lib.hid hr2
  have uc0 : w3.cell? ⟨w.heap.size, 0, none⟩ = some (.slice u0A (x.1).length u0c) := box_cell HP 0 _ rfl
  have lc0 : w3.cell? ⟨w.heap.size + 1 + 1, 0, none⟩ = some (.slice v0A (x.1).length v0c) := box_cell HL 0 _ rfl
  have lf0 : w3.frozen? ⟨w.heap.size + 1 + 1, 0, none⟩ = false := frozen_of_row _ _ 0 _ _ HL
  have rc0 : w3.cell? ⟨w.heap.size + 1, 0, none⟩ = some (.slice none 0 0) := box_cell HR 0 _ rfl
  have rf0 : w3.frozen? ⟨w.heap.size + 1, 0, none⟩ = false := frozen_of_row _ _ 0 _ _ HR
  have uc1 : w3.cell? ⟨w.heap.size, 1, none⟩ = some (.slice u1A (x.2.1).length u1c) := box_cell HP 1 _ rfl
  have lc1 : w3.cell? ⟨w.heap.size + 1 + 1, 1, none⟩ = some (.slice v1A (x.2.1).length v1c) := box_cell HL 1 _ rfl
  have lf1 : w3.frozen? ⟨w.heap.size + 1 + 1, 1, none⟩ = false := frozen_of_row _ _ 1 _ _ HL
  have rc1 : w3.cell? ⟨w.heap.size + 1, 1, none⟩ = some (.slice none 0 0) := box_cell HR 1 _ rfl
  have rf1 : w3.frozen? ⟨w.heap.size + 1, 1, none⟩ = false := frozen_of_row _ _ 1 _ _ HR
  have uc2 : w3.cell? ⟨w.heap.size, 2, none⟩ = some (.slice u2A (x.2.2.1).length u2c) := box_cell HP 2 _ rfl
  have lc2 : w3.cell? ⟨w.heap.size + 1 + 1, 2, none⟩ = some (.slice none 0 0) := box_cell HL 2 _ rfl
  have lf2 : w3.frozen? ⟨w.heap.size + 1 + 1, 2, none⟩ = false := frozen_of_row _ _ 2 _ _ HL
  have rc2 : w3.cell? ⟨w.heap.size + 1, 2, none⟩ = some (.slice none 0 0) := box_cell HR 2 _ rfl
  have rf2 : w3.frozen? ⟨w.heap.size + 1, 2, none⟩ = false := frozen_of_row _ _ 2 _ _ HR
  have uc3 : w3.cell? ⟨w.heap.size, 3, none⟩ = some (.slice u3A (x.2.2.2).length u3c) := box_cell HP 3 _ rfl
  have lc3 : w3.cell? ⟨w.heap.size + 1 + 1, 3, none⟩ = some (.slice none 0 0) := box_cell HL 3 _ rfl
  have lf3 : w3.frozen? ⟨w.heap.size + 1 + 1, 3, none⟩ = false := frozen_of_row _ _ 3 _ _ HL
  have rc3 : w3.cell? ⟨w.heap.size + 1, 3, none⟩ = some (.slice none 0 0) := box_cell HR 3 _ rfl
  have rf3 : w3.frozen? ⟨w.heap.size + 1, 3, none⟩ = false := frozen_of_row _ _ 3 _ _ HR
  replace HP : (w3.setCell ⟨w.heap.size + 1 + 1, 2, none⟩ (.slice v2A (x.2.2.1).length v2c)).heap[w.heap.size]? = some (.cells #[.slice u0A (x.1).length u0c, .slice u1A (x.2.1).length u1c, .slice u2A (x.2.2.1).length u2c, .slice u3A (x.2.2.2).length u3c] 62 (0, 0)) := (Below.heap_setCell _ _ _ _ (by simp <;> omega)).trans HP
  replace HR : (w3.setCell ⟨w.heap.size + 1 + 1, 2, none⟩ (.slice v2A (x.2.2.1).length v2c)).heap[w.heap.size + 1]? = some (.cells #[.slice none 0 0, .slice none 0 0, .slice none 0 0, .slice none 0 0] 35 (0, 0)) := (Below.heap_setCell _ _ _ _ (by simp <;> omega)).trans HR
  replace HL : (w3.setCell ⟨w.heap.size + 1 + 1, 2, none⟩ (.slice v2A (x.2.2.1).length v2c)).heap[w.heap.size + 1 + 1]? = some (.cells #[.slice v0A (x.1).length v0c, .slice v1A (x.2.1).length v1c, .slice v2A (x.2.2.1).length v2c, .slice none 0 0] 35 (0, 0)) := heap_setCell_same _ _ 2 _ _ _ HL
  replace hW : Below w.heap.size w (w3.setCell ⟨w.heap.size + 1 + 1, 2, none⟩ (.slice v2A (x.2.2.1).length v2c)) := bSet hW (by simp <;> omega) _
  have HPh := Lib.hid HP
  have HRh := Lib.hid HR
  have HLh := Lib.hid HL
  have hWh := Lib.hid hW
  clear HP HR HL hW
  go_wp2_with fail
  refine (toMemS_w (x.2.2.2) u3A (x.2.2.2).length u3c _ (good_MemS.below U3.out hT hWh.out) (Nat.le_trans hT hWh.out.size) hs.2.2.2).mono ?_
  rintro e w4 ⟨v3, rfl, hr3, hb⟩
  have hszp : (w3.setCell ⟨w.heap.size + 1 + 1, 2, none⟩ (.slice v2A (x.2.2.1).length v2c)).heap.size = w3.heap.size := by simp
  have hsetp : ∀ b, w.heap.size + 1 + 1 + 1 ≤ b → (w3.setCell ⟨w.heap.size + 1 + 1, 2, none⟩ (.slice v2A (x.2.2.1).length v2c)).heap[b]? = w3.heap[b]? := fun b hb => by
    rw [Below.heap_setCell _ _ _ b (by simp; omega)]
  replace hr0 := rd_step goodw_SignalS hr0.out hsetp hszp hb
  replace hr1 := rd_step goodw_AssignS hr1.out hsetp hszp hb
  replace hr2 := rd_step goodw_InstS hr2.out hsetp hszp hb
  replace hr3 := goodw_MemS.wider (B' := w.heap.size + 1 + 1 + 1) hr3 (by rw [hszp]; omega) (Nat.le_refl _)
  have HP : w4.heap[w.heap.size]? = some (.cells #[.slice u0A (x.1).length u0c, .slice u1A (x.2.1).length u1c, .slice u2A (x.2.2.1).length u2c, .slice u3A (x.2.2.2).length u3c] 62 (0, 0)) := rowB' hb HPh.out
  have HR : w4.heap[w.heap.size + 1]? = some (.cells #[.slice none 0 0, .slice none 0 0, .slice none 0 0, .slice none 0 0] 35 (0, 0)) := rowB' hb HRh.out
  have HL : w4.heap[w.heap.size + 1 + 1]? = some (.cells #[.slice v0A (x.1).length v0c, .slice v1A (x.2.1).length v1c, .slice v2A (x.2.2.1).length v2c, .slice none 0 0] 35 (0, 0)) := rowB' hb HLh.out
  have hW : Below w.heap.size w w4 := bThen hWh.out hb
  have hlt : w.heap.size + 1 + 1 < w4.heap.size := (Array.getElem?_eq_some_iff.1 HL).1
  clear hb hszp hsetp HPh HRh HLh hWh
  clear uc0 lc0 lf0 rc0 rf0
  clear uc1 lc1 lf1 rc1 rf1
  clear uc2 lc2 lf2 rc2 rf2
  clear uc3 lc3 lf3 rc3 rf3
  have vq3 := hr3
  obtain ⟨v3A, v3c, ve3, -⟩ := vq3
  injection ve3 with ve3
  subst ve3
  replace hr0 := Lib.hid hr0
  replace hr1 := Lib.hid hr1
  replace hr2 := Lib.hid hr2
  replace hr3 := Lib.hid hr3
  have uc0 : w4.cell? ⟨w.heap.size, 0, none⟩ = some (.slice u0A (x.1).length u0c) := box_cell HP 0 _ rfl
  have lc0 : w4.cell? ⟨w.heap.size + 1 + 1, 0, none⟩ = some (.slice v0A (x.1).length v0c) := box_cell HL 0 _ rfl
  have lf0 : w4.frozen? ⟨w.heap.size + 1 + 1, 0, none⟩ = false := frozen_of_row _ _ 0 _ _ HL
  have rc0 : w4.cell? ⟨w.heap.size + 1, 0, none⟩ = some (.slice none 0 0) := box_cell HR 0 _ rfl
  have rf0 : w4.frozen? ⟨w.heap.size + 1, 0, none⟩ = false := frozen_of_row _ _ 0 _ _ HR
  have uc1 : w4.cell? ⟨w.heap.size, 1, none⟩ = some (.slice u1A (x.2.1).length u1c) := box_cell HP 1 _ rfl
  have lc1 : w4.cell? ⟨w.heap.size + 1 + 1, 1, none⟩ = some (.slice v1A (x.2.1).length v1c) := box_cell HL 1 _ rfl
  have lf1 : w4.frozen? ⟨w.heap.size + 1 + 1, 1, none⟩ = false := frozen_of_row _ _ 1 _ _ HL
  have rc1 : w4.cell? ⟨w.heap.size + 1, 1, none⟩ = some (.slice none 0 0) := box_cell HR 1 _ rfl
  have rf1 : w4.frozen? ⟨w.heap.size + 1, 1, none⟩ = false := frozen_of_row _ _ 1 _ _ HR
  have uc2 : w4.cell? ⟨w.heap.size, 2, none⟩ = some (.slice u2A (x.2.2.1).length u2c) := box_cell HP 2 _ rfl
  have lc2 : w4.cell? ⟨w.heap.size + 1 + 1, 2, none⟩ = some (.slice v2A (x.2.2.1).length v2c) := box_cell HL 2 _ rfl
  have lf2 : w4.frozen? ⟨w.heap.size + 1 + 1, 2, none⟩ = false := frozen_of_row _ _ 2 _ _ HL
  have rc2 : w4.cell? ⟨w.heap.size + 1, 2, none⟩ = some (.slice none 0 0) := box_cell HR 2 _ rfl
  have rf2 : w4.frozen? ⟨w.heap.size + 1, 2, none⟩ = false := frozen_of_row _ _ 2 _ _ HR
  have uc3 : w4.cell? ⟨w.heap.size, 3, none⟩ = some (.slice u3A (x.2.2.2).length u3c) := box_cell HP 3 _ rfl
  have lc3 : w4.cell? ⟨w.heap.size + 1 + 1, 3, none⟩ = some (.slice none 0 0) := box_cell HL 3 _ rfl
  have lf3 : w4.frozen? ⟨w.heap.size + 1 + 1, 3, none⟩ = false := frozen_of_row _ _ 3 _ _ HL
  have rc3 : w4.cell? ⟨w.heap.size + 1, 3, none⟩ = some (.slice none 0 0) := box_cell HR 3 _ rfl
  have rf3 : w4.frozen? ⟨w.heap.size + 1, 3, none⟩ = false := frozen_of_row _ _ 3 _ _ HR
  have hW' := Lib.hid hW
  clear HP HR HL hW
  go_wp2
  ((try simp only [Exit.inBlock, Exit.then]); refine bodyPost_ret (v := (.agg #[.slice v0A (x.1).length v0c, .slice v1A (x.2.1).length v1c, .slice v2A (x.2.2.1).length v2c, .slice v3A (x.2.2.2).length v3c])) (by rw [results_cell1 rfl]; go_simp) rfl ?_)
  have hB := hW'.out
  exact ⟨[.slice v0A (x.1).length v0c, .slice v1A (x.2.1).length v1c, .slice v2A (x.2.2.1).length v2c, .slice v3A (x.2.2.2).length v3c], rfl, ⟨_, _, _, _, rfl, goodw_SignalS _ _ _ _ w4 _ _ _ hr0.out (by omega) (by simp) (fun b hb1 _ => by (repeat (rw [Below.heap_setCell _ _ _ b (by simp; omega)]))), goodw_AssignS _ _ _ _ w4 _ _ _ hr1.out (by omega) (by simp) (fun b hb1 _ => by (repeat (rw [Below.heap_setCell _ _ _ b (by simp; omega)]))), goodw_InstS _ _ _ _ w4 _ _ _ hr2.out (by omega) (by simp) (fun b hb1 _ => by (repeat (rw [Below.heap_setCell _ _ _ b (by simp; omega)]))), goodw_MemS _ _ _ _ w4 _ _ _ hr3.out (by omega) (by simp) (fun b hb1 _ => by (repeat (rw [Below.heap_setCell _ _ _ b (by simp; omega)])))⟩, by (repeat' (first | assumption | exact Below.refl _ _ | refine bDrewN ?_ _ | refine Below.drew ?_ | refine bAlloc ?_ (Nat.le_refl _) _ | refine bSet ?_ (by first | exact Nat.le_refl _ | omega | (simp <;> omega)) _))⟩

theorem toModule_any (x : DModule) (us : List Value) {B T : Nat} (w : World) (h : rdModule B T w us x) (hT : T ≤ w.heap.size) (hs : smModule x) :
    Calls Try.prog 30 #[.agg us.toArray] w fun e w' => ∃ us', e = .returned (.agg us'.toArray) ∧ rdModule w.heap.size w'.heap.size w' us' x ∧ Below w.heap.size w w' :=
  (toModule_w x us w h hT hs).mono fun _ _ ⟨v, he, hr, hb⟩ => ⟨v, he, le_Module _ _ _ _ _ hr, hb⟩

theorem info_Module : (Try.prog.info? 35).map (fun i => (i.zero, i.size, i.bytes)) = some (some (.agg #[.slice none 0 0, .slice none 0 0, .slice none 0 0, .slice none 0 0]), 4, 96) := by kernel_rfl
set_option maxHeartbeats 3200000 in
theorem toModuleS_w (zs : List DModule) (a : Option Addr) (len cap : Nat) {B T : Nat} (w : World) (h : rdModuleS B T w [.slice a len cap] zs) (hT : T ≤ w.heap.size) (hs : smModuleS zs) :
    Calls Try.prog 82 #[.slice a len cap] w fun e w' => ∃ v, e = .returned v ∧ rwModuleS w.heap.size w'.heap.size w' [v] zs ∧ Below w.heap.size w w' := by
  obtain ⟨i0, hi, hz0, hz1, hz2⟩ := info_parts info_Module
  obtain ⟨A, c, ea, hm, hA⟩ := h
  injection ea with ea _
  injection ea with e1 e2 e3
  subst e1 e2 e3
  have hl : zs.length ≤ 1048576 := hs.1
  unfold maxLen at hm
  have HA := Lib.hid hA
  have HSM := Lib.hid hs
  clear hA hs
  go_enter Try.func82, Try.ntmps82
  go_wp2_with (at_make; refine wpList_make_full _ rfl _ _ 24 rfl w.heap.size 35 i0 (.agg #[.slice none 0 0, .slice none 0 0, .slice none 0 0, .slice none 0 0]) 4 Try.underlying24 hi hz0 hz1 .i64 .i64 (zs.length : Int) (zs.length : Int) zs.length rfl rfl rfl rfl (by rw [hz2]; omega) (by unfold maxLen; omega) (Nat.le_refl _) ?_; intro w1 hown1 hgrow1)
  have hown : OwnsR fV4 4 35 w1 w.heap.size (.slice (some ⟨w.heap.size, 0, none⟩) zs.length zs.length) (List.replicate zs.length (((.slice none 0 0 : Value), (.slice none 0 0 : Value), (.slice none 0 0 : Value), (.slice none 0 0 : Value)) : V4)) := by
    unfold OwnsR
    rw [List.length_replicate, ← made_rows fV4 4 fV4_len (((.slice none 0 0 : Value), (.slice none 0 0 : Value), (.slice none 0 0 : Value), (.slice none 0 0 : Value)) : V4) (.agg #[.slice none 0 0, .slice none 0 0, .slice none 0 0, .slice none 0 0] : Value).cells rfl (by omega)]; exact hown1
  have hB1 : Below w.heap.size w w1 := (Below.refl _ _).grown hgrow1 (Nat.le_refl _) (by intro g hg; cases hg)
  have HO := Lib.hid hown
  have HB := Lib.hid hB1
  clear hown1 hgrow1 hown hB1
  go_loopw [4] (fun v wr => ∃ (i : Nat) (rows : List V4), i ≤ zs.length ∧ v = .int .i64 i ∧ rows.length = zs.length ∧ OwnsR fV4 4 35 wr w.heap.size (.slice (some ⟨w.heap.size, 0, none⟩) zs.length zs.length) rows ∧
      (∀ j x, j < i → zs[j]? = some x → ∃ r, rows[j]? = some r ∧ rwModule (w.heap.size + 1) wr.heap.size wr (fV4 r) x) ∧ Below w.heap.size w wr) (fun v _ => zs.length - (intOf v).toNat)
  case atStart => exact ⟨0, _, Nat.zero_le _, rfl, List.length_replicate, HO.out, fun j x hj => absurd hj (by omega), HB.out⟩
  case round =>
    obtain ⟨i, rows, hi', rfl, hrl, hown, hrd, hb⟩ := hrel
    clear HO HB
    have HO := Lib.hid hown
    have HB := Lib.hid hb
    have HD := Lib.hid hrd
    by_cases hlt : i < zs.length
    · obtain ⟨b, o, rfl, _, hbT, us, hul, hc, hr⟩ := HA.out i hlt
      obtain ⟨x, hx⟩ : ∃ x, zs[i] = x := ⟨_, rfl⟩
      have hxm : x ∈ zs := by rw [← hx]; exact List.getElem_mem hlt
      have hx? : zs[i]? = some x := by rw [List.getElem?_eq_getElem hlt, hx]
      rw [hx] at hr
      have hr0 := hr
      obtain ⟨u0, u1, u2, u3, rfl, _⟩ := hr0
      have c0 : wr.cell? ⟨b, o + i * 4, none⟩ = some u0 := keep hb (hc 0 _ rfl)
      have c1 : wr.cell? ⟨b, o + i * 4 + 1, none⟩ = some u1 := keep hb (hc 1 _ rfl)
      have c2 : wr.cell? ⟨b, o + i * 4 + 2, none⟩ = some u2 := keep hb (hc 2 _ rfl)
      have c3 : wr.cell? ⟨b, o + i * 4 + 3, none⟩ = some u3 := keep hb (hc 3 _ rfl)
      have hrs := good_Module.below hr hT hb
      have HR := Lib.hid hrs
      obtain ⟨A2, c2, hv, hsh⟩ := OwnsR.shape fV4_len hown
      obtain ⟨g, hg, _⟩ := hsh i (by omega)
      rw [hrl] at hv
      injection hv with hv1 hv2 hv3
      subst hv1 hv3
      injection hg with hg
      injection hg with hg
      subst hg
      have hgw : w.heap.size + 1 ≤ wr.heap.size := by
        obtain ⟨g, hg, hcc⟩ := hsh i (by omega)
        injection hg with hg
        injection hg with hg
        subst hg
        exact World.block_lt_of_cell? _ _ (hcc 0 _ rfl).1
      clear hr hown hb hrd hc hsh hbT hrs
      go_wp2_with fail
      refine (toModule_w x [u0, u1, u2, u3] _ HR.out (Nat.le_trans hT HB.out.size) (HSM.out.2 x hxm)).mono ?_
      rintro e w2 ⟨us', rfl, hr2, hb2⟩
      have hr3 := hr2
      obtain ⟨v0, v1, v2, v3, rfl, vh0, vh1, vh2, vh3⟩ := hr3
      obtain ⟨v0A, v0c, ve0, -⟩ := vh0
      injection ve0 with ve0
      subst ve0
      obtain ⟨v1A, v1c, ve1, -⟩ := vh1
      injection ve1 with ve1
      subst ve1
      obtain ⟨v2A, v2c, ve2, -⟩ := vh2
      injection ve2 with ve2
      subst ve2
      obtain ⟨v3A, v3c, ve3, -⟩ := vh3
      injection ve3 with ve3
      subst ve3
      have hown2 := HO.out.below hb2
      have hB2 := bThen HB.out hb2
      have hw2s := hb2.size
      obtain ⟨A3, c3, hv, hsh⟩ := OwnsR.shape fV4_len hown2
      obtain ⟨g, hg, hcc⟩ := hsh i (by omega)
      rw [hrl] at hv
      injection hv with hv1 hv2 hv3
      subst hv1 hv3
      injection hg with hg
      injection hg with hg
      subst hg
      obtain ⟨r, hrow⟩ : ∃ r, rows[i]'(by omega) = r := ⟨_, rfl⟩
      rw [hrow] at hcc
      have y0 : w2.cell? ⟨w.heap.size, i * 4, none⟩ = some r.1 := (hcc 0 _ rfl).1
      have z0 : w2.frozen? ⟨w.heap.size, i * 4, none⟩ = false := (hcc 0 _ rfl).2
      have y1 : w2.cell? ⟨w.heap.size, i * 4 + 1, none⟩ = some r.2.1 := (hcc 1 _ rfl).1
      have z1 : w2.frozen? ⟨w.heap.size, i * 4 + 1, none⟩ = false := (hcc 1 _ rfl).2
      have y2 : w2.cell? ⟨w.heap.size, i * 4 + 2, none⟩ = some r.2.2.1 := (hcc 2 _ rfl).1
      have z2 : w2.frozen? ⟨w.heap.size, i * 4 + 2, none⟩ = false := (hcc 2 _ rfl).2
      have y3 : w2.cell? ⟨w.heap.size, i * 4 + 3, none⟩ = some r.2.2.2 := (hcc 3 _ rfl).1
      have z3 : w2.frozen? ⟨w.heap.size, i * 4 + 3, none⟩ = false := (hcc 3 _ rfl).2
      have hown3 : OwnsR fV4 4 35 w2 w.heap.size (.slice (some ⟨w.heap.size, 0, none⟩) rows.length zs.length) rows := by rw [hrl]; exact hown2
      have hs0 := OwnsR.stored fV4_len (j := i) (i := 0) (u := (.slice v0A (x.1).length v0c : Value)) (y := (((.slice v0A (x.1).length v0c : Value), r.2.1, r.2.2.1, r.2.2.2) : V4)) hown3 (by first | omega | (simp only [List.length_set]; omega)) (by omega) (by rw [hrow]; rfl)
      have hown4 := hs0.1
      rw [← (List.length_set : (rows.set i (((.slice v0A (x.1).length v0c : Value), r.2.1, r.2.2.1, r.2.2.2) : V4)).length = rows.length)] at hown4
      have hs1 := OwnsR.stored fV4_len (j := i) (i := 1) (u := (.slice v1A (x.2.1).length v1c : Value)) (y := (((.slice v0A (x.1).length v0c : Value), (.slice v1A (x.2.1).length v1c : Value), r.2.2.1, r.2.2.2) : V4)) hown4 (by first | omega | (simp only [List.length_set]; omega)) (by omega) (by rw [List.getElem_set_self]; rfl)
      have hown5 := hs1.1
      rw [← (List.length_set : ((rows.set i (((.slice v0A (x.1).length v0c : Value), r.2.1, r.2.2.1, r.2.2.2) : V4)).set i (((.slice v0A (x.1).length v0c : Value), (.slice v1A (x.2.1).length v1c : Value), r.2.2.1, r.2.2.2) : V4)).length = (rows.set i (((.slice v0A (x.1).length v0c : Value), r.2.1, r.2.2.1, r.2.2.2) : V4)).length)] at hown5
      have hs2 := OwnsR.stored fV4_len (j := i) (i := 2) (u := (.slice v2A (x.2.2.1).length v2c : Value)) (y := (((.slice v0A (x.1).length v0c : Value), (.slice v1A (x.2.1).length v1c : Value), (.slice v2A (x.2.2.1).length v2c : Value), r.2.2.2) : V4)) hown5 (by first | omega | (simp only [List.length_set]; omega)) (by omega) (by rw [List.getElem_set_self]; rfl)
      have hown6 := hs2.1
      rw [← (List.length_set : (((rows.set i (((.slice v0A (x.1).length v0c : Value), r.2.1, r.2.2.1, r.2.2.2) : V4)).set i (((.slice v0A (x.1).length v0c : Value), (.slice v1A (x.2.1).length v1c : Value), r.2.2.1, r.2.2.2) : V4)).set i (((.slice v0A (x.1).length v0c : Value), (.slice v1A (x.2.1).length v1c : Value), (.slice v2A (x.2.2.1).length v2c : Value), r.2.2.2) : V4)).length = ((rows.set i (((.slice v0A (x.1).length v0c : Value), r.2.1, r.2.2.1, r.2.2.2) : V4)).set i (((.slice v0A (x.1).length v0c : Value), (.slice v1A (x.2.1).length v1c : Value), r.2.2.1, r.2.2.2) : V4)).length)] at hown6
      have hs3 := OwnsR.stored fV4_len (j := i) (i := 3) (u := (.slice v3A (x.2.2.2).length v3c : Value)) (y := (((.slice v0A (x.1).length v0c : Value), (.slice v1A (x.2.1).length v1c : Value), (.slice v2A (x.2.2.1).length v2c : Value), (.slice v3A (x.2.2.2).length v3c : Value)) : V4)) hown6 (by first | omega | (simp only [List.length_set]; omega)) (by omega) (by rw [List.getElem_set_self]; rfl)
      have ho := hs3.1
      (try simp only [List.set_set, List.length_set] at ho)
      rw [hrl] at ho
      obtain ⟨w3, hw3⟩ : ∃ w3, w3 = ((((w2.setCell ⟨w.heap.size, i * 4 + 0, none⟩ (.slice v0A (x.1).length v0c : Value)).setCell ⟨w.heap.size, i * 4 + 1, none⟩ (.slice v1A (x.2.1).length v1c : Value)).setCell ⟨w.heap.size, i * 4 + 2, none⟩ (.slice v2A (x.2.2.1).length v2c : Value)).setCell ⟨w.heap.size, i * 4 + 3, none⟩ (.slice v3A (x.2.2.2).length v3c : Value)) := ⟨_, rfl⟩
      have hsame : ∀ b, w.heap.size + 1 ≤ b → w3.heap[b]? = w2.heap[b]? := fun b hb => by
        rw [hw3]
        rw [Below.heap_setCell _ _ _ b (by simp; omega)]; rw [Below.heap_setCell _ _ _ b (by simp; omega)]; rw [Below.heap_setCell _ _ _ b (by simp; omega)]; rw [Below.heap_setCell _ _ _ b (by simp; omega)]
      have hsz : w3.heap.size = w2.heap.size := by rw [hw3]; simp
      have ho3 : OwnsR fV4 4 35 w3 w.heap.size (.slice (some ⟨w.heap.size, 0, none⟩) zs.length zs.length) (rows.set i (((.slice v0A (x.1).length v0c : Value), (.slice v1A (x.2.1).length v1c : Value), (.slice v2A (x.2.2.1).length v2c : Value), (.slice v3A (x.2.2.2).length v3c : Value)) : V4)) := by rw [hw3]; exact ho
      have hB3 : Below w.heap.size w w3 := by
        rw [hw3]
        exact bSet (bSet (bSet (bSet (hB2) (Nat.le_refl _) _) (Nat.le_refl _) _) (Nat.le_refl _) _) (Nat.le_refl _) _
      have hrd3 : ∀ j y, j < i + 1 → zs[j]? = some y → ∃ r, (rows.set i (((.slice v0A (x.1).length v0c : Value), (.slice v1A (x.2.1).length v1c : Value), (.slice v2A (x.2.2.1).length v2c : Value), (.slice v3A (x.2.2.2).length v3c : Value)) : V4))[j]? = some r ∧ rwModule (w.heap.size + 1) w3.heap.size w3 (fV4 r) y := by
        intro j y hj hy
        by_cases hji : j = i
        · subst hji
          rw [hx?] at hy
          injection hy with hy
          subst hy
          refine ⟨(((.slice v0A (x.1).length v0c : Value), (.slice v1A (x.2.1).length v1c : Value), (.slice v2A (x.2.2.1).length v2c : Value), (.slice v3A (x.2.2.2).length v3c : Value)) : V4), by rw [List.getElem?_set_self (by omega)], ?_⟩
          exact goodw_Module _ _ _ _ w2 w3 _ _ hr2 (by omega) (by omega) fun b hb1 _ => hsame b (by omega)
        · obtain ⟨r', hr', hp⟩ := HD.out j y (by omega) hy
          refine ⟨r', by rw [List.getElem?_set_ne (by omega)]; exact hr', ?_⟩
          exact goodw_Module _ _ _ _ wr w3 _ _ hp (Nat.le_refl _) (by omega) fun b hb1 hb2' => (hsame b hb1).trans (hb2.block b hb2')
      have R := Lib.hid (And.intro ho3 (And.intro hB3 (And.intro hrd3 hw3)))
      have hset : (rows.set i (((.slice v0A (x.1).length v0c : Value), (.slice v1A (x.2.1).length v1c : Value), (.slice v2A (x.2.2.1).length v2c : Value), (.slice v3A (x.2.2.2).length v3c : Value)) : V4)).length = zs.length := by rw [List.length_set]; exact hrl
      have HSET := Lib.hid hset
      clear hs0 hs1 hs2 hs3 hown3 hown4 hown5 hown6 ho hsame hsz ho3 hB3 hrd3 hB2 hown2 hsh hcc hset hr2 hrow HR
      skip
      go_wp2
      go_roundw
      case rel =>
        have hw := R.out.2.2.2
        refine ⟨i + 1, _, by omega, by go_num, HSET.out, ?_, ?_, ?_⟩
        · first | exact hw ▸ R.out.1 | (have h := R.out.1; rw [hw] at h; exact h)
        · have h := R.out.2.2.1; rw [hw] at h; exact h
        · have h := R.out.2.1; rw [hw] at h; exact h
      case measure => simp [intOf]; omega
    · obtain rfl : i = zs.length := by omega
      have hwz := hb.size
      clear hown hrd hb
      go_wp2
      go_ret
      refine ⟨_, rfl, ⟨_, _, rfl, by unfold maxLen; omega, fun j hj => ?_⟩, HB.out⟩
      obtain ⟨A2, c2, hv, hsh⟩ := OwnsR.shape fV4_len HO.out
      obtain ⟨g, hg, hcc⟩ := hsh j (by omega)
      rw [hrl] at hv
      injection hv with hv1 hv2 hv3
      subst hv1
      injection hg with hg
      injection hg with hg
      subst hg
      obtain ⟨r, hr, hp⟩ := HD.out j zs[j] hj (List.getElem?_eq_getElem hj)
      have hr' : rows[j]'(by omega) = r := by rw [List.getElem?_eq_getElem (by omega)] at hr; injection hr
      rw [hr'] at hcc
      have hlt0 : w.heap.size < wr.heap.size := World.block_lt_of_cell? _ _ (hcc 0 _ rfl).1
      refine ⟨w.heap.size, 0, rfl, Nat.le_refl _, hlt0, fV4 r, fV4_len r, fun t u hu => ?_, goodw_Module.wider hp (by omega) (Nat.le_refl _)⟩
      rw [Nat.zero_add]
      exact hcc t u hu

theorem toModuleS_any (zs : List DModule) (a : Option Addr) (len cap : Nat) {B T : Nat} (w : World) (h : rdModuleS B T w [.slice a len cap] zs) (hT : T ≤ w.heap.size) (hs : smModuleS zs) :
    Calls Try.prog 82 #[.slice a len cap] w fun e w' => ∃ v, e = .returned v ∧ rdModuleS w.heap.size w'.heap.size w' [v] zs ∧ Below w.heap.size w w' :=
  (toModuleS_w zs a len cap w h hT hs).mono fun _ _ ⟨v, he, hr, hb⟩ => ⟨v, he, le_ModuleS _ _ _ _ _ hr, hb⟩
end Go.Proofs.Ytllddjkdjdohhaa
