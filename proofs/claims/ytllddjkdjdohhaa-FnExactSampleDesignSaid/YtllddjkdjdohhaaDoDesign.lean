/-
  The type Design as the exact laws' helpers see it.
-/
import Derived.Test.YtllddjkdjdohhaaDmDesign
import Derived.Test.YtllddjkdjdohhaaDoModule
namespace Go.Proofs.Ytllddjkdjdohhaa
open Go.RowKit
set_option linter.unusedVariables false
set_option linter.unusedSimpArgs false

abbrev owDesign : Ow DDesign := ow1 owModuleS
theorem gow_Design : Ow.Good owDesign := ow1_good gow_ModuleS
theorem rds_Design : Ow.Rds owDesign rdDesign := ow1_rds rds_ModuleS
abbrev owDesignS : Ow (List DDesign) := owS 1 owDesign
theorem gow_DesignS : Ow.Good owDesignS := owS_good 1 gow_Design
theorem rds_DesignS : Ow.Rds owDesignS rdDesignS := owS_rds 1 rds_Design
def numDesign (k : Int) (x : DDesign) : DDesign := numModuleS (k) (x)
def numDesignS (k : Int) (L : List DDesign) : List DDesign := numG numDesign cntDesign k L
theorem cntG_DesignS (L : List DDesign) : cntG cntDesign L = cntDesignS L := rfl

/-- Its slices numbered. -/
def numVDesign (k : Int) (x : DDesign) : DDesign := numModuleS (k) (x)
def cntVDesign (x : DDesign) : Nat := cntModuleS (x)
set_option maxHeartbeats 6400000 in
theorem markDesign_own (x : DDesign) (us : List Value) (bs : List Nat) (k : Int) (w : World) (h : owDesign bs w us x) (nd : bs.Nodup) (hk0 : 0 ≤ k) (hk : k + (cntVDesign x : Int) ≤ 4611686018427387904) :
    Calls Try.prog 44 #[.agg us.toArray, .int .i64 k] w fun e w' => e = .returned (.int .i64 (k + (cntVDesign x : Int))) ∧ owDesign bs w' us (numVDesign k x) ∧ ChgL bs w w' := by
  have hend : k + (cntVDesign x : Int) = k + (cntModuleS (x) : Int) := by unfold cntVDesign; omega
  rw [hend] at hk ⊢
  unfold numVDesign
  obtain ⟨u0, rfl, h0⟩ := h
  obtain ⟨b0, hb0⟩ : ∃ b0, b0 = bs := ⟨_, rfl⟩
  subst hb0
  have q0 := h0
  obtain ⟨xA0, xq0, e0, -⟩ := q0
  injection e0 with e0
  subst e0
  have hn0 : b0.Nodup := by exact nd
  have hg0 : w.heap.size ∉ b0 := fun hb => Nat.lt_irrefl _ (gow_ModuleS.lt _ _ _ _ h0 _ hb)
  obtain ⟨t0, ht0⟩ : ∃ c : Int, (cntModuleS (x) : Int) = c := ⟨_, rfl⟩
  have hp0 : 0 ≤ t0 := by omega
  have HC0 := Lib.hid ht0
  simp only [ht0] at hk ⊢
  clear hend nd ht0
  have O0 := Lib.hid h0
  clear h0
  go_enter Try.func44, Try.ntmps44
  go_wp2_with fail
  obtain ⟨V, hV⟩ : ∃ V, V = w.alloc (.cells #[.slice xA0 (x).length xq0] 26) := ⟨_, rfl⟩
  rw [← hV]
  have g := eqbox1 hV
  have c0 : V.cell? ⟨w.heap.size, 0, none⟩ = some (.slice xA0 (x).length xq0) := box_cell g.1 0 _ rfl
  replace O0 := Lib.hid (gow_ModuleS.frame _ _ _ _ _ O0.out fun b hb => g.2.block b (gow_ModuleS.lt _ _ _ _ O0.out b hb))
  have HG0 := Lib.hid g.2
  clear hV g
  refine (markModuleS_own (x) _ _ _ b0 _ _ O0.out hn0 (by omega) (by rw [HC0.out]; omega)).mono ?_
  rintro e W1 ⟨rfl, ho, hch⟩
  rw [HC0.out]
  replace c0 := chg_cell hch hg0 c0
  replace O0 := Lib.hid ho
  have hG : ChgL b0 w W1 := ChgL.trans (ChgL.below (ChgL.refl b0 w) HG0.out) (hch.wider fun b hb => by simp [hb])
  have HG1 := Lib.hid hG
  clear hG ho hch
  go_wp2
  go_ret
  exact ⟨rfl, ⟨_, rfl, O0.out⟩, HG1.out⟩
set_option maxHeartbeats 3200000 in
theorem heldDesign_num (x : DDesign) (us : List Value) {B T : Nat} (k : Int) (w : World) (h : rdDesign B T w us (numVDesign k x)) (hT : T ≤ w.heap.size) (hk0 : 0 ≤ k) (hk : k + (cntVDesign x : Int) ≤ 4611686018427387904) :
    Calls Try.prog 45 #[.agg us.toArray, .int .i64 k] w fun e w' => e = .returned (.int .i64 (k + (cntVDesign x : Int))) ∧ Below w.heap.size w w' := by
  have hend : k + (cntVDesign x : Int) = k + (cntModuleS (x) : Int) := by unfold cntVDesign; omega
  rw [hend] at hk ⊢
  unfold numVDesign at h
  obtain ⟨u0, rfl, h0⟩ := h
  obtain ⟨t0, ht0⟩ : ∃ c : Int, (cntModuleS (x) : Int) = c := ⟨_, rfl⟩
  have hp0 : 0 ≤ t0 := by omega
  have HC0 := Lib.hid ht0
  (try simp only [ht0] at h0)
  have O0 := Lib.hid h0
  obtain ⟨xA0, xq0, e0, -⟩ := h0
  (try dsimp only at e0)
  rw [numModuleS_len] at e0
  injection e0 with e0
  subst e0
  simp only [ht0] at hk ⊢
  clear hend ht0
  go_enter Try.func45, Try.ntmps45
  go_wp2_with fail
  refine (heldModuleS_num (x) _ _ _ (good_ModuleS.below O0.out hT (by (repeat' (first | assumption | exact Below.refl _ _ | refine bDrewN ?_ _ | refine Below.drew ?_ | refine bAlloc ?_ (Nat.le_refl _) _ | refine bSet ?_ (by first | exact Nat.le_refl _ | omega | (simp <;> omega)) _)))) (Nat.le_trans hT (by simp <;> omega)) (by omega) (by rw [HC0.out]; omega)).mono ?_
  rintro e W1 ⟨rfl, hbb⟩
  rw [HC0.out]
  have g := box1 hbb
  have c0 : W1.cell? ⟨w.heap.size, 0, none⟩ = some (.slice xA0 (x).length xq0) := box_cell g.1 0 _ rfl
  have HB1 := Lib.hid g.2
  clear g
  have tn1 : ¬ (k + t0) < 0 := by omega
  clear hbb
  go_wp2
  go_ret
  exact ⟨rfl, HB1.out⟩
end Go.Proofs.Ytllddjkdjdohhaa
