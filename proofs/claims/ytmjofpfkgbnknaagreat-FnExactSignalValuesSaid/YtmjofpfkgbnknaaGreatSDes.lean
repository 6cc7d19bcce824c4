/-
  Valid modules and designs, as the reference judges them: the whole.
-/
import Derived.Test.YtmjofpfkgbnknaaGreatSMod
namespace Go.Proofs.YtmjofpfkgbnknaaGreat
open Go.RowKit
set_option linter.unusedVariables false
set_option linter.unusedSimpArgs false

set_option maxRecDepth 100000 in
set_option maxHeartbeats 6400000 in
theorem specDesign_at (d : DDesign) (us : List Value) {B T : Nat} {r : Bool} (w : World) (hd : rdDesign B T w us d) (hT : T ≤ w.heap.size) (hr : designB d = r) :
    Calls Tryz.prog 42 #[.agg us.toArray] w fun e w' => e = .returned (.bool r) ∧ Below w.heap.size w w' := by
  have HR := Lib.hid hr
  have HD := Lib.hid hd
  obtain ⟨du, rfl, dh⟩ := hd
  obtain ⟨dA, dq, de, dm, dk⟩ := dh
  injection de with de
  subst de
  unfold maxLen at dm
  have DE := Lib.hid dk
  clear dk
  clear hr
  obtain ⟨v, hv⟩ : ∃ v, decide (1 ≤ (d.length : Int) ∧ (d.length : Int) ≤ 4) = v := ⟨_, rfl⟩
  have HVV := Lib.hid hv
  have HW0 : ∀ W : World, W = w.alloc (.cells #[.slice dA d.length dq] 36) → W.cell? ⟨w.heap.size, 0, none⟩ = some (.slice dA d.length dq) ∧ Below w.heap.size w W := fun W hW => by
    have g := eqbox1 hW
    exact ⟨box_cell g.1 0 _ rfl, g.2⟩
  have HWH := Lib.hid HW0
  clear hv HW0
  go_enter Tryz.func42, Tryz.ntmps42
  go_wp2_with fail
  obtain ⟨W, hW⟩ : ∃ W, W = w.alloc (.cells #[.slice dA d.length dq] 36) := ⟨_, rfl⟩
  rw [← hW]
  have g := HWH.out W hW
  have e0 := g.1
  have HW := Lib.hid g.2
  clear hW g
  refine (l01In_at (d.length : Int) 1 4 _ HVV.out).mono ?_
  rintro e w1' ⟨rfl, rfl⟩
  cases v
  · have HF := Lib.hid (show r = false by
      rw [← HR.out]; unfold designB
      have h := of_decide_eq_false HVV.out
      rw [decide_eq_false (by omega)]; rfl)
    go_wp2
    go_ret
    exact ⟨ret_bool (by rw [HF.out]), HW.out⟩
  · have HLN := Lib.hid (show decide (1 ≤ d.length ∧ d.length ≤ 4) = true by
      have h := of_decide_eq_true HVV.out
      exact decide_eq_true (by omega))
    go_wp2
    go_loopw [3] (fun v wr => ∃ i : Nat, i ≤ d.length ∧ v = .int .i64 i ∧ AllR (fun k : Nat => moduleB d k) i ∧ Below W.heap.size W wr) (fun v _ => d.length - (intOf v).toNat)
    case atStart => exact ⟨0, Nat.zero_le _, rfl, AllR.nil _, Below.refl _ _⟩
    case round =>
      obtain ⟨i, hi, rfl, hall, hb⟩ := hrel
      obtain ⟨W2, rfl⟩ : ∃ W2, W2 = wr := ⟨_, rfl⟩
      have HL := Lib.hid hall
      have HB := Lib.hid hb
      have HW2 := Lib.hid (bThen HW.out hb)
      replace e0 := keep hb e0
      clear hb hall
      by_cases hlt : i < d.length
      · obtain ⟨q, hq⟩ : ∃ q, moduleB d i = q := ⟨_, rfl⟩
        have HQ := Lib.hid hq
        clear hq
        go_wp2_with fail
        refine (specModule_at d i _ _ (good_Design.below HD.out hT HW2.out) (Nat.le_trans hT HW2.out.size) HQ.out).mono ?_
        rintro e w3 ⟨rfl, hb3⟩
        have HW3 := Lib.hid (bThen HW2.out hb3)
        have HB3 := Lib.hid (bThen HB.out hb3)
        clear hb3
        cases q
        · have HNO := Lib.hid (designB_no i hlt HQ.out)
          go_wp2
          go_ret
          exact ⟨ret_bool (by rw [← HR.out]; exact HNO.out.symm), HW3.out⟩
        · go_wp2
          go_roundw
          case rel => exact ⟨i + 1, by omega, by go_num, AllR.step HQ.out HL.out, HB3.out⟩
          case measure => simp [intOf]; omega
      · obtain rfl : i = d.length := by omega
        have HY := Lib.hid (show r = true by rw [← HR.out]; unfold designB; rw [HLN.out]; exact HL.out)
        go_wp2
        go_ret
        exact ⟨ret_bool (by rw [HY.out]), HW2.out⟩
end Go.Proofs.YtmjofpfkgbnknaaGreat
