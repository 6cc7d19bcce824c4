/-
  The type Design as the exact laws' helpers see it.
-/
import Derived.Test.YtllddjkdjdohhaaDtDesign
import Derived.Test.YtllddjkdjdohhaaDmModule
namespace Go.Proofs.Ytllddjkdjdohhaa
open Go.RowKit
set_option linter.unusedVariables false
set_option linter.unusedSimpArgs false
def cntDesign (x : DDesign) : Nat := cntModuleS (x)
def cntDesignS (L : List DDesign) : Nat := (L.map cntDesign).sum
theorem cntDesignS_step (L : List DDesign) (i : Nat) (x : DDesign) (h : L[i]? = some x) : cntDesignS (L.take (i + 1)) = cntDesignS (L.take i) + cntDesign x := by
  unfold cntDesignS; rw [List.take_add_one, h, List.map_append, List.sum_append]; simp
theorem cntDesignS_le (L : List DDesign) (i : Nat) : cntDesignS (L.take i) ≤ cntDesignS L := by
  have h := List.take_append_drop i L
  unfold cntDesignS
  rw [← h, List.map_append, List.sum_append, h]; omega

set_option maxHeartbeats 3200000 in
theorem markDesign_arg (x : DDesign) (us : List Value) {B T : Nat} (k : Int) (w0 wb w : World) (h : rwDesign B T w0 us x) (hT : T ≤ w0.heap.size) (hs : Sims B T w0 w) (hsb : Sims B T wb w) (hk0 : 0 ≤ k) (hk : k + ((cntModuleS (x) : Int)) ≤ 4611686018427387904) :
    Calls Try.prog 44 #[.agg us.toArray, .int .i64 k] w fun e w' => (∃ r : Int, 0 ≤ r ∧ e = .returned (.int .i64 r)) ∧ Sims B T w0 w' ∧ Sims B T wb w' := by
  have HS := Lib.hid (And.intro hs hsb)
  clear hs hsb
  obtain ⟨x0, rfl, xh0⟩ := h
  have xR0 := Lib.hid xh0
  obtain ⟨xA0, xq0, xe0, xm0, -⟩ := xh0
  injection xe0 with xe0
  subst xe0
  obtain ⟨t0, ht0⟩ : ∃ c : Int, (cntModuleS (x) : Int) = c := ⟨_, rfl⟩
  have HC0 := Lib.hid ht0
  have h0 : 0 ≤ t0 := by omega
  rw [ht0] at hk
  clear ht0
  go_enter Try.func44, Try.ntmps44
  go_wp2_with fail
  obtain ⟨V, hV⟩ : ∃ V, V = w.alloc (.cells #[.slice xA0 (x).length xq0] 26) := ⟨_, rfl⟩
  rw [← hV]
  have g := eqbox1 hV
  have c0 : V.cell? ⟨w.heap.size, 0, none⟩ = some (.slice xA0 (x).length xq0) := box_cell g.1 0 _ rfl
  have HR0 := Lib.hid (And.intro (HS.out.1.below g.2) (HS.out.2.below g.2))
  have HG := Lib.hid g.1
  have hlt : T ≤ w.heap.size := Nat.le_trans hT HS.out.1.size
  have HV0 := Lib.hid (Sims.refl B T V)
  clear hV g
  obtain ⟨Vp0, hvp⟩ : ∃ Vp, Vp = V := ⟨_, rfl⟩
  refine (markModuleS_both (x) _ _ w0 wb V _ xR0.out hT HR0.out.1 HR0.out.2 HV0.out (by omega) (by rw [HC0.out]; omega)).mono ?_
  rintro e W1 ⟨rfl, hr, hrb, hrv⟩
  rw [HC0.out]
  have HR1 := Lib.hid (And.intro hr hrb)
  have HV1 := Lib.hid hrv
  have c0' : W1.cell? ⟨w.heap.size, 0, none⟩ = some (.slice xA0 (x).length xq0) := sims_box hrv HG.out hlt 0 _ rfl
  clear hr hrb hrv hvp c0
  have c0 := c0'
  clear c0'
  go_wp2
  go_ret
  exact ⟨⟨_, by omega, rfl⟩, HR1.out.1, HR1.out.2⟩
end Go.Proofs.Ytllddjkdjdohhaa
