/-
  The type Assign as the exact laws' helpers see it.
-/
import Derived.Test.YtllddjkdjdohhaaDtAssign
import Derived.Test.YtllddjkdjdohhaaDmOp
namespace Go.Proofs.Ytllddjkdjdohhaa
open Go.RowKit
set_option linter.unusedVariables false
set_option linter.unusedSimpArgs false
def cntAssign (x : DAssign) : Nat := 1 + cntOpS (x.2)
def cntAssignS (L : List DAssign) : Nat := (L.map cntAssign).sum
theorem cntAssignS_step (L : List DAssign) (i : Nat) (x : DAssign) (h : L[i]? = some x) : cntAssignS (L.take (i + 1)) = cntAssignS (L.take i) + cntAssign x := by
  unfold cntAssignS; rw [List.take_add_one, h, List.map_append, List.sum_append]; simp
theorem cntAssignS_le (L : List DAssign) (i : Nat) : cntAssignS (L.take i) ≤ cntAssignS L := by
  have h := List.take_append_drop i L
  unfold cntAssignS
  rw [← h, List.map_append, List.sum_append, h]; omega
theorem bndAssign (x : DAssign) (h : smAssign x) : cntAssign x ≤ 3145729 := by
  unfold smAssign at h
  unfold cntAssign
  have h1 := bndOpS _ h
  omega
theorem bndAssignS (L : List DAssign) (h : smAssignS L) : cntAssignS L ≤ 3298535931904 := by
  have h1 := sum_le cntAssign 3145729 L fun x hx => bndAssign x (h.2 x hx)
  have h2 := h.1
  unfold cntAssignS
  omega

set_option maxHeartbeats 3200000 in
theorem markAssignS_arg (L : List DAssign) (v : Value) {B T : Nat} (k : Int) (w0 wb w : World) (h : rwAssignS B T w0 [v] L) (hT : T ≤ w0.heap.size) (hs : Sims B T w0 w) (hsb : Sims B T wb w) (hk0 : 0 ≤ k) (hk : k + (cntAssignS L : Int) ≤ 4611686018427387904) :
    Calls Try.prog 77 #[v, .int .i64 k] w fun e w' => e = .returned (.int .i64 (k + (cntAssignS L : Int))) ∧ Sims B T w0 w' ∧ Sims B T wb w' := by
  obtain ⟨A, c, ea, hm, hA⟩ := h
  injection ea with ea
  subst ea
  unfold maxLen at hm
  have HA := Lib.hid hA
  have HS := Lib.hid (And.intro hs hsb)
  clear hA hs hsb
  go_enter Try.func77, Try.ntmps77
  go_wp2
  go_loopw [1, 5] (fun q v wr => ∃ i : Nat, i ≤ L.length ∧ v = .int .i64 i ∧ q = .int .i64 (k + (cntAssignS (L.take i) : Int)) ∧ Sims B T w0 wr ∧ Sims B T wb wr) (fun _ v _ => L.length - (intOf v).toNat)
  case atStart => exact ⟨0, Nat.zero_le _, rfl, by simp [cntAssignS], HS.out.1, HS.out.2⟩
  case round =>
    obtain ⟨i, hi, rfl, rfl, hr, hrb⟩ := hrel
    obtain ⟨W, rfl⟩ : ∃ W, W = wr := ⟨_, rfl⟩
    have HR := Lib.hid hr
    have HRB := Lib.hid hrb
    have hle := cntAssignS_le L i
    clear hr hrb HS
    by_cases hlt : i < L.length
    · obtain ⟨b, o, rfl, hb1, hb2, us, hul, hc, hx⟩ := HA.out i hlt
      obtain ⟨x, hxx⟩ : ∃ x, L[i] = x := ⟨_, rfl⟩
      have hx? : L[i]? = some x := by rw [List.getElem?_eq_getElem hlt, hxx]
      rw [hxx] at hx
      have hst := cntAssignS_step L i x hx?
      have hle2 := cntAssignS_le L (i + 1)
      clear hxx hx?
      obtain ⟨x0, x1, rfl, xh0, xh1⟩ := hx
      obtain ⟨xe0, -⟩ := xh0
      injection xe0 with xe0
      subst xe0
      have xR1 := Lib.hid xh1
      obtain ⟨xA1, xq1, xe1, xm1, -⟩ := xh1
      injection xe1 with xe1
      subst xe1
      have hw0 : w0.cell? ⟨b, o + i * 2, none⟩ = some (.int .i64 x.1) ∧ w0.frozen? ⟨b, o + i * 2, none⟩ = false := hc 0 _ rfl
      have HW0 := Lib.hid hw0
      have hw1 : w0.cell? ⟨b, o + i * 2 + 1, none⟩ = some (.slice xA1 (x.2).length xq1) ∧ w0.frozen? ⟨b, o + i * 2 + 1, none⟩ = false := hc 1 _ rfl
      have HW1 := Lib.hid hw1
      clear hc hul hw0 hw1
      obtain ⟨cc, hcc⟩ : ∃ c : Int, (cntAssignS (L.take i) : Int) = c := ⟨_, rfl⟩
      obtain ⟨t1, ht1⟩ : ∃ c : Int, (cntOpS (x.2) : Int) = c := ⟨_, rfl⟩
      have hst' : (cntAssignS (L.take (i + 1)) : Int) = cc + 1 + t1 := by unfold cntAssign at hst; omega
      have hbnd : k + (cc + 1 + t1) ≤ 4611686018427387904 := by rw [← hst']; omega
      have hcc0 : 0 ≤ cc := by omega
      have ht10 : 0 ≤ t1 := by omega
      have HC1 := Lib.hid ht1
      have HST := Lib.hid hst'
      rw [hcc]
      clear hst hle2 hst' hle hcc ht1
      obtain ⟨y0, xc0, xf0⟩ := Sims.int HR.out hb1 hb2 HW0.out
      have xc1 := Sims.slice HR.out hb1 hb2 HW1.out
      go_wp2_with fail
      refine (markOpS_arg (x.2) _ _ w0 wb _ xR1.out hT (Sims.set HR.out hb1 hb2 xc0 _) (Sims.set HRB.out hb1 hb2 xc0 _) (by omega) (by rw [HC1.out]; omega)).mono ?_
      rintro e W1 ⟨rfl, hr1, hrb1⟩
      rw [HC1.out]
      have HR1 := Lib.hid hr1
      have HRB1 := Lib.hid hrb1
      clear hr1 hrb1 xc0 xf0 xc1
      go_wp2
      go_roundw
      case rel => exact ⟨i + 1, by omega, by go_num, by rw [HST.out]; exact int_eq (by omega), HR1.out, HRB1.out⟩
      case measure => simp [intOf]; omega
    · obtain rfl : i = L.length := by omega
      rw [List.take_length]
      clear hle
      go_wp2
      go_ret
      exact ⟨rfl, HR.out, HRB.out⟩

theorem markAssignS_both (L : List DAssign) (v : Value) {B T : Nat} (k : Int) (w0 wb wc w : World) (h : rwAssignS B T w0 [v] L) (hT : T ≤ w0.heap.size) (hs : Sims B T w0 w) (hsb : Sims B T wb w) (hsc : Sims B T wc w) (hk0 : 0 ≤ k) (hk : k + (cntAssignS L : Int) ≤ 4611686018427387904) :
    Calls Try.prog 77 #[v, .int .i64 k] w fun e w' => e = .returned (.int .i64 (k + (cntAssignS L : Int))) ∧ Sims B T w0 w' ∧ Sims B T wb w' ∧ Sims B T wc w' :=
  (markAssignS_arg L v k w0 w w h hT hs (Sims.refl _ _ _) hk0 hk).mono fun _ _ ⟨he, h0, h1⟩ => ⟨he, h0, hsb.trans h1, hsc.trans h1⟩
end Go.Proofs.Ytllddjkdjdohhaa
