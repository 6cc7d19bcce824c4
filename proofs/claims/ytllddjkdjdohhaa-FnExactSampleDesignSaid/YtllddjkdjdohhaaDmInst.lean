/-
  The type Inst as the exact laws' helpers see it.
-/
import Derived.Test.YtllddjkdjdohhaaDtInst
import Derived.Test.YtllddjkdjdohhaaDmInt
namespace Go.Proofs.Ytllddjkdjdohhaa
open Go.RowKit
set_option linter.unusedVariables false
set_option linter.unusedSimpArgs false
def cntInst (x : DInst) : Nat := 2 + cntIntS (x.2.2)
def cntInstS (L : List DInst) : Nat := (L.map cntInst).sum
theorem cntInstS_step (L : List DInst) (i : Nat) (x : DInst) (h : L[i]? = some x) : cntInstS (L.take (i + 1)) = cntInstS (L.take i) + cntInst x := by
  unfold cntInstS; rw [List.take_add_one, h, List.map_append, List.sum_append]; simp
theorem cntInstS_le (L : List DInst) (i : Nat) : cntInstS (L.take i) ≤ cntInstS L := by
  have h := List.take_append_drop i L
  unfold cntInstS
  rw [← h, List.map_append, List.sum_append, h]; omega
theorem bndInst (x : DInst) (h : smInst x) : cntInst x ≤ 1048578 := by
  unfold smInst at h
  unfold cntInst
  have h2 := bndIntS _ h
  omega
theorem bndInstS (L : List DInst) (h : smInstS L) : cntInstS L ≤ 1099513724928 := by
  have h1 := sum_le cntInst 1048578 L fun x hx => bndInst x (h.2 x hx)
  have h2 := h.1
  unfold cntInstS
  omega

set_option maxHeartbeats 3200000 in
theorem markInstS_arg (L : List DInst) (v : Value) {B T : Nat} (k : Int) (w0 wb w : World) (h : rwInstS B T w0 [v] L) (hT : T ≤ w0.heap.size) (hs : Sims B T w0 w) (hsb : Sims B T wb w) (hk0 : 0 ≤ k) (hk : k + (cntInstS L : Int) ≤ 4611686018427387904) :
    Calls Try.prog 78 #[v, .int .i64 k] w fun e w' => e = .returned (.int .i64 (k + (cntInstS L : Int))) ∧ Sims B T w0 w' ∧ Sims B T wb w' := by
  obtain ⟨A, c, ea, hm, hA⟩ := h
  injection ea with ea
  subst ea
  unfold maxLen at hm
  have HA := Lib.hid hA
  have HS := Lib.hid (And.intro hs hsb)
  clear hA hs hsb
  go_enter Try.func78, Try.ntmps78
  go_wp2
  go_loopw [1, 5] (fun q v wr => ∃ i : Nat, i ≤ L.length ∧ v = .int .i64 i ∧ q = .int .i64 (k + (cntInstS (L.take i) : Int)) ∧ Sims B T w0 wr ∧ Sims B T wb wr) (fun _ v _ => L.length - (intOf v).toNat)
  case atStart => exact ⟨0, Nat.zero_le _, rfl, by simp [cntInstS], HS.out.1, HS.out.2⟩
  case round =>
    obtain ⟨i, hi, rfl, rfl, hr, hrb⟩ := hrel
    obtain ⟨W, rfl⟩ : ∃ W, W = wr := ⟨_, rfl⟩
    have HR := Lib.hid hr
    have HRB := Lib.hid hrb
    have hle := cntInstS_le L i
    clear hr hrb HS
    by_cases hlt : i < L.length
    · obtain ⟨b, o, rfl, hb1, hb2, us, hul, hc, hx⟩ := HA.out i hlt
      obtain ⟨x, hxx⟩ : ∃ x, L[i] = x := ⟨_, rfl⟩
      have hx? : L[i]? = some x := by rw [List.getElem?_eq_getElem hlt, hxx]
      rw [hxx] at hx
      have hst := cntInstS_step L i x hx?
      have hle2 := cntInstS_le L (i + 1)
      clear hxx hx?
      obtain ⟨x0, x1, x2, rfl, xh0, xh1, xh2⟩ := hx
      obtain ⟨xe0, -⟩ := xh0
      injection xe0 with xe0
      subst xe0
      obtain ⟨xe1, -⟩ := xh1
      injection xe1 with xe1
      subst xe1
      have xR2 := Lib.hid xh2
      obtain ⟨xA2, xq2, xe2, xm2, -⟩ := xh2
      injection xe2 with xe2
      subst xe2
      have hw0 : w0.cell? ⟨b, o + i * 3, none⟩ = some (.int .i64 x.1) ∧ w0.frozen? ⟨b, o + i * 3, none⟩ = false := hc 0 _ rfl
      have HW0 := Lib.hid hw0
      have hw1 : w0.cell? ⟨b, o + i * 3 + 1, none⟩ = some (.int .i64 x.2.1) ∧ w0.frozen? ⟨b, o + i * 3 + 1, none⟩ = false := hc 1 _ rfl
      have HW1 := Lib.hid hw1
      have hw2 : w0.cell? ⟨b, o + i * 3 + 2, none⟩ = some (.slice xA2 (x.2.2).length xq2) ∧ w0.frozen? ⟨b, o + i * 3 + 2, none⟩ = false := hc 2 _ rfl
      have HW2 := Lib.hid hw2
      clear hc hul hw0 hw1 hw2
      obtain ⟨cc, hcc⟩ : ∃ c : Int, (cntInstS (L.take i) : Int) = c := ⟨_, rfl⟩
      obtain ⟨t2, ht2⟩ : ∃ c : Int, (cntIntS (x.2.2) : Int) = c := ⟨_, rfl⟩
      have hst' : (cntInstS (L.take (i + 1)) : Int) = cc + 2 + t2 := by unfold cntInst at hst; omega
      have hbnd : k + (cc + 2 + t2) ≤ 4611686018427387904 := by rw [← hst']; omega
      have hcc0 : 0 ≤ cc := by omega
      have ht20 : 0 ≤ t2 := by omega
      have HC2 := Lib.hid ht2
      have HST := Lib.hid hst'
      rw [hcc]
      clear hst hle2 hst' hle hcc ht2
      obtain ⟨y0, xc0, xf0⟩ := Sims.int HR.out hb1 hb2 HW0.out
      obtain ⟨y1, xc1, xf1⟩ := Sims.int HR.out hb1 hb2 HW1.out
      have xc2 := Sims.slice HR.out hb1 hb2 HW2.out
      go_wp2_with fail
      refine (markIntS_arg (x.2.2) _ _ w0 wb _ xR2.out hT (Sims.set (Sims.set HR.out hb1 hb2 xc0 _) hb1 hb2 (set_far xc1 (by omega)) _) (Sims.set (Sims.set HRB.out hb1 hb2 xc0 _) hb1 hb2 (set_far xc1 (by omega)) _) (by omega) (by rw [HC2.out]; omega)).mono ?_
      rintro e W1 ⟨rfl, hr1, hrb1⟩
      rw [HC2.out]
      have HR1 := Lib.hid hr1
      have HRB1 := Lib.hid hrb1
      clear hr1 hrb1 xc0 xf0 xc1 xf1 xc2
      go_wp2
      go_roundw
      case rel => exact ⟨i + 1, by omega, by go_num, by rw [HST.out]; exact int_eq (by omega), HR1.out, HRB1.out⟩
      case measure => simp [intOf]; omega
    · obtain rfl : i = L.length := by omega
      rw [List.take_length]
      clear hle
      go_wp2
      go_ret
      exact ⟨rfl, HR.out, HRB.out⟩

theorem markInstS_both (L : List DInst) (v : Value) {B T : Nat} (k : Int) (w0 wb wc w : World) (h : rwInstS B T w0 [v] L) (hT : T ≤ w0.heap.size) (hs : Sims B T w0 w) (hsb : Sims B T wb w) (hsc : Sims B T wc w) (hk0 : 0 ≤ k) (hk : k + (cntInstS L : Int) ≤ 4611686018427387904) :
    Calls Try.prog 78 #[v, .int .i64 k] w fun e w' => e = .returned (.int .i64 (k + (cntInstS L : Int))) ∧ Sims B T w0 w' ∧ Sims B T wb w' ∧ Sims B T wc w' :=
  (markInstS_arg L v k w0 w w h hT hs (Sims.refl _ _ _) hk0 hk).mono fun _ _ ⟨he, h0, h1⟩ => ⟨he, h0, hsb.trans h1, hsc.trans h1⟩
end Go.Proofs.Ytllddjkdjdohhaa
