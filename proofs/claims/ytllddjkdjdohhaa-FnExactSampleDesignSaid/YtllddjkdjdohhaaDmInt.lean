/-
  The type Int as the exact laws' helpers see it.
-/
import Derived.Test.YtllddjkdjdohhaaDtInt
namespace Go.Proofs.Ytllddjkdjdohhaa
open Go.RowKit
set_option linter.unusedVariables false
set_option linter.unusedSimpArgs false

theorem int_eq {a b : Int} (h : a = b) : Value.int .i64 a = .int .i64 b := by rw [h]
theorem Sims.trans {B T : Nat} {a b c : World} (h : Sims B T a b) (k : Sims B T b c) : Sims B T a c :=
  ⟨k.os.trans h.os, k.tape.trans h.tape, k.output.trans h.output, Nat.le_trans h.size k.size, fun j hj hh => (k.block j (Nat.lt_of_lt_of_le hj h.size) hh).trans (h.block j hj hh),
    fun b o u h1 h2 hc => by
      obtain ⟨u', hc', hs⟩ := h.cell b o u h1 h2 hc
      obtain ⟨u'', hc'', hs'⟩ := k.cell b o u' h1 h2 hc'
      exact ⟨u'', hc'', hs.trans hs'⟩,
    fun b o u h1 h2 hc hf => by
      obtain ⟨u', hc', hs⟩ := h.cell b o u h1 h2 hc
      exact k.froz b o u' h1 h2 hc' (h.froz b o u h1 h2 hc hf)⟩
theorem sims_box {B T : Nat} {V W : World} {g : Nat} {cs : Array Value} {t : TypeId} {fr : Nat × Nat} (h : Sims B T V W) (hg : V.heap[g]? = some (.cells cs t fr)) (hT : T ≤ g) (i : Nat) (v : Value) (hv : cs[i]? = some v) : W.cell? ⟨g, i, none⟩ = some v :=
  box_cell ((h.block g (Array.getElem?_eq_some_iff.1 hg).1 (.inr hT)).trans hg) i v hv
theorem set_far {W : World} {b o1 o2 : Nat} {v u : Value} (h : W.cell? ⟨b, o2, none⟩ = some u) (hne : o1 ≠ o2) : (W.setCell ⟨b, o1, none⟩ v).cell? ⟨b, o2, none⟩ = some u := by
  rw [World.cell?_setCell_other W ⟨b, o1, none⟩ ⟨b, o2, none⟩ v (by intro e; injection e with _ e; exact hne e)]; exact h
def cntIntS (L : List Int) : Nat := L.length
theorem cntIntS_step (L : List Int) (i : Nat) (x : Int) (h : L[i]? = some x) : cntIntS (L.take (i + 1)) = cntIntS (L.take i) + 1 := by
  unfold cntIntS; rw [List.take_add_one, h, List.length_append]; rfl
theorem cntIntS_le (L : List Int) (i : Nat) : cntIntS (L.take i) ≤ cntIntS L := by unfold cntIntS; rw [List.length_take]; omega
theorem sum_le {α : Type} (f : α → Nat) (M : Nat) : ∀ L : List α, (∀ x ∈ L, f x ≤ M) → (L.map f).sum ≤ M * L.length
  | [], _ => by simp
  | x :: L, h => by
    have h1 := sum_le f M L fun y hy => h y (List.mem_cons_of_mem _ hy)
    have h2 := h x (List.mem_cons_self ..)
    rw [List.map_cons, List.sum_cons, List.length_cons, Nat.mul_add]; omega
theorem bndIntS (L : List Int) (h : smIntS L) : cntIntS L ≤ 1048576 := h

set_option maxHeartbeats 3200000 in
theorem markIntS_arg (L : List Int) (v : Value) {B T : Nat} (k : Int) (w0 wb w : World) (h : rwIntS B T w0 [v] L) (hT : T ≤ w0.heap.size) (hs : Sims B T w0 w) (hsb : Sims B T wb w) (hk0 : 0 ≤ k) (hk : k + (cntIntS L : Int) ≤ 4611686018427387904) :
    Calls Try.prog 35 #[v, .int .i64 k] w fun e w' => e = .returned (.int .i64 (k + (cntIntS L : Int))) ∧ Sims B T w0 w' ∧ Sims B T wb w' := by
  obtain ⟨A, c, ea, hm, hA⟩ := h
  injection ea with ea
  subst ea
  unfold maxLen at hm
  have HA := Lib.hid hA
  have HS := Lib.hid (And.intro hs hsb)
  clear hA hs hsb
  go_enter Try.func35, Try.ntmps35
  go_wp2
  go_loopw [1, 5] (fun q v wr => ∃ i : Nat, i ≤ L.length ∧ v = .int .i64 i ∧ q = .int .i64 (k + (cntIntS (L.take i) : Int)) ∧ Sims B T w0 wr ∧ Sims B T wb wr) (fun _ v _ => L.length - (intOf v).toNat)
  case atStart => exact ⟨0, Nat.zero_le _, rfl, by simp [cntIntS], HS.out.1, HS.out.2⟩
  case round =>
    obtain ⟨i, hi, rfl, rfl, hr, hrb⟩ := hrel
    obtain ⟨W, rfl⟩ : ∃ W, W = wr := ⟨_, rfl⟩
    have HR := Lib.hid hr
    have HRB := Lib.hid hrb
    have hle := cntIntS_le L i
    clear hr hrb HS
    by_cases hlt : i < L.length
    · obtain ⟨b, o, rfl, hb1, hb2, us, hul, hc, hx⟩ := HA.out i hlt
      obtain ⟨x, hxx⟩ : ∃ x, L[i] = x := ⟨_, rfl⟩
      have hx? : L[i]? = some x := by rw [List.getElem?_eq_getElem hlt, hxx]
      rw [hxx] at hx
      have hst := cntIntS_step L i x hx?
      have hle2 := cntIntS_le L (i + 1)
      clear hxx hx?
      obtain ⟨e0, -⟩ := hx
      subst e0
      have hw0 : w0.cell? ⟨b, o + i, none⟩ = some (.int .i64 x) ∧ w0.frozen? ⟨b, o + i, none⟩ = false := by
        have h := hc 0 _ rfl
        rwa [Nat.mul_one, Nat.add_zero] at h
      have HW0 := Lib.hid hw0
      clear hc hul hw0
      obtain ⟨cc, hcc⟩ : ∃ c : Int, (cntIntS (L.take i) : Int) = c := ⟨_, rfl⟩
      have hst' : (cntIntS (L.take (i + 1)) : Int) = cc + 1 := by omega
      have hbnd : k + (cc + 1) ≤ 4611686018427387904 := by rw [← hst']; omega
      have hcc0 : 0 ≤ cc := by omega
      have HST := Lib.hid hst'
      rw [hcc]
      clear hst hle2 hst' hle hcc 
      obtain ⟨y0, xc0, xf0⟩ := Sims.int HR.out hb1 hb2 HW0.out
      go_wp2
      go_roundw
      case rel => exact ⟨i + 1, by omega, by go_num, by rw [HST.out]; exact int_eq (by omega), (Sims.set HR.out hb1 hb2 xc0 _), (Sims.set HRB.out hb1 hb2 xc0 _)⟩
      case measure => simp [intOf]; omega
    · obtain rfl : i = L.length := by omega
      rw [List.take_length]
      clear hle
      go_wp2
      go_ret
      exact ⟨rfl, HR.out, HRB.out⟩

theorem markIntS_both (L : List Int) (v : Value) {B T : Nat} (k : Int) (w0 wb wc w : World) (h : rwIntS B T w0 [v] L) (hT : T ≤ w0.heap.size) (hs : Sims B T w0 w) (hsb : Sims B T wb w) (hsc : Sims B T wc w) (hk0 : 0 ≤ k) (hk : k + (cntIntS L : Int) ≤ 4611686018427387904) :
    Calls Try.prog 35 #[v, .int .i64 k] w fun e w' => e = .returned (.int .i64 (k + (cntIntS L : Int))) ∧ Sims B T w0 w' ∧ Sims B T wb w' ∧ Sims B T wc w' :=
  (markIntS_arg L v k w0 w w h hT hs (Sims.refl _ _ _) hk0 hk).mono fun _ _ ⟨he, h0, h1⟩ => ⟨he, h0, hsb.trans h1, hsc.trans h1⟩
end Go.Proofs.Ytllddjkdjdohhaa
