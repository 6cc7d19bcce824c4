/-
  DmInt, DmOp, DmSignal, DmMem, DmAssign, DmInst, DmModule, DmDesign as one text.
-/
import Derived.Test.YtmjofpfkgbnknaaGreatDtAll
/- DmInt: The type Int as the exact laws' helpers see it. -/
namespace Go.Proofs.YtmjofpfkgbnknaaGreat
open Go.RowKit
set_option linter.unusedVariables false
set_option linter.unusedSimpArgs false

theorem int_eq {a b : Int} (h : a = b) : Value.int .i64 a = .int .i64 b := by rw [h]
theorem Sims.trans {B T : Nat} {a b c : World} (h : Sims B T a b) (k : Sims B T b c) : Sims B T a c :=
  ⟨k.os.trans h.os, k.tape.trans h.tape, k.output.trans h.output, Nat.le_trans h.size k.size, fun j hj hh => (k.block j (Nat.lt_of_lt_of_le hj h.size) hh).trans (h.block j hj hh),
    fun b o u h1 h2 hc => by
      obtain ⟨u', hc', hs⟩ := h.cell b o u h1 h2 hc
      obtain ⟨u'', hc'', hs'⟩ := k.cell b o u' h1 h2 hc'
      exact ⟨u'', hc'', hs.trans hs'⟩,
    fun b o u h1 h2 hc hf => by
      obtain ⟨u', hc', hs⟩ := h.cell b o u h1 h2 hc
      exact k.froz b o u' h1 h2 hc' (h.froz b o u h1 h2 hc hf)⟩
theorem sims_box {B T : Nat} {V W : World} {g : Nat} {cs : Array Value} {t : TypeId} {fr : Nat × Nat} (h : Sims B T V W) (hg : V.heap[g]? = some (.cells cs t fr)) (hT : T ≤ g) (i : Nat) (v : Value) (hv : cs[i]? = some v) : W.cell? ⟨g, i, none⟩ = some v :=
  box_cell ((h.block g (Array.getElem?_eq_some_iff.1 hg).1 (.inr hT)).trans hg) i v hv
theorem set_far {W : World} {b o1 o2 : Nat} {v u : Value} (h : W.cell? ⟨b, o2, none⟩ = some u) (hne : o1 ≠ o2) : (W.setCell ⟨b, o1, none⟩ v).cell? ⟨b, o2, none⟩ = some u := by
  rw [World.cell?_setCell_other W ⟨b, o1, none⟩ ⟨b, o2, none⟩ v (by intro e; injection e with _ e; exact hne e)]; exact h
def cntIntS (L : List Int) : Nat := L.length
theorem cntIntS_step (L : List Int) (i : Nat) (x : Int) (h : L[i]? = some x) : cntIntS (L.take (i + 1)) = cntIntS (L.take i) + 1 := by
  unfold cntIntS; rw [List.take_add_one, h, List.length_append]; rfl
theorem cntIntS_le (L : List Int) (i : Nat) : cntIntS (L.take i) ≤ cntIntS L := by unfold cntIntS; rw [List.length_take]; omega
theorem sum_le {α : Type} (f : α → Nat) (M : Nat) : ∀ L : List α, (∀ x ∈ L, f x ≤ M) → (L.map f).sum ≤ M * L.length
  | [], _ => by simp
  | x :: L, h => by
    have h1 := sum_le f M L fun y hy => h y (List.mem_cons_of_mem _ hy)
    have h2 := h x (List.mem_cons_self ..)
    rw [List.map_cons, List.sum_cons, List.length_cons, Nat.mul_add]; omega
theorem bndIntS (L : List Int) (h : smIntS L) : cntIntS L ≤ 1048576 := h

set_option maxHeartbeats 3200000 in
theorem markIntS_arg (L : List Int) (v : Value) {B T : Nat} (k : Int) (w0 wb w : World) (h : rwIntS B T w0 [v] L) (hT : T ≤ w0.heap.size) (hs : Sims B T w0 w) (hsb : Sims B T wb w) (hk0 : 0 ≤ k) (hk : k + (cntIntS L : Int) ≤ 9000000000000000000) :
    Calls Tryz.prog 27 #[v, .int .i64 k] w fun e w' => e = .returned (.int .i64 (k + (cntIntS L : Int))) ∧ Sims B T w0 w' ∧ Sims B T wb w' := by
  obtain ⟨A, c, ea, hm, hA⟩ := h
  injection ea with ea
  subst ea
  unfold maxLen at hm
  have HA := Lib.hid hA
  have HS := Lib.hid (And.intro hs hsb)
  clear hA hs hsb
  go_enter Tryz.func27, Tryz.ntmps27
  go_wp2
  go_loopw [1, 5] (fun q v wr => ∃ i : Nat, i ≤ L.length ∧ v = .int .i64 i ∧ q = .int .i64 (k + (cntIntS (L.take i) : Int)) ∧ Sims B T w0 wr ∧ Sims B T wb wr) (fun _ v _ => L.length - (intOf v).toNat)
  case atStart => exact ⟨0, Nat.zero_le _, rfl, by simp [cntIntS], HS.out.1, HS.out.2⟩
  case round =>
    obtain ⟨i, hi, rfl, rfl, hr, hrb⟩ := hrel
    obtain ⟨W, rfl⟩ : ∃ W, W = wr := ⟨_, rfl⟩
    have HR := Lib.hid hr
    have HRB := Lib.hid hrb
    have hle := cntIntS_le L i
    clear hr hrb HS
    by_cases hlt : i < L.length
    · obtain ⟨b, o, rfl, hb1, hb2, us, hul, hc, hx⟩ := HA.out i hlt
      obtain ⟨x, hxx⟩ : ∃ x, L[i] = x := ⟨_, rfl⟩
      have hx? : L[i]? = some x := by rw [List.getElem?_eq_getElem hlt, hxx]
      rw [hxx] at hx
      have hst := cntIntS_step L i x hx?
      have hle2 := cntIntS_le L (i + 1)
      clear hxx hx?
      obtain ⟨e0, -⟩ := hx
      subst e0
      have hw0 : w0.cell? ⟨b, o + i, none⟩ = some (.int .i64 x) ∧ w0.frozen? ⟨b, o + i, none⟩ = false := by
        have h := hc 0 _ rfl
        rwa [Nat.mul_one, Nat.add_zero] at h
      have HW0 := Lib.hid hw0
      clear hc hul hw0
      obtain ⟨cc, hcc⟩ : ∃ c : Int, (cntIntS (L.take i) : Int) = c := ⟨_, rfl⟩
      have hst' : (cntIntS (L.take (i + 1)) : Int) = cc + 1 := by omega
      have hbnd : k + (cc + 1) ≤ 9000000000000000000 := by rw [← hst']; omega
      have hcc0 : 0 ≤ cc := by omega
      have HST := Lib.hid hst'
      rw [hcc]
      clear hst hle2 hst' hle hcc 
      obtain ⟨y0, xc0, xf0⟩ := Sims.int HR.out hb1 hb2 HW0.out
      go_wp2
      go_roundw
      case rel => exact ⟨i + 1, by omega, by go_num, by rw [HST.out]; exact int_eq (by omega), (Sims.set HR.out hb1 hb2 xc0 _), (Sims.set HRB.out hb1 hb2 xc0 _)⟩
      case measure => simp [intOf]; omega
    · obtain rfl : i = L.length := by omega
      rw [List.take_length]
      clear hle
      go_wp2
      go_ret
      exact ⟨rfl, HR.out, HRB.out⟩

theorem markIntS_both (L : List Int) (v : Value) {B T : Nat} (k : Int) (w0 wb wc w : World) (h : rwIntS B T w0 [v] L) (hT : T ≤ w0.heap.size) (hs : Sims B T w0 w) (hsb : Sims B T wb w) (hsc : Sims B T wc w) (hk0 : 0 ≤ k) (hk : k + (cntIntS L : Int) ≤ 9000000000000000000) :
    Calls Tryz.prog 27 #[v, .int .i64 k] w fun e w' => e = .returned (.int .i64 (k + (cntIntS L : Int))) ∧ Sims B T w0 w' ∧ Sims B T wb w' ∧ Sims B T wc w' :=
  (markIntS_arg L v k w0 w w h hT hs (Sims.refl _ _ _) hk0 hk).mono fun _ _ ⟨he, h0, h1⟩ => ⟨he, h0, hsb.trans h1, hsc.trans h1⟩
end Go.Proofs.YtmjofpfkgbnknaaGreat
/- DmOp: The type Op as the exact laws' helpers see it. -/
namespace Go.Proofs.YtmjofpfkgbnknaaGreat
open Go.RowKit
set_option linter.unusedVariables false
set_option linter.unusedSimpArgs false
def cntOp (x : DOp) : Nat := 3
def cntOpS (L : List DOp) : Nat := (L.map cntOp).sum
theorem cntOpS_step (L : List DOp) (i : Nat) (x : DOp) (h : L[i]? = some x) : cntOpS (L.take (i + 1)) = cntOpS (L.take i) + cntOp x := by
  unfold cntOpS; rw [List.take_add_one, h, List.map_append, List.sum_append]; simp
theorem cntOpS_le (L : List DOp) (i : Nat) : cntOpS (L.take i) ≤ cntOpS L := by
  have h := List.take_append_drop i L
  unfold cntOpS
  rw [← h, List.map_append, List.sum_append, h]; omega
theorem bndOp (x : DOp) (h : smOp x) : cntOp x ≤ 3 := by
  unfold smOp at h
  unfold cntOp
  omega
theorem bndOpS (L : List DOp) (h : smOpS L) : cntOpS L ≤ 3145728 := by
  have h1 := sum_le cntOp 3 L fun x hx => bndOp x (h.2 x hx)
  have h2 := h.1
  unfold cntOpS
  omega

set_option maxHeartbeats 3200000 in
theorem markOpS_arg (L : List DOp) (v : Value) {B T : Nat} (k : Int) (w0 wb w : World) (h : rwOpS B T w0 [v] L) (hT : T ≤ w0.heap.size) (hs : Sims B T w0 w) (hsb : Sims B T wb w) (hk0 : 0 ≤ k) (hk : k + (cntOpS L : Int) ≤ 9000000000000000000) :
    Calls Tryz.prog 100 #[v, .int .i64 k] w fun e w' => e = .returned (.int .i64 (k + (cntOpS L : Int))) ∧ Sims B T w0 w' ∧ Sims B T wb w' := by
  obtain ⟨A, c, ea, hm, hA⟩ := h
  injection ea with ea
  subst ea
  unfold maxLen at hm
  have HA := Lib.hid hA
  have HS := Lib.hid (And.intro hs hsb)
  clear hA hs hsb
  go_enter Tryz.func100, Tryz.ntmps100
  go_wp2
  go_loopw [1, 5] (fun q v wr => ∃ i : Nat, i ≤ L.length ∧ v = .int .i64 i ∧ q = .int .i64 (k + (cntOpS (L.take i) : Int)) ∧ Sims B T w0 wr ∧ Sims B T wb wr) (fun _ v _ => L.length - (intOf v).toNat)
  case atStart => exact ⟨0, Nat.zero_le _, rfl, by simp [cntOpS], HS.out.1, HS.out.2⟩
  case round =>
    obtain ⟨i, hi, rfl, rfl, hr, hrb⟩ := hrel
    obtain ⟨W, rfl⟩ : ∃ W, W = wr := ⟨_, rfl⟩
    have HR := Lib.hid hr
    have HRB := Lib.hid hrb
    have hle := cntOpS_le L i
    clear hr hrb HS
    by_cases hlt : i < L.length
    · obtain ⟨b, o, rfl, hb1, hb2, us, hul, hc, hx⟩ := HA.out i hlt
      obtain ⟨x, hxx⟩ : ∃ x, L[i] = x := ⟨_, rfl⟩
      have hx? : L[i]? = some x := by rw [List.getElem?_eq_getElem hlt, hxx]
      rw [hxx] at hx
      have hst := cntOpS_step L i x hx?
      have hle2 := cntOpS_le L (i + 1)
      clear hxx hx?
      obtain ⟨x0, x1, x2, rfl, xh0, xh1, xh2⟩ := hx
      obtain ⟨xe0, -⟩ := xh0
      injection xe0 with xe0
      subst xe0
      obtain ⟨xe1, -⟩ := xh1
      injection xe1 with xe1
      subst xe1
      obtain ⟨xe2, -⟩ := xh2
      injection xe2 with xe2
      subst xe2
      have hw0 : w0.cell? ⟨b, o + i * 3, none⟩ = some (.int .i64 x.1) ∧ w0.frozen? ⟨b, o + i * 3, none⟩ = false := hc 0 _ rfl
      have HW0 := Lib.hid hw0
      have hw1 : w0.cell? ⟨b, o + i * 3 + 1, none⟩ = some (.int .i64 x.2.1) ∧ w0.frozen? ⟨b, o + i * 3 + 1, none⟩ = false := hc 1 _ rfl
      have HW1 := Lib.hid hw1
      have hw2 : w0.cell? ⟨b, o + i * 3 + 2, none⟩ = some (.int .i64 x.2.2) ∧ w0.frozen? ⟨b, o + i * 3 + 2, none⟩ = false := hc 2 _ rfl
      have HW2 := Lib.hid hw2
      clear hc hul hw0 hw1 hw2
      obtain ⟨cc, hcc⟩ : ∃ c : Int, (cntOpS (L.take i) : Int) = c := ⟨_, rfl⟩
      have hst' : (cntOpS (L.take (i + 1)) : Int) = cc + 3 := by unfold cntOp at hst; omega
      have hbnd : k + (cc + 3) ≤ 9000000000000000000 := by rw [← hst']; omega
      have hcc0 : 0 ≤ cc := by omega
      have HST := Lib.hid hst'
      rw [hcc]
      clear hst hle2 hst' hle hcc 
      obtain ⟨y0, xc0, xf0⟩ := Sims.int HR.out hb1 hb2 HW0.out
      obtain ⟨y1, xc1, xf1⟩ := Sims.int HR.out hb1 hb2 HW1.out
      obtain ⟨y2, xc2, xf2⟩ := Sims.int HR.out hb1 hb2 HW2.out
      go_wp2
      go_roundw
      case rel => exact ⟨i + 1, by omega, by go_num, by rw [HST.out]; exact int_eq (by omega), (Sims.set (Sims.set (Sims.set HR.out hb1 hb2 xc0 _) hb1 hb2 (set_far xc1 (by omega)) _) hb1 hb2 (set_far (set_far xc2 (by omega)) (by omega)) _), (Sims.set (Sims.set (Sims.set HRB.out hb1 hb2 xc0 _) hb1 hb2 (set_far xc1 (by omega)) _) hb1 hb2 (set_far (set_far xc2 (by omega)) (by omega)) _)⟩
      case measure => simp [intOf]; omega
    · obtain rfl : i = L.length := by omega
      rw [List.take_length]
      clear hle
      go_wp2
      go_ret
      exact ⟨rfl, HR.out, HRB.out⟩

theorem markOpS_both (L : List DOp) (v : Value) {B T : Nat} (k : Int) (w0 wb wc w : World) (h : rwOpS B T w0 [v] L) (hT : T ≤ w0.heap.size) (hs : Sims B T w0 w) (hsb : Sims B T wb w) (hsc : Sims B T wc w) (hk0 : 0 ≤ k) (hk : k + (cntOpS L : Int) ≤ 9000000000000000000) :
    Calls Tryz.prog 100 #[v, .int .i64 k] w fun e w' => e = .returned (.int .i64 (k + (cntOpS L : Int))) ∧ Sims B T w0 w' ∧ Sims B T wb w' ∧ Sims B T wc w' :=
  (markOpS_arg L v k w0 w w h hT hs (Sims.refl _ _ _) hk0 hk).mono fun _ _ ⟨he, h0, h1⟩ => ⟨he, h0, hsb.trans h1, hsc.trans h1⟩
end Go.Proofs.YtmjofpfkgbnknaaGreat
/- DmSignal: The type Signal as the exact laws' helpers see it. -/
namespace Go.Proofs.YtmjofpfkgbnknaaGreat
open Go.RowKit
set_option linter.unusedVariables false
set_option linter.unusedSimpArgs false
def cntSignal (x : DSignal) : Nat := 3
def cntSignalS (L : List DSignal) : Nat := (L.map cntSignal).sum
theorem cntSignalS_step (L : List DSignal) (i : Nat) (x : DSignal) (h : L[i]? = some x) : cntSignalS (L.take (i + 1)) = cntSignalS (L.take i) + cntSignal x := by
  unfold cntSignalS; rw [List.take_add_one, h, List.map_append, List.sum_append]; simp
theorem cntSignalS_le (L : List DSignal) (i : Nat) : cntSignalS (L.take i) ≤ cntSignalS L := by
  have h := List.take_append_drop i L
  unfold cntSignalS
  rw [← h, List.map_append, List.sum_append, h]; omega
theorem bndSignal (x : DSignal) (h : smSignal x) : cntSignal x ≤ 3 := by
  unfold smSignal at h
  unfold cntSignal
  omega
theorem bndSignalS (L : List DSignal) (h : smSignalS L) : cntSignalS L ≤ 3145728 := by
  have h1 := sum_le cntSignal 3 L fun x hx => bndSignal x (h.2 x hx)
  have h2 := h.1
  unfold cntSignalS
  omega

set_option maxHeartbeats 3200000 in
theorem markSignalS_arg (L : List DSignal) (v : Value) {B T : Nat} (k : Int) (w0 wb w : World) (h : rwSignalS B T w0 [v] L) (hT : T ≤ w0.heap.size) (hs : Sims B T w0 w) (hsb : Sims B T wb w) (hk0 : 0 ≤ k) (hk : k + (cntSignalS L : Int) ≤ 9000000000000000000) :
    Calls Tryz.prog 56 #[v, .int .i64 k] w fun e w' => e = .returned (.int .i64 (k + (cntSignalS L : Int))) ∧ Sims B T w0 w' ∧ Sims B T wb w' := by
  obtain ⟨A, c, ea, hm, hA⟩ := h
  injection ea with ea
  subst ea
  unfold maxLen at hm
  have HA := Lib.hid hA
  have HS := Lib.hid (And.intro hs hsb)
  clear hA hs hsb
  go_enter Tryz.func56, Tryz.ntmps56
  go_wp2
  go_loopw [1, 5] (fun q v wr => ∃ i : Nat, i ≤ L.length ∧ v = .int .i64 i ∧ q = .int .i64 (k + (cntSignalS (L.take i) : Int)) ∧ Sims B T w0 wr ∧ Sims B T wb wr) (fun _ v _ => L.length - (intOf v).toNat)
  case atStart => exact ⟨0, Nat.zero_le _, rfl, by simp [cntSignalS], HS.out.1, HS.out.2⟩
  case round =>
    obtain ⟨i, hi, rfl, rfl, hr, hrb⟩ := hrel
    obtain ⟨W, rfl⟩ : ∃ W, W = wr := ⟨_, rfl⟩
    have HR := Lib.hid hr
    have HRB := Lib.hid hrb
    have hle := cntSignalS_le L i
    clear hr hrb HS
    by_cases hlt : i < L.length
    · obtain ⟨b, o, rfl, hb1, hb2, us, hul, hc, hx⟩ := HA.out i hlt
      obtain ⟨x, hxx⟩ : ∃ x, L[i] = x := ⟨_, rfl⟩
      have hx? : L[i]? = some x := by rw [List.getElem?_eq_getElem hlt, hxx]
      rw [hxx] at hx
      have hst := cntSignalS_step L i x hx?
      have hle2 := cntSignalS_le L (i + 1)
      clear hxx hx?
      obtain ⟨x0, x1, x2, rfl, xh0, xh1, xh2⟩ := hx
      obtain ⟨xe0, -⟩ := xh0
      injection xe0 with xe0
      subst xe0
      obtain ⟨xe1, -⟩ := xh1
      injection xe1 with xe1
      subst xe1
      obtain ⟨xe2, -⟩ := xh2
      injection xe2 with xe2
      subst xe2
      have hw0 : w0.cell? ⟨b, o + i * 3, none⟩ = some (.int .i64 x.1) ∧ w0.frozen? ⟨b, o + i * 3, none⟩ = false := hc 0 _ rfl
      have HW0 := Lib.hid hw0
      have hw1 : w0.cell? ⟨b, o + i * 3 + 1, none⟩ = some (.int .i64 x.2.1) ∧ w0.frozen? ⟨b, o + i * 3 + 1, none⟩ = false := hc 1 _ rfl
      have HW1 := Lib.hid hw1
      have hw2 : w0.cell? ⟨b, o + i * 3 + 2, none⟩ = some (.int .i64 x.2.2) ∧ w0.frozen? ⟨b, o + i * 3 + 2, none⟩ = false := hc 2 _ rfl
      have HW2 := Lib.hid hw2
      clear hc hul hw0 hw1 hw2
      obtain ⟨cc, hcc⟩ : ∃ c : Int, (cntSignalS (L.take i) : Int) = c := ⟨_, rfl⟩
      have hst' : (cntSignalS (L.take (i + 1)) : Int) = cc + 3 := by unfold cntSignal at hst; omega
      have hbnd : k + (cc + 3) ≤ 9000000000000000000 := by rw [← hst']; omega
      have hcc0 : 0 ≤ cc := by omega
      have HST := Lib.hid hst'
      rw [hcc]
      clear hst hle2 hst' hle hcc 
      obtain ⟨y0, xc0, xf0⟩ := Sims.int HR.out hb1 hb2 HW0.out
      obtain ⟨y1, xc1, xf1⟩ := Sims.int HR.out hb1 hb2 HW1.out
      obtain ⟨y2, xc2, xf2⟩ := Sims.int HR.out hb1 hb2 HW2.out
      go_wp2
      go_roundw
      case rel => exact ⟨i + 1, by omega, by go_num, by rw [HST.out]; exact int_eq (by omega), (Sims.set (Sims.set (Sims.set HR.out hb1 hb2 xc0 _) hb1 hb2 (set_far xc1 (by omega)) _) hb1 hb2 (set_far (set_far xc2 (by omega)) (by omega)) _), (Sims.set (Sims.set (Sims.set HRB.out hb1 hb2 xc0 _) hb1 hb2 (set_far xc1 (by omega)) _) hb1 hb2 (set_far (set_far xc2 (by omega)) (by omega)) _)⟩
      case measure => simp [intOf]; omega
    · obtain rfl : i = L.length := by omega
      rw [List.take_length]
      clear hle
      go_wp2
      go_ret
      exact ⟨rfl, HR.out, HRB.out⟩

theorem markSignalS_both (L : List DSignal) (v : Value) {B T : Nat} (k : Int) (w0 wb wc w : World) (h : rwSignalS B T w0 [v] L) (hT : T ≤ w0.heap.size) (hs : Sims B T w0 w) (hsb : Sims B T wb w) (hsc : Sims B T wc w) (hk0 : 0 ≤ k) (hk : k + (cntSignalS L : Int) ≤ 9000000000000000000) :
    Calls Tryz.prog 56 #[v, .int .i64 k] w fun e w' => e = .returned (.int .i64 (k + (cntSignalS L : Int))) ∧ Sims B T w0 w' ∧ Sims B T wb w' ∧ Sims B T wc w' :=
  (markSignalS_arg L v k w0 w w h hT hs (Sims.refl _ _ _) hk0 hk).mono fun _ _ ⟨he, h0, h1⟩ => ⟨he, h0, hsb.trans h1, hsc.trans h1⟩
end Go.Proofs.YtmjofpfkgbnknaaGreat
/- DmMem: The type Mem as the exact laws' helpers see it. -/
namespace Go.Proofs.YtmjofpfkgbnknaaGreat
open Go.RowKit
set_option linter.unusedVariables false
set_option linter.unusedSimpArgs false
def cntMem (x : DMem) : Nat := 4
def cntMemS (L : List DMem) : Nat := (L.map cntMem).sum
theorem cntMemS_step (L : List DMem) (i : Nat) (x : DMem) (h : L[i]? = some x) : cntMemS (L.take (i + 1)) = cntMemS (L.take i) + cntMem x := by
  unfold cntMemS; rw [List.take_add_one, h, List.map_append, List.sum_append]; simp
theorem cntMemS_le (L : List DMem) (i : Nat) : cntMemS (L.take i) ≤ cntMemS L := by
  have h := List.take_append_drop i L
  unfold cntMemS
  rw [← h, List.map_append, List.sum_append, h]; omega
theorem bndMem (x : DMem) (h : smMem x) : cntMem x ≤ 4 := by
  unfold smMem at h
  unfold cntMem
  omega
theorem bndMemS (L : List DMem) (h : smMemS L) : cntMemS L ≤ 4194304 := by
  have h1 := sum_le cntMem 4 L fun x hx => bndMem x (h.2 x hx)
  have h2 := h.1
  unfold cntMemS
  omega

set_option maxHeartbeats 3200000 in
theorem markMemS_arg (L : List DMem) (v : Value) {B T : Nat} (k : Int) (w0 wb w : World) (h : rwMemS B T w0 [v] L) (hT : T ≤ w0.heap.size) (hs : Sims B T w0 w) (hsb : Sims B T wb w) (hk0 : 0 ≤ k) (hk : k + (cntMemS L : Int) ≤ 9000000000000000000) :
    Calls Tryz.prog 59 #[v, .int .i64 k] w fun e w' => e = .returned (.int .i64 (k + (cntMemS L : Int))) ∧ Sims B T w0 w' ∧ Sims B T wb w' := by
  obtain ⟨A, c, ea, hm, hA⟩ := h
  injection ea with ea
  subst ea
  unfold maxLen at hm
  have HA := Lib.hid hA
  have HS := Lib.hid (And.intro hs hsb)
  clear hA hs hsb
  go_enter Tryz.func59, Tryz.ntmps59
  go_wp2
  go_loopw [1, 5] (fun q v wr => ∃ i : Nat, i ≤ L.length ∧ v = .int .i64 i ∧ q = .int .i64 (k + (cntMemS (L.take i) : Int)) ∧ Sims B T w0 wr ∧ Sims B T wb wr) (fun _ v _ => L.length - (intOf v).toNat)
  case atStart => exact ⟨0, Nat.zero_le _, rfl, by simp [cntMemS], HS.out.1, HS.out.2⟩
  case round =>
    obtain ⟨i, hi, rfl, rfl, hr, hrb⟩ := hrel
    obtain ⟨W, rfl⟩ : ∃ W, W = wr := ⟨_, rfl⟩
    have HR := Lib.hid hr
    have HRB := Lib.hid hrb
    have hle := cntMemS_le L i
    clear hr hrb HS
    by_cases hlt : i < L.length
    · obtain ⟨b, o, rfl, hb1, hb2, us, hul, hc, hx⟩ := HA.out i hlt
      obtain ⟨x, hxx⟩ : ∃ x, L[i] = x := ⟨_, rfl⟩
      have hx? : L[i]? = some x := by rw [List.getElem?_eq_getElem hlt, hxx]
      rw [hxx] at hx
      have hst := cntMemS_step L i x hx?
      have hle2 := cntMemS_le L (i + 1)
      clear hxx hx?
      obtain ⟨x0, x1, x2, x3, rfl, xh0, xh1, xh2, xh3⟩ := hx
      obtain ⟨xe0, -⟩ := xh0
      injection xe0 with xe0
      subst xe0
      obtain ⟨xe1, -⟩ := xh1
      injection xe1 with xe1
      subst xe1
      obtain ⟨xe2, -⟩ := xh2
      injection xe2 with xe2
      subst xe2
      obtain ⟨xe3, -⟩ := xh3
      injection xe3 with xe3
      subst xe3
      have hw0 : w0.cell? ⟨b, o + i * 4, none⟩ = some (.int .i64 x.1) ∧ w0.frozen? ⟨b, o + i * 4, none⟩ = false := hc 0 _ rfl
      have HW0 := Lib.hid hw0
      have hw1 : w0.cell? ⟨b, o + i * 4 + 1, none⟩ = some (.int .i64 x.2.1) ∧ w0.frozen? ⟨b, o + i * 4 + 1, none⟩ = false := hc 1 _ rfl
      have HW1 := Lib.hid hw1
      have hw2 : w0.cell? ⟨b, o + i * 4 + 2, none⟩ = some (.int .i64 x.2.2.1) ∧ w0.frozen? ⟨b, o + i * 4 + 2, none⟩ = false := hc 2 _ rfl
      have HW2 := Lib.hid hw2
      have hw3 : w0.cell? ⟨b, o + i * 4 + 3, none⟩ = some (.int .i64 x.2.2.2) ∧ w0.frozen? ⟨b, o + i * 4 + 3, none⟩ = false := hc 3 _ rfl
      have HW3 := Lib.hid hw3
      clear hc hul hw0 hw1 hw2 hw3
      obtain ⟨cc, hcc⟩ : ∃ c : Int, (cntMemS (L.take i) : Int) = c := ⟨_, rfl⟩
      have hst' : (cntMemS (L.take (i + 1)) : Int) = cc + 4 := by unfold cntMem at hst; omega
      have hbnd : k + (cc + 4) ≤ 9000000000000000000 := by rw [← hst']; omega
      have hcc0 : 0 ≤ cc := by omega
      have HST := Lib.hid hst'
      rw [hcc]
      clear hst hle2 hst' hle hcc 
      obtain ⟨y0, xc0, xf0⟩ := Sims.int HR.out hb1 hb2 HW0.out
      obtain ⟨y1, xc1, xf1⟩ := Sims.int HR.out hb1 hb2 HW1.out
      obtain ⟨y2, xc2, xf2⟩ := Sims.int HR.out hb1 hb2 HW2.out
      obtain ⟨y3, xc3, xf3⟩ := Sims.int HR.out hb1 hb2 HW3.out
      go_wp2
      go_roundw
      case rel => exact ⟨i + 1, by omega, by go_num, by rw [HST.out]; exact int_eq (by omega), (Sims.set (Sims.set (Sims.set (Sims.set HR.out hb1 hb2 xc0 _) hb1 hb2 (set_far xc1 (by omega)) _) hb1 hb2 (set_far (set_far xc2 (by omega)) (by omega)) _) hb1 hb2 (set_far (set_far (set_far xc3 (by omega)) (by omega)) (by omega)) _), (Sims.set (Sims.set (Sims.set (Sims.set HRB.out hb1 hb2 xc0 _) hb1 hb2 (set_far xc1 (by omega)) _) hb1 hb2 (set_far (set_far xc2 (by omega)) (by omega)) _) hb1 hb2 (set_far (set_far (set_far xc3 (by omega)) (by omega)) (by omega)) _)⟩
      case measure => simp [intOf]; omega
    · obtain rfl : i = L.length := by omega
      rw [List.take_length]
      clear hle
      go_wp2
      go_ret
      exact ⟨rfl, HR.out, HRB.out⟩

theorem markMemS_both (L : List DMem) (v : Value) {B T : Nat} (k : Int) (w0 wb wc w : World) (h : rwMemS B T w0 [v] L) (hT : T ≤ w0.heap.size) (hs : Sims B T w0 w) (hsb : Sims B T wb w) (hsc : Sims B T wc w) (hk0 : 0 ≤ k) (hk : k + (cntMemS L : Int) ≤ 9000000000000000000) :
    Calls Tryz.prog 59 #[v, .int .i64 k] w fun e w' => e = .returned (.int .i64 (k + (cntMemS L : Int))) ∧ Sims B T w0 w' ∧ Sims B T wb w' ∧ Sims B T wc w' :=
  (markMemS_arg L v k w0 w w h hT hs (Sims.refl _ _ _) hk0 hk).mono fun _ _ ⟨he, h0, h1⟩ => ⟨he, h0, hsb.trans h1, hsc.trans h1⟩
end Go.Proofs.YtmjofpfkgbnknaaGreat
/- DmAssign: The type Assign as the exact laws' helpers see it. -/
namespace Go.Proofs.YtmjofpfkgbnknaaGreat
open Go.RowKit
set_option linter.unusedVariables false
set_option linter.unusedSimpArgs false
def cntAssign (x : DAssign) : Nat := 1 + cntOpS (x.2)
def cntAssignS (L : List DAssign) : Nat := (L.map cntAssign).sum
theorem cntAssignS_step (L : List DAssign) (i : Nat) (x : DAssign) (h : L[i]? = some x) : cntAssignS (L.take (i + 1)) = cntAssignS (L.take i) + cntAssign x := by
  unfold cntAssignS; rw [List.take_add_one, h, List.map_append, List.sum_append]; simp
theorem cntAssignS_le (L : List DAssign) (i : Nat) : cntAssignS (L.take i) ≤ cntAssignS L := by
  have h := List.take_append_drop i L
  unfold cntAssignS
  rw [← h, List.map_append, List.sum_append, h]; omega
theorem bndAssign (x : DAssign) (h : smAssign x) : cntAssign x ≤ 3145729 := by
  unfold smAssign at h
  unfold cntAssign
  have h1 := bndOpS _ h
  omega
theorem bndAssignS (L : List DAssign) (h : smAssignS L) : cntAssignS L ≤ 3298535931904 := by
  have h1 := sum_le cntAssign 3145729 L fun x hx => bndAssign x (h.2 x hx)
  have h2 := h.1
  unfold cntAssignS
  omega

set_option maxHeartbeats 3200000 in
theorem markAssignS_arg (L : List DAssign) (v : Value) {B T : Nat} (k : Int) (w0 wb w : World) (h : rwAssignS B T w0 [v] L) (hT : T ≤ w0.heap.size) (hs : Sims B T w0 w) (hsb : Sims B T wb w) (hk0 : 0 ≤ k) (hk : k + (cntAssignS L : Int) ≤ 9000000000000000000) :
    Calls Tryz.prog 57 #[v, .int .i64 k] w fun e w' => e = .returned (.int .i64 (k + (cntAssignS L : Int))) ∧ Sims B T w0 w' ∧ Sims B T wb w' := by
  obtain ⟨A, c, ea, hm, hA⟩ := h
  injection ea with ea
  subst ea
  unfold maxLen at hm
  have HA := Lib.hid hA
  have HS := Lib.hid (And.intro hs hsb)
  clear hA hs hsb
  go_enter Tryz.func57, Tryz.ntmps57
  go_wp2
  go_loopw [1, 5] (fun q v wr => ∃ i : Nat, i ≤ L.length ∧ v = .int .i64 i ∧ q = .int .i64 (k + (cntAssignS (L.take i) : Int)) ∧ Sims B T w0 wr ∧ Sims B T wb wr) (fun _ v _ => L.length - (intOf v).toNat)
  case atStart => exact ⟨0, Nat.zero_le _, rfl, by simp [cntAssignS], HS.out.1, HS.out.2⟩
  case round =>
    obtain ⟨i, hi, rfl, rfl, hr, hrb⟩ := hrel
    obtain ⟨W, rfl⟩ : ∃ W, W = wr := ⟨_, rfl⟩
    have HR := Lib.hid hr
    have HRB := Lib.hid hrb
    have hle := cntAssignS_le L i
    clear hr hrb HS
    by_cases hlt : i < L.length
    · obtain ⟨b, o, rfl, hb1, hb2, us, hul, hc, hx⟩ := HA.out i hlt
      obtain ⟨x, hxx⟩ : ∃ x, L[i] = x := ⟨_, rfl⟩
      have hx? : L[i]? = some x := by rw [List.getElem?_eq_getElem hlt, hxx]
      rw [hxx] at hx
      have hst := cntAssignS_step L i x hx?
      have hle2 := cntAssignS_le L (i + 1)
      clear hxx hx?
      obtain ⟨x0, x1, rfl, xh0, xh1⟩ := hx
      obtain ⟨xe0, -⟩ := xh0
      injection xe0 with xe0
      subst xe0
      have xR1 := Lib.hid xh1
      obtain ⟨xA1, xq1, xe1, xm1, -⟩ := xh1
      injection xe1 with xe1
      subst xe1
      have hw0 : w0.cell? ⟨b, o + i * 2, none⟩ = some (.int .i64 x.1) ∧ w0.frozen? ⟨b, o + i * 2, none⟩ = false := hc 0 _ rfl
      have HW0 := Lib.hid hw0
      have hw1 : w0.cell? ⟨b, o + i * 2 + 1, none⟩ = some (.slice xA1 (x.2).length xq1) ∧ w0.frozen? ⟨b, o + i * 2 + 1, none⟩ = false := hc 1 _ rfl
      have HW1 := Lib.hid hw1
      clear hc hul hw0 hw1
      obtain ⟨cc, hcc⟩ : ∃ c : Int, (cntAssignS (L.take i) : Int) = c := ⟨_, rfl⟩
      obtain ⟨t1, ht1⟩ : ∃ c : Int, (cntOpS (x.2) : Int) = c := ⟨_, rfl⟩
      have hst' : (cntAssignS (L.take (i + 1)) : Int) = cc + 1 + t1 := by unfold cntAssign at hst; omega
      have hbnd : k + (cc + 1 + t1) ≤ 9000000000000000000 := by rw [← hst']; omega
      have hcc0 : 0 ≤ cc := by omega
      have ht10 : 0 ≤ t1 := by omega
      have HC1 := Lib.hid ht1
      have HST := Lib.hid hst'
      rw [hcc]
      clear hst hle2 hst' hle hcc ht1
      obtain ⟨y0, xc0, xf0⟩ := Sims.int HR.out hb1 hb2 HW0.out
      have xc1 := Sims.slice HR.out hb1 hb2 HW1.out
      go_wp2_with fail
      refine (markOpS_arg (x.2) _ _ w0 wb _ xR1.out hT (Sims.set HR.out hb1 hb2 xc0 _) (Sims.set HRB.out hb1 hb2 xc0 _) (by omega) (by rw [HC1.out]; omega)).mono ?_
      rintro e W1 ⟨rfl, hr1, hrb1⟩
      rw [HC1.out]
      have HR1 := Lib.hid hr1
      have HRB1 := Lib.hid hrb1
      clear hr1 hrb1 xc0 xf0 xc1
      go_wp2
      go_roundw
      case rel => exact ⟨i + 1, by omega, by go_num, by rw [HST.out]; exact int_eq (by omega), HR1.out, HRB1.out⟩
      case measure => simp [intOf]; omega
    · obtain rfl : i = L.length := by omega
      rw [List.take_length]
      clear hle
      go_wp2
      go_ret
      exact ⟨rfl, HR.out, HRB.out⟩

theorem markAssignS_both (L : List DAssign) (v : Value) {B T : Nat} (k : Int) (w0 wb wc w : World) (h : rwAssignS B T w0 [v] L) (hT : T ≤ w0.heap.size) (hs : Sims B T w0 w) (hsb : Sims B T wb w) (hsc : Sims B T wc w) (hk0 : 0 ≤ k) (hk : k + (cntAssignS L : Int) ≤ 9000000000000000000) :
    Calls Tryz.prog 57 #[v, .int .i64 k] w fun e w' => e = .returned (.int .i64 (k + (cntAssignS L : Int))) ∧ Sims B T w0 w' ∧ Sims B T wb w' ∧ Sims B T wc w' :=
  (markAssignS_arg L v k w0 w w h hT hs (Sims.refl _ _ _) hk0 hk).mono fun _ _ ⟨he, h0, h1⟩ => ⟨he, h0, hsb.trans h1, hsc.trans h1⟩
end Go.Proofs.YtmjofpfkgbnknaaGreat
/- DmInst: The type Inst as the exact laws' helpers see it. -/
namespace Go.Proofs.YtmjofpfkgbnknaaGreat
open Go.RowKit
set_option linter.unusedVariables false
set_option linter.unusedSimpArgs false
def cntInst (x : DInst) : Nat := 2 + cntIntS (x.2.2)
def cntInstS (L : List DInst) : Nat := (L.map cntInst).sum
theorem cntInstS_step (L : List DInst) (i : Nat) (x : DInst) (h : L[i]? = some x) : cntInstS (L.take (i + 1)) = cntInstS (L.take i) + cntInst x := by
  unfold cntInstS; rw [List.take_add_one, h, List.map_append, List.sum_append]; simp
theorem cntInstS_le (L : List DInst) (i : Nat) : cntInstS (L.take i) ≤ cntInstS L := by
  have h := List.take_append_drop i L
  unfold cntInstS
  rw [← h, List.map_append, List.sum_append, h]; omega
theorem bndInst (x : DInst) (h : smInst x) : cntInst x ≤ 1048578 := by
  unfold smInst at h
  unfold cntInst
  have h2 := bndIntS _ h
  omega
theorem bndInstS (L : List DInst) (h : smInstS L) : cntInstS L ≤ 1099513724928 := by
  have h1 := sum_le cntInst 1048578 L fun x hx => bndInst x (h.2 x hx)
  have h2 := h.1
  unfold cntInstS
  omega

set_option maxHeartbeats 3200000 in
theorem markInstS_arg (L : List DInst) (v : Value) {B T : Nat} (k : Int) (w0 wb w : World) (h : rwInstS B T w0 [v] L) (hT : T ≤ w0.heap.size) (hs : Sims B T w0 w) (hsb : Sims B T wb w) (hk0 : 0 ≤ k) (hk : k + (cntInstS L : Int) ≤ 9000000000000000000) :
    Calls Tryz.prog 58 #[v, .int .i64 k] w fun e w' => e = .returned (.int .i64 (k + (cntInstS L : Int))) ∧ Sims B T w0 w' ∧ Sims B T wb w' := by
  obtain ⟨A, c, ea, hm, hA⟩ := h
  injection ea with ea
  subst ea
  unfold maxLen at hm
  have HA := Lib.hid hA
  have HS := Lib.hid (And.intro hs hsb)
  clear hA hs hsb
  go_enter Tryz.func58, Tryz.ntmps58
  go_wp2
  go_loopw [1, 5] (fun q v wr => ∃ i : Nat, i ≤ L.length ∧ v = .int .i64 i ∧ q = .int .i64 (k + (cntInstS (L.take i) : Int)) ∧ Sims B T w0 wr ∧ Sims B T wb wr) (fun _ v _ => L.length - (intOf v).toNat)
  case atStart => exact ⟨0, Nat.zero_le _, rfl, by simp [cntInstS], HS.out.1, HS.out.2⟩
  case round =>
    obtain ⟨i, hi, rfl, rfl, hr, hrb⟩ := hrel
    obtain ⟨W, rfl⟩ : ∃ W, W = wr := ⟨_, rfl⟩
    have HR := Lib.hid hr
    have HRB := Lib.hid hrb
    have hle := cntInstS_le L i
    clear hr hrb HS
    by_cases hlt : i < L.length
    · obtain ⟨b, o, rfl, hb1, hb2, us, hul, hc, hx⟩ := HA.out i hlt
      obtain ⟨x, hxx⟩ : ∃ x, L[i] = x := ⟨_, rfl⟩
      have hx? : L[i]? = some x := by rw [List.getElem?_eq_getElem hlt, hxx]
      rw [hxx] at hx
      have hst := cntInstS_step L i x hx?
      have hle2 := cntInstS_le L (i + 1)
      clear hxx hx?
      obtain ⟨x0, x1, x2, rfl, xh0, xh1, xh2⟩ := hx
      obtain ⟨xe0, -⟩ := xh0
      injection xe0 with xe0
      subst xe0
      obtain ⟨xe1, -⟩ := xh1
      injection xe1 with xe1
      subst xe1
      have xR2 := Lib.hid xh2
      obtain ⟨xA2, xq2, xe2, xm2, -⟩ := xh2
      injection xe2 with xe2
      subst xe2
      have hw0 : w0.cell? ⟨b, o + i * 3, none⟩ = some (.int .i64 x.1) ∧ w0.frozen? ⟨b, o + i * 3, none⟩ = false := hc 0 _ rfl
      have HW0 := Lib.hid hw0
      have hw1 : w0.cell? ⟨b, o + i * 3 + 1, none⟩ = some (.int .i64 x.2.1) ∧ w0.frozen? ⟨b, o + i * 3 + 1, none⟩ = false := hc 1 _ rfl
      have HW1 := Lib.hid hw1
      have hw2 : w0.cell? ⟨b, o + i * 3 + 2, none⟩ = some (.slice xA2 (x.2.2).length xq2) ∧ w0.frozen? ⟨b, o + i * 3 + 2, none⟩ = false := hc 2 _ rfl
      have HW2 := Lib.hid hw2
      clear hc hul hw0 hw1 hw2
      obtain ⟨cc, hcc⟩ : ∃ c : Int, (cntInstS (L.take i) : Int) = c := ⟨_, rfl⟩
      obtain ⟨t2, ht2⟩ : ∃ c : Int, (cntIntS (x.2.2) : Int) = c := ⟨_, rfl⟩
      have hst' : (cntInstS (L.take (i + 1)) : Int) = cc + 2 + t2 := by unfold cntInst at hst; omega
      have hbnd : k + (cc + 2 + t2) ≤ 9000000000000000000 := by rw [← hst']; omega
      have hcc0 : 0 ≤ cc := by omega
      have ht20 : 0 ≤ t2 := by omega
      have HC2 := Lib.hid ht2
      have HST := Lib.hid hst'
      rw [hcc]
      clear hst hle2 hst' hle hcc ht2
      obtain ⟨y0, xc0, xf0⟩ := Sims.int HR.out hb1 hb2 HW0.out
      obtain ⟨y1, xc1, xf1⟩ := Sims.int HR.out hb1 hb2 HW1.out
      have xc2 := Sims.slice HR.out hb1 hb2 HW2.out
      go_wp2_with fail
      refine (markIntS_arg (x.2.2) _ _ w0 wb _ xR2.out hT (Sims.set (Sims.set HR.out hb1 hb2 xc0 _) hb1 hb2 (set_far xc1 (by omega)) _) (Sims.set (Sims.set HRB.out hb1 hb2 xc0 _) hb1 hb2 (set_far xc1 (by omega)) _) (by omega) (by rw [HC2.out]; omega)).mono ?_
      rintro e W1 ⟨rfl, hr1, hrb1⟩
      rw [HC2.out]
      have HR1 := Lib.hid hr1
      have HRB1 := Lib.hid hrb1
      clear hr1 hrb1 xc0 xf0 xc1 xf1 xc2
      go_wp2
      go_roundw
      case rel => exact ⟨i + 1, by omega, by go_num, by rw [HST.out]; exact int_eq (by omega), HR1.out, HRB1.out⟩
      case measure => simp [intOf]; omega
    · obtain rfl : i = L.length := by omega
      rw [List.take_length]
      clear hle
      go_wp2
      go_ret
      exact ⟨rfl, HR.out, HRB.out⟩

theorem markInstS_both (L : List DInst) (v : Value) {B T : Nat} (k : Int) (w0 wb wc w : World) (h : rwInstS B T w0 [v] L) (hT : T ≤ w0.heap.size) (hs : Sims B T w0 w) (hsb : Sims B T wb w) (hsc : Sims B T wc w) (hk0 : 0 ≤ k) (hk : k + (cntInstS L : Int) ≤ 9000000000000000000) :
    Calls Tryz.prog 58 #[v, .int .i64 k] w fun e w' => e = .returned (.int .i64 (k + (cntInstS L : Int))) ∧ Sims B T w0 w' ∧ Sims B T wb w' ∧ Sims B T wc w' :=
  (markInstS_arg L v k w0 w w h hT hs (Sims.refl _ _ _) hk0 hk).mono fun _ _ ⟨he, h0, h1⟩ => ⟨he, h0, hsb.trans h1, hsc.trans h1⟩
end Go.Proofs.YtmjofpfkgbnknaaGreat
/- DmModule: The type Module as the exact laws' helpers see it. -/
namespace Go.Proofs.YtmjofpfkgbnknaaGreat
open Go.RowKit
set_option linter.unusedVariables false
set_option linter.unusedSimpArgs false
def cntModule (x : DModule) : Nat := cntSignalS (x.1) + cntAssignS (x.2.1) + cntInstS (x.2.2.1) + cntMemS (x.2.2.2)
def cntModuleS (L : List DModule) : Nat := (L.map cntModule).sum
theorem cntModuleS_step (L : List DModule) (i : Nat) (x : DModule) (h : L[i]? = some x) : cntModuleS (L.take (i + 1)) = cntModuleS (L.take i) + cntModule x := by
  unfold cntModuleS; rw [List.take_add_one, h, List.map_append, List.sum_append]; simp
theorem cntModuleS_le (L : List DModule) (i : Nat) : cntModuleS (L.take i) ≤ cntModuleS L := by
  have h := List.take_append_drop i L
  unfold cntModuleS
  rw [← h, List.map_append, List.sum_append, h]; omega
theorem bndModule (x : DModule) (h : smModule x) : cntModule x ≤ 4398056996864 := by
  unfold smModule at h
  unfold cntModule
  have h0 := bndSignalS _ h.1
  have h1 := bndAssignS _ h.2.1
  have h2 := bndInstS _ h.2.2.1
  have h3 := bndMemS _ h.2.2.2
  omega

set_option maxHeartbeats 3200000 in
theorem markModuleS_arg (L : List DModule) (v : Value) {B T : Nat} (k : Int) (w0 wb w : World) (h : rwModuleS B T w0 [v] L) (hT : T ≤ w0.heap.size) (hs : Sims B T w0 w) (hsb : Sims B T wb w) (hk0 : 0 ≤ k) (hk : k + (cntModuleS L : Int) ≤ 9000000000000000000) :
    Calls Tryz.prog 55 #[v, .int .i64 k] w fun e w' => e = .returned (.int .i64 (k + (cntModuleS L : Int))) ∧ Sims B T w0 w' ∧ Sims B T wb w' := by
  obtain ⟨A, c, ea, hm, hA⟩ := h
  injection ea with ea
  subst ea
  unfold maxLen at hm
  have HA := Lib.hid hA
  have HS := Lib.hid (And.intro hs hsb)
  clear hA hs hsb
  go_enter Tryz.func55, Tryz.ntmps55
  go_wp2
  go_loopw [1, 5] (fun q v wr => ∃ i : Nat, i ≤ L.length ∧ v = .int .i64 i ∧ q = .int .i64 (k + (cntModuleS (L.take i) : Int)) ∧ Sims B T w0 wr ∧ Sims B T wb wr) (fun _ v _ => L.length - (intOf v).toNat)
  case atStart => exact ⟨0, Nat.zero_le _, rfl, by simp [cntModuleS], HS.out.1, HS.out.2⟩
  case round =>
    obtain ⟨i, hi, rfl, rfl, hr, hrb⟩ := hrel
    obtain ⟨W, rfl⟩ : ∃ W, W = wr := ⟨_, rfl⟩
    have HR := Lib.hid hr
    have HRB := Lib.hid hrb
    have hle := cntModuleS_le L i
    clear hr hrb HS
    by_cases hlt : i < L.length
    · obtain ⟨b, o, rfl, hb1, hb2, us, hul, hc, hx⟩ := HA.out i hlt
      obtain ⟨x, hxx⟩ : ∃ x, L[i] = x := ⟨_, rfl⟩
      have hx? : L[i]? = some x := by rw [List.getElem?_eq_getElem hlt, hxx]
      rw [hxx] at hx
      have hst := cntModuleS_step L i x hx?
      have hle2 := cntModuleS_le L (i + 1)
      clear hxx hx?
      obtain ⟨x0, x1, x2, x3, rfl, xh0, xh1, xh2, xh3⟩ := hx
      have xR0 := Lib.hid xh0
      obtain ⟨xA0, xq0, xe0, xm0, -⟩ := xh0
      injection xe0 with xe0
      subst xe0
      have xR1 := Lib.hid xh1
      obtain ⟨xA1, xq1, xe1, xm1, -⟩ := xh1
      injection xe1 with xe1
      subst xe1
      have xR2 := Lib.hid xh2
      obtain ⟨xA2, xq2, xe2, xm2, -⟩ := xh2
      injection xe2 with xe2
      subst xe2
      have xR3 := Lib.hid xh3
      obtain ⟨xA3, xq3, xe3, xm3, -⟩ := xh3
      injection xe3 with xe3
      subst xe3
      have hw0 : w0.cell? ⟨b, o + i * 4, none⟩ = some (.slice xA0 (x.1).length xq0) ∧ w0.frozen? ⟨b, o + i * 4, none⟩ = false := hc 0 _ rfl
      have HW0 := Lib.hid hw0
      have hw1 : w0.cell? ⟨b, o + i * 4 + 1, none⟩ = some (.slice xA1 (x.2.1).length xq1) ∧ w0.frozen? ⟨b, o + i * 4 + 1, none⟩ = false := hc 1 _ rfl
      have HW1 := Lib.hid hw1
      have hw2 : w0.cell? ⟨b, o + i * 4 + 2, none⟩ = some (.slice xA2 (x.2.2.1).length xq2) ∧ w0.frozen? ⟨b, o + i * 4 + 2, none⟩ = false := hc 2 _ rfl
      have HW2 := Lib.hid hw2
      have hw3 : w0.cell? ⟨b, o + i * 4 + 3, none⟩ = some (.slice xA3 (x.2.2.2).length xq3) ∧ w0.frozen? ⟨b, o + i * 4 + 3, none⟩ = false := hc 3 _ rfl
      have HW3 := Lib.hid hw3
      clear hc hul hw0 hw1 hw2 hw3
      obtain ⟨cc, hcc⟩ : ∃ c : Int, (cntModuleS (L.take i) : Int) = c := ⟨_, rfl⟩
      obtain ⟨t0, ht0⟩ : ∃ c : Int, (cntSignalS (x.1) : Int) = c := ⟨_, rfl⟩
      obtain ⟨t1, ht1⟩ : ∃ c : Int, (cntAssignS (x.2.1) : Int) = c := ⟨_, rfl⟩
      obtain ⟨t2, ht2⟩ : ∃ c : Int, (cntInstS (x.2.2.1) : Int) = c := ⟨_, rfl⟩
      obtain ⟨t3, ht3⟩ : ∃ c : Int, (cntMemS (x.2.2.2) : Int) = c := ⟨_, rfl⟩
      have hst' : (cntModuleS (L.take (i + 1)) : Int) = cc + t0 + t1 + t2 + t3 := by unfold cntModule at hst; omega
      have hbnd : k + (cc + t0 + t1 + t2 + t3) ≤ 9000000000000000000 := by rw [← hst']; omega
      have hcc0 : 0 ≤ cc := by omega
      have ht00 : 0 ≤ t0 := by omega
      have HC0 := Lib.hid ht0
      have ht10 : 0 ≤ t1 := by omega
      have HC1 := Lib.hid ht1
      have ht20 : 0 ≤ t2 := by omega
      have HC2 := Lib.hid ht2
      have ht30 : 0 ≤ t3 := by omega
      have HC3 := Lib.hid ht3
      have HST := Lib.hid hst'
      rw [hcc]
      clear hst hle2 hst' hle hcc ht0 ht1 ht2 ht3
      have xc0 := Sims.slice HR.out hb1 hb2 HW0.out
      have xc1 := Sims.slice HR.out hb1 hb2 HW1.out
      have xc2 := Sims.slice HR.out hb1 hb2 HW2.out
      have xc3 := Sims.slice HR.out hb1 hb2 HW3.out
      go_wp2_with fail
      refine (markSignalS_arg (x.1) _ _ w0 wb _ xR0.out hT HR.out HRB.out (by omega) (by rw [HC0.out]; omega)).mono ?_
      rintro e W1 ⟨rfl, hr1, hrb1⟩
      rw [HC0.out]
      have HR1 := Lib.hid hr1
      have HRB1 := Lib.hid hrb1
      clear hr1 hrb1 xc0 xc1 xc2 xc3
      have xc1 := Sims.slice HR1.out hb1 hb2 HW1.out
      have xc2 := Sims.slice HR1.out hb1 hb2 HW2.out
      have xc3 := Sims.slice HR1.out hb1 hb2 HW3.out
      go_wp2_with fail
      refine (markAssignS_arg (x.2.1) _ _ w0 wb _ xR1.out hT HR1.out HRB1.out (by omega) (by rw [HC1.out]; omega)).mono ?_
      rintro e W2 ⟨rfl, hr2, hrb2⟩
      rw [HC1.out]
      have HR2 := Lib.hid hr2
      have HRB2 := Lib.hid hrb2
      clear hr2 hrb2 xc1 xc2 xc3
      have xc2 := Sims.slice HR2.out hb1 hb2 HW2.out
      have xc3 := Sims.slice HR2.out hb1 hb2 HW3.out
      go_wp2_with fail
      refine (markInstS_arg (x.2.2.1) _ _ w0 wb _ xR2.out hT HR2.out HRB2.out (by omega) (by rw [HC2.out]; omega)).mono ?_
      rintro e W3 ⟨rfl, hr3, hrb3⟩
      rw [HC2.out]
      have HR3 := Lib.hid hr3
      have HRB3 := Lib.hid hrb3
      clear hr3 hrb3 xc2 xc3
      have xc3 := Sims.slice HR3.out hb1 hb2 HW3.out
      go_wp2_with fail
      refine (markMemS_arg (x.2.2.2) _ _ w0 wb _ xR3.out hT HR3.out HRB3.out (by omega) (by rw [HC3.out]; omega)).mono ?_
      rintro e W4 ⟨rfl, hr4, hrb4⟩
      rw [HC3.out]
      have HR4 := Lib.hid hr4
      have HRB4 := Lib.hid hrb4
      clear hr4 hrb4 xc3
      go_wp2
      go_roundw
      case rel => exact ⟨i + 1, by omega, by go_num, by rw [HST.out]; exact int_eq (by omega), HR4.out, HRB4.out⟩
      case measure => simp [intOf]; omega
    · obtain rfl : i = L.length := by omega
      rw [List.take_length]
      clear hle
      go_wp2
      go_ret
      exact ⟨rfl, HR.out, HRB.out⟩

theorem markModuleS_both (L : List DModule) (v : Value) {B T : Nat} (k : Int) (w0 wb wc w : World) (h : rwModuleS B T w0 [v] L) (hT : T ≤ w0.heap.size) (hs : Sims B T w0 w) (hsb : Sims B T wb w) (hsc : Sims B T wc w) (hk0 : 0 ≤ k) (hk : k + (cntModuleS L : Int) ≤ 9000000000000000000) :
    Calls Tryz.prog 55 #[v, .int .i64 k] w fun e w' => e = .returned (.int .i64 (k + (cntModuleS L : Int))) ∧ Sims B T w0 w' ∧ Sims B T wb w' ∧ Sims B T wc w' :=
  (markModuleS_arg L v k w0 w w h hT hs (Sims.refl _ _ _) hk0 hk).mono fun _ _ ⟨he, h0, h1⟩ => ⟨he, h0, hsb.trans h1, hsc.trans h1⟩

set_option maxHeartbeats 3200000 in
theorem markModule_arg (x : DModule) (us : List Value) {B T : Nat} (k : Int) (w0 wb w : World) (h : rwModule B T w0 us x) (hT : T ≤ w0.heap.size) (hs : Sims B T w0 w) (hsb : Sims B T wb w) (hk0 : 0 ≤ k) (hk : k + ((cntSignalS (x.1) : Int) + (cntAssignS (x.2.1) : Int) + (cntInstS (x.2.2.1) : Int) + (cntMemS (x.2.2.2) : Int)) ≤ 9000000000000000000) :
    Calls Tryz.prog 15 #[.agg us.toArray, .int .i64 k] w fun e w' => (∃ r : Int, 0 ≤ r ∧ r ≤ 9000000000000000000 ∧ e = .returned (.int .i64 r)) ∧ Sims B T w0 w' ∧ Sims B T wb w' := by
  have HS := Lib.hid (And.intro hs hsb)
  clear hs hsb
  obtain ⟨x0, x1, x2, x3, rfl, xh0, xh1, xh2, xh3⟩ := h
  have xR0 := Lib.hid xh0
  obtain ⟨xA0, xq0, xe0, xm0, -⟩ := xh0
  injection xe0 with xe0
  subst xe0
  have xR1 := Lib.hid xh1
  obtain ⟨xA1, xq1, xe1, xm1, -⟩ := xh1
  injection xe1 with xe1
  subst xe1
  have xR2 := Lib.hid xh2
  obtain ⟨xA2, xq2, xe2, xm2, -⟩ := xh2
  injection xe2 with xe2
  subst xe2
  have xR3 := Lib.hid xh3
  obtain ⟨xA3, xq3, xe3, xm3, -⟩ := xh3
  injection xe3 with xe3
  subst xe3
  obtain ⟨t0, ht0⟩ : ∃ c : Int, (cntSignalS (x.1) : Int) = c := ⟨_, rfl⟩
  have HC0 := Lib.hid ht0
  have h0 : 0 ≤ t0 := by omega
  obtain ⟨t1, ht1⟩ : ∃ c : Int, (cntAssignS (x.2.1) : Int) = c := ⟨_, rfl⟩
  have HC1 := Lib.hid ht1
  have h1 : 0 ≤ t1 := by omega
  obtain ⟨t2, ht2⟩ : ∃ c : Int, (cntInstS (x.2.2.1) : Int) = c := ⟨_, rfl⟩
  have HC2 := Lib.hid ht2
  have h2 : 0 ≤ t2 := by omega
  obtain ⟨t3, ht3⟩ : ∃ c : Int, (cntMemS (x.2.2.2) : Int) = c := ⟨_, rfl⟩
  have HC3 := Lib.hid ht3
  have h3 : 0 ≤ t3 := by omega
  rw [ht0, ht1, ht2, ht3] at hk
  clear ht0 ht1 ht2 ht3
  go_enter Tryz.func15, Tryz.ntmps15
  go_wp2_with fail
  obtain ⟨V, hV⟩ : ∃ V, V = w.alloc (.cells #[.slice xA0 (x.1).length xq0, .slice xA1 (x.2.1).length xq1, .slice xA2 (x.2.2.1).length xq2, .slice xA3 (x.2.2.2).length xq3] 31) := ⟨_, rfl⟩
  rw [← hV]
  have g := eqbox1 hV
  have c0 : V.cell? ⟨w.heap.size, 0, none⟩ = some (.slice xA0 (x.1).length xq0) := box_cell g.1 0 _ rfl
  have c1 : V.cell? ⟨w.heap.size, 1, none⟩ = some (.slice xA1 (x.2.1).length xq1) := box_cell g.1 1 _ rfl
  have c2 : V.cell? ⟨w.heap.size, 2, none⟩ = some (.slice xA2 (x.2.2.1).length xq2) := box_cell g.1 2 _ rfl
  have c3 : V.cell? ⟨w.heap.size, 3, none⟩ = some (.slice xA3 (x.2.2.2).length xq3) := box_cell g.1 3 _ rfl
  have HR0 := Lib.hid (And.intro (HS.out.1.below g.2) (HS.out.2.below g.2))
  have HG := Lib.hid g.1
  have hlt : T ≤ w.heap.size := Nat.le_trans hT HS.out.1.size
  have HV0 := Lib.hid (Sims.refl B T V)
  clear hV g
  obtain ⟨Vp0, hvp⟩ : ∃ Vp, Vp = V := ⟨_, rfl⟩
  refine (markSignalS_both (x.1) _ _ w0 wb V _ xR0.out hT HR0.out.1 HR0.out.2 HV0.out (by omega) (by rw [HC0.out]; omega)).mono ?_
  rintro e W1 ⟨rfl, hr, hrb, hrv⟩
  rw [HC0.out]
  have HR1 := Lib.hid (And.intro hr hrb)
  have HV1 := Lib.hid hrv
  have c0' : W1.cell? ⟨w.heap.size, 0, none⟩ = some (.slice xA0 (x.1).length xq0) := sims_box hrv HG.out hlt 0 _ rfl
  have c1' : W1.cell? ⟨w.heap.size, 1, none⟩ = some (.slice xA1 (x.2.1).length xq1) := sims_box hrv HG.out hlt 1 _ rfl
  have c2' : W1.cell? ⟨w.heap.size, 2, none⟩ = some (.slice xA2 (x.2.2.1).length xq2) := sims_box hrv HG.out hlt 2 _ rfl
  have c3' : W1.cell? ⟨w.heap.size, 3, none⟩ = some (.slice xA3 (x.2.2.2).length xq3) := sims_box hrv HG.out hlt 3 _ rfl
  clear hr hrb hrv hvp c0 c1 c2 c3
  have c0 := c0'
  have c1 := c1'
  have c2 := c2'
  have c3 := c3'
  clear c0' c1' c2' c3'
  go_wp2_with fail
  obtain ⟨Vp1, hvp⟩ : ∃ Vp, Vp = W1 := ⟨_, rfl⟩
  refine (markAssignS_both (x.2.1) _ _ w0 wb V _ xR1.out hT HR1.out.1 HR1.out.2 HV1.out (by omega) (by rw [HC1.out]; omega)).mono ?_
  rintro e W2 ⟨rfl, hr, hrb, hrv⟩
  rw [HC1.out]
  have HR2 := Lib.hid (And.intro hr hrb)
  have HV2 := Lib.hid hrv
  have c0' : W2.cell? ⟨w.heap.size, 0, none⟩ = some (.slice xA0 (x.1).length xq0) := sims_box hrv HG.out hlt 0 _ rfl
  have c1' : W2.cell? ⟨w.heap.size, 1, none⟩ = some (.slice xA1 (x.2.1).length xq1) := sims_box hrv HG.out hlt 1 _ rfl
  have c2' : W2.cell? ⟨w.heap.size, 2, none⟩ = some (.slice xA2 (x.2.2.1).length xq2) := sims_box hrv HG.out hlt 2 _ rfl
  have c3' : W2.cell? ⟨w.heap.size, 3, none⟩ = some (.slice xA3 (x.2.2.2).length xq3) := sims_box hrv HG.out hlt 3 _ rfl
  clear hr hrb hrv hvp c0 c1 c2 c3
  have c0 := c0'
  have c1 := c1'
  have c2 := c2'
  have c3 := c3'
  clear c0' c1' c2' c3'
  go_wp2_with fail
  obtain ⟨Vp2, hvp⟩ : ∃ Vp, Vp = W2 := ⟨_, rfl⟩
  refine (markInstS_both (x.2.2.1) _ _ w0 wb V _ xR2.out hT HR2.out.1 HR2.out.2 HV2.out (by omega) (by rw [HC2.out]; omega)).mono ?_
  rintro e W3 ⟨rfl, hr, hrb, hrv⟩
  rw [HC2.out]
  have HR3 := Lib.hid (And.intro hr hrb)
  have HV3 := Lib.hid hrv
  have c0' : W3.cell? ⟨w.heap.size, 0, none⟩ = some (.slice xA0 (x.1).length xq0) := sims_box hrv HG.out hlt 0 _ rfl
  have c1' : W3.cell? ⟨w.heap.size, 1, none⟩ = some (.slice xA1 (x.2.1).length xq1) := sims_box hrv HG.out hlt 1 _ rfl
  have c2' : W3.cell? ⟨w.heap.size, 2, none⟩ = some (.slice xA2 (x.2.2.1).length xq2) := sims_box hrv HG.out hlt 2 _ rfl
  have c3' : W3.cell? ⟨w.heap.size, 3, none⟩ = some (.slice xA3 (x.2.2.2).length xq3) := sims_box hrv HG.out hlt 3 _ rfl
  clear hr hrb hrv hvp c0 c1 c2 c3
  have c0 := c0'
  have c1 := c1'
  have c2 := c2'
  have c3 := c3'
  clear c0' c1' c2' c3'
  go_wp2_with fail
  obtain ⟨Vp3, hvp⟩ : ∃ Vp, Vp = W3 := ⟨_, rfl⟩
  refine (markMemS_both (x.2.2.2) _ _ w0 wb V _ xR3.out hT HR3.out.1 HR3.out.2 HV3.out (by omega) (by rw [HC3.out]; omega)).mono ?_
  rintro e W4 ⟨rfl, hr, hrb, hrv⟩
  rw [HC3.out]
  have HR4 := Lib.hid (And.intro hr hrb)
  have HV4 := Lib.hid hrv
  have c0' : W4.cell? ⟨w.heap.size, 0, none⟩ = some (.slice xA0 (x.1).length xq0) := sims_box hrv HG.out hlt 0 _ rfl
  have c1' : W4.cell? ⟨w.heap.size, 1, none⟩ = some (.slice xA1 (x.2.1).length xq1) := sims_box hrv HG.out hlt 1 _ rfl
  have c2' : W4.cell? ⟨w.heap.size, 2, none⟩ = some (.slice xA2 (x.2.2.1).length xq2) := sims_box hrv HG.out hlt 2 _ rfl
  have c3' : W4.cell? ⟨w.heap.size, 3, none⟩ = some (.slice xA3 (x.2.2.2).length xq3) := sims_box hrv HG.out hlt 3 _ rfl
  clear hr hrb hrv hvp c0 c1 c2 c3
  have c0 := c0'
  have c1 := c1'
  have c2 := c2'
  have c3 := c3'
  clear c0' c1' c2' c3'
  go_wp2
  go_ret
  exact ⟨⟨_, by omega, by omega, rfl⟩, HR4.out.1, HR4.out.2⟩
end Go.Proofs.YtmjofpfkgbnknaaGreat
/- DmDesign: The type Design as the exact laws' helpers see it. -/
namespace Go.Proofs.YtmjofpfkgbnknaaGreat
open Go.RowKit
set_option linter.unusedVariables false
set_option linter.unusedSimpArgs false
def cntDesign (x : DDesign) : Nat := cntModuleS (x)
def cntDesignS (L : List DDesign) : Nat := (L.map cntDesign).sum
theorem cntDesignS_step (L : List DDesign) (i : Nat) (x : DDesign) (h : L[i]? = some x) : cntDesignS (L.take (i + 1)) = cntDesignS (L.take i) + cntDesign x := by
  unfold cntDesignS; rw [List.take_add_one, h, List.map_append, List.sum_append]; simp
theorem cntDesignS_le (L : List DDesign) (i : Nat) : cntDesignS (L.take i) ≤ cntDesignS L := by
  have h := List.take_append_drop i L
  unfold cntDesignS
  rw [← h, List.map_append, List.sum_append, h]; omega

set_option maxHeartbeats 3200000 in
theorem markDesign_arg (x : DDesign) (us : List Value) {B T : Nat} (k : Int) (w0 wb w : World) (h : rwDesign B T w0 us x) (hT : T ≤ w0.heap.size) (hs : Sims B T w0 w) (hsb : Sims B T wb w) (hk0 : 0 ≤ k) (hk : k + ((cntModuleS (x) : Int)) ≤ 9000000000000000000) :
    Calls Tryz.prog 14 #[.agg us.toArray, .int .i64 k] w fun e w' => (∃ r : Int, 0 ≤ r ∧ e = .returned (.int .i64 r)) ∧ Sims B T w0 w' ∧ Sims B T wb w' := by
  have HS := Lib.hid (And.intro hs hsb)
  clear hs hsb
  obtain ⟨x0, rfl, xh0⟩ := h
  have xR0 := Lib.hid xh0
  obtain ⟨xA0, xq0, xe0, xm0, -⟩ := xh0
  injection xe0 with xe0
  subst xe0
  obtain ⟨t0, ht0⟩ : ∃ c : Int, (cntModuleS (x) : Int) = c := ⟨_, rfl⟩
  have HC0 := Lib.hid ht0
  have h0 : 0 ≤ t0 := by omega
  rw [ht0] at hk
  clear ht0
  go_enter Tryz.func14, Tryz.ntmps14
  go_wp2_with fail
  obtain ⟨V, hV⟩ : ∃ V, V = w.alloc (.cells #[.slice xA0 (x).length xq0] 36) := ⟨_, rfl⟩
  rw [← hV]
  have g := eqbox1 hV
  have c0 : V.cell? ⟨w.heap.size, 0, none⟩ = some (.slice xA0 (x).length xq0) := box_cell g.1 0 _ rfl
  have HR0 := Lib.hid (And.intro (HS.out.1.below g.2) (HS.out.2.below g.2))
  have HG := Lib.hid g.1
  have hlt : T ≤ w.heap.size := Nat.le_trans hT HS.out.1.size
  have HV0 := Lib.hid (Sims.refl B T V)
  clear hV g
  obtain ⟨Vp0, hvp⟩ : ∃ Vp, Vp = V := ⟨_, rfl⟩
  refine (markModuleS_both (x) _ _ w0 wb V _ xR0.out hT HR0.out.1 HR0.out.2 HV0.out (by omega) (by rw [HC0.out]; omega)).mono ?_
  rintro e W1 ⟨rfl, hr, hrb, hrv⟩
  rw [HC0.out]
  have HR1 := Lib.hid (And.intro hr hrb)
  have HV1 := Lib.hid hrv
  have c0' : W1.cell? ⟨w.heap.size, 0, none⟩ = some (.slice xA0 (x).length xq0) := sims_box hrv HG.out hlt 0 _ rfl
  clear hr hrb hrv hvp c0
  have c0 := c0'
  clear c0'
  go_wp2
  go_ret
  exact ⟨⟨_, by omega, rfl⟩, HR1.out.1, HR1.out.2⟩
end Go.Proofs.YtmjofpfkgbnknaaGreat
