/-
  DmInt, DmSeq, DmAnd, DmNet as one text.
-/
import Derived.Test.YtiejilmgchmppaaDtN
/- DmInt: The type Int as the exact laws' helpers see it. -/
namespace Go.Proofs.Ytiejilmgchmppaa
open Go.RowKit
set_option linter.unusedVariables false
set_option linter.unusedSimpArgs false

theorem int_eq {a b : Int} (h : a = b) : Value.int .i64 a = .int .i64 b := by rw [h]
theorem Sims.trans {B T : Nat} {a b c : World} (h : Sims B T a b) (k : Sims B T b c) : Sims B T a c :=
  ⟨k.os.trans h.os, k.tape.trans h.tape, k.output.trans h.output, Nat.le_trans h.size k.size, fun j hj hh => (k.block j (Nat.lt_of_lt_of_le hj h.size) hh).trans (h.block j hj hh),
    fun b o u h1 h2 hc => by
      obtain ⟨u', hc', hs⟩ := h.cell b o u h1 h2 hc
      obtain ⟨u'', hc'', hs'⟩ := k.cell b o u' h1 h2 hc'
      exact ⟨u'', hc'', hs.trans hs'⟩,
    fun b o u h1 h2 hc hf => by
      obtain ⟨u', hc', hs⟩ := h.cell b o u h1 h2 hc
      exact k.froz b o u' h1 h2 hc' (h.froz b o u h1 h2 hc hf)⟩
theorem sims_box {B T : Nat} {V W : World} {g : Nat} {cs : Array Value} {t : TypeId} {fr : Nat × Nat} (h : Sims B T V W) (hg : V.heap[g]? = some (.cells cs t fr)) (hT : T ≤ g) (i : Nat) (v : Value) (hv : cs[i]? = some v) : W.cell? ⟨g, i, none⟩ = some v :=
  box_cell ((h.block g (Array.getElem?_eq_some_iff.1 hg).1 (.inr hT)).trans hg) i v hv
theorem set_far {W : World} {b o1 o2 : Nat} {v u : Value} (h : W.cell? ⟨b, o2, none⟩ = some u) (hne : o1 ≠ o2) : (W.setCell ⟨b, o1, none⟩ v).cell? ⟨b, o2, none⟩ = some u := by
  rw [World.cell?_setCell_other W ⟨b, o1, none⟩ ⟨b, o2, none⟩ v (by intro e; injection e with _ e; exact hne e)]; exact h
def cntIntS (L : List Int) : Nat := L.length
theorem cntIntS_step (L : List Int) (i : Nat) (x : Int) (h : L[i]? = some x) : cntIntS (L.take (i + 1)) = cntIntS (L.take i) + 1 := by
  unfold cntIntS; rw [List.take_add_one, h, List.length_append]; rfl
theorem cntIntS_le (L : List Int) (i : Nat) : cntIntS (L.take i) ≤ cntIntS L := by unfold cntIntS; rw [List.length_take]; omega
theorem sum_le {α : Type} (f : α → Nat) (M : Nat) : ∀ L : List α, (∀ x ∈ L, f x ≤ M) → (L.map f).sum ≤ M * L.length
  | [], _ => by simp
  | x :: L, h => by
    have h1 := sum_le f M L fun y hy => h y (List.mem_cons_of_mem _ hy)
    have h2 := h x (List.mem_cons_self ..)
    rw [List.map_cons, List.sum_cons, List.length_cons, Nat.mul_add]; omega
theorem bndIntS (L : List Int) (h : smIntS L) : cntIntS L ≤ 1048576 := h

set_option maxHeartbeats 3200000 in
theorem markIntS_arg (L : List Int) (v : Value) {B T : Nat} (k : Int) (w0 wb w : World) (h : rwIntS B T w0 [v] L) (hT : T ≤ w0.heap.size) (hs : Sims B T w0 w) (hsb : Sims B T wb w) (hk0 : 0 ≤ k) (hk : k + (cntIntS L : Int) ≤ 9000000000000000000) :
    Calls Try.prog 19 #[v, .int .i64 k] w fun e w' => e = .returned (.int .i64 (k + (cntIntS L : Int))) ∧ Sims B T w0 w' ∧ Sims B T wb w' := by
  obtain ⟨A, c, ea, hm, hA⟩ := h
  injection ea with ea
  subst ea
  unfold maxLen at hm
  have HA := Lib.hid hA
  have HS := Lib.hid (And.intro hs hsb)
  clear hA hs hsb
  go_enter Try.func19, Try.ntmps19
  go_wp2
  go_loopw [1, 5] (fun q v wr => ∃ i : Nat, i ≤ L.length ∧ v = .int .i64 i ∧ q = .int .i64 (k + (cntIntS (L.take i) : Int)) ∧ Sims B T w0 wr ∧ Sims B T wb wr) (fun _ v _ => L.length - (intOf v).toNat)
  case atStart => exact ⟨0, Nat.zero_le _, rfl, by simp [cntIntS], HS.out.1, HS.out.2⟩
  case round =>
    obtain ⟨i, hi, rfl, rfl, hr, hrb⟩ := hrel
    obtain ⟨W, rfl⟩ : ∃ W, W = wr := ⟨_, rfl⟩
    have HR := Lib.hid hr
    have HRB := Lib.hid hrb
    have hle := cntIntS_le L i
    clear hr hrb HS
    by_cases hlt : i < L.length
    · obtain ⟨b, o, rfl, hb1, hb2, us, hul, hc, hx⟩ := HA.out i hlt
      obtain ⟨x, hxx⟩ : ∃ x, L[i] = x := ⟨_, rfl⟩
      have hx? : L[i]? = some x := by rw [List.getElem?_eq_getElem hlt, hxx]
      rw [hxx] at hx
      have hst := cntIntS_step L i x hx?
      have hle2 := cntIntS_le L (i + 1)
      clear hxx hx?
      obtain ⟨e0, -⟩ := hx
      subst e0
      have hw0 : w0.cell? ⟨b, o + i, none⟩ = some (.int .i64 x) ∧ w0.frozen? ⟨b, o + i, none⟩ = false := by
        have h := hc 0 _ rfl
        rwa [Nat.mul_one, Nat.add_zero] at h
      have HW0 := Lib.hid hw0
      clear hc hul hw0
      obtain ⟨cc, hcc⟩ : ∃ c : Int, (cntIntS (L.take i) : Int) = c := ⟨_, rfl⟩
      have hst' : (cntIntS (L.take (i + 1)) : Int) = cc + 1 := by omega
      have hbnd : k + (cc + 1) ≤ 9000000000000000000 := by rw [← hst']; omega
      have hcc0 : 0 ≤ cc := by omega
      have HST := Lib.hid hst'
      rw [hcc]
      clear hst hle2 hst' hle hcc 
      obtain ⟨y0, xc0, xf0⟩ := Sims.int HR.out hb1 hb2 HW0.out
      go_wp2
      go_roundw
      case rel => exact ⟨i + 1, by omega, by go_num, by rw [HST.out]; exact int_eq (by omega), (Sims.set HR.out hb1 hb2 xc0 _), (Sims.set HRB.out hb1 hb2 xc0 _)⟩
      case measure => simp [intOf]; omega
    · obtain rfl : i = L.length := by omega
      rw [List.take_length]
      clear hle
      go_wp2
      go_ret
      exact ⟨rfl, HR.out, HRB.out⟩

theorem markIntS_both (L : List Int) (v : Value) {B T : Nat} (k : Int) (w0 wb wc w : World) (h : rwIntS B T w0 [v] L) (hT : T ≤ w0.heap.size) (hs : Sims B T w0 w) (hsb : Sims B T wb w) (hsc : Sims B T wc w) (hk0 : 0 ≤ k) (hk : k + (cntIntS L : Int) ≤ 9000000000000000000) :
    Calls Try.prog 19 #[v, .int .i64 k] w fun e w' => e = .returned (.int .i64 (k + (cntIntS L : Int))) ∧ Sims B T w0 w' ∧ Sims B T wb w' ∧ Sims B T wc w' :=
  (markIntS_arg L v k w0 w w h hT hs (Sims.refl _ _ _) hk0 hk).mono fun _ _ ⟨he, h0, h1⟩ => ⟨he, h0, hsb.trans h1, hsc.trans h1⟩
end Go.Proofs.Ytiejilmgchmppaa
/- DmSeq: The type Seq as the exact laws' helpers see it. -/
namespace Go.Proofs.Ytiejilmgchmppaa
open Go.RowKit
set_option linter.unusedVariables false
set_option linter.unusedSimpArgs false
def cntSeq (x : DSeq) : Nat := 2 + cntIntS (x.2.2)
def cntSeqS (L : List DSeq) : Nat := (L.map cntSeq).sum
theorem cntSeqS_step (L : List DSeq) (i : Nat) (x : DSeq) (h : L[i]? = some x) : cntSeqS (L.take (i + 1)) = cntSeqS (L.take i) + cntSeq x := by
  unfold cntSeqS; rw [List.take_add_one, h, List.map_append, List.sum_append]; simp
theorem cntSeqS_le (L : List DSeq) (i : Nat) : cntSeqS (L.take i) ≤ cntSeqS L := by
  have h := List.take_append_drop i L
  unfold cntSeqS
  rw [← h, List.map_append, List.sum_append, h]; omega
theorem bndSeq (x : DSeq) (h : smSeq x) : cntSeq x ≤ 1048578 := by
  unfold smSeq at h
  unfold cntSeq
  have h2 := bndIntS _ h
  omega
theorem bndSeqS (L : List DSeq) (h : smSeqS L) : cntSeqS L ≤ 1099513724928 := by
  have h1 := sum_le cntSeq 1048578 L fun x hx => bndSeq x (h.2 x hx)
  have h2 := h.1
  unfold cntSeqS
  omega

set_option maxHeartbeats 3200000 in
theorem markSeqS_arg (L : List DSeq) (v : Value) {B T : Nat} (k : Int) (w0 wb w : World) (h : rwSeqS B T w0 [v] L) (hT : T ≤ w0.heap.size) (hs : Sims B T w0 w) (hsb : Sims B T wb w) (hk0 : 0 ≤ k) (hk : k + (cntSeqS L : Int) ≤ 9000000000000000000) :
    Calls Try.prog 45 #[v, .int .i64 k] w fun e w' => e = .returned (.int .i64 (k + (cntSeqS L : Int))) ∧ Sims B T w0 w' ∧ Sims B T wb w' := by
  obtain ⟨A, c, ea, hm, hA⟩ := h
  injection ea with ea
  subst ea
  unfold maxLen at hm
  have HA := Lib.hid hA
  have HS := Lib.hid (And.intro hs hsb)
  clear hA hs hsb
  go_enter Try.func45, Try.ntmps45
  go_wp2
  go_loopw [1, 5] (fun q v wr => ∃ i : Nat, i ≤ L.length ∧ v = .int .i64 i ∧ q = .int .i64 (k + (cntSeqS (L.take i) : Int)) ∧ Sims B T w0 wr ∧ Sims B T wb wr) (fun _ v _ => L.length - (intOf v).toNat)
  case atStart => exact ⟨0, Nat.zero_le _, rfl, by simp [cntSeqS], HS.out.1, HS.out.2⟩
  case round =>
    obtain ⟨i, hi, rfl, rfl, hr, hrb⟩ := hrel
    obtain ⟨W, rfl⟩ : ∃ W, W = wr := ⟨_, rfl⟩
    have HR := Lib.hid hr
    have HRB := Lib.hid hrb
    have hle := cntSeqS_le L i
    clear hr hrb HS
    by_cases hlt : i < L.length
    · obtain ⟨b, o, rfl, hb1, hb2, us, hul, hc, hx⟩ := HA.out i hlt
      obtain ⟨x, hxx⟩ : ∃ x, L[i] = x := ⟨_, rfl⟩
      have hx? : L[i]? = some x := by rw [List.getElem?_eq_getElem hlt, hxx]
      rw [hxx] at hx
      have hst := cntSeqS_step L i x hx?
      have hle2 := cntSeqS_le L (i + 1)
      clear hxx hx?
      obtain ⟨x0, x1, x2, rfl, xh0, xh1, xh2⟩ := hx
      obtain ⟨xe0, -⟩ := xh0
      injection xe0 with xe0
      subst xe0
      obtain ⟨xe1, -⟩ := xh1
      injection xe1 with xe1
      subst xe1
      have xR2 := Lib.hid xh2
      obtain ⟨xA2, xq2, xe2, xm2, -⟩ := xh2
      injection xe2 with xe2
      subst xe2
      have hw0 : w0.cell? ⟨b, o + i * 3, none⟩ = some (.int .i64 x.1) ∧ w0.frozen? ⟨b, o + i * 3, none⟩ = false := hc 0 _ rfl
      have HW0 := Lib.hid hw0
      have hw1 : w0.cell? ⟨b, o + i * 3 + 1, none⟩ = some (.int .i64 x.2.1) ∧ w0.frozen? ⟨b, o + i * 3 + 1, none⟩ = false := hc 1 _ rfl
      have HW1 := Lib.hid hw1
      have hw2 : w0.cell? ⟨b, o + i * 3 + 2, none⟩ = some (.slice xA2 (x.2.2).length xq2) ∧ w0.frozen? ⟨b, o + i * 3 + 2, none⟩ = false := hc 2 _ rfl
      have HW2 := Lib.hid hw2
      clear hc hul hw0 hw1 hw2
      obtain ⟨cc, hcc⟩ : ∃ c : Int, (cntSeqS (L.take i) : Int) = c := ⟨_, rfl⟩
      obtain ⟨t2, ht2⟩ : ∃ c : Int, (cntIntS (x.2.2) : Int) = c := ⟨_, rfl⟩
      have hst' : (cntSeqS (L.take (i + 1)) : Int) = cc + 2 + t2 := by unfold cntSeq at hst; omega
      have hbnd : k + (cc + 2 + t2) ≤ 9000000000000000000 := by rw [← hst']; omega
      have hcc0 : 0 ≤ cc := by omega
      have ht20 : 0 ≤ t2 := by omega
      have HC2 := Lib.hid ht2
      have HST := Lib.hid hst'
      rw [hcc]
      clear hst hle2 hst' hle hcc ht2
      obtain ⟨y0, xc0, xf0⟩ := Sims.int HR.out hb1 hb2 HW0.out
      obtain ⟨y1, xc1, xf1⟩ := Sims.int HR.out hb1 hb2 HW1.out
      have xc2 := Sims.slice HR.out hb1 hb2 HW2.out
      go_wp2_with fail
      refine (markIntS_arg (x.2.2) _ _ w0 wb _ xR2.out hT (Sims.set (Sims.set HR.out hb1 hb2 xc0 _) hb1 hb2 (set_far xc1 (by omega)) _) (Sims.set (Sims.set HRB.out hb1 hb2 xc0 _) hb1 hb2 (set_far xc1 (by omega)) _) (by omega) (by rw [HC2.out]; omega)).mono ?_
      rintro e W1 ⟨rfl, hr1, hrb1⟩
      rw [HC2.out]
      have HR1 := Lib.hid hr1
      have HRB1 := Lib.hid hrb1
      clear hr1 hrb1 xc0 xf0 xc1 xf1 xc2
      go_wp2
      go_roundw
      case rel => exact ⟨i + 1, by omega, by go_num, by rw [HST.out]; exact int_eq (by omega), HR1.out, HRB1.out⟩
      case measure => simp [intOf]; omega
    · obtain rfl : i = L.length := by omega
      rw [List.take_length]
      clear hle
      go_wp2
      go_ret
      exact ⟨rfl, HR.out, HRB.out⟩

theorem markSeqS_both (L : List DSeq) (v : Value) {B T : Nat} (k : Int) (w0 wb wc w : World) (h : rwSeqS B T w0 [v] L) (hT : T ≤ w0.heap.size) (hs : Sims B T w0 w) (hsb : Sims B T wb w) (hsc : Sims B T wc w) (hk0 : 0 ≤ k) (hk : k + (cntSeqS L : Int) ≤ 9000000000000000000) :
    Calls Try.prog 45 #[v, .int .i64 k] w fun e w' => e = .returned (.int .i64 (k + (cntSeqS L : Int))) ∧ Sims B T w0 w' ∧ Sims B T wb w' ∧ Sims B T wc w' :=
  (markSeqS_arg L v k w0 w w h hT hs (Sims.refl _ _ _) hk0 hk).mono fun _ _ ⟨he, h0, h1⟩ => ⟨he, h0, hsb.trans h1, hsc.trans h1⟩
end Go.Proofs.Ytiejilmgchmppaa
/- DmAnd: The type And as the exact laws' helpers see it. -/
namespace Go.Proofs.Ytiejilmgchmppaa
open Go.RowKit
set_option linter.unusedVariables false
set_option linter.unusedSimpArgs false
def cntAnd (x : DAnd) : Nat := 2
def cntAndS (L : List DAnd) : Nat := (L.map cntAnd).sum
theorem cntAndS_step (L : List DAnd) (i : Nat) (x : DAnd) (h : L[i]? = some x) : cntAndS (L.take (i + 1)) = cntAndS (L.take i) + cntAnd x := by
  unfold cntAndS; rw [List.take_add_one, h, List.map_append, List.sum_append]; simp
theorem cntAndS_le (L : List DAnd) (i : Nat) : cntAndS (L.take i) ≤ cntAndS L := by
  have h := List.take_append_drop i L
  unfold cntAndS
  rw [← h, List.map_append, List.sum_append, h]; omega
theorem bndAnd (x : DAnd) (h : smAnd x) : cntAnd x ≤ 2 := by
  unfold smAnd at h
  unfold cntAnd
  omega
theorem bndAndS (L : List DAnd) (h : smAndS L) : cntAndS L ≤ 2097152 := by
  have h1 := sum_le cntAnd 2 L fun x hx => bndAnd x (h.2 x hx)
  have h2 := h.1
  unfold cntAndS
  omega

set_option maxHeartbeats 3200000 in
theorem markAndS_arg (L : List DAnd) (v : Value) {B T : Nat} (k : Int) (w0 wb w : World) (h : rwAndS B T w0 [v] L) (hT : T ≤ w0.heap.size) (hs : Sims B T w0 w) (hsb : Sims B T wb w) (hk0 : 0 ≤ k) (hk : k + (cntAndS L : Int) ≤ 9000000000000000000) :
    Calls Try.prog 46 #[v, .int .i64 k] w fun e w' => e = .returned (.int .i64 (k + (cntAndS L : Int))) ∧ Sims B T w0 w' ∧ Sims B T wb w' := by
  obtain ⟨A, c, ea, hm, hA⟩ := h
  injection ea with ea
  subst ea
  unfold maxLen at hm
  have HA := Lib.hid hA
  have HS := Lib.hid (And.intro hs hsb)
  clear hA hs hsb
  go_enter Try.func46, Try.ntmps46
  go_wp2
  go_loopw [1, 5] (fun q v wr => ∃ i : Nat, i ≤ L.length ∧ v = .int .i64 i ∧ q = .int .i64 (k + (cntAndS (L.take i) : Int)) ∧ Sims B T w0 wr ∧ Sims B T wb wr) (fun _ v _ => L.length - (intOf v).toNat)
  case atStart => exact ⟨0, Nat.zero_le _, rfl, by simp [cntAndS], HS.out.1, HS.out.2⟩
  case round =>
    obtain ⟨i, hi, rfl, rfl, hr, hrb⟩ := hrel
    obtain ⟨W, rfl⟩ : ∃ W, W = wr := ⟨_, rfl⟩
    have HR := Lib.hid hr
    have HRB := Lib.hid hrb
    have hle := cntAndS_le L i
    clear hr hrb HS
    by_cases hlt : i < L.length
    · obtain ⟨b, o, rfl, hb1, hb2, us, hul, hc, hx⟩ := HA.out i hlt
      obtain ⟨x, hxx⟩ : ∃ x, L[i] = x := ⟨_, rfl⟩
      have hx? : L[i]? = some x := by rw [List.getElem?_eq_getElem hlt, hxx]
      rw [hxx] at hx
      have hst := cntAndS_step L i x hx?
      have hle2 := cntAndS_le L (i + 1)
      clear hxx hx?
      obtain ⟨x0, x1, rfl, xh0, xh1⟩ := hx
      obtain ⟨xe0, -⟩ := xh0
      injection xe0 with xe0
      subst xe0
      obtain ⟨xe1, -⟩ := xh1
      injection xe1 with xe1
      subst xe1
      have hw0 : w0.cell? ⟨b, o + i * 2, none⟩ = some (.int .i64 x.1) ∧ w0.frozen? ⟨b, o + i * 2, none⟩ = false := hc 0 _ rfl
      have HW0 := Lib.hid hw0
      have hw1 : w0.cell? ⟨b, o + i * 2 + 1, none⟩ = some (.int .i64 x.2) ∧ w0.frozen? ⟨b, o + i * 2 + 1, none⟩ = false := hc 1 _ rfl
      have HW1 := Lib.hid hw1
      clear hc hul hw0 hw1
      obtain ⟨cc, hcc⟩ : ∃ c : Int, (cntAndS (L.take i) : Int) = c := ⟨_, rfl⟩
      have hst' : (cntAndS (L.take (i + 1)) : Int) = cc + 2 := by unfold cntAnd at hst; omega
      have hbnd : k + (cc + 2) ≤ 9000000000000000000 := by rw [← hst']; omega
      have hcc0 : 0 ≤ cc := by omega
      have HST := Lib.hid hst'
      rw [hcc]
      clear hst hle2 hst' hle hcc 
      obtain ⟨y0, xc0, xf0⟩ := Sims.int HR.out hb1 hb2 HW0.out
      obtain ⟨y1, xc1, xf1⟩ := Sims.int HR.out hb1 hb2 HW1.out
      go_wp2
      go_roundw
      case rel => exact ⟨i + 1, by omega, by go_num, by rw [HST.out]; exact int_eq (by omega), (Sims.set (Sims.set HR.out hb1 hb2 xc0 _) hb1 hb2 (set_far xc1 (by omega)) _), (Sims.set (Sims.set HRB.out hb1 hb2 xc0 _) hb1 hb2 (set_far xc1 (by omega)) _)⟩
      case measure => simp [intOf]; omega
    · obtain rfl : i = L.length := by omega
      rw [List.take_length]
      clear hle
      go_wp2
      go_ret
      exact ⟨rfl, HR.out, HRB.out⟩

theorem markAndS_both (L : List DAnd) (v : Value) {B T : Nat} (k : Int) (w0 wb wc w : World) (h : rwAndS B T w0 [v] L) (hT : T ≤ w0.heap.size) (hs : Sims B T w0 w) (hsb : Sims B T wb w) (hsc : Sims B T wc w) (hk0 : 0 ≤ k) (hk : k + (cntAndS L : Int) ≤ 9000000000000000000) :
    Calls Try.prog 46 #[v, .int .i64 k] w fun e w' => e = .returned (.int .i64 (k + (cntAndS L : Int))) ∧ Sims B T w0 w' ∧ Sims B T wb w' ∧ Sims B T wc w' :=
  (markAndS_arg L v k w0 w w h hT hs (Sims.refl _ _ _) hk0 hk).mono fun _ _ ⟨he, h0, h1⟩ => ⟨he, h0, hsb.trans h1, hsc.trans h1⟩
end Go.Proofs.Ytiejilmgchmppaa
/- DmNet: The type Net as the exact laws' helpers see it. -/
namespace Go.Proofs.Ytiejilmgchmppaa
open Go.RowKit
set_option linter.unusedVariables false
set_option linter.unusedSimpArgs false
def cntNet (x : DNet) : Nat := 1 + cntSeqS (x.2.1) + cntAndS (x.2.2.1) + cntIntS (x.2.2.2)
def cntNetS (L : List DNet) : Nat := (L.map cntNet).sum
theorem cntNetS_step (L : List DNet) (i : Nat) (x : DNet) (h : L[i]? = some x) : cntNetS (L.take (i + 1)) = cntNetS (L.take i) + cntNet x := by
  unfold cntNetS; rw [List.take_add_one, h, List.map_append, List.sum_append]; simp
theorem cntNetS_le (L : List DNet) (i : Nat) : cntNetS (L.take i) ≤ cntNetS L := by
  have h := List.take_append_drop i L
  unfold cntNetS
  rw [← h, List.map_append, List.sum_append, h]; omega
theorem bndNet (x : DNet) (h : smNet x) : cntNet x ≤ 1099516870657 := by
  unfold smNet at h
  unfold cntNet
  have h1 := bndSeqS _ h.1
  have h2 := bndAndS _ h.2.1
  have h3 := bndIntS _ h.2.2
  omega
theorem bndNetS (L : List DNet) (h : smNetS L) : cntNetS L ≤ 1152927002166034432 := by
  have h1 := sum_le cntNet 1099516870657 L fun x hx => bndNet x (h.2 x hx)
  have h2 := h.1
  unfold cntNetS
  omega

set_option maxHeartbeats 3200000 in
theorem markNet_arg (x : DNet) (us : List Value) {B T : Nat} (k : Int) (w0 wb w : World) (h : rwNet B T w0 us x) (hT : T ≤ w0.heap.size) (hs : Sims B T w0 w) (hsb : Sims B T wb w) (hk0 : 0 ≤ k) (hk : k + ((cntSeqS (x.2.1) : Int) + (cntAndS (x.2.2.1) : Int) + (cntIntS (x.2.2.2) : Int)) ≤ 9000000000000000000) :
    Calls Try.prog 18 #[.agg us.toArray, .int .i64 k] w fun e w' => (∃ r : Int, 0 ≤ r ∧ r ≤ 9000000000000000000 ∧ e = .returned (.int .i64 r)) ∧ Sims B T w0 w' ∧ Sims B T wb w' := by
  have HS := Lib.hid (And.intro hs hsb)
  clear hs hsb
  obtain ⟨x0, x1, x2, x3, rfl, xh0, xh1, xh2, xh3⟩ := h
  obtain ⟨xe0, -⟩ := xh0
  injection xe0 with xe0
  subst xe0
  have xR1 := Lib.hid xh1
  obtain ⟨xA1, xq1, xe1, xm1, -⟩ := xh1
  injection xe1 with xe1
  subst xe1
  have xR2 := Lib.hid xh2
  obtain ⟨xA2, xq2, xe2, xm2, -⟩ := xh2
  injection xe2 with xe2
  subst xe2
  have xR3 := Lib.hid xh3
  obtain ⟨xA3, xq3, xe3, xm3, -⟩ := xh3
  injection xe3 with xe3
  subst xe3
  obtain ⟨t1, ht1⟩ : ∃ c : Int, (cntSeqS (x.2.1) : Int) = c := ⟨_, rfl⟩
  have HC1 := Lib.hid ht1
  have h1 : 0 ≤ t1 := by omega
  obtain ⟨t2, ht2⟩ : ∃ c : Int, (cntAndS (x.2.2.1) : Int) = c := ⟨_, rfl⟩
  have HC2 := Lib.hid ht2
  have h2 : 0 ≤ t2 := by omega
  obtain ⟨t3, ht3⟩ : ∃ c : Int, (cntIntS (x.2.2.2) : Int) = c := ⟨_, rfl⟩
  have HC3 := Lib.hid ht3
  have h3 : 0 ≤ t3 := by omega
  rw [ht1, ht2, ht3] at hk
  clear ht1 ht2 ht3
  go_enter Try.func18, Try.ntmps18
  go_wp2_with fail
  obtain ⟨V, hV⟩ : ∃ V, V = w.alloc (.cells #[.int .i64 x.1, .slice xA1 (x.2.1).length xq1, .slice xA2 (x.2.2.1).length xq2, .slice xA3 (x.2.2.2).length xq3] 28) := ⟨_, rfl⟩
  rw [← hV]
  have g := eqbox1 hV
  have c0 : V.cell? ⟨w.heap.size, 0, none⟩ = some (.int .i64 x.1) := box_cell g.1 0 _ rfl
  have c1 : V.cell? ⟨w.heap.size, 1, none⟩ = some (.slice xA1 (x.2.1).length xq1) := box_cell g.1 1 _ rfl
  have c2 : V.cell? ⟨w.heap.size, 2, none⟩ = some (.slice xA2 (x.2.2.1).length xq2) := box_cell g.1 2 _ rfl
  have c3 : V.cell? ⟨w.heap.size, 3, none⟩ = some (.slice xA3 (x.2.2.2).length xq3) := box_cell g.1 3 _ rfl
  have HR0 := Lib.hid (And.intro (HS.out.1.below g.2) (HS.out.2.below g.2))
  have HG := Lib.hid g.1
  have hlt : T ≤ w.heap.size := Nat.le_trans hT HS.out.1.size
  have HV0 := Lib.hid (Sims.refl B T V)
  clear hV g
  obtain ⟨Vp0, hvp⟩ : ∃ Vp, Vp = V := ⟨_, rfl⟩
  refine (markSeqS_both (x.2.1) _ _ w0 wb V _ xR1.out hT HR0.out.1 HR0.out.2 HV0.out (by omega) (by rw [HC1.out]; omega)).mono ?_
  rintro e W1 ⟨rfl, hr, hrb, hrv⟩
  rw [HC1.out]
  have HR1 := Lib.hid (And.intro hr hrb)
  have HV1 := Lib.hid hrv
  have c0' : W1.cell? ⟨w.heap.size, 0, none⟩ = some (.int .i64 x.1) := sims_box hrv HG.out hlt 0 _ rfl
  have c1' : W1.cell? ⟨w.heap.size, 1, none⟩ = some (.slice xA1 (x.2.1).length xq1) := sims_box hrv HG.out hlt 1 _ rfl
  have c2' : W1.cell? ⟨w.heap.size, 2, none⟩ = some (.slice xA2 (x.2.2.1).length xq2) := sims_box hrv HG.out hlt 2 _ rfl
  have c3' : W1.cell? ⟨w.heap.size, 3, none⟩ = some (.slice xA3 (x.2.2.2).length xq3) := sims_box hrv HG.out hlt 3 _ rfl
  clear hr hrb hrv hvp c0 c1 c2 c3
  have c0 := c0'
  have c1 := c1'
  have c2 := c2'
  have c3 := c3'
  clear c0' c1' c2' c3'
  go_wp2_with fail
  obtain ⟨Vp1, hvp⟩ : ∃ Vp, Vp = W1 := ⟨_, rfl⟩
  refine (markAndS_both (x.2.2.1) _ _ w0 wb V _ xR2.out hT HR1.out.1 HR1.out.2 HV1.out (by omega) (by rw [HC2.out]; omega)).mono ?_
  rintro e W2 ⟨rfl, hr, hrb, hrv⟩
  rw [HC2.out]
  have HR2 := Lib.hid (And.intro hr hrb)
  have HV2 := Lib.hid hrv
  have c0' : W2.cell? ⟨w.heap.size, 0, none⟩ = some (.int .i64 x.1) := sims_box hrv HG.out hlt 0 _ rfl
  have c1' : W2.cell? ⟨w.heap.size, 1, none⟩ = some (.slice xA1 (x.2.1).length xq1) := sims_box hrv HG.out hlt 1 _ rfl
  have c2' : W2.cell? ⟨w.heap.size, 2, none⟩ = some (.slice xA2 (x.2.2.1).length xq2) := sims_box hrv HG.out hlt 2 _ rfl
  have c3' : W2.cell? ⟨w.heap.size, 3, none⟩ = some (.slice xA3 (x.2.2.2).length xq3) := sims_box hrv HG.out hlt 3 _ rfl
  clear hr hrb hrv hvp c0 c1 c2 c3
  have c0 := c0'
  have c1 := c1'
  have c2 := c2'
  have c3 := c3'
  clear c0' c1' c2' c3'
  go_wp2_with fail
  obtain ⟨Vp2, hvp⟩ : ∃ Vp, Vp = W2 := ⟨_, rfl⟩
  refine (markIntS_both (x.2.2.2) _ _ w0 wb V _ xR3.out hT HR2.out.1 HR2.out.2 HV2.out (by omega) (by rw [HC3.out]; omega)).mono ?_
  rintro e W3 ⟨rfl, hr, hrb, hrv⟩
  rw [HC3.out]
  have HR3 := Lib.hid (And.intro hr hrb)
  have HV3 := Lib.hid hrv
  have c0' : W3.cell? ⟨w.heap.size, 0, none⟩ = some (.int .i64 x.1) := sims_box hrv HG.out hlt 0 _ rfl
  have c1' : W3.cell? ⟨w.heap.size, 1, none⟩ = some (.slice xA1 (x.2.1).length xq1) := sims_box hrv HG.out hlt 1 _ rfl
  have c2' : W3.cell? ⟨w.heap.size, 2, none⟩ = some (.slice xA2 (x.2.2.1).length xq2) := sims_box hrv HG.out hlt 2 _ rfl
  have c3' : W3.cell? ⟨w.heap.size, 3, none⟩ = some (.slice xA3 (x.2.2.2).length xq3) := sims_box hrv HG.out hlt 3 _ rfl
  clear hr hrb hrv hvp c0 c1 c2 c3
  have c0 := c0'
  have c1 := c1'
  have c2 := c2'
  have c3 := c3'
  clear c0' c1' c2' c3'
  go_wp2
  go_ret
  exact ⟨⟨_, by omega, by omega, rfl⟩, HR3.out.1, HR3.out.2⟩
end Go.Proofs.Ytiejilmgchmppaa
