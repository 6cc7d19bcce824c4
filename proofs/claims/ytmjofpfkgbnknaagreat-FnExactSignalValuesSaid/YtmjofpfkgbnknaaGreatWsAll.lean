/-
  DpWordState, DtWordState, DzWordState, DmWordState, DoWordState as one text.
-/
import Derived.Test.YtmjofpfkgbnknaaGreatDpAll
import Derived.Test.YtmjofpfkgbnknaaGreatDtAll
import Derived.Test.YtmjofpfkgbnknaaGreatDzAll
import Derived.Test.YtmjofpfkgbnknaaGreatDmAll
import Derived.Test.YtmjofpfkgbnknaaGreatDoAll
/- DpWordState: The type WordState as the exact laws' helpers see it. -/
namespace Go.Proofs.YtmjofpfkgbnknaaGreat
open Go.RowKit
set_option linter.unusedVariables false
set_option linter.unusedSimpArgs false

abbrev DWordState : Type := (List DInt) × (List DInt)
abbrev rdWordState : Rd DWordState := rd2 rdIntS rdIntS
theorem good_WordState : Rd.Good rdWordState := rd2_good good_IntS good_IntS
abbrev rdWordStateS : Rd (List DWordState) := rdS 2 rdWordState
theorem good_WordStateS : Rd.Good rdWordStateS := rdS_good 2 good_WordState

set_option maxHeartbeats 1600000 in
theorem eqWordState_any (x : DWordState) (us us' : List Value) {B T B' T' : Nat} (w : World) (h : rdWordState B T w us x) (h' : rdWordState B' T' w us' x) (hT : T ≤ w.heap.size) (hT' : T' ≤ w.heap.size) :
    Calls Tryz.prog 25 #[.agg us.toArray, .agg us'.toArray] w fun e w' => e = .returned (.bool true) ∧ Below w.heap.size w w' := by
  obtain ⟨u0, u1, rfl, uh0, uh1⟩ := h
  obtain ⟨v0, v1, rfl, vh0, vh1⟩ := h'
  go_enter Tryz.func25, Tryz.ntmps25
  go_wp2_with fail
  refine (eqIntS_any _ _ _ _ (good_IntS.below uh0 hT (by (repeat' (first | assumption | exact Below.refl _ _ | refine bDrewN ?_ _ | refine Below.drew ?_ | refine bAlloc ?_ (Nat.le_refl _) _ | refine bSet ?_ (by first | exact Nat.le_refl _ | omega | (simp <;> omega)) _)))) (good_IntS.below vh0 hT' (by (repeat' (first | assumption | exact Below.refl _ _ | refine bDrewN ?_ _ | refine Below.drew ?_ | refine bAlloc ?_ (Nat.le_refl _) _ | refine bSet ?_ (by first | exact Nat.le_refl _ | omega | (simp <;> omega)) _)))) (Nat.le_trans hT (by simp <;> omega)) (Nat.le_trans hT' (by simp <;> omega))).mono ?_
  rintro e w1 ⟨rfl, hb⟩
  have g := box2 hb
  have uc0 : w1.cell? ⟨w.heap.size, 0, none⟩ = some (u0) := box_cell g.1 0 _ rfl
  have uc1 : w1.cell? ⟨w.heap.size, 1, none⟩ = some (u1) := box_cell g.1 1 _ rfl
  have vc0 : w1.cell? ⟨w.heap.size + 1, 0, none⟩ = some (v0) := box_cell g.2.1 0 _ rfl
  have vc1 : w1.cell? ⟨w.heap.size + 1, 1, none⟩ = some (v1) := box_cell g.2.1 1 _ rfl
  have hW : Below w.heap.size w w1 := g.2.2
  clear hb g
  go_wp2_with fail
  refine (eqIntS_any _ _ _ _ (good_IntS.below uh1 hT hW) (good_IntS.below vh1 hT' hW) (Nat.le_trans hT hW.size) (Nat.le_trans hT' hW.size)).mono ?_
  rintro e w2 ⟨rfl, hb⟩
  replace uc0 := keep hb uc0
  replace uc1 := keep hb uc1
  replace vc0 := keep hb vc0
  replace vc1 := keep hb vc1
  replace hW := bThen hW hb
  clear hb
  go_wp2
  go_ret
  exact ⟨rfl, hW⟩

end Go.Proofs.YtmjofpfkgbnknaaGreat
/- DtWordState: The type WordState as the exact laws' helpers see it. -/
namespace Go.Proofs.YtmjofpfkgbnknaaGreat
open Go.RowKit
set_option linter.unusedVariables false
set_option linter.unusedSimpArgs false

abbrev rwWordState : Rd DWordState := rd2 rwIntS rwIntS
theorem goodw_WordState : Rd.Good rwWordState := rd2_good goodw_IntS goodw_IntS
theorem le_WordState : Rd.Le rwWordState rdWordState := rd2_le le_IntS le_IntS
abbrev rwWordStateS : Rd (List DWordState) := rwS 2 rwWordState
theorem goodw_WordStateS : Rd.Good rwWordStateS := rwS_good 2 goodw_WordState
theorem le_WordStateS : Rd.Le rwWordStateS rdWordStateS := rwS_le 2 le_WordState

def smWordState (x : DWordState) : Prop := smIntS (x.1) ∧ smIntS (x.2)
def smWordStateS (L : List DWordState) : Prop := L.length ≤ 1048576 ∧ ∀ x ∈ L, smWordState x

set_option maxHeartbeats 3200000 in
theorem toWordState_w (x : DWordState) (us : List Value) {B T : Nat} (w : World) (h : rdWordState B T w us x) (hT : T ≤ w.heap.size) (hs : smWordState x) :
    Calls Tryz.prog 21 #[.agg us.toArray] w fun e w' => ∃ us', e = .returned (.agg us'.toArray) ∧ rwWordState w.heap.size w'.heap.size w' us' x ∧ Below w.heap.size w w' := by
  unfold smWordState at hs
  obtain ⟨u0, u1, rfl, uh0, uh1⟩ := h
  have uq0 := uh0
  obtain ⟨u0A, u0c, ue0, -⟩ := uq0
  injection ue0 with ue0
  subst ue0
  have U0 := Lib.hid uh0
  clear uh0
  have uq1 := uh1
  obtain ⟨u1A, u1c, ue1, -⟩ := uq1
  injection ue1 with ue1
  subst ue1
  have U1 := Lib.hid uh1
  clear uh1
  go_enter Tryz.func21, Tryz.ntmps21
  go_wp2_with fail
  refine (toIntS_w (x.1) u0A (x.1).length u0c _ (good_IntS.below U0.out hT (by (repeat' (first | assumption | exact Below.refl _ _ | refine bDrewN ?_ _ | refine Below.drew ?_ | refine bAlloc ?_ (Nat.le_refl _) _ | refine bSet ?_ (by first | exact Nat.le_refl _ | omega | (simp <;> omega)) _)))) (Nat.le_trans hT (by simp <;> omega)) hs.1).mono ?_
  rintro e w1 ⟨v0, rfl, hr0, hb⟩
  have g := box3 hb
  have HP : w1.heap[w.heap.size]? = some (.cells #[.slice u0A (x.1).length u0c, .slice u1A (x.2).length u1c] 51 (0, 0)) := g.1
  have HR : w1.heap[w.heap.size + 1]? = some (.cells #[.slice none 0 0, .slice none 0 0] 56 (0, 0)) := g.2.1
  have HL : w1.heap[w.heap.size + 1 + 1]? = some (.cells #[.slice none 0 0, .slice none 0 0] 56 (0, 0)) := g.2.2.1
  have hW : Below w.heap.size w w1 := g.2.2.2
  replace hr0 := goodw_IntS.wider (B' := w.heap.size + 1 + 1 + 1) hr0 (by simp) (Nat.le_refl _)
  have hlt : w.heap.size + 1 + 1 < w1.heap.size := (Array.getElem?_eq_some_iff.1 HL).1
  clear hb g
  have vq0 := hr0
  obtain ⟨v0A, v0c, ve0, -⟩ := vq0
  injection ve0 with ve0
  subst ve0
  replace hr0 := Lib.hid hr0
  have uc0 : w1.cell? ⟨w.heap.size, 0, none⟩ = some (.slice u0A (x.1).length u0c) := box_cell HP 0 _ rfl
  have lc0 : w1.cell? ⟨w.heap.size + 1 + 1, 0, none⟩ = some (.slice none 0 0) := box_cell HL 0 _ rfl
  have lf0 : w1.frozen? ⟨w.heap.size + 1 + 1, 0, none⟩ = false := frozen_of_row _ _ 0 _ _ HL
  have rc0 : w1.cell? ⟨w.heap.size + 1, 0, none⟩ = some (.slice none 0 0) := box_cell HR 0 _ rfl
  have rf0 : w1.frozen? ⟨w.heap.size + 1, 0, none⟩ = false := frozen_of_row _ _ 0 _ _ HR
  have uc1 : w1.cell? ⟨w.heap.size, 1, none⟩ = some (.slice u1A (x.2).length u1c) := box_cell HP 1 _ rfl
  have lc1 : w1.cell? ⟨w.heap.size + 1 + 1, 1, none⟩ = some (.slice none 0 0) := box_cell HL 1 _ rfl
  have lf1 : w1.frozen? ⟨w.heap.size + 1 + 1, 1, none⟩ = false := frozen_of_row _ _ 1 _ _ HL
  have rc1 : w1.cell? ⟨w.heap.size + 1, 1, none⟩ = some (.slice none 0 0) := box_cell HR 1 _ rfl
  have rf1 : w1.frozen? ⟨w.heap.size + 1, 1, none⟩ = false := frozen_of_row _ _ 1 _ _ HR
  replace HP : (w1.setCell ⟨w.heap.size + 1 + 1, 0, none⟩ (.slice v0A (x.1).length v0c)).heap[w.heap.size]? = some (.cells #[.slice u0A (x.1).length u0c, .slice u1A (x.2).length u1c] 51 (0, 0)) := (Below.heap_setCell _ _ _ _ (by simp <;> omega)).trans HP
  replace HR : (w1.setCell ⟨w.heap.size + 1 + 1, 0, none⟩ (.slice v0A (x.1).length v0c)).heap[w.heap.size + 1]? = some (.cells #[.slice none 0 0, .slice none 0 0] 56 (0, 0)) := (Below.heap_setCell _ _ _ _ (by simp <;> omega)).trans HR
  replace HL : (w1.setCell ⟨w.heap.size + 1 + 1, 0, none⟩ (.slice v0A (x.1).length v0c)).heap[w.heap.size + 1 + 1]? = some (.cells #[.slice v0A (x.1).length v0c, .slice none 0 0] 56 (0, 0)) := heap_setCell_same _ _ 0 _ _ _ HL
  replace hW : Below w.heap.size w (w1.setCell ⟨w.heap.size + 1 + 1, 0, none⟩ (.slice v0A (x.1).length v0c)) := bSet hW (by simp <;> omega) _
  have HPh := Lib.hid HP
  have HRh := Lib.hid HR
  have HLh := Lib.hid HL
  have hWh := Lib.hid hW
  clear HP HR HL hW
  go_wp2_with fail
  refine (toIntS_w (x.2) u1A (x.2).length u1c _ (good_IntS.below U1.out hT hWh.out) (Nat.le_trans hT hWh.out.size) hs.2).mono ?_
  rintro e w2 ⟨v1, rfl, hr1, hb⟩
  have hszp : (w1.setCell ⟨w.heap.size + 1 + 1, 0, none⟩ (.slice v0A (x.1).length v0c)).heap.size = w1.heap.size := by simp
  have hsetp : ∀ b, w.heap.size + 1 + 1 + 1 ≤ b → (w1.setCell ⟨w.heap.size + 1 + 1, 0, none⟩ (.slice v0A (x.1).length v0c)).heap[b]? = w1.heap[b]? := fun b hb => by
    rw [Below.heap_setCell _ _ _ b (by simp; omega)]
  replace hr0 := rd_step goodw_IntS hr0.out hsetp hszp hb
  replace hr1 := goodw_IntS.wider (B' := w.heap.size + 1 + 1 + 1) hr1 (by rw [hszp]; omega) (Nat.le_refl _)
  have HP : w2.heap[w.heap.size]? = some (.cells #[.slice u0A (x.1).length u0c, .slice u1A (x.2).length u1c] 51 (0, 0)) := rowB' hb HPh.out
  have HR : w2.heap[w.heap.size + 1]? = some (.cells #[.slice none 0 0, .slice none 0 0] 56 (0, 0)) := rowB' hb HRh.out
  have HL : w2.heap[w.heap.size + 1 + 1]? = some (.cells #[.slice v0A (x.1).length v0c, .slice none 0 0] 56 (0, 0)) := rowB' hb HLh.out
  have hW : Below w.heap.size w w2 := bThen hWh.out hb
  have hlt : w.heap.size + 1 + 1 < w2.heap.size := (Array.getElem?_eq_some_iff.1 HL).1
  clear hb hszp hsetp HPh HRh HLh hWh
  clear uc0 lc0 lf0 rc0 rf0
  clear uc1 lc1 lf1 rc1 rf1
  have vq1 := hr1
  obtain ⟨v1A, v1c, ve1, -⟩ := vq1
  injection ve1 with ve1
  subst ve1
  replace hr0 := Lib.hid hr0
  replace hr1 := Lib.hid hr1
  have uc0 : w2.cell? ⟨w.heap.size, 0, none⟩ = some (.slice u0A (x.1).length u0c) := box_cell HP 0 _ rfl
  have lc0 : w2.cell? ⟨w.heap.size + 1 + 1, 0, none⟩ = some (.slice v0A (x.1).length v0c) := box_cell HL 0 _ rfl
  have lf0 : w2.frozen? ⟨w.heap.size + 1 + 1, 0, none⟩ = false := frozen_of_row _ _ 0 _ _ HL
  have rc0 : w2.cell? ⟨w.heap.size + 1, 0, none⟩ = some (.slice none 0 0) := box_cell HR 0 _ rfl
  have rf0 : w2.frozen? ⟨w.heap.size + 1, 0, none⟩ = false := frozen_of_row _ _ 0 _ _ HR
  have uc1 : w2.cell? ⟨w.heap.size, 1, none⟩ = some (.slice u1A (x.2).length u1c) := box_cell HP 1 _ rfl
  have lc1 : w2.cell? ⟨w.heap.size + 1 + 1, 1, none⟩ = some (.slice none 0 0) := box_cell HL 1 _ rfl
  have lf1 : w2.frozen? ⟨w.heap.size + 1 + 1, 1, none⟩ = false := frozen_of_row _ _ 1 _ _ HL
  have rc1 : w2.cell? ⟨w.heap.size + 1, 1, none⟩ = some (.slice none 0 0) := box_cell HR 1 _ rfl
  have rf1 : w2.frozen? ⟨w.heap.size + 1, 1, none⟩ = false := frozen_of_row _ _ 1 _ _ HR
  have hW' := Lib.hid hW
  clear HP HR HL hW
  go_wp2
  ((try simp only [Exit.inBlock, Exit.then]); refine bodyPost_ret (v := (.agg #[.slice v0A (x.1).length v0c, .slice v1A (x.2).length v1c])) (by rw [results_cell1 rfl]; go_simp) rfl ?_)
  have hB := hW'.out
  exact ⟨[.slice v0A (x.1).length v0c, .slice v1A (x.2).length v1c], rfl, ⟨_, _, rfl, goodw_IntS _ _ _ _ w2 _ _ _ hr0.out (by omega) (by simp) (fun b hb1 _ => by (repeat (rw [Below.heap_setCell _ _ _ b (by simp; omega)]))), goodw_IntS _ _ _ _ w2 _ _ _ hr1.out (by omega) (by simp) (fun b hb1 _ => by (repeat (rw [Below.heap_setCell _ _ _ b (by simp; omega)])))⟩, by (repeat' (first | assumption | exact Below.refl _ _ | refine bDrewN ?_ _ | refine Below.drew ?_ | refine bAlloc ?_ (Nat.le_refl _) _ | refine bSet ?_ (by first | exact Nat.le_refl _ | omega | (simp <;> omega)) _))⟩

theorem toWordState_any (x : DWordState) (us : List Value) {B T : Nat} (w : World) (h : rdWordState B T w us x) (hT : T ≤ w.heap.size) (hs : smWordState x) :
    Calls Tryz.prog 21 #[.agg us.toArray] w fun e w' => ∃ us', e = .returned (.agg us'.toArray) ∧ rdWordState w.heap.size w'.heap.size w' us' x ∧ Below w.heap.size w w' :=
  (toWordState_w x us w h hT hs).mono fun _ _ ⟨v, he, hr, hb⟩ => ⟨v, he, le_WordState _ _ _ _ _ hr, hb⟩

theorem info_WordState : (Tryz.prog.info? 56).map (fun i => (i.zero, i.size, i.bytes)) = some (some (.agg #[.slice none 0 0, .slice none 0 0]), 2, 48) := by kernel_rfl
end Go.Proofs.YtmjofpfkgbnknaaGreat
/- DzWordState: The type WordState as the exact laws' helpers see it. -/
namespace Go.Proofs.YtmjofpfkgbnknaaGreat
open Go.RowKit
set_option linter.unusedVariables false
set_option linter.unusedSimpArgs false

set_option maxHeartbeats 1600000 in
theorem szWordState_post (x : DWordState) (us : List Value) {B T : Nat} (left : Int) (w : World) (h : rdWordState B T w us x) (hT : T ≤ w.heap.size) (h0 : 0 ≤ left) (h1 : left ≤ 1048576) :
    Calls Tryz.prog 18 #[.agg us.toArray, .int .i64 left] w fun e w' => ∃ r : Int, e = .returned (.int .i64 r) ∧ (r = -1 ∨ (0 ≤ r ∧ r ≤ left ∧ smWordState x)) ∧ Below w.heap.size w w' := by
  unfold smWordState
  obtain ⟨u0, u1, rfl, uh0, uh1⟩ := h
  have uq0 := uh0
  obtain ⟨u0A, u0c, ue0, -⟩ := uq0
  injection ue0 with ue0
  subst ue0
  have U0 := Lib.hid uh0
  clear uh0
  have uq1 := uh1
  obtain ⟨u1A, u1c, ue1, -⟩ := uq1
  injection ue1 with ue1
  subst ue1
  have U1 := Lib.hid uh1
  clear uh1
  go_enter Tryz.func18, Tryz.ntmps18
  go_wp2_with fail
  refine (szIntS_post (x.1) u0A (x.1).length u0c left _ (good_IntS.below U0.out hT (by (repeat' (first | assumption | exact Below.refl _ _ | refine bDrewN ?_ _ | refine Below.drew ?_ | refine bAlloc ?_ (Nat.le_refl _) _ | refine bSet ?_ (by first | exact Nat.le_refl _ | omega | (simp <;> omega)) _)))) h0 h1).mono ?_
  rintro e w1 ⟨r0, rfl, hr, hb⟩
  have g := box1 hb
  have uc0 : w1.cell? ⟨w.heap.size, 0, none⟩ = some (.slice u0A (x.1).length u0c) := box_cell g.1 0 _ rfl
  have uc1 : w1.cell? ⟨w.heap.size, 1, none⟩ = some (.slice u1A (x.2).length u1c) := box_cell g.1 1 _ rfl
  have hW : Below w.heap.size w w1 := g.2
  clear hb g
  rcases hr with rfl | ⟨p0, q0, s0⟩
  · have HW := Lib.hid hW
    go_wp2
    go_ret
    exact ⟨_, rfl, .inl rfl, HW.out⟩
  have t0 : ¬ r0 < 0 := by omega
  go_wp2_with fail
  refine (szIntS_post (x.2) u1A (x.2).length u1c r0 _ (good_IntS.below U1.out hT hW) p0 (by omega)).mono ?_
  rintro e w2 ⟨r1, rfl, hr, hb⟩
  replace uc0 := keep hb uc0
  replace uc1 := keep hb uc1
  replace hW := bThen hW hb
  clear hb
  rcases hr with rfl | ⟨p1, q1, s1⟩
  · have HW := Lib.hid hW
    go_wp2
    go_ret
    exact ⟨_, rfl, .inl rfl, HW.out⟩
  have t1 : ¬ r1 < 0 := by omega
  have HW := Lib.hid hW
  clear hW
  go_wp2
  go_ret
  exact ⟨_, rfl, .inr ⟨by omega, by omega, ⟨s0, s1⟩⟩, HW.out⟩

end Go.Proofs.YtmjofpfkgbnknaaGreat
/- DmWordState: The type WordState as the exact laws' helpers see it. -/
namespace Go.Proofs.YtmjofpfkgbnknaaGreat
open Go.RowKit
set_option linter.unusedVariables false
set_option linter.unusedSimpArgs false
def cntWordState (x : DWordState) : Nat := cntIntS (x.1) + cntIntS (x.2)
def cntWordStateS (L : List DWordState) : Nat := (L.map cntWordState).sum
theorem cntWordStateS_step (L : List DWordState) (i : Nat) (x : DWordState) (h : L[i]? = some x) : cntWordStateS (L.take (i + 1)) = cntWordStateS (L.take i) + cntWordState x := by
  unfold cntWordStateS; rw [List.take_add_one, h, List.map_append, List.sum_append]; simp
theorem cntWordStateS_le (L : List DWordState) (i : Nat) : cntWordStateS (L.take i) ≤ cntWordStateS L := by
  have h := List.take_append_drop i L
  unfold cntWordStateS
  rw [← h, List.map_append, List.sum_append, h]; omega
theorem bndWordState (x : DWordState) (h : smWordState x) : cntWordState x ≤ 2097152 := by
  unfold smWordState at h
  unfold cntWordState
  have h0 := bndIntS _ h.1
  have h1 := bndIntS _ h.2
  omega
theorem bndWordStateS (L : List DWordState) (h : smWordStateS L) : cntWordStateS L ≤ 2199023255552 := by
  have h1 := sum_le cntWordState 2097152 L fun x hx => bndWordState x (h.2 x hx)
  have h2 := h.1
  unfold cntWordStateS
  omega

set_option maxHeartbeats 3200000 in
theorem markWordState_arg (x : DWordState) (us : List Value) {B T : Nat} (k : Int) (w0 wb w : World) (h : rwWordState B T w0 us x) (hT : T ≤ w0.heap.size) (hs : Sims B T w0 w) (hsb : Sims B T wb w) (hk0 : 0 ≤ k) (hk : k + ((cntIntS (x.1) : Int) + (cntIntS (x.2) : Int)) ≤ 9000000000000000000) :
    Calls Tryz.prog 26 #[.agg us.toArray, .int .i64 k] w fun e w' => (∃ r : Int, 0 ≤ r ∧ r ≤ 9000000000000000000 ∧ e = .returned (.int .i64 r)) ∧ Sims B T w0 w' ∧ Sims B T wb w' := by
  have HS := Lib.hid (And.intro hs hsb)
  clear hs hsb
  obtain ⟨x0, x1, rfl, xh0, xh1⟩ := h
  have xR0 := Lib.hid xh0
  obtain ⟨xA0, xq0, xe0, xm0, -⟩ := xh0
  injection xe0 with xe0
  subst xe0
  have xR1 := Lib.hid xh1
  obtain ⟨xA1, xq1, xe1, xm1, -⟩ := xh1
  injection xe1 with xe1
  subst xe1
  obtain ⟨t0, ht0⟩ : ∃ c : Int, (cntIntS (x.1) : Int) = c := ⟨_, rfl⟩
  have HC0 := Lib.hid ht0
  have h0 : 0 ≤ t0 := by omega
  obtain ⟨t1, ht1⟩ : ∃ c : Int, (cntIntS (x.2) : Int) = c := ⟨_, rfl⟩
  have HC1 := Lib.hid ht1
  have h1 : 0 ≤ t1 := by omega
  rw [ht0, ht1] at hk
  clear ht0 ht1
  go_enter Tryz.func26, Tryz.ntmps26
  go_wp2_with fail
  obtain ⟨V, hV⟩ : ∃ V, V = w.alloc (.cells #[.slice xA0 (x.1).length xq0, .slice xA1 (x.2).length xq1] 56) := ⟨_, rfl⟩
  rw [← hV]
  have g := eqbox1 hV
  have c0 : V.cell? ⟨w.heap.size, 0, none⟩ = some (.slice xA0 (x.1).length xq0) := box_cell g.1 0 _ rfl
  have c1 : V.cell? ⟨w.heap.size, 1, none⟩ = some (.slice xA1 (x.2).length xq1) := box_cell g.1 1 _ rfl
  have HR0 := Lib.hid (And.intro (HS.out.1.below g.2) (HS.out.2.below g.2))
  have HG := Lib.hid g.1
  have hlt : T ≤ w.heap.size := Nat.le_trans hT HS.out.1.size
  have HV0 := Lib.hid (Sims.refl B T V)
  clear hV g
  obtain ⟨Vp0, hvp⟩ : ∃ Vp, Vp = V := ⟨_, rfl⟩
  refine (markIntS_both (x.1) _ _ w0 wb V _ xR0.out hT HR0.out.1 HR0.out.2 HV0.out (by omega) (by rw [HC0.out]; omega)).mono ?_
  rintro e W1 ⟨rfl, hr, hrb, hrv⟩
  rw [HC0.out]
  have HR1 := Lib.hid (And.intro hr hrb)
  have HV1 := Lib.hid hrv
  have c0' : W1.cell? ⟨w.heap.size, 0, none⟩ = some (.slice xA0 (x.1).length xq0) := sims_box hrv HG.out hlt 0 _ rfl
  have c1' : W1.cell? ⟨w.heap.size, 1, none⟩ = some (.slice xA1 (x.2).length xq1) := sims_box hrv HG.out hlt 1 _ rfl
  clear hr hrb hrv hvp c0 c1
  have c0 := c0'
  have c1 := c1'
  clear c0' c1'
  go_wp2_with fail
  obtain ⟨Vp1, hvp⟩ : ∃ Vp, Vp = W1 := ⟨_, rfl⟩
  refine (markIntS_both (x.2) _ _ w0 wb V _ xR1.out hT HR1.out.1 HR1.out.2 HV1.out (by omega) (by rw [HC1.out]; omega)).mono ?_
  rintro e W2 ⟨rfl, hr, hrb, hrv⟩
  rw [HC1.out]
  have HR2 := Lib.hid (And.intro hr hrb)
  have HV2 := Lib.hid hrv
  have c0' : W2.cell? ⟨w.heap.size, 0, none⟩ = some (.slice xA0 (x.1).length xq0) := sims_box hrv HG.out hlt 0 _ rfl
  have c1' : W2.cell? ⟨w.heap.size, 1, none⟩ = some (.slice xA1 (x.2).length xq1) := sims_box hrv HG.out hlt 1 _ rfl
  clear hr hrb hrv hvp c0 c1
  have c0 := c0'
  have c1 := c1'
  clear c0' c1'
  go_wp2
  go_ret
  exact ⟨⟨_, by omega, by omega, rfl⟩, HR2.out.1, HR2.out.2⟩
end Go.Proofs.YtmjofpfkgbnknaaGreat
/- DoWordState: The type WordState as the exact laws' helpers see it. -/
namespace Go.Proofs.YtmjofpfkgbnknaaGreat
open Go.RowKit
set_option linter.unusedVariables false
set_option linter.unusedSimpArgs false

abbrev owWordState : Ow DWordState := ow2 owIntS owIntS
theorem gow_WordState : Ow.Good owWordState := ow2_good gow_IntS gow_IntS
theorem rds_WordState : Ow.Rds owWordState rdWordState := ow2_rds rds_IntS rds_IntS
abbrev owWordStateS : Ow (List DWordState) := owS 2 owWordState
theorem gow_WordStateS : Ow.Good owWordStateS := owS_good 2 gow_WordState
theorem rds_WordStateS : Ow.Rds owWordStateS rdWordStateS := owS_rds 2 rds_WordState
def numWordState (k : Int) (x : DWordState) : DWordState := (numIntS (k) (x.1), numIntS (k + (cntIntS (x.1) : Int)) (x.2))
def numWordStateS (k : Int) (L : List DWordState) : List DWordState := numG numWordState cntWordState k L
theorem cntG_WordStateS (L : List DWordState) : cntG cntWordState L = cntWordStateS L := rfl
theorem numWordStateS_set (L : List DWordState) (i : Nat) (x : DWordState) (k cc : Int) (h : L[i]? = some x) (hc : (cntWordStateS (L.take i) : Int) = cc) : (numWordStateS k (L.take i) ++ L.drop i).set i (numWordState (k + cc) x) = numWordStateS k (L.take (i + 1)) ++ L.drop (i + 1) := by
  have h1 := numG_set numWordState cntWordState L i x k h
  rw [cntG_WordStateS, hc] at h1; exact h1
theorem numWordStateS_mid (L : List DWordState) (i : Nat) (x : DWordState) (k : Int) (h : L[i]? = some x) : (numWordStateS k (L.take i) ++ L.drop i)[i]? = some x := numG_mid numWordState cntWordState L i x k h
theorem numWordStateS_get (L : List DWordState) (i : Nat) (x : DWordState) (k cc : Int) (h : L[i]? = some x) (hc : (cntWordStateS (L.take i) : Int) = cc) : (numWordStateS k L)[i]? = some (numWordState (k + cc) x) := by
  have h1 := numG_get numWordState cntWordState L i x k h
  rw [cntG_WordStateS, hc] at h1; exact h1
theorem numWordStateS_len (L : List DWordState) (k : Int) : (numWordStateS k L).length = L.length := numG_len numWordState cntWordState L k
theorem numWordStateS_midlen (L : List DWordState) (i : Nat) (k : Int) (h : i ≤ L.length) : (numWordStateS k (L.take i) ++ L.drop i).length = L.length := by
  rw [List.length_append, numWordStateS_len, List.length_take, List.length_drop]; omega

/-- Its slices numbered. -/
def numVWordState (k : Int) (x : DWordState) : DWordState := (numIntS (k) (x.1), numIntS (k + (cntIntS (x.1) : Int)) (x.2))
def cntVWordState (x : DWordState) : Nat := cntIntS (x.1) + cntIntS (x.2)
set_option maxHeartbeats 6400000 in
theorem markWordState_own (x : DWordState) (us : List Value) (bs : List Nat) (k : Int) (w : World) (h : owWordState bs w us x) (nd : bs.Nodup) (hk0 : 0 ≤ k) (hk : k + (cntVWordState x : Int) ≤ 4611686018427387904) :
    Calls Tryz.prog 26 #[.agg us.toArray, .int .i64 k] w fun e w' => e = .returned (.int .i64 (k + (cntVWordState x : Int))) ∧ owWordState bs w' us (numVWordState k x) ∧ ChgL bs w w' := by
  have hend : k + (cntVWordState x : Int) = k + (cntIntS (x.1) : Int) + (cntIntS (x.2) : Int) := by unfold cntVWordState; omega
  rw [hend] at hk ⊢
  unfold numVWordState
  obtain ⟨b0, b1, u0, u1, rfl, rfl, h0, h1⟩ := h
  have q0 := h0
  obtain ⟨xA0, xq0, e0, -⟩ := q0
  injection e0 with e0
  subst e0
  have q1 := h1
  obtain ⟨xA1, xq1, e1, -⟩ := q1
  injection e1 with e1
  subst e1
  have hn0 : b0.Nodup := by simp [List.nodup_append] at nd; simp_all
  have hg0 : w.heap.size ∉ b0 := fun hb => Nat.lt_irrefl _ (gow_IntS.lt _ _ _ _ h0 _ hb)
  have hn1 : b1.Nodup := by simp [List.nodup_append] at nd; simp_all
  have hg1 : w.heap.size ∉ b1 := fun hb => Nat.lt_irrefl _ (gow_IntS.lt _ _ _ _ h1 _ hb)
  have hd10 : ∀ b ∈ b1, b ∉ b0 := by
    simp only [List.nodup_append, List.mem_append, List.nil_append] at nd
    intro b h1 h2
    exact by first | exact absurd rfl (nd.2.2 b h1 b (by simp [h2])) | exact absurd rfl (nd.2.2 b h2 b (by simp [h1])) | exact absurd rfl (nd.2.1.2.2 b h1 b (by simp [h2])) | exact absurd rfl (nd.2.1.2.2 b h2 b (by simp [h1])) | exact absurd rfl (nd.2.1.2.1.2.2 b h1 b (by simp [h2])) | exact absurd rfl (nd.2.1.2.1.2.2 b h2 b (by simp [h1]))
  have hd01 : ∀ b ∈ b0, b ∉ b1 := by
    simp only [List.nodup_append, List.mem_append, List.nil_append] at nd
    intro b h1 h2
    exact by first | exact absurd rfl (nd.2.2 b h1 b (by simp [h2])) | exact absurd rfl (nd.2.2 b h2 b (by simp [h1])) | exact absurd rfl (nd.2.1.2.2 b h1 b (by simp [h2])) | exact absurd rfl (nd.2.1.2.2 b h2 b (by simp [h1])) | exact absurd rfl (nd.2.1.2.1.2.2 b h1 b (by simp [h2])) | exact absurd rfl (nd.2.1.2.1.2.2 b h2 b (by simp [h1]))
  obtain ⟨t0, ht0⟩ : ∃ c : Int, (cntIntS (x.1) : Int) = c := ⟨_, rfl⟩
  have hp0 : 0 ≤ t0 := by omega
  have HC0 := Lib.hid ht0
  obtain ⟨t1, ht1⟩ : ∃ c : Int, (cntIntS (x.2) : Int) = c := ⟨_, rfl⟩
  have hp1 : 0 ≤ t1 := by omega
  have HC1 := Lib.hid ht1
  simp only [ht0, ht1] at hk ⊢
  clear hend nd ht0 ht1
  have O0 := Lib.hid h0
  have O1 := Lib.hid h1
  clear h0 h1
  go_enter Tryz.func26, Tryz.ntmps26
  go_wp2_with fail
  obtain ⟨V, hV⟩ : ∃ V, V = w.alloc (.cells #[.slice xA0 (x.1).length xq0, .slice xA1 (x.2).length xq1] 56) := ⟨_, rfl⟩
  rw [← hV]
  have g := eqbox1 hV
  have c0 : V.cell? ⟨w.heap.size, 0, none⟩ = some (.slice xA0 (x.1).length xq0) := box_cell g.1 0 _ rfl
  have c1 : V.cell? ⟨w.heap.size, 1, none⟩ = some (.slice xA1 (x.2).length xq1) := box_cell g.1 1 _ rfl
  replace O0 := Lib.hid (gow_IntS.frame _ _ _ _ _ O0.out fun b hb => g.2.block b (gow_IntS.lt _ _ _ _ O0.out b hb))
  replace O1 := Lib.hid (gow_IntS.frame _ _ _ _ _ O1.out fun b hb => g.2.block b (gow_IntS.lt _ _ _ _ O1.out b hb))
  have HG0 := Lib.hid g.2
  clear hV g
  refine (markIntS_own (x.1) _ _ _ b0 _ _ O0.out hn0 (by omega) (by rw [HC0.out]; omega)).mono ?_
  rintro e W1 ⟨rfl, ho, hch⟩
  rw [HC0.out]
  replace c0 := chg_cell hch hg0 c0
  replace c1 := chg_cell hch hg0 c1
  replace O1 := Lib.hid (gow_IntS.frame _ _ _ _ _ O1.out fun b hb => hch.block b (gow_IntS.lt _ _ _ _ O1.out b hb) (hd10 b hb))
  replace O0 := Lib.hid ho
  have hG : ChgL ((b0 ++ b1)) w W1 := ChgL.trans (ChgL.below (ChgL.refl ((b0 ++ b1)) w) HG0.out) (hch.wider fun b hb => by simp [hb])
  have HG1 := Lib.hid hG
  clear hG ho hch
  go_wp2_with fail
  refine (markIntS_own (x.2) _ _ _ b1 _ _ O1.out hn1 (by omega) (by rw [HC1.out]; omega)).mono ?_
  rintro e W2 ⟨rfl, ho, hch⟩
  rw [HC1.out]
  replace c0 := chg_cell hch hg1 c0
  replace c1 := chg_cell hch hg1 c1
  replace O0 := Lib.hid (gow_IntS.frame _ _ _ _ _ O0.out fun b hb => hch.block b (gow_IntS.lt _ _ _ _ O0.out b hb) (hd01 b hb))
  replace O1 := Lib.hid ho
  have hG : ChgL ((b0 ++ b1)) w W2 := ChgL.trans HG1.out (hch.wider fun b hb => by simp [hb])
  have HG2 := Lib.hid hG
  clear hG ho hch
  go_wp2
  go_ret
  exact ⟨rfl, ⟨b0, b1, _, _, rfl, rfl, O0.out, O1.out⟩, HG2.out⟩
set_option maxHeartbeats 3200000 in
theorem heldWordState_num (x : DWordState) (us : List Value) {B T : Nat} (k : Int) (w : World) (h : rdWordState B T w us (numVWordState k x)) (hT : T ≤ w.heap.size) (hk0 : 0 ≤ k) (hk : k + (cntVWordState x : Int) ≤ 4611686018427387904) :
    Calls Tryz.prog 31 #[.agg us.toArray, .int .i64 k] w fun e w' => e = .returned (.int .i64 (k + (cntVWordState x : Int))) ∧ Below w.heap.size w w' := by
  have hend : k + (cntVWordState x : Int) = k + (cntIntS (x.1) : Int) + (cntIntS (x.2) : Int) := by unfold cntVWordState; omega
  rw [hend] at hk ⊢
  unfold numVWordState at h
  obtain ⟨u0, u1, rfl, h0, h1⟩ := h
  obtain ⟨t0, ht0⟩ : ∃ c : Int, (cntIntS (x.1) : Int) = c := ⟨_, rfl⟩
  have hp0 : 0 ≤ t0 := by omega
  have HC0 := Lib.hid ht0
  obtain ⟨t1, ht1⟩ : ∃ c : Int, (cntIntS (x.2) : Int) = c := ⟨_, rfl⟩
  have hp1 : 0 ≤ t1 := by omega
  have HC1 := Lib.hid ht1
  (try simp only [ht0, ht1] at h0)
  have O0 := Lib.hid h0
  obtain ⟨xA0, xq0, e0, -⟩ := h0
  (try dsimp only at e0)
  rw [numIntS_len] at e0
  injection e0 with e0
  subst e0
  (try simp only [ht0, ht1] at h1)
  have O1 := Lib.hid h1
  obtain ⟨xA1, xq1, e1, -⟩ := h1
  (try dsimp only at e1)
  rw [numIntS_len] at e1
  injection e1 with e1
  subst e1
  simp only [ht0, ht1] at hk ⊢
  clear hend ht0 ht1
  go_enter Tryz.func31, Tryz.ntmps31
  go_wp2_with fail
  refine (heldIntS_num (x.1) _ _ _ (good_IntS.below O0.out hT (by (repeat' (first | assumption | exact Below.refl _ _ | refine bDrewN ?_ _ | refine Below.drew ?_ | refine bAlloc ?_ (Nat.le_refl _) _ | refine bSet ?_ (by first | exact Nat.le_refl _ | omega | (simp <;> omega)) _)))) (Nat.le_trans hT (by simp <;> omega)) (by omega) (by rw [HC0.out]; omega)).mono ?_
  rintro e W1 ⟨rfl, hbb⟩
  rw [HC0.out]
  have g := box1 hbb
  have c0 : W1.cell? ⟨w.heap.size, 0, none⟩ = some (.slice xA0 (x.1).length xq0) := box_cell g.1 0 _ rfl
  have c1 : W1.cell? ⟨w.heap.size, 1, none⟩ = some (.slice xA1 (x.2).length xq1) := box_cell g.1 1 _ rfl
  have HB1 := Lib.hid g.2
  clear g
  have tn1 : ¬ (k + t0) < 0 := by omega
  clear hbb
  go_wp2_with fail
  refine (heldIntS_num (x.2) _ _ _ (by have h := good_IntS.below O1.out hT HB1.out; (first | exact h | (simpa [Int.add_assoc] using h))) (Nat.le_trans hT HB1.out.size) (by omega) (by rw [HC1.out]; omega)).mono ?_
  rintro e W2 ⟨rfl, hbb⟩
  rw [HC1.out]
  replace c0 := keep hbb c0
  replace c1 := keep hbb c1
  have HB2 := Lib.hid (bThen HB1.out hbb)
  have tn2 : ¬ (k + t0 + t1) < 0 := by omega
  clear hbb
  go_wp2
  go_ret
  exact ⟨rfl, HB2.out⟩
end Go.Proofs.YtmjofpfkgbnknaaGreat
