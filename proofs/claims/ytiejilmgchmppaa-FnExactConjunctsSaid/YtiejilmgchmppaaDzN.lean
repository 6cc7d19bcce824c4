/-
  DzInt, DzSeq, DzAnd, DzNet as one text.
-/
import Derived.Test.YtiejilmgchmppaaDtN
/- DzInt: The type Int as the exact laws' helpers see it. -/
namespace Go.Proofs.Ytiejilmgchmppaa
open Go.RowKit
set_option linter.unusedVariables false
set_option linter.unusedSimpArgs false

theorem szIntS_post (zs : List Int) (a : Option Addr) (len cap : Nat) {B T : Nat} (left : Int) (w : World) (h : rdIntS B T w [.slice a len cap] zs) (h0 : 0 ≤ left) (h1 : left ≤ 1048576) :
    Calls Try.prog 39 #[.slice a len cap, .int .i64 left] w fun e w' => ∃ r : Int, e = .returned (.int .i64 r) ∧ (r = -1 ∨ (0 ≤ r ∧ r ≤ left ∧ smIntS zs)) ∧ Below w.heap.size w w' := by
  obtain ⟨A, c, ea, hm, -⟩ := h
  injection ea with ea _
  injection ea with e1 e2 e3
  subst e1 e2 e3
  by_cases hl : (zs.length : Int) ≤ left
  · refine (szIntS_any _ _ _ _ _ hl h1).mono ?_
    rintro e w1 ⟨rfl, hb⟩
    exact ⟨_, rfl, .inr ⟨by omega, by omega, (by omega : zs.length ≤ 1048576)⟩, hb⟩
  · refine (szIntS_big _ _ _ _ _ (by omega) h0 h1 hm.1).mono ?_
    rintro e w1 ⟨rfl, hb⟩
    exact ⟨_, rfl, .inl rfl, hb⟩
end Go.Proofs.Ytiejilmgchmppaa
/- DzSeq: The type Seq as the exact laws' helpers see it. -/
namespace Go.Proofs.Ytiejilmgchmppaa
open Go.RowKit
set_option linter.unusedVariables false
set_option linter.unusedSimpArgs false

set_option maxHeartbeats 1600000 in
theorem szSeq_post (x : DSeq) (us : List Value) {B T : Nat} (left : Int) (w : World) (h : rdSeq B T w us x) (hT : T ≤ w.heap.size) (h0 : 0 ≤ left) (h1 : left ≤ 1048576) :
    Calls Try.prog 60 #[.agg us.toArray, .int .i64 left] w fun e w' => ∃ r : Int, e = .returned (.int .i64 r) ∧ (r = -1 ∨ (0 ≤ r ∧ r ≤ left ∧ smSeq x)) ∧ Below w.heap.size w w' := by
  unfold smSeq
  obtain ⟨u0, u1, u2, rfl, uh0, uh1, uh2⟩ := h
  obtain ⟨ue0, uf0⟩ := uh0
  injection ue0 with ue0
  subst ue0
  obtain ⟨ue1, uf1⟩ := uh1
  injection ue1 with ue1
  subst ue1
  have uq2 := uh2
  obtain ⟨u2A, u2c, ue2, -⟩ := uq2
  injection ue2 with ue2
  subst ue2
  have U2 := Lib.hid uh2
  clear uh2
  go_enter Try.func60, Try.ntmps60
  go_wp2_with fail
  refine (szIntS_post (x.2.2) u2A (x.2.2).length u2c left _ (good_IntS.below U2.out hT (by (repeat' (first | assumption | exact Below.refl _ _ | refine bDrewN ?_ _ | refine Below.drew ?_ | refine bAlloc ?_ (Nat.le_refl _) _ | refine bSet ?_ (by first | exact Nat.le_refl _ | omega | (simp <;> omega)) _)))) h0 h1).mono ?_
  rintro e w1 ⟨r0, rfl, hr, hb⟩
  have g := box1 hb
  have uc0 : w1.cell? ⟨w.heap.size, 0, none⟩ = some (.int .i64 x.1) := box_cell g.1 0 _ rfl
  have uc1 : w1.cell? ⟨w.heap.size, 1, none⟩ = some (.int .i64 x.2.1) := box_cell g.1 1 _ rfl
  have uc2 : w1.cell? ⟨w.heap.size, 2, none⟩ = some (.slice u2A (x.2.2).length u2c) := box_cell g.1 2 _ rfl
  have hW : Below w.heap.size w w1 := g.2
  clear hb g
  rcases hr with rfl | ⟨p0, q0, s0⟩
  · have HW := Lib.hid hW
    go_wp2
    go_ret
    exact ⟨_, rfl, .inl rfl, HW.out⟩
  have t0 : ¬ r0 < 0 := by omega
  have HW := Lib.hid hW
  clear hW
  go_wp2
  go_ret
  exact ⟨_, rfl, .inr ⟨by omega, by omega, s0⟩, HW.out⟩

set_option maxHeartbeats 1600000 in
theorem szSeqS_post (zs : List DSeq) (a : Option Addr) (len cap : Nat) {B T : Nat} (left : Int) (w : World) (h : rdSeqS B T w [.slice a len cap] zs) (hT : T ≤ w.heap.size) (h0 : 0 ≤ left) (h1 : left ≤ 1048576) :
    Calls Try.prog 37 #[.slice a len cap, .int .i64 left] w fun e w' => ∃ r : Int, e = .returned (.int .i64 r) ∧ (r = -1 ∨ (0 ≤ r ∧ r ≤ left ∧ smSeqS zs)) ∧ Below w.heap.size w w' := by
  obtain ⟨A, c, ea, hm, hA⟩ := h
  injection ea with ea _
  injection ea with e1 e2 e3
  subst e1 e2 e3
  unfold maxLen at hm
  have HA := Lib.hid hA
  clear hA
  by_cases hl : (zs.length : Int) ≤ left
  · have t1 : ¬ left - (zs.length : Int) < 0 := by omega
    go_enter Try.func37, Try.ntmps37
    go_wp2
    go_loopw [1, 5] (fun q v wr => ∃ (i : Nat) (r : Int), i ≤ zs.length ∧ v = .int .i64 i ∧ q = .int .i64 r ∧ 0 ≤ r ∧ r ≤ left ∧ (∀ j x, j < i → zs[j]? = some x → smSeq x) ∧ Below w.heap.size w wr) (fun _ v _ => zs.length - (intOf v).toNat)
    case atStart => exact ⟨0, left - zs.length, Nat.zero_le _, rfl, rfl, by omega, by omega, fun j x hj => absurd hj (by omega), Below.refl _ _⟩
    case round =>
      obtain ⟨i, r, hi, rfl, rfl, hr0, hr1, hsm, hb⟩ := hrel
      have HB := Lib.hid hb
      have HS := Lib.hid hsm
      by_cases hlt : i < zs.length
      · obtain ⟨b, o, rfl, _, hbT, us, hul, hc, hr⟩ := HA.out i hlt
        obtain ⟨x, hx⟩ : ∃ x, zs[i] = x := ⟨_, rfl⟩
        have hx? : zs[i]? = some x := by rw [List.getElem?_eq_getElem hlt, hx]
        rw [hx] at hr
        have hrs := good_Seq.below hr hT hb
        have HR := Lib.hid hrs
        obtain ⟨u0, u1, u2, rfl, -⟩ := hr
        have c0 : wr.cell? ⟨b, o + i * 3, none⟩ = some u0 := keep hb (hc 0 _ rfl)
        have c1 : wr.cell? ⟨b, o + i * 3 + 1, none⟩ = some u1 := keep hb (hc 1 _ rfl)
        have c2 : wr.cell? ⟨b, o + i * 3 + 2, none⟩ = some u2 := keep hb (hc 2 _ rfl)
        clear hc hrs hb hsm hbT hul hx
        go_wp2_with fail
        refine (szSeq_post x [u0, u1, u2] r _ HR.out (Nat.le_trans hT HB.out.size) hr0 (by omega)).mono ?_
        rintro e w2 ⟨r2, rfl, hr2, hb2⟩
        have HB2 := Lib.hid (bThen HB.out hb2)
        clear hb2
        rcases hr2 with rfl | ⟨p, q, s⟩
        · go_wp2
          go_ret
          exact ⟨_, rfl, .inl rfl, HB2.out⟩
        · have t2 : ¬ r2 < 0 := by omega
          go_wp2
          go_roundw
          case rel =>
            refine ⟨i + 1, r2, by omega, by go_num, rfl, p, by omega, fun j y hj hy => ?_, HB2.out⟩
            by_cases hji : j = i
            · subst hji
              rw [hx?] at hy
              injection hy with hy
              subst hy
              exact s
            · exact HS.out j y (by omega) hy
          case measure => simp [intOf]; omega
      · obtain rfl : i = zs.length := by omega
        clear hb hsm
        go_wp2
        go_ret
        refine ⟨_, rfl, .inr ⟨hr0, hr1, ⟨by omega, fun x hx => ?_⟩⟩, HB.out⟩
        obtain ⟨j, hj, rfl⟩ := List.getElem_of_mem hx
        exact HS.out j _ hj (List.getElem?_eq_getElem hj)
  · have t1 : left - (zs.length : Int) < 0 := by omega
    go_enter Try.func37, Try.ntmps37
    go_wp2
    go_ret
    exact ⟨_, rfl, .inl rfl, Below.refl _ _⟩
end Go.Proofs.Ytiejilmgchmppaa
/- DzAnd: The type And as the exact laws' helpers see it. -/
namespace Go.Proofs.Ytiejilmgchmppaa
open Go.RowKit
set_option linter.unusedVariables false
set_option linter.unusedSimpArgs false

theorem szAndS_post (zs : List DAnd) (a : Option Addr) (len cap : Nat) {B T : Nat} (left : Int) (w : World) (h : rdAndS B T w [.slice a len cap] zs) (h0 : 0 ≤ left) (h1 : left ≤ 1048576) :
    Calls Try.prog 38 #[.slice a len cap, .int .i64 left] w fun e w' => ∃ r : Int, e = .returned (.int .i64 r) ∧ (r = -1 ∨ (0 ≤ r ∧ r ≤ left ∧ smAndS zs)) ∧ Below w.heap.size w w' := by
  obtain ⟨A, c, ea, hm, -⟩ := h
  injection ea with ea _
  injection ea with e1 e2 e3
  subst e1 e2 e3
  by_cases hl : (zs.length : Int) ≤ left
  · refine (szAndS_any _ _ _ _ _ hl h1).mono ?_
    rintro e w1 ⟨rfl, hb⟩
    exact ⟨_, rfl, .inr ⟨by omega, by omega, ⟨by omega, fun _ _ => trivial⟩⟩, hb⟩
  · refine (szAndS_big _ _ _ _ _ (by omega) h0 h1 hm.1).mono ?_
    rintro e w1 ⟨rfl, hb⟩
    exact ⟨_, rfl, .inl rfl, hb⟩
end Go.Proofs.Ytiejilmgchmppaa
/- DzNet: The type Net as the exact laws' helpers see it. -/
namespace Go.Proofs.Ytiejilmgchmppaa
open Go.RowKit
set_option linter.unusedVariables false
set_option linter.unusedSimpArgs false

set_option maxHeartbeats 1600000 in
theorem szNet_post (x : DNet) (us : List Value) {B T : Nat} (left : Int) (w : World) (h : rdNet B T w us x) (hT : T ≤ w.heap.size) (h0 : 0 ≤ left) (h1 : left ≤ 1048576) :
    Calls Try.prog 13 #[.agg us.toArray, .int .i64 left] w fun e w' => ∃ r : Int, e = .returned (.int .i64 r) ∧ (r = -1 ∨ (0 ≤ r ∧ r ≤ left ∧ smNet x)) ∧ Below w.heap.size w w' := by
  unfold smNet
  obtain ⟨u0, u1, u2, u3, rfl, uh0, uh1, uh2, uh3⟩ := h
  obtain ⟨ue0, uf0⟩ := uh0
  injection ue0 with ue0
  subst ue0
  have uq1 := uh1
  obtain ⟨u1A, u1c, ue1, -⟩ := uq1
  injection ue1 with ue1
  subst ue1
  have U1 := Lib.hid uh1
  clear uh1
  have uq2 := uh2
  obtain ⟨u2A, u2c, ue2, -⟩ := uq2
  injection ue2 with ue2
  subst ue2
  have U2 := Lib.hid uh2
  clear uh2
  have uq3 := uh3
  obtain ⟨u3A, u3c, ue3, -⟩ := uq3
  injection ue3 with ue3
  subst ue3
  have U3 := Lib.hid uh3
  clear uh3
  go_enter Try.func13, Try.ntmps13
  go_wp2_with fail
  refine (szSeqS_post (x.2.1) u1A (x.2.1).length u1c left _ (good_SeqS.below U1.out hT (by (repeat' (first | assumption | exact Below.refl _ _ | refine bDrewN ?_ _ | refine Below.drew ?_ | refine bAlloc ?_ (Nat.le_refl _) _ | refine bSet ?_ (by first | exact Nat.le_refl _ | omega | (simp <;> omega)) _)))) (Nat.le_trans hT (by simp <;> omega)) h0 h1).mono ?_
  rintro e w1 ⟨r0, rfl, hr, hb⟩
  have g := box1 hb
  have uc0 : w1.cell? ⟨w.heap.size, 0, none⟩ = some (.int .i64 x.1) := box_cell g.1 0 _ rfl
  have uc1 : w1.cell? ⟨w.heap.size, 1, none⟩ = some (.slice u1A (x.2.1).length u1c) := box_cell g.1 1 _ rfl
  have uc2 : w1.cell? ⟨w.heap.size, 2, none⟩ = some (.slice u2A (x.2.2.1).length u2c) := box_cell g.1 2 _ rfl
  have uc3 : w1.cell? ⟨w.heap.size, 3, none⟩ = some (.slice u3A (x.2.2.2).length u3c) := box_cell g.1 3 _ rfl
  have hW : Below w.heap.size w w1 := g.2
  clear hb g
  rcases hr with rfl | ⟨p0, q0, s0⟩
  · have HW := Lib.hid hW
    go_wp2
    go_ret
    exact ⟨_, rfl, .inl rfl, HW.out⟩
  have t0 : ¬ r0 < 0 := by omega
  go_wp2_with fail
  refine (szAndS_post (x.2.2.1) u2A (x.2.2.1).length u2c r0 _ (good_AndS.below U2.out hT hW) p0 (by omega)).mono ?_
  rintro e w2 ⟨r1, rfl, hr, hb⟩
  replace uc0 := keep hb uc0
  replace uc1 := keep hb uc1
  replace uc2 := keep hb uc2
  replace uc3 := keep hb uc3
  replace hW := bThen hW hb
  clear hb
  rcases hr with rfl | ⟨p1, q1, s1⟩
  · have HW := Lib.hid hW
    go_wp2
    go_ret
    exact ⟨_, rfl, .inl rfl, HW.out⟩
  have t1 : ¬ r1 < 0 := by omega
  go_wp2_with fail
  refine (szIntS_post (x.2.2.2) u3A (x.2.2.2).length u3c r1 _ (good_IntS.below U3.out hT hW) p1 (by omega)).mono ?_
  rintro e w3 ⟨r2, rfl, hr, hb⟩
  replace uc0 := keep hb uc0
  replace uc1 := keep hb uc1
  replace uc2 := keep hb uc2
  replace uc3 := keep hb uc3
  replace hW := bThen hW hb
  clear hb
  rcases hr with rfl | ⟨p2, q2, s2⟩
  · have HW := Lib.hid hW
    go_wp2
    go_ret
    exact ⟨_, rfl, .inl rfl, HW.out⟩
  have t2 : ¬ r2 < 0 := by omega
  have HW := Lib.hid hW
  clear hW
  go_wp2
  go_ret
  exact ⟨_, rfl, .inr ⟨by omega, by omega, ⟨s0, s1, s2⟩⟩, HW.out⟩
end Go.Proofs.Ytiejilmgchmppaa
