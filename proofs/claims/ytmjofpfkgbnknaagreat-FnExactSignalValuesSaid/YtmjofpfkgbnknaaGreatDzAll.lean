/-
  DzInt, DzOp, DzSignal, DzMem, DzAssign, DzInst, DzModule, DzDesign as one text.
-/
import Derived.Test.YtmjofpfkgbnknaaGreatDtAll
/- DzInt: The type Int as the exact laws' helpers see it. -/
namespace Go.Proofs.YtmjofpfkgbnknaaGreat
open Go.RowKit
set_option linter.unusedVariables false
set_option linter.unusedSimpArgs false

theorem szIntS_post (zs : List Int) (a : Option Addr) (len cap : Nat) {B T : Nat} (left : Int) (w : World) (h : rdIntS B T w [.slice a len cap] zs) (h0 : 0 ≤ left) (h1 : left ≤ 1048576) :
    Calls Tryz.prog 68 #[.slice a len cap, .int .i64 left] w fun e w' => ∃ r : Int, e = .returned (.int .i64 r) ∧ (r = -1 ∨ (0 ≤ r ∧ r ≤ left ∧ smIntS zs)) ∧ Below w.heap.size w w' := by
  obtain ⟨A, c, ea, hm, -⟩ := h
  injection ea with ea _
  injection ea with e1 e2 e3
  subst e1 e2 e3
  by_cases hl : (zs.length : Int) ≤ left
  · refine (szIntS_any _ _ _ _ _ hl h1).mono ?_
    rintro e w1 ⟨rfl, hb⟩
    exact ⟨_, rfl, .inr ⟨by omega, by omega, (by omega : zs.length ≤ 1048576)⟩, hb⟩
  · refine (szIntS_big _ _ _ _ _ (by omega) h0 h1 hm.1).mono ?_
    rintro e w1 ⟨rfl, hb⟩
    exact ⟨_, rfl, .inl rfl, hb⟩
end Go.Proofs.YtmjofpfkgbnknaaGreat
/- DzOp: The type Op as the exact laws' helpers see it. -/
namespace Go.Proofs.YtmjofpfkgbnknaaGreat
open Go.RowKit
set_option linter.unusedVariables false
set_option linter.unusedSimpArgs false

theorem szOpS_post (zs : List DOp) (a : Option Addr) (len cap : Nat) {B T : Nat} (left : Int) (w : World) (h : rdOpS B T w [.slice a len cap] zs) (h0 : 0 ≤ left) (h1 : left ≤ 1048576) :
    Calls Tryz.prog 135 #[.slice a len cap, .int .i64 left] w fun e w' => ∃ r : Int, e = .returned (.int .i64 r) ∧ (r = -1 ∨ (0 ≤ r ∧ r ≤ left ∧ smOpS zs)) ∧ Below w.heap.size w w' := by
  obtain ⟨A, c, ea, hm, -⟩ := h
  injection ea with ea _
  injection ea with e1 e2 e3
  subst e1 e2 e3
  by_cases hl : (zs.length : Int) ≤ left
  · refine (szOpS_any _ _ _ _ _ hl h1).mono ?_
    rintro e w1 ⟨rfl, hb⟩
    exact ⟨_, rfl, .inr ⟨by omega, by omega, ⟨by omega, fun _ _ => trivial⟩⟩, hb⟩
  · refine (szOpS_big _ _ _ _ _ (by omega) h0 h1 hm.1).mono ?_
    rintro e w1 ⟨rfl, hb⟩
    exact ⟨_, rfl, .inl rfl, hb⟩
end Go.Proofs.YtmjofpfkgbnknaaGreat
/- DzSignal: The type Signal as the exact laws' helpers see it. -/
namespace Go.Proofs.YtmjofpfkgbnknaaGreat
open Go.RowKit
set_option linter.unusedVariables false
set_option linter.unusedSimpArgs false

theorem szSignalS_post (zs : List DSignal) (a : Option Addr) (len cap : Nat) {B T : Nat} (left : Int) (w : World) (h : rdSignalS B T w [.slice a len cap] zs) (h0 : 0 ≤ left) (h1 : left ≤ 1048576) :
    Calls Tryz.prog 64 #[.slice a len cap, .int .i64 left] w fun e w' => ∃ r : Int, e = .returned (.int .i64 r) ∧ (r = -1 ∨ (0 ≤ r ∧ r ≤ left ∧ smSignalS zs)) ∧ Below w.heap.size w w' := by
  obtain ⟨A, c, ea, hm, -⟩ := h
  injection ea with ea _
  injection ea with e1 e2 e3
  subst e1 e2 e3
  by_cases hl : (zs.length : Int) ≤ left
  · refine (szSignalS_any _ _ _ _ _ hl h1).mono ?_
    rintro e w1 ⟨rfl, hb⟩
    exact ⟨_, rfl, .inr ⟨by omega, by omega, ⟨by omega, fun _ _ => trivial⟩⟩, hb⟩
  · refine (szSignalS_big _ _ _ _ _ (by omega) h0 h1 hm.1).mono ?_
    rintro e w1 ⟨rfl, hb⟩
    exact ⟨_, rfl, .inl rfl, hb⟩
end Go.Proofs.YtmjofpfkgbnknaaGreat
/- DzMem: The type Mem as the exact laws' helpers see it. -/
namespace Go.Proofs.YtmjofpfkgbnknaaGreat
open Go.RowKit
set_option linter.unusedVariables false
set_option linter.unusedSimpArgs false

theorem szMemS_post (zs : List DMem) (a : Option Addr) (len cap : Nat) {B T : Nat} (left : Int) (w : World) (h : rdMemS B T w [.slice a len cap] zs) (h0 : 0 ≤ left) (h1 : left ≤ 1048576) :
    Calls Tryz.prog 67 #[.slice a len cap, .int .i64 left] w fun e w' => ∃ r : Int, e = .returned (.int .i64 r) ∧ (r = -1 ∨ (0 ≤ r ∧ r ≤ left ∧ smMemS zs)) ∧ Below w.heap.size w w' := by
  obtain ⟨A, c, ea, hm, -⟩ := h
  injection ea with ea _
  injection ea with e1 e2 e3
  subst e1 e2 e3
  by_cases hl : (zs.length : Int) ≤ left
  · refine (szMemS_any _ _ _ _ _ hl h1).mono ?_
    rintro e w1 ⟨rfl, hb⟩
    exact ⟨_, rfl, .inr ⟨by omega, by omega, ⟨by omega, fun _ _ => trivial⟩⟩, hb⟩
  · refine (szMemS_big _ _ _ _ _ (by omega) h0 h1 hm.1).mono ?_
    rintro e w1 ⟨rfl, hb⟩
    exact ⟨_, rfl, .inl rfl, hb⟩
end Go.Proofs.YtmjofpfkgbnknaaGreat
/- DzAssign: The type Assign as the exact laws' helpers see it. -/
namespace Go.Proofs.YtmjofpfkgbnknaaGreat
open Go.RowKit
set_option linter.unusedVariables false
set_option linter.unusedSimpArgs false

set_option maxHeartbeats 1600000 in
theorem szAssign_post (x : DAssign) (us : List Value) {B T : Nat} (left : Int) (w : World) (h : rdAssign B T w us x) (hT : T ≤ w.heap.size) (h0 : 0 ≤ left) (h1 : left ≤ 1048576) :
    Calls Tryz.prog 102 #[.agg us.toArray, .int .i64 left] w fun e w' => ∃ r : Int, e = .returned (.int .i64 r) ∧ (r = -1 ∨ (0 ≤ r ∧ r ≤ left ∧ smAssign x)) ∧ Below w.heap.size w w' := by
  unfold smAssign
  obtain ⟨u0, u1, rfl, uh0, uh1⟩ := h
  obtain ⟨ue0, uf0⟩ := uh0
  injection ue0 with ue0
  subst ue0
  have uq1 := uh1
  obtain ⟨u1A, u1c, ue1, -⟩ := uq1
  injection ue1 with ue1
  subst ue1
  have U1 := Lib.hid uh1
  clear uh1
  go_enter Tryz.func102, Tryz.ntmps102
  go_wp2_with fail
  refine (szOpS_post (x.2) u1A (x.2).length u1c left _ (good_OpS.below U1.out hT (by (repeat' (first | assumption | exact Below.refl _ _ | refine bDrewN ?_ _ | refine Below.drew ?_ | refine bAlloc ?_ (Nat.le_refl _) _ | refine bSet ?_ (by first | exact Nat.le_refl _ | omega | (simp <;> omega)) _)))) h0 h1).mono ?_
  rintro e w1 ⟨r0, rfl, hr, hb⟩
  have g := box1 hb
  have uc0 : w1.cell? ⟨w.heap.size, 0, none⟩ = some (.int .i64 x.1) := box_cell g.1 0 _ rfl
  have uc1 : w1.cell? ⟨w.heap.size, 1, none⟩ = some (.slice u1A (x.2).length u1c) := box_cell g.1 1 _ rfl
  have hW : Below w.heap.size w w1 := g.2
  clear hb g
  rcases hr with rfl | ⟨p0, q0, s0⟩
  · have HW := Lib.hid hW
    go_wp2
    go_ret
    exact ⟨_, rfl, .inl rfl, HW.out⟩
  have t0 : ¬ r0 < 0 := by omega
  have HW := Lib.hid hW
  clear hW
  go_wp2
  go_ret
  exact ⟨_, rfl, .inr ⟨by omega, by omega, s0⟩, HW.out⟩

set_option maxHeartbeats 1600000 in
theorem szAssignS_post (zs : List DAssign) (a : Option Addr) (len cap : Nat) {B T : Nat} (left : Int) (w : World) (h : rdAssignS B T w [.slice a len cap] zs) (hT : T ≤ w.heap.size) (h0 : 0 ≤ left) (h1 : left ≤ 1048576) :
    Calls Tryz.prog 65 #[.slice a len cap, .int .i64 left] w fun e w' => ∃ r : Int, e = .returned (.int .i64 r) ∧ (r = -1 ∨ (0 ≤ r ∧ r ≤ left ∧ smAssignS zs)) ∧ Below w.heap.size w w' := by
  obtain ⟨A, c, ea, hm, hA⟩ := h
  injection ea with ea _
  injection ea with e1 e2 e3
  subst e1 e2 e3
  unfold maxLen at hm
  have HA := Lib.hid hA
  clear hA
  by_cases hl : (zs.length : Int) ≤ left
  · have t1 : ¬ left - (zs.length : Int) < 0 := by omega
    go_enter Tryz.func65, Tryz.ntmps65
    go_wp2
    go_loopw [1, 5] (fun q v wr => ∃ (i : Nat) (r : Int), i ≤ zs.length ∧ v = .int .i64 i ∧ q = .int .i64 r ∧ 0 ≤ r ∧ r ≤ left ∧ (∀ j x, j < i → zs[j]? = some x → smAssign x) ∧ Below w.heap.size w wr) (fun _ v _ => zs.length - (intOf v).toNat)
    case atStart => exact ⟨0, left - zs.length, Nat.zero_le _, rfl, rfl, by omega, by omega, fun j x hj => absurd hj (by omega), Below.refl _ _⟩
    case round =>
      obtain ⟨i, r, hi, rfl, rfl, hr0, hr1, hsm, hb⟩ := hrel
      have HB := Lib.hid hb
      have HS := Lib.hid hsm
      by_cases hlt : i < zs.length
      · obtain ⟨b, o, rfl, _, hbT, us, hul, hc, hr⟩ := HA.out i hlt
        obtain ⟨x, hx⟩ : ∃ x, zs[i] = x := ⟨_, rfl⟩
        have hx? : zs[i]? = some x := by rw [List.getElem?_eq_getElem hlt, hx]
        rw [hx] at hr
        have hrs := good_Assign.below hr hT hb
        have HR := Lib.hid hrs
        obtain ⟨u0, u1, rfl, -⟩ := hr
        have c0 : wr.cell? ⟨b, o + i * 2, none⟩ = some u0 := keep hb (hc 0 _ rfl)
        have c1 : wr.cell? ⟨b, o + i * 2 + 1, none⟩ = some u1 := keep hb (hc 1 _ rfl)
        clear hc hrs hb hsm hbT hul hx
        go_wp2_with fail
        refine (szAssign_post x [u0, u1] r _ HR.out (Nat.le_trans hT HB.out.size) hr0 (by omega)).mono ?_
        rintro e w2 ⟨r2, rfl, hr2, hb2⟩
        have HB2 := Lib.hid (bThen HB.out hb2)
        clear hb2
        rcases hr2 with rfl | ⟨p, q, s⟩
        · go_wp2
          go_ret
          exact ⟨_, rfl, .inl rfl, HB2.out⟩
        · have t2 : ¬ r2 < 0 := by omega
          go_wp2
          go_roundw
          case rel =>
            refine ⟨i + 1, r2, by omega, by go_num, rfl, p, by omega, fun j y hj hy => ?_, HB2.out⟩
            by_cases hji : j = i
            · subst hji
              rw [hx?] at hy
              injection hy with hy
              subst hy
              exact s
            · exact HS.out j y (by omega) hy
          case measure => simp [intOf]; omega
      · obtain rfl : i = zs.length := by omega
        clear hb hsm
        go_wp2
        go_ret
        refine ⟨_, rfl, .inr ⟨hr0, hr1, ⟨by omega, fun x hx => ?_⟩⟩, HB.out⟩
        obtain ⟨j, hj, rfl⟩ := List.getElem_of_mem hx
        exact HS.out j _ hj (List.getElem?_eq_getElem hj)
  · have t1 : left - (zs.length : Int) < 0 := by omega
    go_enter Tryz.func65, Tryz.ntmps65
    go_wp2
    go_ret
    exact ⟨_, rfl, .inl rfl, Below.refl _ _⟩
end Go.Proofs.YtmjofpfkgbnknaaGreat
/- DzInst: The type Inst as the exact laws' helpers see it. -/
namespace Go.Proofs.YtmjofpfkgbnknaaGreat
open Go.RowKit
set_option linter.unusedVariables false
set_option linter.unusedSimpArgs false

set_option maxHeartbeats 1600000 in
theorem szInst_post (x : DInst) (us : List Value) {B T : Nat} (left : Int) (w : World) (h : rdInst B T w us x) (hT : T ≤ w.heap.size) (h0 : 0 ≤ left) (h1 : left ≤ 1048576) :
    Calls Tryz.prog 103 #[.agg us.toArray, .int .i64 left] w fun e w' => ∃ r : Int, e = .returned (.int .i64 r) ∧ (r = -1 ∨ (0 ≤ r ∧ r ≤ left ∧ smInst x)) ∧ Below w.heap.size w w' := by
  unfold smInst
  obtain ⟨u0, u1, u2, rfl, uh0, uh1, uh2⟩ := h
  obtain ⟨ue0, uf0⟩ := uh0
  injection ue0 with ue0
  subst ue0
  obtain ⟨ue1, uf1⟩ := uh1
  injection ue1 with ue1
  subst ue1
  have uq2 := uh2
  obtain ⟨u2A, u2c, ue2, -⟩ := uq2
  injection ue2 with ue2
  subst ue2
  have U2 := Lib.hid uh2
  clear uh2
  go_enter Tryz.func103, Tryz.ntmps103
  go_wp2_with fail
  refine (szIntS_post (x.2.2) u2A (x.2.2).length u2c left _ (good_IntS.below U2.out hT (by (repeat' (first | assumption | exact Below.refl _ _ | refine bDrewN ?_ _ | refine Below.drew ?_ | refine bAlloc ?_ (Nat.le_refl _) _ | refine bSet ?_ (by first | exact Nat.le_refl _ | omega | (simp <;> omega)) _)))) h0 h1).mono ?_
  rintro e w1 ⟨r0, rfl, hr, hb⟩
  have g := box1 hb
  have uc0 : w1.cell? ⟨w.heap.size, 0, none⟩ = some (.int .i64 x.1) := box_cell g.1 0 _ rfl
  have uc1 : w1.cell? ⟨w.heap.size, 1, none⟩ = some (.int .i64 x.2.1) := box_cell g.1 1 _ rfl
  have uc2 : w1.cell? ⟨w.heap.size, 2, none⟩ = some (.slice u2A (x.2.2).length u2c) := box_cell g.1 2 _ rfl
  have hW : Below w.heap.size w w1 := g.2
  clear hb g
  rcases hr with rfl | ⟨p0, q0, s0⟩
  · have HW := Lib.hid hW
    go_wp2
    go_ret
    exact ⟨_, rfl, .inl rfl, HW.out⟩
  have t0 : ¬ r0 < 0 := by omega
  have HW := Lib.hid hW
  clear hW
  go_wp2
  go_ret
  exact ⟨_, rfl, .inr ⟨by omega, by omega, s0⟩, HW.out⟩

set_option maxHeartbeats 1600000 in
theorem szInstS_post (zs : List DInst) (a : Option Addr) (len cap : Nat) {B T : Nat} (left : Int) (w : World) (h : rdInstS B T w [.slice a len cap] zs) (hT : T ≤ w.heap.size) (h0 : 0 ≤ left) (h1 : left ≤ 1048576) :
    Calls Tryz.prog 66 #[.slice a len cap, .int .i64 left] w fun e w' => ∃ r : Int, e = .returned (.int .i64 r) ∧ (r = -1 ∨ (0 ≤ r ∧ r ≤ left ∧ smInstS zs)) ∧ Below w.heap.size w w' := by
  obtain ⟨A, c, ea, hm, hA⟩ := h
  injection ea with ea _
  injection ea with e1 e2 e3
  subst e1 e2 e3
  unfold maxLen at hm
  have HA := Lib.hid hA
  clear hA
  by_cases hl : (zs.length : Int) ≤ left
  · have t1 : ¬ left - (zs.length : Int) < 0 := by omega
    go_enter Tryz.func66, Tryz.ntmps66
    go_wp2
    go_loopw [1, 5] (fun q v wr => ∃ (i : Nat) (r : Int), i ≤ zs.length ∧ v = .int .i64 i ∧ q = .int .i64 r ∧ 0 ≤ r ∧ r ≤ left ∧ (∀ j x, j < i → zs[j]? = some x → smInst x) ∧ Below w.heap.size w wr) (fun _ v _ => zs.length - (intOf v).toNat)
    case atStart => exact ⟨0, left - zs.length, Nat.zero_le _, rfl, rfl, by omega, by omega, fun j x hj => absurd hj (by omega), Below.refl _ _⟩
    case round =>
      obtain ⟨i, r, hi, rfl, rfl, hr0, hr1, hsm, hb⟩ := hrel
      have HB := Lib.hid hb
      have HS := Lib.hid hsm
      by_cases hlt : i < zs.length
      · obtain ⟨b, o, rfl, _, hbT, us, hul, hc, hr⟩ := HA.out i hlt
        obtain ⟨x, hx⟩ : ∃ x, zs[i] = x := ⟨_, rfl⟩
        have hx? : zs[i]? = some x := by rw [List.getElem?_eq_getElem hlt, hx]
        rw [hx] at hr
        have hrs := good_Inst.below hr hT hb
        have HR := Lib.hid hrs
        obtain ⟨u0, u1, u2, rfl, -⟩ := hr
        have c0 : wr.cell? ⟨b, o + i * 3, none⟩ = some u0 := keep hb (hc 0 _ rfl)
        have c1 : wr.cell? ⟨b, o + i * 3 + 1, none⟩ = some u1 := keep hb (hc 1 _ rfl)
        have c2 : wr.cell? ⟨b, o + i * 3 + 2, none⟩ = some u2 := keep hb (hc 2 _ rfl)
        clear hc hrs hb hsm hbT hul hx
        go_wp2_with fail
        refine (szInst_post x [u0, u1, u2] r _ HR.out (Nat.le_trans hT HB.out.size) hr0 (by omega)).mono ?_
        rintro e w2 ⟨r2, rfl, hr2, hb2⟩
        have HB2 := Lib.hid (bThen HB.out hb2)
        clear hb2
        rcases hr2 with rfl | ⟨p, q, s⟩
        · go_wp2
          go_ret
          exact ⟨_, rfl, .inl rfl, HB2.out⟩
        · have t2 : ¬ r2 < 0 := by omega
          go_wp2
          go_roundw
          case rel =>
            refine ⟨i + 1, r2, by omega, by go_num, rfl, p, by omega, fun j y hj hy => ?_, HB2.out⟩
            by_cases hji : j = i
            · subst hji
              rw [hx?] at hy
              injection hy with hy
              subst hy
              exact s
            · exact HS.out j y (by omega) hy
          case measure => simp [intOf]; omega
      · obtain rfl : i = zs.length := by omega
        clear hb hsm
        go_wp2
        go_ret
        refine ⟨_, rfl, .inr ⟨hr0, hr1, ⟨by omega, fun x hx => ?_⟩⟩, HB.out⟩
        obtain ⟨j, hj, rfl⟩ := List.getElem_of_mem hx
        exact HS.out j _ hj (List.getElem?_eq_getElem hj)
  · have t1 : left - (zs.length : Int) < 0 := by omega
    go_enter Tryz.func66, Tryz.ntmps66
    go_wp2
    go_ret
    exact ⟨_, rfl, .inl rfl, Below.refl _ _⟩
end Go.Proofs.YtmjofpfkgbnknaaGreat
/- DzModule: The type Module as the exact laws' helpers see it. -/
namespace Go.Proofs.YtmjofpfkgbnknaaGreat
open Go.RowKit
set_option linter.unusedVariables false
set_option linter.unusedSimpArgs false

set_option maxHeartbeats 1600000 in
theorem szModule_post (x : DModule) (us : List Value) {B T : Nat} (left : Int) (w : World) (h : rdModule B T w us x) (hT : T ≤ w.heap.size) (h0 : 0 ≤ left) (h1 : left ≤ 1048576) :
    Calls Tryz.prog 17 #[.agg us.toArray, .int .i64 left] w fun e w' => ∃ r : Int, e = .returned (.int .i64 r) ∧ (r = -1 ∨ (0 ≤ r ∧ r ≤ left ∧ smModule x)) ∧ Below w.heap.size w w' := by
  unfold smModule
  obtain ⟨u0, u1, u2, u3, rfl, uh0, uh1, uh2, uh3⟩ := h
  have uq0 := uh0
  obtain ⟨u0A, u0c, ue0, -⟩ := uq0
  injection ue0 with ue0
  subst ue0
  have U0 := Lib.hid uh0
  clear uh0
  have uq1 := uh1
  obtain ⟨u1A, u1c, ue1, -⟩ := uq1
  injection ue1 with ue1
  subst ue1
  have U1 := Lib.hid uh1
  clear uh1
  have uq2 := uh2
  obtain ⟨u2A, u2c, ue2, -⟩ := uq2
  injection ue2 with ue2
  subst ue2
  have U2 := Lib.hid uh2
  clear uh2
  have uq3 := uh3
  obtain ⟨u3A, u3c, ue3, -⟩ := uq3
  injection ue3 with ue3
  subst ue3
  have U3 := Lib.hid uh3
  clear uh3
  go_enter Tryz.func17, Tryz.ntmps17
  go_wp2_with fail
  refine (szSignalS_post (x.1) u0A (x.1).length u0c left _ (good_SignalS.below U0.out hT (by (repeat' (first | assumption | exact Below.refl _ _ | refine bDrewN ?_ _ | refine Below.drew ?_ | refine bAlloc ?_ (Nat.le_refl _) _ | refine bSet ?_ (by first | exact Nat.le_refl _ | omega | (simp <;> omega)) _)))) h0 h1).mono ?_
  rintro e w1 ⟨r0, rfl, hr, hb⟩
  have g := box1 hb
  have uc0 : w1.cell? ⟨w.heap.size, 0, none⟩ = some (.slice u0A (x.1).length u0c) := box_cell g.1 0 _ rfl
  have uc1 : w1.cell? ⟨w.heap.size, 1, none⟩ = some (.slice u1A (x.2.1).length u1c) := box_cell g.1 1 _ rfl
  have uc2 : w1.cell? ⟨w.heap.size, 2, none⟩ = some (.slice u2A (x.2.2.1).length u2c) := box_cell g.1 2 _ rfl
  have uc3 : w1.cell? ⟨w.heap.size, 3, none⟩ = some (.slice u3A (x.2.2.2).length u3c) := box_cell g.1 3 _ rfl
  have hW : Below w.heap.size w w1 := g.2
  clear hb g
  rcases hr with rfl | ⟨p0, q0, s0⟩
  · have HW := Lib.hid hW
    go_wp2
    go_ret
    exact ⟨_, rfl, .inl rfl, HW.out⟩
  have t0 : ¬ r0 < 0 := by omega
  go_wp2_with fail
  refine (szAssignS_post (x.2.1) u1A (x.2.1).length u1c r0 _ (good_AssignS.below U1.out hT hW) (Nat.le_trans hT hW.size) p0 (by omega)).mono ?_
  rintro e w2 ⟨r1, rfl, hr, hb⟩
  replace uc0 := keep hb uc0
  replace uc1 := keep hb uc1
  replace uc2 := keep hb uc2
  replace uc3 := keep hb uc3
  replace hW := bThen hW hb
  clear hb
  rcases hr with rfl | ⟨p1, q1, s1⟩
  · have HW := Lib.hid hW
    go_wp2
    go_ret
    exact ⟨_, rfl, .inl rfl, HW.out⟩
  have t1 : ¬ r1 < 0 := by omega
  go_wp2_with fail
  refine (szInstS_post (x.2.2.1) u2A (x.2.2.1).length u2c r1 _ (good_InstS.below U2.out hT hW) (Nat.le_trans hT hW.size) p1 (by omega)).mono ?_
  rintro e w3 ⟨r2, rfl, hr, hb⟩
  replace uc0 := keep hb uc0
  replace uc1 := keep hb uc1
  replace uc2 := keep hb uc2
  replace uc3 := keep hb uc3
  replace hW := bThen hW hb
  clear hb
  rcases hr with rfl | ⟨p2, q2, s2⟩
  · have HW := Lib.hid hW
    go_wp2
    go_ret
    exact ⟨_, rfl, .inl rfl, HW.out⟩
  have t2 : ¬ r2 < 0 := by omega
  go_wp2_with fail
  refine (szMemS_post (x.2.2.2) u3A (x.2.2.2).length u3c r2 _ (good_MemS.below U3.out hT hW) p2 (by omega)).mono ?_
  rintro e w4 ⟨r3, rfl, hr, hb⟩
  replace uc0 := keep hb uc0
  replace uc1 := keep hb uc1
  replace uc2 := keep hb uc2
  replace uc3 := keep hb uc3
  replace hW := bThen hW hb
  clear hb
  rcases hr with rfl | ⟨p3, q3, s3⟩
  · have HW := Lib.hid hW
    go_wp2
    go_ret
    exact ⟨_, rfl, .inl rfl, HW.out⟩
  have t3 : ¬ r3 < 0 := by omega
  have HW := Lib.hid hW
  clear hW
  go_wp2
  go_ret
  exact ⟨_, rfl, .inr ⟨by omega, by omega, ⟨s0, s1, s2, s3⟩⟩, HW.out⟩

set_option maxHeartbeats 1600000 in
theorem szModuleS_post (zs : List DModule) (a : Option Addr) (len cap : Nat) {B T : Nat} (left : Int) (w : World) (h : rdModuleS B T w [.slice a len cap] zs) (hT : T ≤ w.heap.size) (h0 : 0 ≤ left) (h1 : left ≤ 1048576) :
    Calls Tryz.prog 41 #[.slice a len cap, .int .i64 left] w fun e w' => ∃ r : Int, e = .returned (.int .i64 r) ∧ (r = -1 ∨ (0 ≤ r ∧ r ≤ left ∧ smModuleS zs)) ∧ Below w.heap.size w w' := by
  obtain ⟨A, c, ea, hm, hA⟩ := h
  injection ea with ea _
  injection ea with e1 e2 e3
  subst e1 e2 e3
  unfold maxLen at hm
  have HA := Lib.hid hA
  clear hA
  by_cases hl : (zs.length : Int) ≤ left
  · have t1 : ¬ left - (zs.length : Int) < 0 := by omega
    go_enter Tryz.func41, Tryz.ntmps41
    go_wp2
    go_loopw [1, 5] (fun q v wr => ∃ (i : Nat) (r : Int), i ≤ zs.length ∧ v = .int .i64 i ∧ q = .int .i64 r ∧ 0 ≤ r ∧ r ≤ left ∧ (∀ j x, j < i → zs[j]? = some x → smModule x) ∧ Below w.heap.size w wr) (fun _ v _ => zs.length - (intOf v).toNat)
    case atStart => exact ⟨0, left - zs.length, Nat.zero_le _, rfl, rfl, by omega, by omega, fun j x hj => absurd hj (by omega), Below.refl _ _⟩
    case round =>
      obtain ⟨i, r, hi, rfl, rfl, hr0, hr1, hsm, hb⟩ := hrel
      have HB := Lib.hid hb
      have HS := Lib.hid hsm
      by_cases hlt : i < zs.length
      · obtain ⟨b, o, rfl, _, hbT, us, hul, hc, hr⟩ := HA.out i hlt
        obtain ⟨x, hx⟩ : ∃ x, zs[i] = x := ⟨_, rfl⟩
        have hx? : zs[i]? = some x := by rw [List.getElem?_eq_getElem hlt, hx]
        rw [hx] at hr
        have hrs := good_Module.below hr hT hb
        have HR := Lib.hid hrs
        obtain ⟨u0, u1, u2, u3, rfl, -⟩ := hr
        have c0 : wr.cell? ⟨b, o + i * 4, none⟩ = some u0 := keep hb (hc 0 _ rfl)
        have c1 : wr.cell? ⟨b, o + i * 4 + 1, none⟩ = some u1 := keep hb (hc 1 _ rfl)
        have c2 : wr.cell? ⟨b, o + i * 4 + 2, none⟩ = some u2 := keep hb (hc 2 _ rfl)
        have c3 : wr.cell? ⟨b, o + i * 4 + 3, none⟩ = some u3 := keep hb (hc 3 _ rfl)
        clear hc hrs hb hsm hbT hul hx
        go_wp2_with fail
        refine (szModule_post x [u0, u1, u2, u3] r _ HR.out (Nat.le_trans hT HB.out.size) hr0 (by omega)).mono ?_
        rintro e w2 ⟨r2, rfl, hr2, hb2⟩
        have HB2 := Lib.hid (bThen HB.out hb2)
        clear hb2
        rcases hr2 with rfl | ⟨p, q, s⟩
        · go_wp2
          go_ret
          exact ⟨_, rfl, .inl rfl, HB2.out⟩
        · have t2 : ¬ r2 < 0 := by omega
          go_wp2
          go_roundw
          case rel =>
            refine ⟨i + 1, r2, by omega, by go_num, rfl, p, by omega, fun j y hj hy => ?_, HB2.out⟩
            by_cases hji : j = i
            · subst hji
              rw [hx?] at hy
              injection hy with hy
              subst hy
              exact s
            · exact HS.out j y (by omega) hy
          case measure => simp [intOf]; omega
      · obtain rfl : i = zs.length := by omega
        clear hb hsm
        go_wp2
        go_ret
        refine ⟨_, rfl, .inr ⟨hr0, hr1, ⟨by omega, fun x hx => ?_⟩⟩, HB.out⟩
        obtain ⟨j, hj, rfl⟩ := List.getElem_of_mem hx
        exact HS.out j _ hj (List.getElem?_eq_getElem hj)
  · have t1 : left - (zs.length : Int) < 0 := by omega
    go_enter Tryz.func41, Tryz.ntmps41
    go_wp2
    go_ret
    exact ⟨_, rfl, .inl rfl, Below.refl _ _⟩
end Go.Proofs.YtmjofpfkgbnknaaGreat
/- DzDesign: The type Design as the exact laws' helpers see it. -/
namespace Go.Proofs.YtmjofpfkgbnknaaGreat
open Go.RowKit
set_option linter.unusedVariables false
set_option linter.unusedSimpArgs false

set_option maxHeartbeats 1600000 in
theorem szDesign_post (x : DDesign) (us : List Value) {B T : Nat} (left : Int) (w : World) (h : rdDesign B T w us x) (hT : T ≤ w.heap.size) (h0 : 0 ≤ left) (h1 : left ≤ 1048576) :
    Calls Tryz.prog 8 #[.agg us.toArray, .int .i64 left] w fun e w' => ∃ r : Int, e = .returned (.int .i64 r) ∧ (r = -1 ∨ (0 ≤ r ∧ r ≤ left ∧ smDesign x)) ∧ Below w.heap.size w w' := by
  unfold smDesign
  obtain ⟨u0, rfl, uh0⟩ := h
  have uq0 := uh0
  obtain ⟨u0A, u0c, ue0, -⟩ := uq0
  injection ue0 with ue0
  subst ue0
  have U0 := Lib.hid uh0
  clear uh0
  go_enter Tryz.func8, Tryz.ntmps8
  go_wp2_with fail
  refine (szModuleS_post (x) u0A (x).length u0c left _ (good_ModuleS.below U0.out hT (by (repeat' (first | assumption | exact Below.refl _ _ | refine bDrewN ?_ _ | refine Below.drew ?_ | refine bAlloc ?_ (Nat.le_refl _) _ | refine bSet ?_ (by first | exact Nat.le_refl _ | omega | (simp <;> omega)) _)))) (Nat.le_trans hT (by simp <;> omega)) h0 h1).mono ?_
  rintro e w1 ⟨r0, rfl, hr, hb⟩
  have g := box1 hb
  have uc0 : w1.cell? ⟨w.heap.size, 0, none⟩ = some (.slice u0A (x).length u0c) := box_cell g.1 0 _ rfl
  have hW : Below w.heap.size w w1 := g.2
  clear hb g
  rcases hr with rfl | ⟨p0, q0, s0⟩
  · have HW := Lib.hid hW
    go_wp2
    go_ret
    exact ⟨_, rfl, .inl rfl, HW.out⟩
  have t0 : ¬ r0 < 0 := by omega
  have HW := Lib.hid hW
  clear hW
  go_wp2
  go_ret
  exact ⟨_, rfl, .inr ⟨by omega, by omega, s0⟩, HW.out⟩
end Go.Proofs.YtmjofpfkgbnknaaGreat
