/-
  The type Inst as the exact laws' helpers see it.
-/
import Derived.Test.YtllddjkdjdohhaaDtInst
import Derived.Test.YtllddjkdjdohhaaDzInt
namespace Go.Proofs.Ytllddjkdjdohhaa
open Go.RowKit
set_option linter.unusedVariables false
set_option linter.unusedSimpArgs false

set_option maxHeartbeats 1600000 in
theorem szInst_post (x : DInst) (us : List Value) {B T : Nat} (left : Int) (w : World) (h : rdInst B T w us x) (hT : T ≤ w.heap.size) (h0 : 0 ≤ left) (h1 : left ≤ 1048576) :
    Calls Try.prog 97 #[.agg us.toArray, .int .i64 left] w fun e w' => ∃ r : Int, e = .returned (.int .i64 r) ∧ (r = -1 ∨ (0 ≤ r ∧ r ≤ left ∧ smInst x)) ∧ Below w.heap.size w w' := by
  unfold smInst
  obtain ⟨u0, u1, u2, rfl, uh0, uh1, uh2⟩ := h
  obtain ⟨ue0, uf0⟩ := uh0
  injection ue0 with ue0
  subst ue0
  obtain ⟨ue1, uf1⟩ := uh1
  injection ue1 with ue1
  subst ue1
  have uq2 := uh2
  obtain ⟨u2A, u2c, ue2, -⟩ := uq2
  injection ue2 with ue2
  subst ue2
  have U2 := Lib.hid uh2
  clear uh2
  go_enter Try.func97, Try.ntmps97
  go_wp2_with fail
  refine (szIntS_post (x.2.2) u2A (x.2.2).length u2c left _ (good_IntS.below U2.out hT (by (repeat' (first | assumption | exact Below.refl _ _ | refine bDrewN ?_ _ | refine Below.drew ?_ | refine bAlloc ?_ (Nat.le_refl _) _ | refine bSet ?_ (by first | exact Nat.le_refl _ | omega | (simp <;> omega)) _)))) h0 h1).mono ?_
  rintro e w1 ⟨r0, rfl, hr, hb⟩
  have g := box1 hb
  have uc0 : w1.cell? ⟨w.heap.size, 0, none⟩ = some (.int .i64 x.1) := box_cell g.1 0 _ rfl
  have uc1 : w1.cell? ⟨w.heap.size, 1, none⟩ = some (.int .i64 x.2.1) := box_cell g.1 1 _ rfl
  have uc2 : w1.cell? ⟨w.heap.size, 2, none⟩ = some (.slice u2A (x.2.2).length u2c) := box_cell g.1 2 _ rfl
  have hW : Below w.heap.size w w1 := g.2
  clear hb g
  rcases hr with rfl | ⟨p0, q0, s0⟩
  · have HW := Lib.hid hW
    go_wp2
    go_ret
    exact ⟨_, rfl, .inl rfl, HW.out⟩
  have t0 : ¬ r0 < 0 := by omega
  have HW := Lib.hid hW
  clear hW
  go_wp2
  go_ret
  exact ⟨_, rfl, .inr ⟨by omega, by omega, s0⟩, HW.out⟩

set_option maxHeartbeats 1600000 in
theorem szInstS_post (zs : List DInst) (a : Option Addr) (len cap : Nat) {B T : Nat} (left : Int) (w : World) (h : rdInstS B T w [.slice a len cap] zs) (hT : T ≤ w.heap.size) (h0 : 0 ≤ left) (h1 : left ≤ 1048576) :
    Calls Try.prog 66 #[.slice a len cap, .int .i64 left] w fun e w' => ∃ r : Int, e = .returned (.int .i64 r) ∧ (r = -1 ∨ (0 ≤ r ∧ r ≤ left ∧ smInstS zs)) ∧ Below w.heap.size w w' := by
  obtain ⟨A, c, ea, hm, hA⟩ := h
  injection ea with ea _
  injection ea with e1 e2 e3
  subst e1 e2 e3
  unfold maxLen at hm
  have HA := Lib.hid hA
  clear hA
  by_cases hl : (zs.length : Int) ≤ left
  · have t1 : ¬ left - (zs.length : Int) < 0 := by omega
    go_enter Try.func66, Try.ntmps66
    go_wp2
    go_loopw [1, 5] (fun q v wr => ∃ (i : Nat) (r : Int), i ≤ zs.length ∧ v = .int .i64 i ∧ q = .int .i64 r ∧ 0 ≤ r ∧ r ≤ left ∧ (∀ j x, j < i → zs[j]? = some x → smInst x) ∧ Below w.heap.size w wr) (fun _ v _ => zs.length - (intOf v).toNat)
    case atStart => exact ⟨0, left - zs.length, Nat.zero_le _, rfl, rfl, by omega, by omega, fun j x hj => absurd hj (by omega), Below.refl _ _⟩
    case round =>
      obtain ⟨i, r, hi, rfl, rfl, hr0, hr1, hsm, hb⟩ := hrel
      have HB := Lib.hid hb
      have HS := Lib.hid hsm
      by_cases hlt : i < zs.length
      · obtain ⟨b, o, rfl, _, hbT, us, hul, hc, hr⟩ := HA.out i hlt
        obtain ⟨x, hx⟩ : ∃ x, zs[i] = x := ⟨_, rfl⟩
        have hx? : zs[i]? = some x := by rw [List.getElem?_eq_getElem hlt, hx]
        rw [hx] at hr
        have hrs := good_Inst.below hr hT hb
        have HR := Lib.hid hrs
        obtain ⟨u0, u1, u2, rfl, -⟩ := hr
        have c0 : wr.cell? ⟨b, o + i * 3, none⟩ = some u0 := keep hb (hc 0 _ rfl)
        have c1 : wr.cell? ⟨b, o + i * 3 + 1, none⟩ = some u1 := keep hb (hc 1 _ rfl)
        have c2 : wr.cell? ⟨b, o + i * 3 + 2, none⟩ = some u2 := keep hb (hc 2 _ rfl)
        clear hc hrs hb hsm hbT hul hx
        go_wp2_with fail
        refine (szInst_post x [u0, u1, u2] r _ HR.out (Nat.le_trans hT HB.out.size) hr0 (by omega)).mono ?_
        rintro e w2 ⟨r2, rfl, hr2, hb2⟩
        have HB2 := Lib.hid (bThen HB.out hb2)
        clear hb2
        rcases hr2 with rfl | ⟨p, q, s⟩
        · go_wp2
          go_ret
          exact ⟨_, rfl, .inl rfl, HB2.out⟩
        · have t2 : ¬ r2 < 0 := by omega
          go_wp2
          go_roundw
          case rel =>
            refine ⟨i + 1, r2, by omega, by go_num, rfl, p, by omega, fun j y hj hy => ?_, HB2.out⟩
            by_cases hji : j = i
            · subst hji
              rw [hx?] at hy
              injection hy with hy
              subst hy
              exact s
            · exact HS.out j y (by omega) hy
          case measure => simp [intOf]; omega
      · obtain rfl : i = zs.length := by omega
        clear hb hsm
        go_wp2
        go_ret
        refine ⟨_, rfl, .inr ⟨hr0, hr1, ⟨by omega, fun x hx => ?_⟩⟩, HB.out⟩
        obtain ⟨j, hj, rfl⟩ := List.getElem_of_mem hx
        exact HS.out j _ hj (List.getElem?_eq_getElem hj)
  · have t1 : left - (zs.length : Int) < 0 := by omega
    go_enter Try.func66, Try.ntmps66
    go_wp2
    go_ret
    exact ⟨_, rfl, .inl rfl, Below.refl _ _⟩
end Go.Proofs.Ytllddjkdjdohhaa
