/-
  The walk of the exact law over UnpackBits.
-/
import Derived.Test.YtedamhkcblemdaaPkC
import Derived.Test.YtedamhkcblemdaaDmN
import Derived.Test.YtedamhkcblemdaaDzN
import Derived.Test.YtedamhkcblemdaaDoN
import Derived.Test.YtedamhkcblemdaaRgN
import Derived.Deep.RegionHeld3
namespace Go.Proofs.Ytedamhkcblemdaa
open Go.RowKit
set_option linter.unusedVariables false
set_option linter.unusedSimpArgs false
theorem below_sims {B T N : Nat} {a w1 w2 : World} (hb : Below N a w1) (h : Sims B T w1 w2) (hN : N ≤ B ∧ N ≤ w1.heap.size) : Below N a w2 :=
  ⟨h.os.trans hb.os, h.tape.trans hb.tape, h.output.trans hb.output, Nat.le_trans hb.size h.size, fun k hk => (h.block k (Nat.lt_of_lt_of_le hk hN.2) (.inl (Nat.lt_of_lt_of_le hk hN.1))).trans (hb.block k hk)⟩
theorem below_chg {bs : List Nat} {N : Nat} {a w1 w2 : World} (hb : Below N a w1) (h : ChgL bs w1 w2) (hN : ∀ b ∈ bs, N ≤ b) (hs : N ≤ w1.heap.size := by omega) : Below N a w2 :=
  ⟨h.os.trans hb.os, h.tape.trans hb.tape, h.output.trans hb.output, Nat.le_trans hb.size h.size, fun k hk => (h.block k (Nat.lt_of_lt_of_le hk hs) (fun hm => by have := hN k hm; omega)).trans (hb.block k hk)⟩

theorem specGUnp (W : List Int) (x : Int) (v : Value) (w : World) (h : rdIntS 0 w.heap.size w [v] W) {L : List Int} (hL : unpO W x = L) :
    Calls Try.prog 17 #[v, .int .i64 x] w fun e w' => ∃ (v : Value) (bs : List Nat), e = .returned v ∧ owIntS bs w' [v] L ∧ bs.Nodup ∧ (∀ b ∈ bs, w.heap.size ≤ b ∧ b < w'.heap.size) ∧ Below w.heap.size w w' := by
  refine (specUnp_at W x v w h hL).mono ?_
  rintro e w' ⟨v, rfl, ho, hb⟩
  refine ⟨v, blkL v, rfl, ownI_ow ho (by rw [← hL]; exact (unpO_in W x).2), by unfold blkL; cases v.ownBlock <;> simp, fun b hbm => ho.lt b (mem_blkL.1 hbm), hb⟩

theorem implGUnp (W : List Int) (x : Int) (v : Value) (w : World) (h : rdIntS 0 w.heap.size w [v] W) (hl : W.length ≤ 1048576) {L : List Int} (hL : unpO W x = L) :
    Calls Try.prog 14 #[v, .int .i64 x] w fun e w' => ∃ (v : Value) (bs : List Nat), e = .returned v ∧ owIntS bs w' [v] L ∧ bs.Nodup ∧ (∀ b ∈ bs, w.heap.size ≤ b ∧ b < w'.heap.size) ∧ Below w.heap.size w w' := by
  refine (implUnp_at W x v w h hl hL).mono ?_
  rintro e w' ⟨v, rfl, ho, hb⟩
  refine ⟨v, blkL v, rfl, ownI_ow ho (by rw [← hL]; exact (unpO_in W x).2), by unfold blkL; cases v.ownBlock <;> simp, fun b hbm => ho.lt b (mem_blkL.1 hbm), hb⟩

set_option maxRecDepth 100000 in
set_option maxHeartbeats 25600000 in
theorem exactUnp_walk (aA : Option Addr) (al ac : Nat) (za : List Int) (xv : Int) (w : World) (ha : rdIntS 0 w.heap.size w [.slice aA al ac] za) :
    Calls Try.prog 5 #[.slice aA al ac, .int .i64 xv] w fun e w' => e = .returned (.bool true) ∧ Below w.heap.size w w' := by
  have HDa := Lib.hid ha
  obtain ⟨aA', ac', ae, am, -⟩ := slice_of ha
  injection ae with ae1 ae2 ae3
  subst ae1 ae2 ae3
  clear ha
  obtain ⟨r0, hr0⟩ : ∃ r0, unpO za xv = r0 := ⟨_, rfl⟩
  have HR0 := Lib.hid hr0
  have HBD := Lib.hid (show r0.length ≤ 20 by rw [← hr0]; exact (unpO_in za xv).1)
  clear hr0
  by_cases hla : za.length ≤ 1048576
  case neg =>
    have tla : (1048576 : Int) < (za.length : Int) := by omega
    go_enter Try.func5, Try.ntmps5
    go_wp2
    go_ret
    exact ⟨rfl, by (repeat' (first | assumption | exact Below.refl _ _ | refine bDrewN ?_ _ | refine Below.drew ?_ | refine bAlloc ?_ (Nat.le_refl _) _ | refine bSet ?_ (by first | exact Nat.le_refl _ | omega | (simp <;> omega)) _))⟩
  have tla : ¬ (1048576 : Int) < (za.length : Int) := by omega
  have HSa := Lib.hid (show smIntS za from hla)
  have HW := Lib.hid (Below.refl w.heap.size w)
  go_enter Try.func5, Try.ntmps5
  go_wp2_with fail
  refine (toIntS_any za aA za.length ac _ (good_IntS.below HDa.out (Nat.le_refl _) HW.out) HW.out.size HSa.out).mono ?_
  rintro e w1 ⟨y0, rfl, hxN, hbN⟩
  replace HW := Lib.hid (bThen HW.out hbN)
  have s1 : w.heap.size ≤ w1.heap.size := (hbN).size
  have Hy0 := Lib.hid hxN
  have By0 := Lib.hid (Below.refl w1.heap.size w1)
  obtain ⟨y0A, y0c, rfl, -⟩ := slice_of (hxN)
  clear hbN hxN
  go_wp2_with fail
  refine (specGUnp za xv _ _ (good_IntS.wider (good_IntS.below Hy0.out (Nat.le_refl _) By0.out) (Nat.zero_le _) By0.out.size) HR0.out).mono ?_
  rintro e w2 ⟨s0v, s0bs, rfl, oN, ndN, bsN, hbN⟩
  replace By0 := Lib.hid (bThen By0.out hbN)
  replace HW := Lib.hid (bThen HW.out hbN)
  have s2 : w1.heap.size ≤ w2.heap.size := (hbN).size
  have rdN := rds_IntS _ _ _ _ _ _ oN bsN
  have Hs0 := Lib.hid rdN
  have Bs0 := Lib.hid (Below.refl w2.heap.size w2)
  clear oN ndN bsN hbN
  obtain ⟨s0A, s0c, rfl, -⟩ := slice_of rdN
  clear rdN
  clear Hy0 By0
  go_wp2_with fail
  refine (toIntS_w za aA za.length ac _ (good_IntS.below HDa.out (Nat.le_refl _) HW.out) HW.out.size HSa.out).mono ?_
  rintro e w3 ⟨x0, rfl, hxN, hbN⟩
  replace Bs0 := Lib.hid (bThen Bs0.out hbN)
  replace HW := Lib.hid (bThen HW.out hbN)
  have s3 : w2.heap.size ≤ w3.heap.size := (hbN).size
  have Hx0 := Lib.hid hxN
  have Bx0 := Lib.hid (Below.refl w3.heap.size w3)
  obtain ⟨x0A, x0c, rfl, -⟩ := slice_of (le_IntS _ _ _ _ _ hxN)
  clear hbN hxN
  go_wp2_with fail
  refine (implGUnp za xv _ _ (good_IntS.wider (good_IntS.below (le_IntS _ _ _ _ _ Hx0.out) (Nat.le_refl _) Bx0.out) (Nat.zero_le _) Bx0.out.size) HSa.out HR0.out).mono ?_
  rintro e w4 ⟨g0v, g0bs, rfl, oN, ndN, bsN, hbN⟩
  replace Bs0 := Lib.hid (bThen Bs0.out hbN)
  replace Bx0 := Lib.hid (bThen Bx0.out hbN)
  replace HW := Lib.hid (bThen HW.out hbN)
  have s4 : w3.heap.size ≤ w4.heap.size := (hbN).size
  have rdN := rds_IntS _ _ _ _ _ _ oN bsN
  have Og0 := Lib.hid oN
  have Ng0 := Lib.hid ndN
  have Bg0 := Lib.hid bsN
  have LEg0 := Lib.hid (Nat.le_refl w4.heap.size)
  clear oN ndN bsN hbN
  obtain ⟨g0A, g0c, rfl, -⟩ := slice_of rdN
  clear rdN
  go_wp2_with fail
  refine (eqIntS_any r0 (.slice g0A r0.length g0c) (.slice s0A r0.length s0c) _ (rds_IntS _ _ _ _ _ _ Og0.out (fun b hb => ⟨(Bg0.out b hb).1, Nat.lt_of_lt_of_le (Bg0.out b hb).2 LEg0.out⟩)) (good_IntS.below Hs0.out (Nat.le_refl _) Bs0.out) (Nat.le_refl _) Bs0.out.size).mono ?_
  rintro e w5 ⟨rfl, hbN⟩
  replace Bs0 := Lib.hid (bThen Bs0.out hbN)
  replace Bx0 := Lib.hid (bThen Bx0.out hbN)
  replace Og0 := Lib.hid (gow_IntS.frame _ _ _ _ _ Og0.out fun b hb' => (hbN).block b (Nat.lt_of_lt_of_le (Bg0.out b hb').2 LEg0.out))
  replace LEg0 := Lib.hid (Nat.le_trans LEg0.out (hbN).size)
  replace HW := Lib.hid (bThen HW.out hbN)
  have s5 : w4.heap.size ≤ w5.heap.size := (hbN).size
  clear hbN
  go_wp2_with fail
  refine (toIntS_any za aA za.length ac _ (good_IntS.below HDa.out (Nat.le_refl _) HW.out) HW.out.size HSa.out).mono ?_
  rintro e w6 ⟨v0, rfl, hxN, hbN⟩
  replace Bs0 := Lib.hid (bThen Bs0.out hbN)
  replace Bx0 := Lib.hid (bThen Bx0.out hbN)
  replace Og0 := Lib.hid (gow_IntS.frame _ _ _ _ _ Og0.out fun b hb' => (hbN).block b (Nat.lt_of_lt_of_le (Bg0.out b hb').2 LEg0.out))
  replace LEg0 := Lib.hid (Nat.le_trans LEg0.out (hbN).size)
  replace HW := Lib.hid (bThen HW.out hbN)
  have s6 : w5.heap.size ≤ w6.heap.size := (hbN).size
  have Hv0 := Lib.hid hxN
  have Bv0 := Lib.hid (Below.refl w6.heap.size w6)
  obtain ⟨v0A, v0c, rfl, -⟩ := slice_of (hxN)
  clear hbN hxN
  go_wp2_with fail
  refine (eqIntS_any za (.slice x0A za.length x0c) (.slice v0A za.length v0c) _ (good_IntS.below (le_IntS _ _ _ _ _ Hx0.out) (Nat.le_refl _) Bx0.out) (good_IntS.below Hv0.out (Nat.le_refl _) Bv0.out) Bx0.out.size Bv0.out.size).mono ?_
  rintro e w7 ⟨rfl, hbN⟩
  replace Bs0 := Lib.hid (bThen Bs0.out hbN)
  replace Bx0 := Lib.hid (bThen Bx0.out hbN)
  replace Bv0 := Lib.hid (bThen Bv0.out hbN)
  replace Og0 := Lib.hid (gow_IntS.frame _ _ _ _ _ Og0.out fun b hb' => (hbN).block b (Nat.lt_of_lt_of_le (Bg0.out b hb').2 LEg0.out))
  replace LEg0 := Lib.hid (Nat.le_trans LEg0.out (hbN).size)
  replace HW := Lib.hid (bThen HW.out hbN)
  have s7 : w6.heap.size ≤ w7.heap.size := (hbN).size
  clear hbN
  clear Hv0 Bv0
  replace Hx0 := Lib.hid (goodw_IntS.below Hx0.out (Nat.le_refl _) Bx0.out)
  go_wp2_with fail
  have bd0 := bndIntS za HSa.out
  refine (markIntS_arg za (.slice x0A za.length x0c) 1 w7 w7 _ Hx0.out (by omega) (Sims.refl _ _ _) (Sims.refl _ _ _) (by omega) (by omega)).mono ?_
  rintro e w8 ⟨rfl, hsN, -⟩
  obtain ⟨k0, hkN⟩ : ∃ k : Int, 1 + (cntIntS za : Int) = k := ⟨_, rfl⟩
  rw [hkN]
  have k0a : 0 ≤ k0 := by omega
  clear hkN
  have s8 : w7.heap.size ≤ w8.heap.size := hsN.size
  replace Bs0 := Lib.hid (below_sims Bs0.out hsN (by omega))
  replace Og0 := Lib.hid (gow_IntS.frame _ _ _ _ _ Og0.out fun b hb => hsN.block b (Nat.lt_of_lt_of_le (Bg0.out b hb).2 LEg0.out) (.inr (by have := (Bg0.out b hb).1; omega)))
  replace LEg0 := Lib.hid (Nat.le_trans LEg0.out hsN.size)
  replace HW := Lib.hid (below_sims HW.out hsN (by omega))
  clear hsN Hx0 Bx0 bd0
  have tkN : ¬ k0 < 0 := by omega
  go_wp2_with fail
  refine (eqIntS_any r0 (.slice g0A r0.length g0c) (.slice s0A r0.length s0c) _ (rds_IntS _ _ _ _ _ _ Og0.out (fun b hb => ⟨(Bg0.out b hb).1, Nat.lt_of_lt_of_le (Bg0.out b hb).2 LEg0.out⟩)) (good_IntS.below Hs0.out (Nat.le_refl _) Bs0.out) (Nat.le_refl _) Bs0.out.size).mono ?_
  rintro e w9 ⟨rfl, hbN⟩
  replace Bs0 := Lib.hid (bThen Bs0.out hbN)
  replace Og0 := Lib.hid (gow_IntS.frame _ _ _ _ _ Og0.out fun b hb' => (hbN).block b (Nat.lt_of_lt_of_le (Bg0.out b hb').2 LEg0.out))
  replace LEg0 := Lib.hid (Nat.le_trans LEg0.out (hbN).size)
  replace HW := Lib.hid (bThen HW.out hbN)
  have s9 : w8.heap.size ≤ w9.heap.size := (hbN).size
  clear hbN
  go_wp2_with fail
  refine (markIntS_own r0 g0A r0.length g0c g0bs 1 _ Og0.out Ng0.out (by omega) (by have := HBD.out; unfold cntIntS; omega)).mono ?_
  rintro e w10 ⟨rfl, oN, hchN⟩
  replace Og0 := Lib.hid oN
  replace LEg0 := Lib.hid (Nat.le_trans LEg0.out hchN.size)
  have s10 : w9.heap.size ≤ w10.heap.size := hchN.size
  replace Bs0 := Lib.hid (below_chg Bs0.out hchN (fun b h => by have h1 := (Bg0.out b h).1; omega))
  replace HW := Lib.hid (below_chg HW.out hchN (fun b h => by have h1 := (Bg0.out b h).1; omega))
  clear oN hchN
  obtain ⟨q0, hq0⟩ : ∃ q0 : Int, 1 + (cntIntS r0 : Int) = q0 := ⟨_, rfl⟩
  have HQ0 := Lib.hid hq0
  have q0a : ¬ q0 < 0 := by omega
  rw [hq0]
  clear hq0
  go_wp2_with fail
  refine (heldIntS_num r0 (.slice g0A r0.length g0c) 1 _ (rds_IntS _ _ _ _ _ _ Og0.out (fun b hb => ⟨(Bg0.out b hb).1, Nat.lt_of_lt_of_le (Bg0.out b hb).2 LEg0.out⟩)) (Nat.le_refl _) (by omega) (by have := HBD.out; unfold cntIntS; omega)).mono ?_
  rintro e w11 ⟨rfl, hbN⟩
  rw [HQ0.out]
  replace Bs0 := Lib.hid (bThen Bs0.out hbN)
  replace Og0 := Lib.hid (gow_IntS.frame _ _ _ _ _ Og0.out fun b hb' => (hbN).block b (Nat.lt_of_lt_of_le (Bg0.out b hb').2 LEg0.out))
  replace LEg0 := Lib.hid (Nat.le_trans LEg0.out (hbN).size)
  replace HW := Lib.hid (bThen HW.out hbN)
  have s11 : w10.heap.size ≤ w11.heap.size := (hbN).size
  clear hbN
  go_wp2_with fail
  refine (toIntS_any za aA za.length ac _ (good_IntS.below HDa.out (Nat.le_refl _) HW.out) HW.out.size HSa.out).mono ?_
  rintro e w12 ⟨y0, rfl, hxN, hbN⟩
  replace Bs0 := Lib.hid (bThen Bs0.out hbN)
  replace Og0 := Lib.hid (gow_IntS.frame _ _ _ _ _ Og0.out fun b hb' => (hbN).block b (Nat.lt_of_lt_of_le (Bg0.out b hb').2 LEg0.out))
  replace LEg0 := Lib.hid (Nat.le_trans LEg0.out (hbN).size)
  replace HW := Lib.hid (bThen HW.out hbN)
  have s12 : w11.heap.size ≤ w12.heap.size := (hbN).size
  have Hy0 := Lib.hid hxN
  have By0 := Lib.hid (Below.refl w12.heap.size w12)
  obtain ⟨y0A, y0c, rfl, -⟩ := slice_of (hxN)
  clear hbN hxN
  go_wp2_with fail
  refine (implGUnp za xv _ _ (good_IntS.wider (good_IntS.below Hy0.out (Nat.le_refl _) By0.out) (Nat.zero_le _) By0.out.size) HSa.out HR0.out).mono ?_
  rintro e w13 ⟨h0v, h0bs, rfl, oN, ndN, bsN, hbN⟩
  replace Bs0 := Lib.hid (bThen Bs0.out hbN)
  replace By0 := Lib.hid (bThen By0.out hbN)
  replace Og0 := Lib.hid (gow_IntS.frame _ _ _ _ _ Og0.out fun b hb' => (hbN).block b (Nat.lt_of_lt_of_le (Bg0.out b hb').2 LEg0.out))
  replace LEg0 := Lib.hid (Nat.le_trans LEg0.out (hbN).size)
  replace HW := Lib.hid (bThen HW.out hbN)
  have s13 : w12.heap.size ≤ w13.heap.size := (hbN).size
  have rdN := rds_IntS _ _ _ _ _ _ oN bsN
  have Hh0 := Lib.hid rdN
  have Bh0 := Lib.hid (Below.refl w13.heap.size w13)
  clear oN ndN bsN hbN
  obtain ⟨h0A, h0c, rfl, -⟩ := slice_of rdN
  clear rdN
  go_wp2_with fail
  refine (eqIntS_any r0 (.slice h0A r0.length h0c) (.slice s0A r0.length s0c) _ (good_IntS.below Hh0.out (Nat.le_refl _) Bh0.out) (good_IntS.below Hs0.out (Nat.le_refl _) Bs0.out) Bh0.out.size Bs0.out.size).mono ?_
  rintro e w14 ⟨rfl, hbN⟩
  replace Bs0 := Lib.hid (bThen Bs0.out hbN)
  replace By0 := Lib.hid (bThen By0.out hbN)
  replace Bh0 := Lib.hid (bThen Bh0.out hbN)
  replace Og0 := Lib.hid (gow_IntS.frame _ _ _ _ _ Og0.out fun b hb' => (hbN).block b (Nat.lt_of_lt_of_le (Bg0.out b hb').2 LEg0.out))
  replace LEg0 := Lib.hid (Nat.le_trans LEg0.out (hbN).size)
  replace HW := Lib.hid (bThen HW.out hbN)
  have s14 : w13.heap.size ≤ w14.heap.size := (hbN).size
  clear hbN
  go_wp2_with fail
  refine (heldIntS_num r0 (.slice g0A r0.length g0c) 1 _ (rds_IntS _ _ _ _ _ _ Og0.out (fun b hb => ⟨(Bg0.out b hb).1, Nat.lt_of_lt_of_le (Bg0.out b hb).2 LEg0.out⟩)) (Nat.le_refl _) (by omega) (by have := HBD.out; unfold cntIntS; omega)).mono ?_
  rintro e w15 ⟨rfl, hbN⟩
  rw [HQ0.out]
  replace Bs0 := Lib.hid (bThen Bs0.out hbN)
  replace By0 := Lib.hid (bThen By0.out hbN)
  replace Bh0 := Lib.hid (bThen Bh0.out hbN)
  replace Og0 := Lib.hid (gow_IntS.frame _ _ _ _ _ Og0.out fun b hb' => (hbN).block b (Nat.lt_of_lt_of_le (Bg0.out b hb').2 LEg0.out))
  replace LEg0 := Lib.hid (Nat.le_trans LEg0.out (hbN).size)
  replace HW := Lib.hid (bThen HW.out hbN)
  have s15 : w14.heap.size ≤ w15.heap.size := (hbN).size
  clear hbN
  go_wp2
  go_ret
  exact ⟨rfl, HW.out⟩
end Go.Proofs.Ytedamhkcblemdaa
