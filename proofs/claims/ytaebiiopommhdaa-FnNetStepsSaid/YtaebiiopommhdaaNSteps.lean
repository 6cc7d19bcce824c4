/-
  The walk of FnNetSteps.
-/
import Derived.Test.YtaebiiopommhdaaNr11
import Derived.Test.YtaebiiopommhdaaNr12
import Derived.Test.YtaebiiopommhdaaNet15
import Derived.Deep.RegionHeld3
namespace Go.Proofs.Ytaebiiopommhdaa
open Go.RowKit
set_option linter.unusedVariables false
set_option linter.unusedSimpArgs false

def lowK (n : DNet) (xs : List Int) (k : Nat) : List Int := (xs.take k).map fun x => x % 2 ^ n.1.toNat
theorem low_step {n : DNet} {xs : List Int} {k : Nat} {x : Int} (h : xs[k]? = some x) : lowK n xs (k + 1) = lowK n xs k ++ [x % 2 ^ n.1.toNat] := by
  unfold lowK; rw [List.take_add_one, h]; simp
theorem low_len {n : DNet} {xs : List Int} {k : Nat} (h : k ≤ xs.length) : (lowK n xs k).length = k := by unfold lowK; rw [List.length_map, List.length_take]; omega
theorem low_all (n : DNet) (xs : List Int) : lowK n xs xs.length = xs.map fun x => x % 2 ^ n.1.toNat := by unfold lowK; rw [List.take_length]
theorem low_fit {n : DNet} (h : n.1.toNat ≤ 20) (xs : List Int) (k : Nat) : ∀ y ∈ lowK n xs k, Fit y := fun y hy => by
  obtain ⟨x, _, rfl⟩ := List.mem_map.1 hy
  have h2 : (2 : Nat) ^ n.1.toNat ≤ 2 ^ 20 := Nat.pow_le_pow_right (by omega) h
  have h3 : ((2 : Int) ^ n.1.toNat) = ((2 ^ n.1.toNat : Nat) : Int) := by rw [Int.natCast_pow]; rfl
  have h4 : 1 ≤ 2 ^ n.1.toNat := Nat.pow_pos (by omega)
  have h5 := Int.emod_nonneg x (show ((2 : Int) ^ n.1.toNat) ≠ 0 by omega)
  have h6 := Int.emod_lt_of_pos x (show (0 : Int) < ((2 : Int) ^ n.1.toNat) by omega)
  unfold Fit
  omega
theorem outs_at {n : DNet} {xs S : List Int} {x o : Int} {k m : Nat} (hk : k < m) (hx : xs[k]? = some x) (h : stepO n (stAt n xs k) x = (S, o)) : (outsK n xs m)[k]? = some o := by
  have e : xs.getD k 0 = x := by rw [List.getD_eq_getElem?_getD, hx]; rfl
  unfold outsK
  rw [List.getElem?_map, List.getElem?_range hk]
  simp only [Option.map_some]
  rw [e, h]
theorem mask_ones (x : Int) (I : Nat) (hI : I ≤ 20) : ∃ M : Nat, M ≤ 1048576 ∧ IntKind.i64.wrap ((2 : Int) ^ I) = (M : Int) + 1 ∧ wrap64 ((2 : Int) ^ I) = (M : Int) + 1 ∧ (2 : Int) ^ I = (M : Int) + 1 ∧ bits .and .i64 x (M : Int) = x % 2 ^ I := by
  have h1 : 1 ≤ 2 ^ I := Nat.pow_pos (by omega)
  have h2 : 2 ^ I ≤ 2 ^ 20 := Nat.pow_le_pow_right (by omega) hI
  have h3 : ((2 : Int) ^ I) = ((2 ^ I : Nat) : Int) := by rw [Int.natCast_pow]; rfl
  refine ⟨2 ^ I - 1, by omega, ?_, ?_, by omega, ?_⟩
  · rw [h3, wrap64_small _ (by omega)]; omega
  · rw [h3]; unfold wrap64; omega
  · rw [h3, and_low x I (2 ^ I - 1) (by omega) (by omega)]
theorem mask_two {x y : Int} {M : Nat} (hM : M ≤ 1048576) (h : bits .and .i64 x (M : Int) = y) : bits .and .i64 x (IntKind.i64.wrap (IntKind.i64.wrap ((M : Int) + 1) - 1)) = y := by
  have e1 : IntKind.i64.wrap ((M : Int) + 1) = (M : Int) + 1 := wrap64_int _ (by omega) (by omega)
  have e2 : IntKind.i64.wrap ((M : Int) + 1 - 1) = (M : Int) := by rw [show (M : Int) + 1 - 1 = (M : Int) by omega]; exact wrap64_small M (by omega)
  rw [e1, e2, h]
set_option maxRecDepth 100000 in
set_option maxHeartbeats 25600000 in
theorem netSteps_walk (a : Option Addr) (len cap : Nat) (zs : List Int) (w : World) (hw : IsRow .u8 w a len cap zs) :
    Calls Try.prog 3 #[.slice a len cap] w fun e w' => e = .returned (.bool true) ∧ Below w.heap.size w w' := by
  obtain ⟨i0, hi, hz0, hz1, hz2⟩ := info_parts infoI
  have HCD := Lib.hid hw.codeW
  clear hw
  by_cases hbig : 1048576 < (len : Int)
  · go_enter Try.func3, Try.ntmps3
    go_wp2_with fail
    refine (big_any a len cap _).mono ?_
    rw [decide_eq_true (by omega)]
    rintro e w1 ⟨rfl, rfl⟩
    go_wp2
    go_ret
    exact ⟨rfl, Below.refl _ _⟩
  go_enter Try.func3, Try.ntmps3
  go_wp2_with fail
  refine (big_any a len cap _).mono ?_
  rw [decide_eq_false (by omega)]
  rintro e w1 ⟨rfl, rfl⟩
  go_wp2_with fail
  refine (drawNet_any a len cap _ HCD.out).mono ?_
  rintro e w1 ⟨us, n, rfl, ⟨hrd, hok⟩, hb⟩
  have HBW := Lib.hid hb
  have HOK := Lib.hid hok
  have HP := Lib.hid (netP_of hok)
  replace hrd := good_Net.wider hrd (Nat.zero_le _) (Nat.le_refl _)
  have HD := Lib.hid hrd
  clear hb hok
  obtain ⟨mu0, mu1, mu2, mu3, rfl, mh0, mh1, mh2, mh3⟩ := hrd
  obtain ⟨me0, -⟩ := mh0
  injection me0 with me0
  subst me0
  obtain ⟨mA1, mc1, me1, mm1, -⟩ := slice_of mh1
  subst me1
  have mR1 := Lib.hid mh1
  clear mh1
  obtain ⟨mA2, mc2, me2, mm2, -⟩ := slice_of mh2
  subst me2
  have mR2 := Lib.hid mh2
  clear mh2
  obtain ⟨mA3, mc3, me3, mm3, -⟩ := slice_of mh3
  subst me3
  have mR3 := Lib.hid mh3
  clear mh3
  go_wp2_with fail
  obtain ⟨W0, hV⟩ : ∃ W0, W0 = (w1.alloc (.cells #[.int .i64 n.1, .slice mA1 (n.2.1).length mc1, .slice mA2 (n.2.2.1).length mc2, .slice mA3 (n.2.2.2).length mc3] 28)) := ⟨_, rfl⟩
  rw [← hV]
  have gN := eqbox1 hV
  have d0 : W0.cell? ⟨w1.heap.size, 0, none⟩ = some (.int .i64 n.1) := box_cell gN.1 0 _ rfl
  have d1 : W0.cell? ⟨w1.heap.size, 1, none⟩ = some (.slice mA1 (n.2.1).length mc1) := box_cell gN.1 1 _ rfl
  have d2 : W0.cell? ⟨w1.heap.size, 2, none⟩ = some (.slice mA2 (n.2.2.1).length mc2) := box_cell gN.1 2 _ rfl
  have d3 : W0.cell? ⟨w1.heap.size, 3, none⟩ = some (.slice mA3 (n.2.2.2).length mc3) := box_cell gN.1 3 _ rfl
  have sW0 : W0.heap.size = w1.heap.size + 1 := by rw [hV]; simp
  have HW0 := Lib.hid gN.2
  clear hV gN
  have HB := Lib.hid HW0.out
  clear HW0
  refine (drawMasks_any a len cap _ (codeW_keep (codeW_keep HCD.out HBW.out) HB.out)).mono ?_
  rintro e w2 ⟨v4, xs, rfl, ho, hx1, hx12, hxf, hb⟩
  replace d0 := keep hb d0
  replace d1 := keep hb d1
  replace d2 := keep hb d2
  replace d3 := keep hb d3
  replace HB := Lib.hid (bThen HB.out hb)
  have HI4 := Lib.hid ho
  have HXF := Lib.hid hxf
  obtain ⟨lg, lc, rfl, hlg, -⟩ := own_blk ho (by omega)
  clear ho hxf
  clear hb
  obtain ⟨R, hR⟩ : ∃ R, runO n xs = R := ⟨_, rfl⟩
  have hRl : R.length = xs.length := by rw [← hR, run_yes HOK.out (by omega), outs_len]
  have HR := Lib.hid hR
  have HRL := Lib.hid hRl
  clear hR hRl
  go_wp2_with fail
  refine (implRun_at n xs _ _ _ (rdUp good_Net HD.out HB.out) (ownI_rd HI4.out HXF.out) HR.out).mono ?_
  rintro e w3 ⟨v5, rfl, ho, hb⟩
  replace d0 := keep hb d0
  replace d1 := keep hb d1
  replace d2 := keep hb d2
  replace d3 := keep hb d3
  replace HB := Lib.hid (bThen HB.out hb)
  replace HI4 := Lib.hid (HI4.out.below hb)
  have HR5 := Lib.hid ho
  obtain ⟨rg, rc, rfl, hrg, -⟩ := own_blk ho (by rw [HRL.out]; omega)
  clear ho
  clear hb
  have e5 : ((R.length : Int) != (xs.length : Int)) = false := by rw [HRL.out]; simp
  go_wp2_with fail
  refine (implStart_at n _ _ (rdUp good_Net HD.out HB.out) rfl).mono ?_
  rintro e w4 ⟨v6, rfl, ho, hb⟩
  replace d0 := keep hb d0
  replace d1 := keep hb d1
  replace d2 := keep hb d2
  replace d3 := keep hb d3
  replace HB := Lib.hid (bThen HB.out hb)
  replace HI4 := Lib.hid (HI4.out.below hb)
  replace HR5 := Lib.hid (HR5.out.below hb)
  have HQ := Lib.hid (show OwnsI w4 0 v6 (stAt n xs 0) from ho.lower (Nat.zero_le _))
  clear ho
  clear hb
  have HO := Lib.hid (own_newI w4 w4.heap.size (Nat.le_refl _))
  have HB04 := Lib.hid (show Below w4.heap.size w4 (w4.alloc (.cells #[] 3)) from bAlloc (Below.refl _ _) (Nat.le_refl _) _)
  have HQ0 := Lib.hid (show OwnsI (w4.alloc (.cells #[] 3)) 0 v6 (stAt n xs 0) from HQ.out.below HB04.out)
  have HNE := Lib.hid (show v6.ownBlock = none ∨ v6.ownBlock ≠ (Value.slice (some ⟨w4.heap.size, 0, none⟩) 0 0).ownBlock from by
    cases e : v6.ownBlock with
    | none => exact .inl rfl
    | some g =>
      refine .inr fun e2 => ?_
      have h1 := (HQ.out.lt g e).2
      injection e2 with e2
      dsimp only at e2
      omega)
  have HE0 := Lib.hid d0
  have HE1 := Lib.hid d1
  have HE2 := Lib.hid d2
  have HE3 := Lib.hid d3
  clear HQ
  go_wp2
  clear d0 d1 d2 d3 e5
  go_loopw [6, 7, 8] (fun q s z wr => ∃ (k : Nat) (A : Option Addr) (c : Nat), k ≤ xs.length ∧ z = .int .i64 (k : Int) ∧ s = .slice A (lowK n xs k).length c ∧ OwnsI wr w4.heap.size (.slice A (lowK n xs k).length c) (lowK n xs k) ∧ OwnsI wr 0 q (stAt n xs k) ∧ (q.ownBlock = none ∨ q.ownBlock ≠ (Value.slice A (lowK n xs k).length c).ownBlock) ∧ Below w4.heap.size w4 wr) (fun _ _ z _ => xs.length - (intOf z).toNat)
  case atStart => exact ⟨0, some ⟨w4.heap.size, 0, none⟩, 0, Nat.zero_le _, rfl, rfl, HO.out, HQ0.out, HNE.out, HB04.out⟩
  case round =>
    obtain ⟨k, A, c, hk, rfl, rfl, hown, hq, hne, hb⟩ := hrel
    obtain ⟨w3, rfl⟩ : ∃ w3, w3 = wr := ⟨_, rfl⟩
    clear HO HB04 HQ0 HNE
    have HO := Lib.hid hown
    have HQ := Lib.hid hq
    have HNE := Lib.hid hne
    have HB0 := Lib.hid hb
    have HB3 := Lib.hid (bThen HB.out hb)
    have c0 := keep hb HE0.out
    have c1 := keep hb HE1.out
    have c2 := keep hb HE2.out
    have c3 := keep hb HE3.out
    clear hown hq hne hb
    by_cases hlt : k < xs.length
    · obtain ⟨x, hx⟩ : ∃ x, xs[k]? = some x := ⟨_, List.getElem?_eq_getElem hlt⟩
      have tk : (k : Int) < (xs.length : Int) := by omega
      have tk2 : (k : Int) < (R.length : Int) := by have := HRL.out; omega
      obtain ⟨S1, o1, hso⟩ : ∃ S1 o1, stepO n (stAt n xs k) x = (S1, o1) := ⟨_, _, rfl⟩
      have hst := (outs_step hx hso).2
      have hRk : R[k]? = some o1 := by rw [← HR.out, run_yes HOK.out (by omega)]; exact outs_at hlt hx hso
      have HSO := Lib.hid hso
      have HST := Lib.hid hst
      have HSP := Lib.hid (stAt_ok HOK.out xs k)
      have HQF := Lib.hid (state_fit HSP.out)
      have xc := (ownI_cell (HI4.out.below HB0.out) rfl hlt).1
      rw [List.getD_eq_getElem?_getD, hx, Option.getD_some] at xc
      have rc := (ownI_cell (HR5.out.below HB0.out) rfl (show k < R.length by have := HRL.out; omega)).1
      rw [List.getD_eq_getElem?_getD, hRk, Option.getD_some] at rc
      obtain ⟨N, hN⟩ : ∃ N, netN n = N := ⟨_, rfl⟩
      have HVL := Lib.hid (show (valO n (stAt n xs k) x).length = N by rw [valO_lenN x HSP.out, hN])
      have HNC := Lib.hid (show ncI n = (N : Int) by rw [HP.out.sz.nc, hN])
      have HN1 := Lib.hid (show 0 < N by have := HP.out.sz.net_le; omega)
      obtain ⟨KL, hK⟩ : ∃ KL, lowK n xs k = KL := ⟨_, rfl⟩
      have hlen : KL.length ≤ 12 := by rw [← hK, low_len hk]; omega
      obtain ⟨I, hI⟩ : ∃ I, n.1.toNat = I := ⟨_, rfl⟩
      obtain ⟨y, hy⟩ : ∃ y, x % 2 ^ I = y := ⟨_, rfl⟩
      have HKS := Lib.hid (show lowK n xs (k + 1) = KL ++ [y] by rw [low_step hx, hK, hI, hy])
      have i20 : I ≤ 20 := by rw [← hI]; exact HP.out.sz.i20
      have HI0 := Lib.hid (show n.1 = (I : Int) by rw [← hI]; exact HP.out.sz.i0)
      have HY := Lib.hid hy
      rw [hK] at HO HNE ⊢
      clear hx hso hst hRk hN hK hI hy
      go_wp2_with fail
      refine (implState_at n _ _ _ _ (rdUp good_Net HD.out HB3.out) (ownI_rd HQ.out HQF.out) (stateB_of HSP.out)).mono ?_
      rintro e w5 ⟨rfl, hb⟩
      replace c0 := keep hb c0
      replace c1 := keep hb c1
      replace c2 := keep hb c2
      replace c3 := keep hb c3
      replace xc := keep hb xc
      replace rc := keep hb rc
      have HBB := Lib.hid (bThen HB3.out hb)
      replace HB0 := Lib.hid (bThen HB0.out hb)
      replace HO := Lib.hid (HO.out.below hb)
      replace HQ := Lib.hid (HQ.out.below hb)
      clear hb
      go_wp2_with fail
      have hS0 : (fun w' => Below w5.heap.size w5 w' ∧ w'.cell? ⟨w1.heap.size, 0, none⟩ = some (.int .i64 n.1) ∧ w'.cell? ⟨w1.heap.size, 1, none⟩ = some (.slice mA1 (n.2.1).length mc1) ∧ w'.cell? ⟨w1.heap.size, 2, none⟩ = some (.slice mA2 (n.2.2.1).length mc2) ∧ w'.cell? ⟨w1.heap.size, 3, none⟩ = some (.slice mA3 (n.2.2.2).length mc3) ∧ w'.cell? ⟨lg, k, none⟩ = some (.int .i64 x)) w5 := ⟨Below.refl _ _, c0, c1, c2, c3, xc⟩
      have hS : ∀ {w0 w' : World}, (fun w' => Below w5.heap.size w5 w' ∧ w'.cell? ⟨w1.heap.size, 0, none⟩ = some (.int .i64 n.1) ∧ w'.cell? ⟨w1.heap.size, 1, none⟩ = some (.slice mA1 (n.2.1).length mc1) ∧ w'.cell? ⟨w1.heap.size, 2, none⟩ = some (.slice mA2 (n.2.2.1).length mc2) ∧ w'.cell? ⟨w1.heap.size, 3, none⟩ = some (.slice mA3 (n.2.2.2).length mc3) ∧ w'.cell? ⟨lg, k, none⟩ = some (.int .i64 x)) w0 → Below w0.heap.size w0 w' → (fun w' => Below w5.heap.size w5 w' ∧ w'.cell? ⟨w1.heap.size, 0, none⟩ = some (.int .i64 n.1) ∧ w'.cell? ⟨w1.heap.size, 1, none⟩ = some (.slice mA1 (n.2.1).length mc1) ∧ w'.cell? ⟨w1.heap.size, 2, none⟩ = some (.slice mA2 (n.2.2.1).length mc2) ∧ w'.cell? ⟨w1.heap.size, 3, none⟩ = some (.slice mA3 (n.2.2.2).length mc3) ∧ w'.cell? ⟨lg, k, none⟩ = some (.int .i64 x)) w' := fun h hb => ⟨bThen h.1 hb, keep hb h.2.1, keep hb h.2.2.1, keep hb h.2.2.2.1, keep hb h.2.2.2.2.1, keep hb h.2.2.2.2.2⟩
      dsimp only at hS0 hS
      refine wp_region_noPanic ?_
      refine wp_region_kept 11 12 (fun w' => Below w5.heap.size w5 w' ∧ w'.cell? ⟨w1.heap.size, 0, none⟩ = some (.int .i64 n.1) ∧ w'.cell? ⟨w1.heap.size, 1, none⟩ = some (.slice mA1 (n.2.1).length mc1) ∧ w'.cell? ⟨w1.heap.size, 2, none⟩ = some (.slice mA2 (n.2.2.1).length mc2) ∧ w'.cell? ⟨w1.heap.size, 3, none⟩ = some (.slice mA3 (n.2.2.2).length mc3) ∧ w'.cell? ⟨lg, k, none⟩ = some (.int .i64 x)) (by kernel_rfl) rfl (hS hS0 (Below.drew (Below.refl _ _))) (fun hK0 => ?_)
      refine Kept.take (v := ?vp0) 0 (by kernel_rfl) rfl (by kernel_rfl) (fun _ _ _ h => h) (Or.inl ⟨by rfl, ?hyp0⟩) hK0 ?restp0
      case hyp0 =>
        intro w0 hSw
        (try dsimp only at hSw)
        go_simp
        all_goals (with_reducible rfl)
      (try simp only [Act.put, List.setIfInBounds_toArray, List.set_cons_zero, List.set_cons_succ])
      refine Kept.take (v := ?vp1) 1 (by kernel_rfl) rfl (by kernel_rfl) (fun _ _ _ h => h) (Or.inl ⟨by rfl, ?hyp1⟩) hK0 ?restp1
      case hyp1 =>
        intro w0 hSw
        (try dsimp only at hSw)
        go_simp
        all_goals (with_reducible rfl)
      (try simp only [Act.put, List.setIfInBounds_toArray, List.set_cons_zero, List.set_cons_succ])
      refine Kept.take (v := ?vp2) 2 (by kernel_rfl) rfl (by kernel_rfl) (fun _ _ _ h => h) (Or.inl ⟨by rfl, ?hyp2⟩) hK0 ?restp2
      case hyp2 =>
        intro w0 hSw
        (try dsimp only at hSw)
        go_simp
        all_goals (with_reducible rfl)
      (try simp only [Act.put, List.setIfInBounds_toArray, List.set_cons_zero, List.set_cons_succ])
      refine Kept.take (v := ?vp3) 3 (by kernel_rfl) rfl (by kernel_rfl) (fun _ _ _ h => h) (Or.inl ⟨by rfl, ?hyp3⟩) hK0 ?restp3
      case hyp3 =>
        intro w0 hSw
        (try dsimp only at hSw)
        go_simp
        all_goals (with_reducible rfl)
      (try simp only [Act.put, List.setIfInBounds_toArray, List.set_cons_zero, List.set_cons_succ])
      refine Kept.take (v := ?vp4) 4 (by kernel_rfl) rfl (by kernel_rfl) (fun _ _ _ h => h) (Or.inl ⟨by rfl, ?hyp4⟩) hK0 ?restp4
      case hyp4 =>
        intro w0 hSw
        (try dsimp only at hSw)
        go_simp
        all_goals (with_reducible rfl)
      (try simp only [Act.put, List.setIfInBounds_toArray, List.set_cons_zero, List.set_cons_succ])
      refine Kept.take (v := ?vp5) 5 (by kernel_rfl) rfl (by kernel_rfl) (fun _ _ _ h => h) (Or.inl ⟨by rfl, ?hyp5⟩) hK0 ?restp5
      case hyp5 =>
        intro w0 hSw
        (try dsimp only at hSw)
        go_simp
        all_goals (with_reducible rfl)
      (try simp only [Act.put, List.setIfInBounds_toArray, List.set_cons_zero, List.set_cons_succ])
      refine Kept.one 6 (by kernel_rfl) rfl (fun K hK => ?_)
      go_simp
      go_at_call 18
      refine (implStep_at n _ x _ _ _ (rdUp good_Net HD.out (bThen HBB.out hK0.1)) (ownI_rd (HQ.out.below hK0.1) HQF.out) HSO.out).mono ?_
      rintro e wr0 ⟨v8, rfl, hoN, hbr0⟩
      have HO8 := Lib.hid (OwnsI.lower hoN hK0.1.size)
      clear hoN
      go_simp
      refine hK.out _ _ (hS hK0 hbr0) (fun hK1 => ?_)
      clear hK K hK0
      (try simp only [Act.put, List.setIfInBounds_toArray, List.set_cons_zero, List.set_cons_succ])
      refine Kept.take (v := ?vp7) 7 (by kernel_rfl) rfl (by kernel_rfl) (fun _ _ _ h => h) (Or.inl ⟨by rfl, ?hyp7⟩) hK1 ?restp7
      case hyp7 =>
        intro w0 hSw
        (try dsimp only at hSw)
        go_simp
        all_goals (with_reducible rfl)
      (try simp only [Act.put, List.setIfInBounds_toArray, List.set_cons_zero, List.set_cons_succ])
      refine Kept.take (v := ?vp8) 8 (by kernel_rfl) rfl (by kernel_rfl) (fun _ _ _ h => h) (Or.inl ⟨by rfl, ?hyp8⟩) hK1 ?restp8
      case hyp8 =>
        intro w0 hSw
        (try dsimp only at hSw)
        go_simp
        all_goals (with_reducible rfl)
      (try simp only [Act.put, List.setIfInBounds_toArray, List.set_cons_zero, List.set_cons_succ])
      refine Kept.take (v := ?vp9) 9 (by kernel_rfl) rfl (by kernel_rfl) (fun _ _ _ h => h) (Or.inl ⟨by rfl, ?hyp9⟩) hK1 ?restp9
      case hyp9 =>
        intro w0 hSw
        (try dsimp only at hSw)
        go_simp
        all_goals (with_reducible rfl)
      (try simp only [Act.put, List.setIfInBounds_toArray, List.set_cons_zero, List.set_cons_succ])
      refine Kept.take (v := ?vp10) 10 (by kernel_rfl) rfl (by kernel_rfl) (fun _ _ _ h => h) (Or.inl ⟨by rfl, ?hyp10⟩) hK1 ?restp10
      case hyp10 =>
        intro w0 hSw
        (try dsimp only at hSw)
        go_simp
        all_goals (with_reducible rfl)
      (try simp only [Act.put, List.setIfInBounds_toArray, List.set_cons_zero, List.set_cons_succ])
      refine Kept.tail (by rfl) (by kernel_rfl) ?_
      simp only [List.drop_succ_cons, List.drop_zero]
      go_wp2
      refine NoPanic.normal ?_
      have hb := hK1.1
      replace c0 := keep hb c0
      replace c1 := keep hb c1
      replace c2 := keep hb c2
      replace c3 := keep hb c3
      replace xc := keep hb xc
      replace rc := keep hb rc
      have HBR := Lib.hid (bThen HBB.out hb)
      replace HB0 := Lib.hid (bThen HB0.out hb)
      have HNV := Lib.hid (own_apart HO.out HO8.out)
      replace HO := Lib.hid (HO.out.below hb)
      have HQR := Lib.hid (HQ.out.below hb)
      clear hb hS hS0 hK1 HQ HNE
      go_wp2_with fail
      have hS0 : (fun w' => Below wr0.heap.size wr0 w' ∧ w'.cell? ⟨w1.heap.size, 0, none⟩ = some (.int .i64 n.1) ∧ w'.cell? ⟨w1.heap.size, 1, none⟩ = some (.slice mA1 (n.2.1).length mc1) ∧ w'.cell? ⟨w1.heap.size, 2, none⟩ = some (.slice mA2 (n.2.2.1).length mc2) ∧ w'.cell? ⟨w1.heap.size, 3, none⟩ = some (.slice mA3 (n.2.2.2).length mc3) ∧ w'.cell? ⟨lg, k, none⟩ = some (.int .i64 x) ∧ w'.cell? ⟨rg, k, none⟩ = some (.int .i64 o1)) wr0 := ⟨Below.refl _ _, c0, c1, c2, c3, xc, rc⟩
      have hS : ∀ {w0 w' : World}, (fun w' => Below wr0.heap.size wr0 w' ∧ w'.cell? ⟨w1.heap.size, 0, none⟩ = some (.int .i64 n.1) ∧ w'.cell? ⟨w1.heap.size, 1, none⟩ = some (.slice mA1 (n.2.1).length mc1) ∧ w'.cell? ⟨w1.heap.size, 2, none⟩ = some (.slice mA2 (n.2.2.1).length mc2) ∧ w'.cell? ⟨w1.heap.size, 3, none⟩ = some (.slice mA3 (n.2.2.2).length mc3) ∧ w'.cell? ⟨lg, k, none⟩ = some (.int .i64 x) ∧ w'.cell? ⟨rg, k, none⟩ = some (.int .i64 o1)) w0 → Below w0.heap.size w0 w' → (fun w' => Below wr0.heap.size wr0 w' ∧ w'.cell? ⟨w1.heap.size, 0, none⟩ = some (.int .i64 n.1) ∧ w'.cell? ⟨w1.heap.size, 1, none⟩ = some (.slice mA1 (n.2.1).length mc1) ∧ w'.cell? ⟨w1.heap.size, 2, none⟩ = some (.slice mA2 (n.2.2.1).length mc2) ∧ w'.cell? ⟨w1.heap.size, 3, none⟩ = some (.slice mA3 (n.2.2.2).length mc3) ∧ w'.cell? ⟨lg, k, none⟩ = some (.int .i64 x) ∧ w'.cell? ⟨rg, k, none⟩ = some (.int .i64 o1)) w' := fun h hb => ⟨bThen h.1 hb, keep hb h.2.1, keep hb h.2.2.1, keep hb h.2.2.2.1, keep hb h.2.2.2.2.1, keep hb h.2.2.2.2.2.1, keep hb h.2.2.2.2.2.2⟩
      dsimp only at hS0 hS
      refine wp_region_noPanic ?_
      refine wp_region_kept 17 19 (fun w' => Below wr0.heap.size wr0 w' ∧ w'.cell? ⟨w1.heap.size, 0, none⟩ = some (.int .i64 n.1) ∧ w'.cell? ⟨w1.heap.size, 1, none⟩ = some (.slice mA1 (n.2.1).length mc1) ∧ w'.cell? ⟨w1.heap.size, 2, none⟩ = some (.slice mA2 (n.2.2.1).length mc2) ∧ w'.cell? ⟨w1.heap.size, 3, none⟩ = some (.slice mA3 (n.2.2.2).length mc3) ∧ w'.cell? ⟨lg, k, none⟩ = some (.int .i64 x) ∧ w'.cell? ⟨rg, k, none⟩ = some (.int .i64 o1)) (by kernel_rfl) rfl (hS hS0 (Below.drew (Below.refl _ _))) (fun hK0 => ?_)
      refine Kept.take (v := ?vq0) 0 (by kernel_rfl) rfl (by kernel_rfl) (fun _ _ _ h => h) (Or.inl ⟨by rfl, ?hyq0⟩) hK0 ?restq0
      case hyq0 =>
        intro w0 hSw
        (try dsimp only at hSw)
        go_simp
        all_goals (with_reducible rfl)
      (try simp only [Act.put, List.setIfInBounds_toArray, List.set_cons_zero, List.set_cons_succ])
      refine Kept.take (v := ?vq1) 1 (by kernel_rfl) rfl (by kernel_rfl) (fun _ _ _ h => h) (Or.inl ⟨by rfl, ?hyq1⟩) hK0 ?restq1
      case hyq1 =>
        intro w0 hSw
        (try dsimp only at hSw)
        go_simp
        all_goals (with_reducible rfl)
      (try simp only [Act.put, List.setIfInBounds_toArray, List.set_cons_zero, List.set_cons_succ])
      refine Kept.take (v := ?vq2) 2 (by kernel_rfl) rfl (by kernel_rfl) (fun _ _ _ h => h) (Or.inl ⟨by rfl, ?hyq2⟩) hK0 ?restq2
      case hyq2 =>
        intro w0 hSw
        (try dsimp only at hSw)
        go_simp
        all_goals (with_reducible rfl)
      (try simp only [Act.put, List.setIfInBounds_toArray, List.set_cons_zero, List.set_cons_succ])
      refine Kept.take (v := ?vq3) 3 (by kernel_rfl) rfl (by kernel_rfl) (fun _ _ _ h => h) (Or.inl ⟨by rfl, ?hyq3⟩) hK0 ?restq3
      case hyq3 =>
        intro w0 hSw
        (try dsimp only at hSw)
        go_simp
        all_goals (with_reducible rfl)
      (try simp only [Act.put, List.setIfInBounds_toArray, List.set_cons_zero, List.set_cons_succ])
      refine Kept.take (v := ?vq4) 4 (by kernel_rfl) rfl (by kernel_rfl) (fun _ _ _ h => h) (Or.inl ⟨by rfl, ?hyq4⟩) hK0 ?restq4
      case hyq4 =>
        intro w0 hSw
        (try dsimp only at hSw)
        go_simp
        all_goals (with_reducible rfl)
      (try simp only [Act.put, List.setIfInBounds_toArray, List.set_cons_zero, List.set_cons_succ])
      refine Kept.take (v := ?vq5) 5 (by kernel_rfl) rfl (by kernel_rfl) (fun _ _ _ h => h) (Or.inl ⟨by rfl, ?hyq5⟩) hK0 ?restq5
      case hyq5 =>
        intro w0 hSw
        (try dsimp only at hSw)
        go_simp
        all_goals (with_reducible rfl)
      (try simp only [Act.put, List.setIfInBounds_toArray, List.set_cons_zero, List.set_cons_succ])
      refine Kept.take (v := ?vq6) 6 (by kernel_rfl) rfl (by kernel_rfl) (fun _ _ _ h => h) (Or.inl ⟨by rfl, ?hyq6⟩) hK0 ?restq6
      case hyq6 =>
        intro w0 hSw
        (try dsimp only at hSw)
        go_simp
        all_goals (with_reducible rfl)
      (try simp only [Act.put, List.setIfInBounds_toArray, List.set_cons_zero, List.set_cons_succ])
      refine Kept.take (v := ?vq7) 7 (by kernel_rfl) rfl (by kernel_rfl) (fun _ _ _ h => h) (Or.inl ⟨by rfl, ?hyq7⟩) hK0 ?restq7
      case hyq7 =>
        intro w0 hSw
        (try dsimp only at hSw)
        go_simp
        all_goals (with_reducible rfl)
      (try simp only [Act.put, List.setIfInBounds_toArray, List.set_cons_zero, List.set_cons_succ])
      refine Kept.take (v := ?vq8) 8 (by kernel_rfl) rfl (by kernel_rfl) (fun _ _ _ h => h) (Or.inl ⟨by rfl, ?hyq8⟩) hK0 ?restq8
      case hyq8 =>
        intro w0 hSw
        (try dsimp only at hSw)
        go_simp
        all_goals (with_reducible rfl)
      (try simp only [Act.put, List.setIfInBounds_toArray, List.set_cons_zero, List.set_cons_succ])
      refine Kept.take (v := ?vq9) 9 (by kernel_rfl) rfl (by kernel_rfl) (fun _ _ _ h => h) (Or.inl ⟨by rfl, ?hyq9⟩) hK0 ?restq9
      case hyq9 =>
        intro w0 hSw
        (try dsimp only at hSw)
        go_simp
        all_goals (with_reducible rfl)
      (try simp only [Act.put, List.setIfInBounds_toArray, List.set_cons_zero, List.set_cons_succ])
      refine Kept.take (v := ?vq10) 10 (by kernel_rfl) rfl (by kernel_rfl) (fun _ _ _ h => h) (Or.inl ⟨by rfl, ?hyq10⟩) hK0 ?restq10
      case hyq10 =>
        intro w0 hSw
        (try dsimp only at hSw)
        go_simp
        all_goals (with_reducible rfl)
      (try simp only [Act.put, List.setIfInBounds_toArray, List.set_cons_zero, List.set_cons_succ])
      refine Kept.take (v := ?vq11) 11 (by kernel_rfl) rfl (by kernel_rfl) (fun _ _ _ h => h) (Or.inl ⟨by rfl, ?hyq11⟩) hK0 ?restq11
      case hyq11 =>
        intro w0 hSw
        (try dsimp only at hSw)
        go_simp
        all_goals (with_reducible rfl)
      (try simp only [Act.put, List.setIfInBounds_toArray, List.set_cons_zero, List.set_cons_succ])
      refine Kept.take (v := ?vq12) 12 (by kernel_rfl) rfl (by kernel_rfl) (fun _ _ _ h => h) (Or.inl ⟨by rfl, ?hyq12⟩) hK0 ?restq12
      case hyq12 =>
        intro w0 hSw
        (try dsimp only at hSw)
        go_simp
        all_goals (with_reducible rfl)
      (try simp only [Act.put, List.setIfInBounds_toArray, List.set_cons_zero, List.set_cons_succ])
      refine Kept.take (v := ?vq15) 15 (by kernel_rfl) rfl (by kernel_rfl) (fun _ _ _ h => h) (Or.inl ⟨by rfl, ?hyq15⟩) hK0 ?restq15
      case hyq15 =>
        intro w0 hSw
        (try dsimp only at hSw)
        go_simp
        all_goals (with_reducible rfl)
      (try simp only [Act.put, List.setIfInBounds_toArray, List.set_cons_zero, List.set_cons_succ])
      refine Kept.one 13 (by kernel_rfl) rfl (fun K hK => ?_)
      go_simp
      go_at_call 19
      refine (implVals_at n _ x _ _ _ (rdUp good_Net HD.out (bThen HBR.out hK0.1)) (ownI_rd (HQR.out.below hK0.1) HQF.out) rfl).mono ?_
      rintro e wr1 ⟨v9, rfl, hoV, hbr1⟩
      obtain ⟨G9, gc9, rfl, -, -⟩ := own_blk hoV (by rw [HVL.out]; exact HN1.out)
      have HE9 := HVL.out
      rw [HE9]
      clear hoV HE9
      go_simp
      refine hK.out _ _ (hS hK0 hbr1) (fun hK1 => ?_)
      clear hK K hK0
      (try simp only [Act.put, List.setIfInBounds_toArray, List.set_cons_zero, List.set_cons_succ])
      refine Kept.take (v := ?vq14) 14 (by kernel_rfl) rfl (by kernel_rfl) (fun _ _ _ h => h) (Or.inl ⟨by rfl, ?hyq14⟩) hK1 ?restq14
      case hyq14 =>
        intro w0 hSw
        (try dsimp only at hSw)
        go_simp
        all_goals (with_reducible rfl)
      (try simp only [Act.put, List.setIfInBounds_toArray, List.set_cons_zero, List.set_cons_succ])
      refine Kept.one 16 (by kernel_rfl) rfl (fun K hK => ?_)
      go_simp
      go_at_call 20
      refine (specNc_at n _ _ (rdUp good_Net HD.out (bThen HBR.out hK1.1)) (Nat.le_refl _) HNC.out).mono ?_
      rintro e wr2 ⟨rfl, hbr2⟩
      go_simp
      refine hK.out _ _ (hS hK1 hbr2) (fun hK2 => ?_)
      clear hK K hK1
      (try simp only [Act.put, List.setIfInBounds_toArray, List.set_cons_zero, List.set_cons_succ])
      refine Kept.tail (by rfl) (by kernel_rfl) ?_
      simp only [List.drop_succ_cons, List.drop_zero]
      go_wp2
      refine NoPanic.normal ?_
      have hb := hK2.1
      replace c0 := keep hb c0
      replace xc := keep hb xc
      have HB2 := Lib.hid (bThen HB0.out hb)
      have HBR2 := Lib.hid (bThen HBR.out hb)
      have HO2 := Lib.hid (HO.out.below hb)
      have HO9 := Lib.hid (show OwnsI wr2 0 v8 S1 from (HO8.out.below hb).lower (Nat.zero_le _))
      have hs2 := hb.size
      obtain ⟨M, hM, m1, m2, m3, m4⟩ := mask_ones x I i20
      rw [HY.out] at m4
      rw [HI0.out] at c0
      have m5 : (1 : Int) * 2 ^ min (I : Int).toNat 64 = (M : Int) + 1 := by rw [show min (I : Int).toNat 64 = I by omega, m3]; omega
      have m6 : (M : Int) + 1 - 1 = (M : Int) := by omega
      have m7 := mask_two (y := y) hM m4
      have HM7 := Lib.hid m7
      clear m7
      clear hb hS hS0 hK2 c1 c2 c3 rc
      go_wp2_with fail
      have hS0 : (fun w' => Below wr2.heap.size wr2 w' ∧ w'.cell? ⟨w1.heap.size, 0, none⟩ = some (.int .i64 (I : Int)) ∧ w'.cell? ⟨lg, k, none⟩ = some (.int .i64 x)) wr2 := ⟨Below.refl _ _, c0, xc⟩
      have hS : ∀ {w0 w' : World}, (fun w' => Below wr2.heap.size wr2 w' ∧ w'.cell? ⟨w1.heap.size, 0, none⟩ = some (.int .i64 (I : Int)) ∧ w'.cell? ⟨lg, k, none⟩ = some (.int .i64 x)) w0 → Below w0.heap.size w0 w' → (fun w' => Below wr2.heap.size wr2 w' ∧ w'.cell? ⟨w1.heap.size, 0, none⟩ = some (.int .i64 (I : Int)) ∧ w'.cell? ⟨lg, k, none⟩ = some (.int .i64 x)) w' := fun h hb => ⟨bThen h.1 hb, keep hb h.2.1, keep hb h.2.2⟩
      dsimp only at hS0 hS
      refine wp_region_noPanic ?_
      refine wp_region_kept 11 13 (fun w' => Below wr2.heap.size wr2 w' ∧ w'.cell? ⟨w1.heap.size, 0, none⟩ = some (.int .i64 (I : Int)) ∧ w'.cell? ⟨lg, k, none⟩ = some (.int .i64 x)) (by kernel_rfl) rfl (hS hS0 (Below.drew (Below.refl _ _))) (fun hK0 => ?_)
      refine Kept.take (v := ?vs0) 0 (by kernel_rfl) rfl (by kernel_rfl) (fun _ _ _ h => h) (Or.inl ⟨by rfl, ?hys0⟩) hK0 ?rests0
      case hys0 =>
        intro w0 hSw
        (try dsimp only at hSw)
        go_simp
        all_goals (with_reducible rfl)
      (try simp only [Act.put, List.setIfInBounds_toArray, List.set_cons_zero, List.set_cons_succ])
      refine Kept.take (v := ?vs1) 1 (by kernel_rfl) rfl (by kernel_rfl) (fun _ _ _ h => h) (Or.inl ⟨by rfl, ?hys1⟩) hK0 ?rests1
      case hys1 =>
        intro w0 hSw
        (try dsimp only at hSw)
        go_simp
        all_goals (with_reducible rfl)
      (try simp only [Act.put, List.setIfInBounds_toArray, List.set_cons_zero, List.set_cons_succ])
      refine Kept.take (v := ?vs2) 2 (by kernel_rfl) rfl (by kernel_rfl) (fun _ _ _ h => h) (Or.inl ⟨by rfl, ?hys2⟩) hK0 ?rests2
      case hys2 =>
        intro w0 hSw
        (try dsimp only at hSw)
        go_simp
        all_goals (with_reducible rfl)
      (try simp only [Act.put, List.setIfInBounds_toArray, List.set_cons_zero, List.set_cons_succ])
      refine Kept.take (v := ?vs3) 3 (by kernel_rfl) rfl (by kernel_rfl) (fun _ _ _ h => h) (Or.inl ⟨by rfl, ?hys3⟩) hK0 ?rests3
      case hys3 =>
        intro w0 hSw
        (try dsimp only at hSw)
        go_simp
        all_goals (with_reducible rfl)
      (try simp only [Act.put, List.setIfInBounds_toArray, List.set_cons_zero, List.set_cons_succ])
      refine Kept.take (v := ?vs4) 4 (by kernel_rfl) rfl (by kernel_rfl) (fun _ _ _ h => h) (Or.inl ⟨by rfl, ?hys4⟩) hK0 ?rests4
      case hys4 =>
        intro w0 hSw
        (try dsimp only at hSw)
        go_simp
        all_goals (with_reducible rfl)
      (try simp only [Act.put, List.setIfInBounds_toArray, List.set_cons_zero, List.set_cons_succ])
      refine Kept.take (v := ?vs5) 5 (by kernel_rfl) rfl (by kernel_rfl) (fun _ _ _ h => h) (Or.inl ⟨by rfl, ?hys5⟩) hK0 ?rests5
      case hys5 =>
        intro w0 hSw
        (try dsimp only at hSw)
        go_simp
        all_goals (with_reducible rfl)
      (try simp only [Act.put, List.setIfInBounds_toArray, List.set_cons_zero, List.set_cons_succ])
      refine Kept.take (v := ?vs6) 6 (by kernel_rfl) rfl (by kernel_rfl) (fun _ _ _ h => h) (Or.inl ⟨by rfl, ?hys6⟩) hK0 ?rests6
      case hys6 =>
        intro w0 hSw
        (try dsimp only at hSw)
        go_simp
        all_goals (with_reducible rfl)
      (try simp only [Act.put, List.setIfInBounds_toArray, List.set_cons_zero, List.set_cons_succ])
      refine Kept.take (v := ?vs7) 7 (by kernel_rfl) rfl (by kernel_rfl) (fun _ _ _ h => h) (Or.inl ⟨by rfl, ?hys7⟩) hK0 ?rests7
      case hys7 =>
        intro w0 hSw
        (try dsimp only at hSw)
        go_simp
        all_goals (with_reducible rfl)
      (try simp only [Act.put, List.setIfInBounds_toArray, List.set_cons_zero, List.set_cons_succ])
      refine Kept.take (v := ?vs8) 8 (by kernel_rfl) rfl (by kernel_rfl) (fun _ _ _ h => h) (Or.inl ⟨by rfl, ?hys8⟩) hK0 ?rests8
      case hys8 =>
        intro w0 hSw
        (try dsimp only at hSw)
        go_simp
        all_goals (with_reducible rfl)
      (try simp only [Act.put, List.setIfInBounds_toArray, List.set_cons_zero, List.set_cons_succ])
      refine Kept.take (v := ?vs9) 9 (by kernel_rfl) rfl (by kernel_rfl) (fun _ _ _ h => h) (Or.inl ⟨by rfl, ?hys9⟩) hK0 ?rests9
      case hys9 =>
        intro w0 hSw
        (try dsimp only at hSw)
        go_simp
        all_goals (with_reducible rfl)
      (try simp only [Act.put, List.setIfInBounds_toArray, List.set_cons_zero, List.set_cons_succ])
      refine Kept.one 10 (by kernel_rfl) rfl (fun K hK => ?_)
      go_simp
      refine hK.out _ _ (hS hK0 (bAlloc (Below.refl _ _) (Nat.le_refl _) _)) (fun hK1 => ?_)
      clear hK K hK0
      (try simp only [Act.put, List.setIfInBounds_toArray, List.set_cons_zero, List.set_cons_succ])
      refine Kept.tail (by rfl) (by kernel_rfl) ?_
      simp only [List.drop_succ_cons, List.drop_zero]
      rw [HM7.out] at hK1 ⊢
      obtain ⟨W9, hW9⟩ : ∃ W9, W9 = (wr2.alloc (.cells #[.int .i64 y] 3)).drew := ⟨_, rfl⟩
      rw [← hW9] at hK1 ⊢
      have HROW := Lib.hid (show W9.heap[wr2.heap.size]? = some (.cells #[.int .i64 y] 3 (0, 0)) by rw [hW9]; exact heap_alloc_new _ _)
      have HBA := Lib.hid (show Below wr2.heap.size wr2 W9 from hK1.1)
      have hs9 : wr2.heap.size ≤ W9.heap.size := HBA.out.size
      clear hW9
      have HBX := Lib.hid (bThen HB2.out HBA.out)
      have hsz := Lib.hid HBX.out.size
      have HOA := Lib.hid (HO2.out.below HBA.out)
      have HQA := Lib.hid (HO9.out.below HBA.out)
      clear c0 xc hS hS0 hK1 m1 m2 m3 m4 m5 m6
      go_wp2_with (at_builtin; refine wpList_append_all (by rfl) _ _ 26 (by rfl) w4.heap.size 3 i0 (.int .i64 0) 1 8 Try.underlying26 hi hz0 hz1 hz2 rfl (by omega) (.slice A KL.length c) KL.length (KL.map vI) (by rfl) HOA.out (some ⟨wr2.heap.size, 0, none⟩) 1 1 [.int .i64 y] (by rfl) (by rfl) (.inr ⟨_, rfl, World.news_of_block HROW.out⟩) (by simp [Value.oneCell']) (by unfold maxLen; omega) (by omega) hsz.out ?_; intro A' c' w7 hown7 hgrow7 hkeep7 hat7)
      refine NoPanic.normal ?_
      have HB7 := Lib.hid ((HBX.out.grown hgrow7 hsz.out (fun g hg => (HO2.out.lt g hg).1)))
      have HO7 := Lib.hid (own_int hown7)
      have HQ7 := Lib.hid (ownI_stays HQA.out hgrow7 HNV.out)
      have HN7 := Lib.hid (own_apart2 HQA.out HNV.out hat7 (Nat.le_refl _))
      clear hown7 hgrow7 hkeep7 hat7 hsz
      go_wp2
      go_roundw
      case rel => exact ⟨k + 1, A', c', by omega, by go_num, by rw [HKS.out, List.length_append]; rfl, by rw [HKS.out, List.length_append]; exact HO7.out, by rw [HST.out]; exact HQ7.out, by rw [HKS.out, List.length_append]; exact HN7.out, HB7.out⟩
      case measure => simp [intOf] <;> omega
    · obtain rfl : k = xs.length := by omega
      have HLOW := Lib.hid (show runO n (lowK n xs xs.length) = R by rw [low_all, runO_low]; exact HR.out)
      have HLF := Lib.hid (low_fit HP.out.sz.i20 xs xs.length)
      have HR5' := Lib.hid (HR5.out.below HB0.out)
      have hR12 : R.length ≤ 1000000 := by have := HRL.out; omega
      clear hlt
      go_wp2_with fail
      refine (implRun_at n _ _ _ _ (rdUp good_Net HD.out HB3.out) (ownI_rd HO.out HLF.out) HLOW.out).mono ?_
      rintro e w5 ⟨v10, rfl, ho, hb⟩
      have HB5 := Lib.hid (bThen HB3.out hb)
      have HO10 := Lib.hid ho
      have HR10 := Lib.hid (HR5'.out.below hb)
      clear ho hb c0 c1 c2 c3
      go_wp2_with fail
      refine (sameI_any _ _ _ _ R _ HO10.out HR10.out hR12).mono ?_
      rintro e w6 ⟨rfl, hb⟩
      have HB6 := Lib.hid (bThen HB5.out hb)
      clear hb
      go_wp2
      go_ret
      exact ⟨rfl, bThen HBW.out HB6.out⟩
end Go.Proofs.Ytaebiiopommhdaa
