/-
  A net with long conjunctions is drawn.
-/
import Derived.Test.YtiejilmgchmppaaHkA
import Derived.Deep.RegionHeld3
namespace Go.Proofs.Ytiejilmgchmppaa
open Go.RowKit
set_option linter.unusedVariables false
set_option linter.unusedSimpArgs false

theorem chainB {TN N Y : Nat} (h : 2 * N = TN) (h1 : 1 ≤ N) (hN : N ≤ 333) (hY : Y < 8) : ∃ BX : Nat, IntKind.i64.wrap (IntKind.i64.wrap ((TN : Int) - 2) + IntKind.i64.wrap ((Y : Int) / 7)) = (BX : Int) ∧ BX / 2 < N ∧ BX ≤ 700 := by
  have e1 : IntKind.i64.wrap ((TN : Int) - 2) = (TN : Int) - 2 := wrap64_int _ (by omega) (by omega)
  have e2 : IntKind.i64.wrap ((Y : Int) / 7) = (Y : Int) / 7 := wrap64_int _ (by omega) (by omega)
  refine ⟨TN - 2 + Y / 7, ?_, by omega, by omega⟩
  rw [e1, e2, wrap64_int _ (by omega) (by omega)]
  omega
theorem chainT {TN N : Nat} (h : 2 * N = TN) (hN : N ≤ 333) : IntKind.i64.wrap (2 * (N : Int)) = (TN : Int) ∧ wrap64 (2 * (N : Int)) = (TN : Int) := by
  constructor
  · rw [wrap64_int _ (by omega) (by omega)]; omega
  · unfold wrap64; omega
theorem chainO {N Y : Nat} (h3 : 3 ≤ N) (hN : N ≤ 333) (hY : Y < 6) : ∃ P Q : Nat, (P : Int) = 2 * (N : Int) - 2 ∧ (Q : Int) = 2 * (N : Int) - 1 - (Y : Int) ∧ P / 2 < N ∧ Q / 2 < N ∧ P ≤ 700 ∧ Q ≤ 700 := ⟨2 * N - 2, 2 * N - 1 - Y, by omega, by omega, by omega, by omega, by omega, by omega⟩

set_option maxRecDepth 100000 in
set_option maxHeartbeats 25600000 in
theorem chain_at (G nn : Nat) (w : World) (hc : Cur TCur w G nn) :
    Calls Try.prog 23 #[.pointer (some ⟨G, 0, none⟩)] w (DrewN 16 w G nn) := by
  obtain ⟨i0, hi, hz0, hz1, hz2⟩ := info_parts infoI
  obtain ⟨iA, hiA, hzA0, hzA1, hzA2⟩ := info_parts infoA1
  have hG := hc.lt
  have HC := Lib.hid hc
  clear hc
  go_enter Try.func23, Try.ntmps23
  go_wp2_with fail
  obtain ⟨Wa, hV⟩ : ∃ Wa, Wa = w.alloc (.cells #[.int .i64 0, .slice none 0 0, .slice none 0 0, .slice none 0 0] 28) := ⟨_, rfl⟩
  rw [← hV]
  have gN := eqbox1 hV
  have HCa := Lib.hid (HC.out.keep gN.2)
  have HRa := Lib.hid (show BoxN Wa w.heap.size (.int .i64 0) (.slice none 0 0) (.slice none 0 0) (.slice none 0 0) from gN.1)
  have HBa := Lib.hid gN.2
  have hsa : w.heap.size + 1 ≤ Wa.heap.size := HRa.out.lt
  clear hV gN
  refine (sizedN_at G nn 6 1 3 _ HCa.out (by omega) (by omega) (by omega)).mono ?_
  rintro e w1 ⟨V1, vA, V3, rows, bs, n, rfl, hnet, hok, hlen, hcur, hch⟩
  obtain ⟨A1, c1, rfl⟩ := hnet.s.cap fV3_len
  obtain ⟨A2, c2, rfl⟩ := hnet.a.cap fAnd_len
  obtain ⟨A3, c3, rfl⟩ := hnet.o.cap fInt_len
  have HNET := Lib.hid hnet
  have HP0 := Lib.hid (netP_of hok)
  have HR1 := Lib.hid (HRa.out.at (hch.block w.heap.size HRa.out.lt (by omega)))
  have HC1 := Lib.hid hcur
  have HG1 := Lib.hid (show Chg G w w1 from (Chg.of_below HBa.out).trans hch)
  have hs1 := hch.size
  clear hnet hok hcur hch HCa HRa HBa
  go_wp2_with fail
  obtain ⟨W1, hV⟩ : ∃ W1, W1 = w1.alloc (.cells #[.int .i64 n.1, .slice A1 n.2.1.length c1, .slice A2 n.2.2.1.length c2, .slice A3 n.2.2.2.length c3] 28) := ⟨_, rfl⟩
  rw [← hV]
  have gN := eqbox1 hV
  obtain ⟨F, hF⟩ : ∃ F, w1.heap.size = F := ⟨_, rfl⟩
  obtain ⟨E, hE⟩ : ∃ E, w.heap.size = E := ⟨_, rfl⟩
  have hD : DrNet w W1 E F G nn (.int .i64 n.1) (.slice A1 n.2.1.length c1) (.slice A2 n.2.2.1.length c2) (.slice A3 n.2.2.2.length c3) := by
    have hl := HR1.out.lt
    subst hF hE
    exact ⟨gN.1, HR1.out.at (gN.2.block _ hl), HC1.out.keep gN.2, HG1.out.trans (Chg.of_below gN.2), Nat.le_refl _, by omega, by omega, hG⟩
  have HS0 := Lib.hid (netSt_of hD (HNET.out.below gN.2) (by omega) (fun b hb => by have := HNET.out.lt hb; omega))
  have hEw : w.heap.size = E := hE
  have hFw : w.heap.size < F := by have := HR1.out.lt; omega
  rw [hF] at gN ⊢
  rw [hE]
  clear hV gN hD hF hE HR1 HC1 HG1 HNET
  refine (below_any G nn _ _ (by omega) (by omega) HS0.out.dr.cur).mono ?_
  rintro e w2 ⟨x, rfl, hx, hcur, hch⟩
  have HS2 := Lib.hid (HS0.out.call hcur hch)
  obtain ⟨I, hI⟩ : ∃ I, n.1 = I := ⟨_, rfl⟩
  obtain ⟨S, hS⟩ : ∃ S, n.2.1 = S := ⟨_, rfl⟩
  obtain ⟨D0, hD0⟩ : ∃ D, n.2.2.1 = D := ⟨_, rfl⟩
  obtain ⟨R, hR⟩ : ∃ R, n.2.2.2 = R := ⟨_, rfl⟩
  have HP := Lib.hid (show NetP (I, S, D0, R) by rw [← hI, ← hS, ← hD0, ← hR]; exact HP0.out)
  have HFI := Lib.hid (show Fit I by have h1 := HP.out.sz.i0; have h2 := HP.out.sz.i20; dsimp only at h1 h2; unfold Fit; omega)
  rw [hI, hS, hD0, hR] at HS2
  rw [hD0] at hlen
  obtain ⟨V1, hV1⟩ : ∃ V : Value, (.slice A1 S.length c1) = V := ⟨_, rfl⟩
  obtain ⟨V3, hV3⟩ : ∃ V : Value, (.slice A3 R.length c3) = V := ⟨_, rfl⟩
  have HV := Lib.hid (And.intro hV1 hV3)
  rw [hV1, hV3] at HS2
  obtain ⟨t0, ht0⟩ : ∃ t : Int, 2 + x = t := ⟨_, rfl⟩
  have ht1 : 2 ≤ t0 ∧ t0 ≤ 13 := by omega
  (try rw [hI, hS, hD0, hR])
  go_wp2
  (try rw [ht0])
  clear hcur hch HS0 hI hS hD0 hR HP0 hV1 hV3 ht0 hx
  go_loopw [4] (fun v wr => ∃ (t : Int) (A : Option Addr) (c : Nat) (D : List DAnd), 0 ≤ t ∧ t ≤ 13 ∧ v = .int .i64 t ∧ (D.length : Int) + t ≤ 16 ∧ 2 ≤ (D.length : Int) + t ∧ NetSt w wr E F G nn I V1 (.slice A D.length c) V3 rows S bs D R ∧ NetP (I, S, D, R)) (fun v _ => (intOf v).toNat)
  case atStart => exact ⟨t0, A2, c2, D0, by omega, ht1.2, rfl, by omega, by omega, HS2.out, HP.out⟩
  case round =>
    obtain ⟨t, A, c, D, ht1, ht2, rfl, hDt, hDu, hst, hP⟩ := hrel
    obtain ⟨w4, rfl⟩ : ∃ w4, w4 = wr := ⟨_, rfl⟩
    clear HS2 HP
    have HST := Lib.hid hst
    have HP := Lib.hid hP
    obtain ⟨N, hN⟩ : ∃ N, netN (I, S, D, R) = N := ⟨_, rfl⟩
    have HNC := Lib.hid (show ncI (I, S, D, R) = (N : Int) by rw [hP.sz.nc, hN])
    have HNN := Lib.hid hN
    have hN3 : N ≤ 333 ∧ 1 + D.length ≤ N := by
      have h1 := hP.sz.net_le.1
      have h2 := hP.sz.fir_le
      rw [hN] at h1
      unfold netN at hN
      dsimp only at hN
      omega
    have b0 := hst.dr.box.cells.1.1
    have b1 := hst.dr.box.cells.1.2.1
    have b2 := hst.dr.box.cells.1.2.2.1
    have b3 := hst.dr.box.cells.1.2.2.2
    clear hst hP hN
    by_cases hlt : 0 < t
    · go_wp2_with fail
      refine (specNc_at (I, S, D, R) [.int .i64 I, V1, .slice A D.length c, V3] _ (HST.out.read (EndSt.of HST.out) HFI.out) (Nat.le_refl _) HNC.out).mono ?_
      rintro e w5 ⟨rfl, hb⟩
      have HS5 := Lib.hid (HST.out.call (HST.out.dr.cur.keep hb) (Chg.of_below hb))
      replace b2 := keep hb b2
      obtain ⟨TN, hTN⟩ : ∃ T, 2 * N = T := ⟨_, rfl⟩
      have hT2 : TN ≤ 666 ∧ 2 ≤ TN := by omega
      have HTN := Lib.hid hTN
      have eT := (chainT hTN hN3.1).1
      have eU := (chainT hTN hN3.1).2
      have HN3 := Lib.hid hN3
      have HDT := Lib.hid (And.intro hDt (And.intro hDu (And.intro ht1 ht2)))
      have hT3 : 0 < (TN : Int) ∧ (TN : Int) ≤ 2147483648 := by omega
      clear hb hTN
      go_wp2_with fail
      clear eT eU hN3 hDt hDu ht1 ht2 hT2
      refine wp_region_noPanic ?_
      refine wp_region_kept 13 16 (fun w' => (Chg G w5 w' ∧ Cur TCur w' G nn) ∧ w'.cell? ⟨F, 2, none⟩ = some (.slice A D.length c)) (by kernel_rfl) rfl ⟨⟨(Chg.refl _ _).drew, (HS5.out.dr.cur).keep (Below.drew (Below.refl _ _))⟩, keep (Below.drew (Below.refl _ _)) b2⟩ (fun hK0 => ?_)
      refine Kept.take (v := ?va0) 0 (by kernel_rfl) rfl (by kernel_rfl) (fun _ _ _ h => h) (Or.inl ⟨by rfl, ?hya0⟩) hK0 ?resta0
      case hya0 =>
        intro w0 hSw
        (try dsimp only at hSw)
        go_simp
        all_goals (with_reducible rfl)
      (try simp only [Act.put, List.setIfInBounds_toArray, List.set_cons_zero, List.set_cons_succ])
      refine Kept.take (v := ?va1) 1 (by kernel_rfl) rfl (by kernel_rfl) (fun _ _ _ h => h) (Or.inl ⟨by rfl, ?hya1⟩) hK0 ?resta1
      case hya1 =>
        intro w0 hSw
        (try dsimp only at hSw)
        go_simp
        all_goals (with_reducible rfl)
      (try simp only [Act.put, List.setIfInBounds_toArray, List.set_cons_zero, List.set_cons_succ])
      refine Kept.take (v := ?va2) 2 (by kernel_rfl) rfl (by kernel_rfl) (fun _ _ _ h => h) (Or.inl ⟨by rfl, ?hya2⟩) hK0 ?resta2
      case hya2 =>
        intro w0 hSw
        (try dsimp only at hSw)
        go_simp
        all_goals (with_reducible rfl)
      (try simp only [Act.put, List.setIfInBounds_toArray, List.set_cons_zero, List.set_cons_succ])
      refine Kept.take (v := ?va3) 3 (by kernel_rfl) rfl (by kernel_rfl) (fun _ _ _ h => h) (Or.inl ⟨by rfl, ?hya3⟩) hK0 ?resta3
      case hya3 =>
        intro w0 hSw
        (try dsimp only at hSw)
        go_simp
        all_goals (with_reducible rfl)
      (try simp only [Act.put, List.setIfInBounds_toArray, List.set_cons_zero, List.set_cons_succ])
      refine Kept.take (v := ?va5) 5 (by kernel_rfl) rfl (by kernel_rfl) (fun _ _ _ h => h) (Or.inl ⟨by rfl, ?hya5⟩) hK0 ?resta5
      case hya5 =>
        intro w0 hSw
        (try dsimp only at hSw)
        go_simp
        all_goals (with_reducible rfl)
      (try simp only [Act.put, List.setIfInBounds_toArray, List.set_cons_zero, List.set_cons_succ])
      refine Kept.take (v := ?va6) 6 (by kernel_rfl) rfl (by kernel_rfl) (fun _ _ _ h => h) (Or.inl ⟨by rfl, ?hya6⟩) hK0 ?resta6
      case hya6 =>
        intro w0 hSw
        (try dsimp only at hSw)
        go_simp
        all_goals (with_reducible rfl)
      (try simp only [Act.put, List.setIfInBounds_toArray, List.set_cons_zero, List.set_cons_succ])
      refine Kept.take (v := ?va7) 7 (by kernel_rfl) rfl (by kernel_rfl) (fun _ _ _ h => h) (Or.inl ⟨by rfl, ?hya7⟩) hK0 ?resta7
      case hya7 =>
        intro w0 hSw
        (try dsimp only at hSw)
        go_simp
        all_goals (with_reducible rfl)
      (try simp only [Act.put, List.setIfInBounds_toArray, List.set_cons_zero, List.set_cons_succ])
      refine Kept.one 4 (by kernel_rfl) rfl (fun K hK => ?_)
      go_simp
      go_at_call 47
      refine (below_any G nn (TN : Int) _ (by omega) (by omega) hK0.1.2).mono ?_
      rintro e wqX ⟨yX, rfl, hX, hcyX, hchyX⟩
      obtain ⟨X, rfl⟩ : ∃ X : Nat, yX = (X : Int) := ⟨yX.toNat, by omega⟩
      go_simp
      refine hK.out _ _ (⟨⟨hK0.1.1.trans hchyX, hcyX⟩, (hchyX.cell (p := ⟨F, 2, none⟩) (World.block_lt_of_cell? _ _ hK0.2) (by dsimp only; omega)).trans hK0.2⟩) (fun hK1 => ?_)
      clear hK K hK0
      (try simp only [Act.put, List.setIfInBounds_toArray, List.set_cons_zero, List.set_cons_succ])
      refine Kept.one 8 (by kernel_rfl) rfl (fun K hK => ?_)
      go_simp
      go_at_call 47
      refine (below_any G nn 8 _ (by omega) (by omega) hK1.1.2).mono ?_
      rintro e wqY ⟨yY, rfl, hY, hcyY, hchyY⟩
      obtain ⟨Y, rfl⟩ : ∃ Y : Nat, yY = (Y : Int) := ⟨yY.toNat, by omega⟩
      go_simp
      refine hK.out _ _ (⟨⟨hK1.1.1.trans hchyY, hcyY⟩, (hchyY.cell (p := ⟨F, 2, none⟩) (World.block_lt_of_cell? _ _ hK1.2) (by dsimp only; omega)).trans hK1.2⟩) (fun hK2 => ?_)
      clear hK K hK1
      (try simp only [Act.put, List.setIfInBounds_toArray, List.set_cons_zero, List.set_cons_succ])
      refine Kept.take (v := ?va9) 9 (by kernel_rfl) rfl (by kernel_rfl) (fun _ _ _ h => h) (Or.inl ⟨by rfl, ?hya9⟩) hK2 ?resta9
      case hya9 =>
        intro w0 hSw
        (try dsimp only at hSw)
        go_simp
        all_goals (with_reducible rfl)
      (try simp only [Act.put, List.setIfInBounds_toArray, List.set_cons_zero, List.set_cons_succ])
      refine Kept.take (v := ?va10) 10 (by kernel_rfl) rfl (by kernel_rfl) (fun _ _ _ h => h) (Or.inl ⟨by rfl, ?hya10⟩) hK2 ?resta10
      case hya10 =>
        intro w0 hSw
        (try dsimp only at hSw)
        go_simp
        all_goals (with_reducible rfl)
      (try simp only [Act.put, List.setIfInBounds_toArray, List.set_cons_zero, List.set_cons_succ])
      refine Kept.take (v := ?va11) 11 (by kernel_rfl) rfl (by kernel_rfl) (fun _ _ _ h => h) (Or.inl ⟨by rfl, ?hya11⟩) hK2 ?resta11
      case hya11 =>
        intro w0 hSw
        (try dsimp only at hSw)
        go_simp
        all_goals (with_reducible rfl)
      (try simp only [Act.put, List.setIfInBounds_toArray, List.set_cons_zero, List.set_cons_succ])
      refine Kept.one 12 (by kernel_rfl) rfl (fun K hK => ?_)
      go_simp
      refine hK.out _ _ (⟨⟨hK2.1.1.alloc _, hK2.1.2.keep (bAlloc (Below.refl _ _) (Nat.le_refl _) _)⟩, keep (bAlloc (Below.refl _ _) (Nat.le_refl _) _) hK2.2⟩) (fun hK3 => ?_)
      clear hK K hK2
      (try simp only [Act.put, List.setIfInBounds_toArray, List.set_cons_zero, List.set_cons_succ])
      refine Kept.tail (by rfl) (by kernel_rfl) ?_
      simp only [List.drop_succ_cons, List.drop_zero]
      obtain ⟨BX, eB, hB1, hB2⟩ := chainB HTN.out (by have := HN3.out.2; omega) HN3.out.1 (by omega : Y < 8)
      rw [eB] at hK3 ⊢
      have HXY := Lib.hid (show X / 2 < netN (I, S, D, R) ∧ BX / 2 < netN (I, S, D, R) by rw [HNN.out]; have := HTN.out; omega)
      have HFX := Lib.hid (show Fit (X : Int) ∧ Fit (BX : Int) by have := HTN.out; have := HN3.out.1; unfold Fit; omega)
      have HK := Lib.hid (HS5.out.call hK3.1.2 hK3.1.1)
      have hf2 := hK3.2
      have hz2 := HK.out.dr.box.cells.2 2
      have hneF : (Value.slice A D.length c).ownBlock ≠ some F := fun e => HS5.out.oA.own e (by simp)
      have hrow : OwnsR fAnd 2 53 _ w.heap.size (.slice A D.length c) D := HK.out.a.own
      unfold OwnsR at hrow
      have HROW := Lib.hid hrow
      obtain ⟨WA, hWA⟩ : ∃ WA, WA = wqY.alloc (.cells #[.int .i64 (X : Int), .int .i64 (BX : Int)] 53) := ⟨_, rfl⟩
      have HNB := Lib.hid (show WA.heap[wqY.heap.size]? = some (.cells #[.int .i64 (X : Int), .int .i64 (BX : Int)] 53 (0, 0)) by rw [hWA]; exact heap_alloc_new _ _)
      rw [← hWA] at HK hf2 hz2 HROW ⊢
      have HSZ := Lib.hid (show w.heap.size ≤ WA.heap.size from HK.out.dr.chg.size)
      have hD16 : D.length ≤ 16 := by have := HDT.out; omega
      clear hK3 hrow hWA hX hY hcyX hchyX hcyY hchyY b2 eB hB1 hB2 hT3
      go_wp2_with (at_builtin; refine wpList_append_all (by rfl) _ _ 25 (by rfl) w.heap.size 53 iA (.agg #[.int .i64 0, .int .i64 0]) 2 16 Try.underlying25 hiA hzA0 hzA1 hzA2 rfl (by omega) (.slice A D.length c) D.length (D.flatMap fAnd) (by rfl) HROW.out (some ⟨wqY.heap.size, 0, none⟩) 1 1 [.int .i64 (X : Int), .int .i64 (BX : Int)] (by rfl) (by rfl) (.inr ⟨_, rfl, World.news_of_block HNB.out⟩) (by simp [Value.oneCell']) (by unfold maxLen; omega) (by omega) HSZ.out ?_; intro A' c' w6 hown6 hgrow6 hkeep6 hat6; have y2 := grownC hgrow6 hf2 hneF; have z2 := grownZ hgrow6 hf2 hz2 hneF)
      refine NoPanic.normal ?_
      have HS8 := Lib.hid (HK.out.addA (n := D.length + 1) (x := ((X : Int), (BX : Int))) hown6 rfl hgrow6 hat6 HFX.out)
      have HP8 := Lib.hid (show NetP (I, S, D ++ [((X : Int), (BX : Int))], R) from addN_net HP.out HXY.out.1 HXY.out.2 (by dsimp only; omega))
      clear hown6 hgrow6 hkeep6 hat6 y2 z2 hf2 hz2 hneF
      have ht1 := HDT.out.2.2.1
      have ht2 := HDT.out.2.2.2
      go_wp2
      go_roundw
      case rel => exact ⟨t - 1, A', c', D ++ [((X : Int), (BX : Int))], by omega, by have := HDT.out; omega, by go_num, by have := HDT.out; rw [List.length_append, List.length_singleton]; omega, by have := HDT.out; rw [List.length_append, List.length_singleton]; omega, by rw [List.length_append]; exact HS8.out, HP8.out⟩
      case measure => simp [intOf] <;> omega
    · obtain rfl : t = 0 := by omega
      have h3 : 3 ≤ N := by omega
      have HN3 := Lib.hid (And.intro hN3 h3)
      have HN9 := Lib.hid hDt
      have e2 : IntKind.i64.wrap (2 * (N : Int)) = 2 * (N : Int) := wrap64_int _ (by omega) (by omega)
      clear hN3 h3 hDt hDu ht1 ht2 hlt
      go_wp2_with fail
      refine wp_region_noPanic ?_
      refine wp_region_kept 11 14 (fun w' => (Chg G w4 w' ∧ Cur TCur w' G nn) ∧ w'.cell? ⟨F, 0, none⟩ = some (.int .i64 I) ∧ w'.cell? ⟨F, 1, none⟩ = some (V1) ∧ w'.cell? ⟨F, 2, none⟩ = some (.slice A D.length c) ∧ w'.cell? ⟨F, 3, none⟩ = some (V3)) (by kernel_rfl) rfl ⟨⟨(Chg.refl _ _).drew, (HST.out.dr.cur).keep (Below.drew (Below.refl _ _))⟩, keep (Below.drew (Below.refl _ _)) b0, keep (Below.drew (Below.refl _ _)) b1, keep (Below.drew (Below.refl _ _)) b2, keep (Below.drew (Below.refl _ _)) b3⟩ (fun hK0 => ?_)
      refine Kept.take (v := ?vb0) 0 (by kernel_rfl) rfl (by kernel_rfl) (fun _ _ _ h => h) (Or.inl ⟨by rfl, ?hyb0⟩) hK0 ?restb0
      case hyb0 =>
        intro w0 hSw
        (try dsimp only at hSw)
        go_simp
        all_goals (with_reducible rfl)
      (try simp only [Act.put, List.setIfInBounds_toArray, List.set_cons_zero, List.set_cons_succ])
      refine Kept.take (v := ?vb4) 4 (by kernel_rfl) rfl (by kernel_rfl) (fun _ _ _ h => h) (Or.inl ⟨by rfl, ?hyb4⟩) hK0 ?restb4
      case hyb4 =>
        intro w0 hSw
        (try dsimp only at hSw)
        go_simp
        all_goals (with_reducible rfl)
      (try simp only [Act.put, List.setIfInBounds_toArray, List.set_cons_zero, List.set_cons_succ])
      refine Kept.take (v := ?vb8) 8 (by kernel_rfl) rfl (by kernel_rfl) (fun _ _ _ h => h) (Or.inl ⟨by rfl, ?hyb8⟩) hK0 ?restb8
      case hyb8 =>
        intro w0 hSw
        (try dsimp only at hSw)
        go_simp
        all_goals (with_reducible rfl)
      (try simp only [Act.put, List.setIfInBounds_toArray, List.set_cons_zero, List.set_cons_succ])
      refine Kept.one 1 (by kernel_rfl) rfl (fun K hK => ?_)
      go_simp
      go_at_call 7
      refine (specNc_at (I, S, D, R) [.int .i64 I, V1, .slice A D.length c, V3] _ ((HST.out.call hK0.1.2 hK0.1.1).read (EndSt.of (HST.out.call hK0.1.2 hK0.1.1)) HFI.out) (Nat.le_refl _) HNC.out).mono ?_
      rintro e wna ⟨rfl, hbna⟩
      go_simp
      refine hK.out _ _ (⟨⟨hK0.1.1.trans (Chg.of_below hbna), hK0.1.2.keep hbna⟩, keep hbna hK0.2.1, keep hbna hK0.2.2.1, keep hbna hK0.2.2.2.1, keep hbna hK0.2.2.2.2⟩) (fun hK1 => ?_)
      clear hK K hK0
      (try simp only [Act.put, List.setIfInBounds_toArray, List.set_cons_zero, List.set_cons_succ])
      refine Kept.take (v := ?vb2) 2 (by kernel_rfl) rfl (by kernel_rfl) (fun _ _ _ h => h) (Or.inl ⟨by rfl, ?hyb2⟩) hK1 ?restb2
      case hyb2 =>
        intro w0 hSw
        (try dsimp only at hSw)
        go_simp
        all_goals (with_reducible rfl)
      (try simp only [Act.put, List.setIfInBounds_toArray, List.set_cons_zero, List.set_cons_succ])
      refine Kept.take (v := ?vb3) 3 (by kernel_rfl) rfl (by kernel_rfl) (fun _ _ _ h => h) (Or.inl ⟨by rfl, ?hyb3⟩) hK1 ?restb3
      case hyb3 =>
        intro w0 hSw
        (try dsimp only at hSw)
        go_simp
        all_goals (with_reducible rfl)
      (try simp only [Act.put, List.setIfInBounds_toArray, List.set_cons_zero, List.set_cons_succ])
      refine Kept.one 5 (by kernel_rfl) rfl (fun K hK => ?_)
      go_simp
      go_at_call 7
      refine (specNc_at (I, S, D, R) [.int .i64 I, V1, .slice A D.length c, V3] _ ((HST.out.call hK1.1.2 hK1.1.1).read (EndSt.of (HST.out.call hK1.1.2 hK1.1.1)) HFI.out) (Nat.le_refl _) HNC.out).mono ?_
      rintro e wnb ⟨rfl, hbnb⟩
      go_simp
      refine hK.out _ _ (⟨⟨hK1.1.1.trans (Chg.of_below hbnb), hK1.1.2.keep hbnb⟩, keep hbnb hK1.2.1, keep hbnb hK1.2.2.1, keep hbnb hK1.2.2.2.1, keep hbnb hK1.2.2.2.2⟩) (fun hK2 => ?_)
      clear hK K hK1
      (try simp only [Act.put, List.setIfInBounds_toArray, List.set_cons_zero, List.set_cons_succ])
      refine Kept.take (v := ?vb6) 6 (by kernel_rfl) rfl (by kernel_rfl) (fun _ _ _ h => h) (Or.inl ⟨by rfl, ?hyb6⟩) hK2 ?restb6
      case hyb6 =>
        intro w0 hSw
        (try dsimp only at hSw)
        go_simp
        all_goals (with_reducible rfl)
      (try simp only [Act.put, List.setIfInBounds_toArray, List.set_cons_zero, List.set_cons_succ])
      refine Kept.take (v := ?vb7) 7 (by kernel_rfl) rfl (by kernel_rfl) (fun _ _ _ h => h) (Or.inl ⟨by rfl, ?hyb7⟩) hK2 ?restb7
      case hyb7 =>
        intro w0 hSw
        (try dsimp only at hSw)
        go_simp
        all_goals (with_reducible rfl)
      (try simp only [Act.put, List.setIfInBounds_toArray, List.set_cons_zero, List.set_cons_succ])
      refine Kept.one 9 (by kernel_rfl) rfl (fun K hK => ?_)
      go_simp
      go_at_call 47
      refine (below_any G nn 6 _ (by omega) (by omega) hK2.1.2).mono ?_
      rintro e wqY ⟨yY, rfl, hY, hcyY, hchyY⟩
      obtain ⟨Y, rfl⟩ : ∃ Y : Nat, yY = (Y : Int) := ⟨yY.toNat, by omega⟩
      go_simp
      refine hK.out _ _ (⟨⟨hK2.1.1.trans hchyY, hcyY⟩, (hchyY.cell (p := ⟨F, 0, none⟩) (World.block_lt_of_cell? _ _ hK2.2.1) (by dsimp only; omega)).trans hK2.2.1, (hchyY.cell (p := ⟨F, 1, none⟩) (World.block_lt_of_cell? _ _ hK2.2.2.1) (by dsimp only; omega)).trans hK2.2.2.1, (hchyY.cell (p := ⟨F, 2, none⟩) (World.block_lt_of_cell? _ _ hK2.2.2.2.1) (by dsimp only; omega)).trans hK2.2.2.2.1, (hchyY.cell (p := ⟨F, 3, none⟩) (World.block_lt_of_cell? _ _ hK2.2.2.2.2) (by dsimp only; omega)).trans hK2.2.2.2.2⟩) (fun hK3 => ?_)
      clear hK K hK2
      (try simp only [Act.put, List.setIfInBounds_toArray, List.set_cons_zero, List.set_cons_succ])
      refine Kept.take (v := ?vb10) 10 (by kernel_rfl) rfl (by kernel_rfl) (fun _ _ _ h => h) (Or.inl ⟨by rfl, ?hyb10⟩) hK3 ?restb10
      case hyb10 =>
        intro w0 hSw
        (try dsimp only at hSw)
        go_simp
        all_goals (with_reducible rfl)
      (try simp only [Act.put, List.setIfInBounds_toArray, List.set_cons_zero, List.set_cons_succ])
      refine Kept.tail (by rfl) (by kernel_rfl) ?_
      simp only [List.drop_succ_cons, List.drop_zero]
      obtain ⟨PP, QQ, hp, hq, hpN, hqN, hp7, hq7⟩ := chainO HN3.out.2 HN3.out.1.1 (by omega : Y < 6)
      have e3 : IntKind.i64.wrap (2 * (N : Int) - 2) = (PP : Int) := by rw [hp]; exact wrap64_int _ (by omega) (by omega)
      have e5 : IntKind.i64.wrap (2 * (N : Int) - 1) = 2 * (N : Int) - 1 := wrap64_int _ (by omega) (by omega)
      have e4 : IntKind.i64.wrap (IntKind.i64.wrap (2 * (N : Int) - 1) - (Y : Int)) = (QQ : Int) := by rw [e5, hq]; exact wrap64_int _ (by omega) (by omega)
      rw [e3, e4]
      have HRO := Lib.hid (show ∀ r ∈ [(PP : Int), (QQ : Int)], ∃ x : Nat, r = (x : Int) ∧ x / 2 < netN (I, S, D, R) from fun r hr => by
        simp only [List.mem_cons, List.not_mem_nil, or_false] at hr
        rw [HNN.out]
        rcases hr with rfl | rfl
        · exact ⟨PP, rfl, hpN⟩
        · exact ⟨QQ, rfl, hqN⟩)
      have HFO := Lib.hid (show ∀ r ∈ [(PP : Int), (QQ : Int)], Fit r from fun r hr => by
        simp only [List.mem_cons, List.not_mem_nil, or_false] at hr
        unfold Fit
        rcases hr with rfl | rfl <;> omega)
      have HK := Lib.hid (HST.out.call hK3.1.2 hK3.1.1)
      have hbA : Below wqY.heap.size wqY (wqY.alloc (.cells #[.int .i64 (PP : Int), .int .i64 (QQ : Int)] 3)) := bAlloc (Below.refl _ _) (Nat.le_refl _) _
      have HKA := Lib.hid (HK.out.call (HK.out.dr.cur.keep hbA) (Chg.of_below hbA))
      have HOL := Lib.hid (show OwnsI (wqY.alloc (.cells #[.int .i64 (PP : Int), .int .i64 (QQ : Int)] 3)) wqY.heap.size (.slice (some ⟨wqY.heap.size, 0, none⟩) 2 2) [(PP : Int), (QQ : Int)] from World.ownsRow_lit wqY #[.int .i64 (PP : Int), .int .i64 (QQ : Int)] 2 (Nat.le_refl _) (by unfold maxLen; omega) rfl)
      obtain ⟨hV1, hV3⟩ := HV.out
      subst hV1
      have HK9 := Lib.hid (HKA.out.setO HOL.out HFO.out HK.out.dr.chg.size HK.out.dr.res.lt HK.out.dr.box.lt (fun b hb => HK.out.ltS (by simp only [List.mem_cons]; exact .inr (.inr hb))))
      have HP9 := Lib.hid (netP_outs HP.out (by simp) HRO.out)
      have HD9 := Lib.hid (show D.length ≤ 16 by have := HN9.out; omega)
      have y3 := HKA.out.dr.box.cells.1.2.2.2
      have yz := HKA.out.dr.box.cells.2
      have f0 := HK9.out.dr.box.cells.1.1
      have f1 := HK9.out.dr.box.cells.1.2.1
      have f2 := HK9.out.dr.box.cells.1.2.2.1
      have f3 := HK9.out.dr.box.cells.1.2.2.2
      have r0 := HK9.out.dr.res.cells.1.1
      have r1 := HK9.out.dr.res.cells.1.2.1
      have r2 := HK9.out.dr.res.cells.1.2.2.1
      have r3 := HK9.out.dr.res.cells.1.2.2.2
      have rz := HK9.out.dr.res.cells.2
      clear hK3 e2 e3 e4 e5 hp hq hpN hqN hp7 hq7 hbA b0 b1 b2 b3
      go_wp2
      refine NoPanic.normal ?_
      go_wp2
      ((try simp only [Exit.inBlock, Exit.then]); refine bodyPost_ret (v := (.agg #[.int .i64 I, .slice A1 S.length c1, .slice A D.length c, .slice (some ⟨wqY.heap.size, 0, none⟩) 2 2])) (by rw [results_cell1 rfl]; go_simp) rfl ?_)
      have HE := (((((EndSt.of HK9.out).set (i := 0) (u := .int .i64 I)).set (i := 1) (u := .slice A1 S.length c1)).set (i := 2) (u := .slice A D.length c)).set (i := 3) (u := .slice (some ⟨wqY.heap.size, 0, none⟩) 2 2))
      exact ⟨_, _, _, rows, bs, (I, S, D, [(PP : Int), (QQ : Int)]), rfl, HK9.out.own HE HFI.out, netB_of HP9.out, HD9.out, HE.cur, HE.chg⟩
end Go.Proofs.Ytiejilmgchmppaa
