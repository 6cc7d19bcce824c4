/-
  NodeValues: the program.
-/
import Derived.Test.YtaebiiopommhdaaNrP
import Derived.Deep.RegionHeld3
namespace Go.Proofs.Ytaebiiopommhdaa
open Go.RowKit
set_option linter.unusedVariables false
set_option linter.unusedSimpArgs false

theorem litO_nat {V : List Int} {l : Nat} {x : Int} (hx : V[l / 2]? = some x) (h : 0 ≤ x ∧ x ≤ 1) : litO V (l : Int) = bitV V l := litO_good hx h.1 h.2
set_option maxRecDepth 100000 in
set_option maxHeartbeats 12800000 in
theorem implRunVals_at (n : DNet) (st : List Int) (xv : Int) (rb : Nat) (us : List Value) (v : Value) (w : World) (h : rdNet 0 w.heap.size w us n) (hv : rdIntS 0 w.heap.size w [v] st)
    (hc : ∀ (i : Nat) (u : Value), us[i]? = some u → w.cell? ⟨rb, i, none⟩ = some u) (hc4 : w.cell? ⟨rb, 4, none⟩ = some v) (hT : StateP n st) {L : List Int} (hL : valO n st xv = L) :
    Calls Try.prog 47 #[.pointer (some ⟨rb, 0, none⟩), .int .i64 xv] w fun e w' => ∃ v', e = .returned v' ∧ OwnsI w' w.heap.size v' L ∧ Below w.heap.size w w' := by
  obtain ⟨i0, hi, hz0, hz1, hz2⟩ := info_parts infoI
  have HD := Lib.hid h
  have HV := Lib.hid hv
  have hP := netP_of hT.net
  have HE := Lib.hid ((valO_app xv hT).symm.trans hL)
  have HP := Lib.hid hP
  have HST := Lib.hid hT
  have a300 := hP.sz.a300
  have s12 := hP.sz.s12
  obtain ⟨I, hI⟩ : ∃ I : Nat, n.1.toNat = I := ⟨_, rfl⟩
  have HI0 := Lib.hid (show n.1 = (I : Int) by rw [← hI]; exact hP.sz.i0)
  have i20 : I ≤ 20 := by rw [← hI]; exact hP.sz.i20
  have HI := Lib.hid hI
  obtain ⟨vA, vc, rfl, vm, -⟩ := slice_of hv
  obtain ⟨mu0, mu1, mu2, mu3, rfl, mh0, mh1, mh2, mh3⟩ := h
  obtain ⟨me0, -⟩ := mh0
  injection me0 with me0
  subst me0
  obtain ⟨mA1, mc1, me1, mm1, -⟩ := slice_of mh1
  subst me1
  have mR1 := Lib.hid mh1
  clear mh1
  obtain ⟨mA2, mc2, me2, mm2, -⟩ := slice_of mh2
  subst me2
  have mR2 := Lib.hid mh2
  clear mh2
  obtain ⟨mA3, mc3, me3, mm3, -⟩ := slice_of mh3
  subst me3
  have mR3 := Lib.hid mh3
  clear mh3
  have HE0 := Lib.hid (hc 0 _ rfl)
  have HE1 := Lib.hid (hc 1 _ rfl)
  have HE2 := Lib.hid (hc 2 _ rfl)
  have HE3 := Lib.hid (hc 3 _ rfl)
  have HE4 := Lib.hid hc4
  have d0 := HE0.out
  rw [HI0.out] at d0
  replace d0 : (w.alloc (.cells #[.int .i64 0] 3)).cell? ⟨rb, 0, none⟩ = some (.int .i64 (I : Int)) := keep (bAlloc (Below.refl _ _) (Nat.le_refl _) _) d0
  clear hc hc4 hL hP hT hI hv
  go_enter Try.func47, Try.ntmps47
  go_wp2
  have HO := Lib.hid (show OwnsI (w.alloc (.cells #[.int .i64 0] 3)) w.heap.size (.slice (some ⟨w.heap.size, 0, none⟩) 1 1) (insA xv 0) from World.ownsRow_lit w #[.int .i64 0] 1 (Nat.le_refl _) (by unfold maxLen; omega) rfl)
  have HB := Lib.hid (show Below w.heap.size w (w.alloc (.cells #[.int .i64 0] 3)) from bAlloc (Below.refl _ _) (Nat.le_refl _) _)
  clear d0
  go_loopw [5, 17] (fun s z wr => ∃ (k : Nat) (A : Option Addr) (c : Nat), k ≤ I ∧ z = .int .i64 (k : Int) ∧ s = .slice A (insA xv k).length c ∧ OwnsI wr w.heap.size (.slice A (insA xv k).length c) (insA xv k) ∧ Below w.heap.size w wr) (fun _ z _ => I - (intOf z).toNat)
  case atStart => exact ⟨0, _, _, Nat.zero_le _, rfl, rfl, HO.out, HB.out⟩
  case round =>
    obtain ⟨k, A, c, hk, rfl, rfl, hown, hb⟩ := hrel
    obtain ⟨w3, rfl⟩ : ∃ w3, w3 = wr := ⟨_, rfl⟩
    clear HO HB
    have HO := Lib.hid hown
    have HB := Lib.hid hb
    have c0 := keep hb HE0.out
    have c1 := keep hb HE1.out
    have c2 := keep hb HE2.out
    have c3 := keep hb HE3.out
    have c4 := keep hb HE4.out
    clear hown hb
    rw [HI0.out] at c0
    by_cases hlt : k < I
    · obtain ⟨KL, hK⟩ : ∃ KL, insA xv k = KL := ⟨_, rfl⟩
      have hlen : KL.length ≤ 21 := by rw [← hK, insA_len]; omega
      have HKS := Lib.hid (show insA xv (k + 1) = KL ++ [xv / 2 ^ k % 2] by rw [insA_step, hK])
      rw [hK] at HO ⊢
      obtain ⟨y, hy⟩ : ∃ y, xv / 2 ^ k % 2 = y := ⟨_, rfl⟩
      rw [hy] at HKS
      have HY := Lib.hid hy
      have tk : (k : Int) < (I : Int) := by omega
      clear hK hy
      go_wp2_with fail
      refine (bitOf_at xv k (by omega) _ HY.out).mono ?_
      rintro e w4 ⟨rfl, rfl⟩
      have HBA := Lib.hid (show Below w3.heap.size w3 (w3.alloc (.cells #[.int .i64 y] 3)) from bAlloc (Below.refl _ _) (Nat.le_refl _) _)
      have HBB := Lib.hid (bThen HB.out HBA.out)
      have hsz := HBB.out.size
      have HOA := Lib.hid (HO.out.below HBA.out)
      clear c0 c1 c2 c3 c4
      go_wp2_with (at_builtin; refine wpList_append_all (by rfl) _ _ 26 (by rfl) w.heap.size 3 i0 (.int .i64 0) 1 8 Try.underlying26 hi hz0 hz1 hz2 rfl (by omega) (.slice A KL.length c) KL.length (KL.map vI) (by rfl) HOA.out (some ⟨w3.heap.size, 0, none⟩) 1 1 [.int .i64 y] (by rfl) (by rfl) (.inr ⟨_, rfl, World.news_of_block (heap_alloc_new _ _)⟩) (by simp [Value.oneCell']) (by unfold maxLen; omega) (by omega) hsz ?_; intro A' c' w7 hown7 hgrow7 hkeep7 hat7)
      have HB7 := Lib.hid ((HBB.out.grown hgrow7 HBB.out.size (fun g hg => (HO.out.lt g hg).1)))
      have HO7 := Lib.hid (show OwnsI w7 w.heap.size (.slice A' (KL.length + 1) c') (KL ++ [y]) from (by unfold OwnsI; rw [List.length_append, List.map_append]; exact hown7))
      clear hown7 hgrow7 hkeep7 hat7 hsz
      go_roundw
      case rel => exact ⟨k + 1, A', c', by omega, by go_num, by rw [HKS.out, List.length_append]; rfl, by rw [HKS.out, List.length_append]; exact HO7.out, HB7.out⟩
      case measure => simp [intOf] <;> omega
    · obtain rfl : I = k := by omega
      have HO2 := Lib.hid (show OwnsI w3 w.heap.size (.slice A (regA st xv I 0).length c) (regA st xv I 0) by rw [regA_zero]; exact HO.out)
      rw [show insA xv I = regA st xv I 0 from (regA_zero _ _ _).symm]
      clear hlt HO
      have HO := Lib.hid HO2.out
      clear HO2
      go_wp2
      go_loopw [5, 32] (fun s z wr => ∃ (k : Nat) (A : Option Addr) (c : Nat), k ≤ st.length ∧ z = .int .i64 (k : Int) ∧ s = .slice A (regA st xv I k).length c ∧ OwnsI wr w.heap.size (.slice A (regA st xv I k).length c) (regA st xv I k) ∧ Below w.heap.size w wr) (fun _ z _ => st.length - (intOf z).toNat)
      case atStart => exact ⟨0, A, c, Nat.zero_le _, rfl, rfl, HO.out, HB.out⟩
      case round =>
        clear c0 c1 c2 c3 c4
        obtain ⟨k, A, c, hk, rfl, rfl, hown, hb⟩ := hrel
        obtain ⟨w3, rfl⟩ : ∃ w3, w3 = wr := ⟨_, rfl⟩
        clear HO HB
        have HO := Lib.hid hown
        have HB := Lib.hid hb
        have c0 := keep hb HE0.out
        have c1 := keep hb HE1.out
        have c2 := keep hb HE2.out
        have c3 := keep hb HE3.out
        have c4 := keep hb HE4.out
        clear hown hb
        have hsl : st.length ≤ 12 := by have := HST.out.len; omega
        by_cases hlt : k < st.length
        · obtain ⟨x, hx⟩ : ∃ x, st[k]? = some x := ⟨_, List.getElem?_eq_getElem hlt⟩
          obtain ⟨vb, vq, rfl, vb1, xc, -⟩ := at_Int (good_IntS.below HV.out (Nat.le_refl _) HB.out) hx
          have vb2 := Nat.lt_of_lt_of_le vb1 HB.out.size
          obtain ⟨KL, hK⟩ : ∃ KL, regA st xv I k = KL := ⟨_, rfl⟩
          have hlen : KL.length ≤ 33 := by rw [← hK, regA_len xv (by omega)]; omega
          have HKS := Lib.hid (show regA st xv I (k + 1) = KL ++ [x % 2] by rw [regA_step hx, hK])
          rw [hK] at HO ⊢
          obtain ⟨y, hy⟩ : ∃ y, x % 2 = y := ⟨_, rfl⟩
          rw [hy] at HKS
          have HY := Lib.hid (show x / 2 ^ 0 % 2 = y by rw [← hy]; simp)
          have tk2 : (k : Int) < (st.length : Int) := by omega
          clear hK hy hx vb1 hsl
          go_wp2_with fail
          refine (bitOf_at x 0 (by omega) _ HY.out).mono ?_
          rintro e w4 ⟨rfl, rfl⟩
          have HBA := Lib.hid (show Below w3.heap.size w3 (w3.alloc (.cells #[.int .i64 y] 3)) from bAlloc (Below.refl _ _) (Nat.le_refl _) _)
          have HBB := Lib.hid (bThen HB.out HBA.out)
          have hsz := HBB.out.size
          have HOA := Lib.hid (HO.out.below HBA.out)
          clear c0 c1 c2 c3 c4 xc
          go_wp2_with (at_builtin; refine wpList_append_all (by rfl) _ _ 26 (by rfl) w.heap.size 3 i0 (.int .i64 0) 1 8 Try.underlying26 hi hz0 hz1 hz2 rfl (by omega) (.slice A KL.length c) KL.length (KL.map vI) (by rfl) HOA.out (some ⟨w3.heap.size, 0, none⟩) 1 1 [.int .i64 y] (by rfl) (by rfl) (.inr ⟨_, rfl, World.news_of_block (heap_alloc_new _ _)⟩) (by simp [Value.oneCell']) (by unfold maxLen; omega) (by omega) hsz ?_; intro A' c' w7 hown7 hgrow7 hkeep7 hat7)
          have HB7 := Lib.hid ((HBB.out.grown hgrow7 HBB.out.size (fun g hg => (HO.out.lt g hg).1)))
          have HO7 := Lib.hid (show OwnsI w7 w.heap.size (.slice A' (KL.length + 1) c') (KL ++ [y]) from (by unfold OwnsI; rw [List.length_append, List.map_append]; exact hown7))
          clear hown7 hgrow7 hkeep7 hat7 hsz
          go_roundw
          case rel => exact ⟨k + 1, A', c', by omega, by go_num, by rw [HKS.out, List.length_append]; rfl, by rw [HKS.out, List.length_append]; exact HO7.out, HB7.out⟩
          case measure => simp [intOf] <;> omega
        · obtain rfl : k = st.length := by omega
          have e0 : regA st xv I st.length = valA n st xv 0 := by unfold valA; rw [HI.out, HST.out.len]
          rw [e0] at HO ⊢
          clear hlt e0 hsl
          go_wp2
          go_loopw [5, 48] (fun s z wr => ∃ (k : Nat) (A : Option Addr) (c : Nat), k ≤ n.2.2.1.length ∧ z = .int .i64 (k : Int) ∧ s = .slice A (valA n st xv k).length c ∧ OwnsI wr w.heap.size (.slice A (valA n st xv k).length c) (valA n st xv k) ∧ Below w.heap.size w wr) (fun _ z _ => n.2.2.1.length - (intOf z).toNat)
          case atStart => exact ⟨0, A, c, Nat.zero_le _, rfl, rfl, HO.out, HB.out⟩
          case round =>
            clear c0 c1 c2 c3 c4
            obtain ⟨k, A, c, hk, rfl, rfl, hown, hb⟩ := hrel
            obtain ⟨w3, rfl⟩ : ∃ w3, w3 = wr := ⟨_, rfl⟩
            clear HO HB
            have HO := Lib.hid hown
            have HB := Lib.hid hb
            have c0 := keep hb HE0.out
            have c1 := keep hb HE1.out
            have c2 := keep hb HE2.out
            have c3 := keep hb HE3.out
            have c4 := keep hb HE4.out
            clear hown hb
            by_cases hlt : k < n.2.2.1.length
            · obtain ⟨a, ha⟩ : ∃ a, n.2.2.1[k]? = some a := ⟨_, List.getElem?_eq_getElem hlt⟩
              obtain ⟨x, y, rfl, hx, hy⟩ := HP.out.and_ k a ha
              obtain ⟨ab, aq, rfl, ab1, x0, xf, x1, yf⟩ := at_And (good_AndS.below mR2.out (Nat.le_refl _) HB.out) ha
              have ab2 := Nat.lt_of_lt_of_le ab1 HB.out.size
              dsimp only at x0 x1 xf yf
              have HFX := Lib.hid (And.intro xf yf)
              obtain ⟨KL, hK⟩ : ∃ KL, valA n st xv k = KL := ⟨_, rfl⟩
              have hlen0 : KL.length = firN n + k := by rw [← hK]; exact (valK_app xv HP.out HST.out.len k hk).2
              have hf33 := HP.out.sz.fir_le
              have hlen : KL.length ≤ 333 := by omega
              have hin := fun j => valA_in xv HP.out HST.out.len hk j
              rw [hK] at hin
              have hxK := hin (x / 2)
              have hyK := hin (y / 2)
              obtain ⟨bx, hbx⟩ : ∃ bx, bitV KL x = bx := ⟨_, rfl⟩
              obtain ⟨byy, hby⟩ : ∃ byy, bitV KL y = byy := ⟨_, rfl⟩
              have HBX := Lib.hid (show litO KL (x : Int) = bx by rw [← hbx]; exact litO_nat (get_of_len rfl (by omega)) hxK)
              have HBY := Lib.hid (show litO KL (y : Int) = byy by rw [← hby]; exact litO_nat (get_of_len rfl (by omega)) hyK)
              have bx2 := bitV_in KL x
              have by2 := bitV_in KL y
              rw [hbx] at bx2
              rw [hby] at by2
              obtain ⟨y9, hy9⟩ : ∃ y9, bx * byy = y9 := ⟨_, rfl⟩
              have e2 := and_01 bx2 by2
              rw [hy9] at e2
              have HKS := Lib.hid (show valA n st xv (k + 1) = KL ++ [y9] by rw [valA_step ha, hK, hbx, hby, hy9])
              have HFT := Lib.hid (fit_01 hin)
              rw [hK] at HO ⊢
              have tk : (k : Int) < (n.2.2.1.length : Int) := by omega
              clear ha hx hy hK hlen0 hf33 hin hxK hyK hbx hby hy9 xf yf ab1 bx2 by2
              go_wp2_with fail
              obtain ⟨V, hV⟩ : ∃ V, V = w3.alloc (.cells #[.int .i64 (x : Int), .int .i64 (y : Int)] 78) := ⟨_, rfl⟩
              rw [← hV]
              have gN := eqbox1 hV
              have y0 : V.cell? ⟨w3.heap.size, 0, none⟩ = some (.int .i64 (x : Int)) := box_cell gN.1 0 _ rfl
              have y1 : V.cell? ⟨w3.heap.size, 1, none⟩ = some (.int .i64 (y : Int)) := box_cell gN.1 1 _ rfl
              replace c0 := keep gN.2 c0
              replace c1 := keep gN.2 c1
              replace c2 := keep gN.2 c2
              replace c3 := keep gN.2 c3
              replace c4 := keep gN.2 c4
              have HBV := Lib.hid (bThen HB.out gN.2)
              have HOV := Lib.hid (HO.out.below gN.2)
              have HRV := Lib.hid (ownI_rd HOV.out HFT.out)
              clear hV gN x0 x1
              have hS0 : (fun w' => Below V.heap.size V w' ∧ w'.cell? ⟨rb, 0, none⟩ = some (.int .i64 n.1) ∧ w'.cell? ⟨rb, 1, none⟩ = some (.slice mA1 (n.2.1).length mc1) ∧ w'.cell? ⟨rb, 2, none⟩ = some (.slice (some ⟨ab, aq, none⟩) (n.2.2.1).length mc2) ∧ w'.cell? ⟨rb, 3, none⟩ = some (.slice mA3 (n.2.2.2).length mc3) ∧ w'.cell? ⟨w3.heap.size, 0, none⟩ = some (.int .i64 (x : Int)) ∧ w'.cell? ⟨w3.heap.size, 1, none⟩ = some (.int .i64 (y : Int))) V := ⟨Below.refl _ _, c0, c1, c2, c3, y0, y1⟩
              have hS : ∀ {w0 w' : World}, (fun w' => Below V.heap.size V w' ∧ w'.cell? ⟨rb, 0, none⟩ = some (.int .i64 n.1) ∧ w'.cell? ⟨rb, 1, none⟩ = some (.slice mA1 (n.2.1).length mc1) ∧ w'.cell? ⟨rb, 2, none⟩ = some (.slice (some ⟨ab, aq, none⟩) (n.2.2.1).length mc2) ∧ w'.cell? ⟨rb, 3, none⟩ = some (.slice mA3 (n.2.2.2).length mc3) ∧ w'.cell? ⟨w3.heap.size, 0, none⟩ = some (.int .i64 (x : Int)) ∧ w'.cell? ⟨w3.heap.size, 1, none⟩ = some (.int .i64 (y : Int))) w0 → Below w0.heap.size w0 w' → (fun w' => Below V.heap.size V w' ∧ w'.cell? ⟨rb, 0, none⟩ = some (.int .i64 n.1) ∧ w'.cell? ⟨rb, 1, none⟩ = some (.slice mA1 (n.2.1).length mc1) ∧ w'.cell? ⟨rb, 2, none⟩ = some (.slice (some ⟨ab, aq, none⟩) (n.2.2.1).length mc2) ∧ w'.cell? ⟨rb, 3, none⟩ = some (.slice mA3 (n.2.2.2).length mc3) ∧ w'.cell? ⟨w3.heap.size, 0, none⟩ = some (.int .i64 (x : Int)) ∧ w'.cell? ⟨w3.heap.size, 1, none⟩ = some (.int .i64 (y : Int))) w' := fun h hb => ⟨bThen h.1 hb, keep hb h.2.1, keep hb h.2.2.1, keep hb h.2.2.2.1, keep hb h.2.2.2.2.1, keep hb h.2.2.2.2.2.1, keep hb h.2.2.2.2.2.2⟩
              dsimp only at hS0 hS
              refine wp_region_noPanic ?_
              refine wp_region_kept 11 13 (fun w' => Below V.heap.size V w' ∧ w'.cell? ⟨rb, 0, none⟩ = some (.int .i64 n.1) ∧ w'.cell? ⟨rb, 1, none⟩ = some (.slice mA1 (n.2.1).length mc1) ∧ w'.cell? ⟨rb, 2, none⟩ = some (.slice (some ⟨ab, aq, none⟩) (n.2.2.1).length mc2) ∧ w'.cell? ⟨rb, 3, none⟩ = some (.slice mA3 (n.2.2.2).length mc3) ∧ w'.cell? ⟨w3.heap.size, 0, none⟩ = some (.int .i64 (x : Int)) ∧ w'.cell? ⟨w3.heap.size, 1, none⟩ = some (.int .i64 (y : Int))) (by kernel_rfl) rfl (hS hS0 (Below.drew (Below.refl _ _))) (fun hK0 => ?_)
              refine Kept.take (v := ?vc0) 0 (by kernel_rfl) rfl (by kernel_rfl) (fun _ _ _ h => h) (Or.inl ⟨by rfl, ?hyc0⟩) hK0 ?restc0
              case hyc0 =>
                intro w0 hSw
                (try dsimp only at hSw)
                go_simp
                all_goals (with_reducible rfl)
              (try simp only [Act.put, List.setIfInBounds_toArray, List.set_cons_zero, List.set_cons_succ])
              refine Kept.take (v := ?vc1) 1 (by kernel_rfl) rfl (by kernel_rfl) (fun _ _ _ h => h) (Or.inl ⟨by rfl, ?hyc1⟩) hK0 ?restc1
              case hyc1 =>
                intro w0 hSw
                (try dsimp only at hSw)
                go_simp
                all_goals (with_reducible rfl)
              (try simp only [Act.put, List.setIfInBounds_toArray, List.set_cons_zero, List.set_cons_succ])
              refine Kept.take (v := ?vc2) 2 (by kernel_rfl) rfl (by kernel_rfl) (fun _ _ _ h => h) (Or.inl ⟨by rfl, ?hyc2⟩) hK0 ?restc2
              case hyc2 =>
                intro w0 hSw
                (try dsimp only at hSw)
                go_simp
                all_goals (with_reducible rfl)
              (try simp only [Act.put, List.setIfInBounds_toArray, List.set_cons_zero, List.set_cons_succ])
              refine Kept.take (v := ?vc3) 3 (by kernel_rfl) rfl (by kernel_rfl) (fun _ _ _ h => h) (Or.inl ⟨by rfl, ?hyc3⟩) hK0 ?restc3
              case hyc3 =>
                intro w0 hSw
                (try dsimp only at hSw)
                go_simp
                all_goals (with_reducible rfl)
              (try simp only [Act.put, List.setIfInBounds_toArray, List.set_cons_zero, List.set_cons_succ])
              refine Kept.take (v := ?vc5) 5 (by kernel_rfl) rfl (by kernel_rfl) (fun _ _ _ h => h) (Or.inl ⟨by rfl, ?hyc5⟩) hK0 ?restc5
              case hyc5 =>
                intro w0 hSw
                (try dsimp only at hSw)
                go_simp
                all_goals (with_reducible rfl)
              (try simp only [Act.put, List.setIfInBounds_toArray, List.set_cons_zero, List.set_cons_succ])
              refine Kept.take (v := ?vc6) 6 (by kernel_rfl) rfl (by kernel_rfl) (fun _ _ _ h => h) (Or.inl ⟨by rfl, ?hyc6⟩) hK0 ?restc6
              case hyc6 =>
                intro w0 hSw
                (try dsimp only at hSw)
                go_simp
                all_goals (with_reducible rfl)
              (try simp only [Act.put, List.setIfInBounds_toArray, List.set_cons_zero, List.set_cons_succ])
              refine Kept.take (v := ?vc7) 7 (by kernel_rfl) rfl (by kernel_rfl) (fun _ _ _ h => h) (Or.inl ⟨by rfl, ?hyc7⟩) hK0 ?restc7
              case hyc7 =>
                intro w0 hSw
                (try dsimp only at hSw)
                go_simp
                all_goals (with_reducible rfl)
              (try simp only [Act.put, List.setIfInBounds_toArray, List.set_cons_zero, List.set_cons_succ])
              refine Kept.one 4 (by kernel_rfl) rfl (fun K hK => ?_)
              go_simp
              go_at_call 36
              refine (implLitV_at KL (x : Int) HFX.out.1 _ _ (good_IntS.below HRV.out (Nat.le_refl _) hK0.1) hK0.1.size HBX.out).mono ?_
              rintro e wr0 ⟨rfl, hbr0⟩
              go_simp
              refine hK.out _ _ (hS hK0 hbr0) (fun hK1 => ?_)
              clear hK K hK0
              (try simp only [Act.put, List.setIfInBounds_toArray, List.set_cons_zero, List.set_cons_succ])
              refine Kept.one 8 (by kernel_rfl) rfl (fun K hK => ?_)
              go_simp
              go_at_call 36
              refine (implLitV_at KL (y : Int) HFX.out.2 _ _ (good_IntS.below HRV.out (Nat.le_refl _) hK1.1) hK1.1.size HBY.out).mono ?_
              rintro e wr1 ⟨rfl, hbr1⟩
              go_simp
              refine hK.out _ _ (hS hK1 hbr1) (fun hK2 => ?_)
              clear hK K hK1
              (try simp only [Act.put, List.setIfInBounds_toArray, List.set_cons_zero, List.set_cons_succ])
              refine Kept.take (v := ?vc9) 9 (by kernel_rfl) rfl (by kernel_rfl) (fun _ _ _ h => h) (Or.inl ⟨by rfl, ?hyc9⟩) hK2 ?restc9
              case hyc9 =>
                intro w0 hSw
                (try dsimp only at hSw)
                go_simp
                all_goals (with_reducible rfl)
              (try simp only [Act.put, List.setIfInBounds_toArray, List.set_cons_zero, List.set_cons_succ])
              refine Kept.one 10 (by kernel_rfl) rfl (fun K hK => ?_)
              go_simp
              refine hK.out _ _ (hS hK2 (bAlloc (Below.refl _ _) (Nat.le_refl _) _)) (fun hK3 => ?_)
              clear hK K hK2
              (try simp only [Act.put, List.setIfInBounds_toArray, List.set_cons_zero, List.set_cons_succ])
              refine Kept.tail (by rfl) (by kernel_rfl) ?_
              simp only [List.drop_succ_cons, List.drop_zero]
              have HBA := Lib.hid (show Below V.heap.size V (wr1.alloc (.cells #[.int .i64 y9] 3)) from hK3.1)
              have HBB := Lib.hid (bThen HBV.out HBA.out)
              have hsz := HBB.out.size
              have HOA := Lib.hid (HOV.out.below HBA.out)
              clear c0 c1 c2 c3 c4 y0 y1 hS0 hS hK3
              go_wp2_with (at_builtin; refine wpList_append_all (by rfl) _ _ 26 (by rfl) w.heap.size 3 i0 (.int .i64 0) 1 8 Try.underlying26 hi hz0 hz1 hz2 rfl (by omega) (.slice A KL.length c) KL.length (KL.map vI) (by rfl) HOA.out (some ⟨wr1.heap.size, 0, none⟩) 1 1 [.int .i64 y9] (by rfl) (by rfl) (.inr ⟨_, rfl, World.news_of_block (heap_alloc_new _ _)⟩) (by simp [Value.oneCell']) (by unfold maxLen; omega) (by omega) hsz ?_; intro A' c' w7 hown7 hgrow7 hkeep7 hat7)
              refine NoPanic.normal ?_
              have HB7 := Lib.hid ((HBB.out.grown hgrow7 HBB.out.size (fun g hg => (HOV.out.lt g hg).1)))
              have HO7 := Lib.hid (show OwnsI w7 w.heap.size (.slice A' (KL.length + 1) c') (KL ++ [y9]) from (by unfold OwnsI; rw [List.length_append, List.map_append]; exact hown7))
              clear hown7 hgrow7 hkeep7 hat7 hsz
              go_wp2
              go_roundw
              case rel => exact ⟨k + 1, A', c', by omega, by go_num, by rw [HKS.out, List.length_append]; rfl, by rw [HKS.out, List.length_append]; exact HO7.out, HB7.out⟩
              case measure => simp [intOf] <;> omega
            · obtain rfl : k = n.2.2.1.length := by omega
              clear hlt c0 c1 c2 c3 c4
              rw [HE.out] at HO ⊢
              go_wp2
              go_ret
              exact ⟨_, rfl, HO.out, HB.out⟩
end Go.Proofs.Ytaebiiopommhdaa
