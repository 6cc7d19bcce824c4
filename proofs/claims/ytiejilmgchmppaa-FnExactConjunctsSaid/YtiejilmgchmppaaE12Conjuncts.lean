/-
  The walk of the exact law over Conjuncts.
-/
import Derived.Test.YtiejilmgchmppaaDmN
import Derived.Test.YtiejilmgchmppaaDzN
import Derived.Test.YtiejilmgchmppaaDoN
import Derived.Test.YtiejilmgchmppaaOlD
import Derived.Test.YtiejilmgchmppaaRgN
import Derived.Deep.RegionHeld3
namespace Go.Proofs.Ytiejilmgchmppaa
open Go.RowKit
set_option linter.unusedVariables false
set_option linter.unusedSimpArgs false
theorem below_sims {B T N : Nat} {a w1 w2 : World} (hb : Below N a w1) (h : Sims B T w1 w2) (hN : N ≤ B ∧ N ≤ w1.heap.size) : Below N a w2 :=
  ⟨h.os.trans hb.os, h.tape.trans hb.tape, h.output.trans hb.output, Nat.le_trans hb.size h.size, fun k hk => (h.block k (Nat.lt_of_lt_of_le hk hN.2) (.inl (Nat.lt_of_lt_of_le hk hN.1))).trans (hb.block k hk)⟩
theorem below_chg {bs : List Nat} {N : Nat} {a w1 w2 : World} (hb : Below N a w1) (h : ChgL bs w1 w2) (hN : ∀ b ∈ bs, N ≤ b) (hs : N ≤ w1.heap.size := by omega) : Below N a w2 :=
  ⟨h.os.trans hb.os, h.tape.trans hb.tape, h.output.trans hb.output, Nat.le_trans hb.size h.size, fun k hk => (h.block k (Nat.lt_of_lt_of_le hk hs) (fun hm => by have := hN k hm; omega)).trans (hb.block k hk)⟩

theorem specGConj (n : DNet) (vq : Int) (hvf : Fit vq) (us : List Value) (w : World) (h : rdNet 0 w.heap.size w us n) {L : List Int} (hL : conjO n vq = L) :
    Calls Try.prog 14 #[.agg us.toArray, .int .i64 vq] w fun e w' => ∃ (v : Value) (bs : List Nat), e = .returned v ∧ owIntS bs w' [v] L ∧ bs.Nodup ∧ (∀ b ∈ bs, w.heap.size ≤ b ∧ b < w'.heap.size) ∧ Below w.heap.size w w' := by
  refine (specConj_at n vq hvf us w h hL).mono ?_
  rintro e w' ⟨v, rfl, ho, hb⟩
  refine ⟨v, blkL v, rfl, ownI_ow ho (by rw [← hL]; exact (conjO_in n vq).2), by unfold blkL; cases v.ownBlock <;> simp, fun b hbm => ho.lt b (mem_blkL.1 hbm), hb⟩

theorem implGConj (n : DNet) (vq : Int) (hvf : Fit vq) (us : List Value) (w : World) (h : rdNet 0 w.heap.size w us n) {L : List Int} (hL : conjO n vq = L) :
    Calls Try.prog 11 #[.agg us.toArray, .int .i64 vq] w fun e w' => ∃ (v : Value) (bs : List Nat), e = .returned v ∧ owIntS bs w' [v] L ∧ bs.Nodup ∧ (∀ b ∈ bs, w.heap.size ≤ b ∧ b < w'.heap.size) ∧ Below w.heap.size w w' := by
  refine (implConj_at n vq hvf us w h hL).mono ?_
  rintro e w' ⟨v, rfl, ho, hb⟩
  refine ⟨v, blkL v, rfl, ownI_ow ho (by rw [← hL]; exact (conjO_in n vq).2), by unfold blkL; cases v.ownBlock <;> simp, fun b hbm => ho.lt b (mem_blkL.1 hbm), hb⟩

set_option maxRecDepth 100000 in
set_option maxHeartbeats 25600000 in
theorem exactConj_walk (av0 av1 av2 av3 : Value) (za : DNet) (kv : Int) (hkv : Fit kv) (w : World) (ha : rdNet 0 w.heap.size w [av0, av1, av2, av3] za) :
    Calls Try.prog 4 #[.agg #[av0, av1, av2, av3], .int .i64 kv] w fun e w' => e = .returned (.bool true) ∧ Below w.heap.size w w' := by
  have HDa := Lib.hid ha
  obtain ⟨aw0, aw1, aw2, aw3, ade, ah0, ah1, ah2, ah3⟩ := ha
  injection ade with ad0 ade
  injection ade with ad1 ade
  injection ade with ad2 ade
  injection ade with ad3 ade
  subst ad0 ad1 ad2 ad3
  clear ade
  obtain ⟨ae0, -⟩ := ah0
  injection ae0 with ae0
  subst ae0
  obtain ⟨aA1, ac1, ae1, am1, -⟩ := ah1
  injection ae1 with ae1
  subst ae1
  unfold maxLen at am1
  obtain ⟨aA2, ac2, ae2, am2, -⟩ := ah2
  injection ae2 with ae2
  subst ae2
  unfold maxLen at am2
  obtain ⟨aA3, ac3, ae3, am3, -⟩ := ah3
  injection ae3 with ae3
  subst ae3
  unfold maxLen at am3
  have HFkv := Lib.hid hkv
  clear hkv
  obtain ⟨r0, hr0⟩ : ∃ r0, conjO za kv = r0 := ⟨_, rfl⟩
  have HR0 := Lib.hid hr0
  have HBD := Lib.hid (show r0.length ≤ 666 by rw [← hr0]; exact (conjO_in za kv).1)
  clear hr0
  have HW := Lib.hid (Below.refl w.heap.size w)
  go_enter Try.func4, Try.ntmps4
  go_wp2_with fail
  obtain ⟨V1, hV⟩ : ∃ V1, V1 = (w.alloc (.cells #[.int .i64 za.1, .slice aA1 (za.2.1).length ac1, .slice aA2 (za.2.2.1).length ac2, .slice aA3 (za.2.2.2).length ac3] 39)) := ⟨_, rfl⟩
  rw [← hV]
  have gN := eqbox1 hV
  have aa0 : V1.cell? ⟨w.heap.size, 0, none⟩ = some (.int .i64 za.1) := box_cell gN.1 0 _ rfl
  have aa1 : V1.cell? ⟨w.heap.size, 1, none⟩ = some (.slice aA1 (za.2.1).length ac1) := box_cell gN.1 1 _ rfl
  have aa2 : V1.cell? ⟨w.heap.size, 2, none⟩ = some (.slice aA2 (za.2.2.1).length ac2) := box_cell gN.1 2 _ rfl
  have aa3 : V1.cell? ⟨w.heap.size, 3, none⟩ = some (.slice aA3 (za.2.2.2).length ac3) := box_cell gN.1 3 _ rfl
  have t1 : V1.heap.size = w.heap.size + 1 := by rw [hV]; simp
  replace HW := Lib.hid (bThen HW.out gN.2)
  have s1 : w.heap.size ≤ V1.heap.size := (gN.2).size
  clear hV gN
  refine (szNet_post za [.int .i64 za.1, .slice aA1 (za.2.1).length ac1, .slice aA2 (za.2.2.1).length ac2, .slice aA3 (za.2.2.2).length ac3] 1048576 _ (good_Net.below HDa.out (Nat.le_refl _) HW.out) HW.out.size (by omega) (by omega)).mono ?_
  rintro e w2 ⟨lfa, rfl, hrN, hbN⟩
  replace aa0 := keep hbN aa0
  replace aa1 := keep hbN aa1
  replace aa2 := keep hbN aa2
  replace aa3 := keep hbN aa3
  replace HW := Lib.hid (bThen HW.out hbN)
  have s2 : V1.heap.size ≤ w2.heap.size := (hbN).size
  clear hbN
  rcases hrN with rfl | ⟨pa, qa, sN⟩
  · go_wp2
    go_ret
    exact ⟨rfl, HW.out⟩
  have ta : ¬ lfa < 0 := by omega
  have HSa := Lib.hid sN
  clear sN
  go_wp2_with fail
  refine (toNet_any za [.int .i64 za.1, .slice aA1 (za.2.1).length ac1, .slice aA2 (za.2.2.1).length ac2, .slice aA3 (za.2.2.2).length ac3] _ (good_Net.below HDa.out (Nat.le_refl _) HW.out) HW.out.size HSa.out).mono ?_
  rintro e w3 ⟨y0, rfl, hxN, hbN⟩
  replace aa0 := keep hbN aa0
  replace aa1 := keep hbN aa1
  replace aa2 := keep hbN aa2
  replace aa3 := keep hbN aa3
  replace HW := Lib.hid (bThen HW.out hbN)
  have s3 : w2.heap.size ≤ w3.heap.size := (hbN).size
  have Hy0 := Lib.hid hxN
  have By0 := Lib.hid (Below.refl w3.heap.size w3)
  obtain ⟨y0u0, y0u1, y0u2, y0u3, rfl, y0h0, y0h1, y0h2, y0h3⟩ := hxN
  obtain ⟨y0e0, -⟩ := y0h0
  injection y0e0 with y0e0
  subst y0e0
  obtain ⟨y0A1, y0c1, y0e1, y0m1, -⟩ := y0h1
  injection y0e1 with y0e1
  subst y0e1
  unfold maxLen at y0m1
  obtain ⟨y0A2, y0c2, y0e2, y0m2, -⟩ := y0h2
  injection y0e2 with y0e2
  subst y0e2
  unfold maxLen at y0m2
  obtain ⟨y0A3, y0c3, y0e3, y0m3, -⟩ := y0h3
  injection y0e3 with y0e3
  subst y0e3
  unfold maxLen at y0m3
  clear hbN
  go_wp2_with fail
  refine (specGConj za kv HFkv.out _ _ (good_Net.wider (good_Net.below Hy0.out (Nat.le_refl _) By0.out) (Nat.zero_le _) By0.out.size) HR0.out).mono ?_
  rintro e w4 ⟨s0v, s0bs, rfl, oN, ndN, bsN, hbN⟩
  replace aa0 := keep hbN aa0
  replace aa1 := keep hbN aa1
  replace aa2 := keep hbN aa2
  replace aa3 := keep hbN aa3
  replace By0 := Lib.hid (bThen By0.out hbN)
  replace HW := Lib.hid (bThen HW.out hbN)
  have s4 : w3.heap.size ≤ w4.heap.size := (hbN).size
  have rdN := rds_IntS _ _ _ _ _ _ oN bsN
  have Hs0 := Lib.hid rdN
  have Bs0 := Lib.hid (Below.refl w4.heap.size w4)
  clear oN ndN bsN hbN
  obtain ⟨s0A, s0c, rfl, -⟩ := slice_of rdN
  clear rdN
  clear Hy0 By0
  go_wp2_with fail
  refine (toNet_w za [.int .i64 za.1, .slice aA1 (za.2.1).length ac1, .slice aA2 (za.2.2.1).length ac2, .slice aA3 (za.2.2.2).length ac3] _ (good_Net.below HDa.out (Nat.le_refl _) HW.out) HW.out.size HSa.out).mono ?_
  rintro e w5 ⟨x0, rfl, hxN, hbN⟩
  replace aa0 := keep hbN aa0
  replace aa1 := keep hbN aa1
  replace aa2 := keep hbN aa2
  replace aa3 := keep hbN aa3
  replace Bs0 := Lib.hid (bThen Bs0.out hbN)
  replace HW := Lib.hid (bThen HW.out hbN)
  have s5 : w4.heap.size ≤ w5.heap.size := (hbN).size
  have Hx0 := Lib.hid hxN
  have Bx0 := Lib.hid (Below.refl w5.heap.size w5)
  obtain ⟨x0u0, x0u1, x0u2, x0u3, rfl, x0h0, x0h1, x0h2, x0h3⟩ := hxN
  obtain ⟨x0e0, -⟩ := x0h0
  injection x0e0 with x0e0
  subst x0e0
  obtain ⟨x0A1, x0c1, x0e1, x0m1, -⟩ := x0h1
  injection x0e1 with x0e1
  subst x0e1
  unfold maxLen at x0m1
  obtain ⟨x0A2, x0c2, x0e2, x0m2, -⟩ := x0h2
  injection x0e2 with x0e2
  subst x0e2
  unfold maxLen at x0m2
  obtain ⟨x0A3, x0c3, x0e3, x0m3, -⟩ := x0h3
  injection x0e3 with x0e3
  subst x0e3
  unfold maxLen at x0m3
  clear hbN
  have ltaa0 : w.heap.size < w5.heap.size := World.block_lt_of_cell? _ _ aa0
  go_wp2_with fail
  clear ltaa0
  obtain ⟨V6, hV⟩ : ∃ V6, V6 = (w5.alloc (.cells #[.int .i64 za.1, .slice x0A1 (za.2.1).length x0c1, .slice x0A2 (za.2.2.1).length x0c2, .slice x0A3 (za.2.2.2).length x0c3] 28)) := ⟨_, rfl⟩
  rw [← hV]
  have gN := eqbox1 hV
  have b00 : V6.cell? ⟨w5.heap.size, 0, none⟩ = some (.int .i64 za.1) := box_cell gN.1 0 _ rfl
  have b01 : V6.cell? ⟨w5.heap.size, 1, none⟩ = some (.slice x0A1 (za.2.1).length x0c1) := box_cell gN.1 1 _ rfl
  have b02 : V6.cell? ⟨w5.heap.size, 2, none⟩ = some (.slice x0A2 (za.2.2.1).length x0c2) := box_cell gN.1 2 _ rfl
  have b03 : V6.cell? ⟨w5.heap.size, 3, none⟩ = some (.slice x0A3 (za.2.2.2).length x0c3) := box_cell gN.1 3 _ rfl
  have t6 : V6.heap.size = w5.heap.size + 1 := by rw [hV]; simp
  replace aa0 := keep gN.2 aa0
  replace aa1 := keep gN.2 aa1
  replace aa2 := keep gN.2 aa2
  replace aa3 := keep gN.2 aa3
  replace Bs0 := Lib.hid (bThen Bs0.out gN.2)
  replace Bx0 := Lib.hid (bThen Bx0.out gN.2)
  replace HW := Lib.hid (bThen HW.out gN.2)
  have s6 : w5.heap.size ≤ V6.heap.size := (gN.2).size
  clear hV gN
  refine (implGConj za kv HFkv.out _ _ (good_Net.wider (good_Net.below (le_Net _ _ _ _ _ Hx0.out) (Nat.le_refl _) Bx0.out) (Nat.zero_le _) Bx0.out.size) HR0.out).mono ?_
  rintro e w7 ⟨g0v, g0bs, rfl, oN, ndN, bsN, hbN⟩
  replace aa0 := keep hbN aa0
  replace aa1 := keep hbN aa1
  replace aa2 := keep hbN aa2
  replace aa3 := keep hbN aa3
  replace b00 := keep hbN b00
  replace b01 := keep hbN b01
  replace b02 := keep hbN b02
  replace b03 := keep hbN b03
  replace Bs0 := Lib.hid (bThen Bs0.out hbN)
  replace Bx0 := Lib.hid (bThen Bx0.out hbN)
  replace HW := Lib.hid (bThen HW.out hbN)
  have s7 : V6.heap.size ≤ w7.heap.size := (hbN).size
  have rdN := rds_IntS _ _ _ _ _ _ oN bsN
  have Og0 := Lib.hid oN
  have Ng0 := Lib.hid ndN
  have Bg0 := Lib.hid bsN
  have LEg0 := Lib.hid (Nat.le_refl w7.heap.size)
  clear oN ndN bsN hbN
  obtain ⟨g0A, g0c, rfl, -⟩ := slice_of rdN
  clear rdN
  go_wp2_with fail
  refine (eqIntS_any r0 (.slice g0A r0.length g0c) (.slice s0A r0.length s0c) _ (rds_IntS _ _ _ _ _ _ Og0.out (fun b hb => ⟨(Bg0.out b hb).1, Nat.lt_of_lt_of_le (Bg0.out b hb).2 LEg0.out⟩)) (good_IntS.below Hs0.out (Nat.le_refl _) Bs0.out) (Nat.le_refl _) Bs0.out.size).mono ?_
  rintro e w8 ⟨rfl, hbN⟩
  replace aa0 := keep hbN aa0
  replace aa1 := keep hbN aa1
  replace aa2 := keep hbN aa2
  replace aa3 := keep hbN aa3
  replace b00 := keep hbN b00
  replace b01 := keep hbN b01
  replace b02 := keep hbN b02
  replace b03 := keep hbN b03
  replace Bs0 := Lib.hid (bThen Bs0.out hbN)
  replace Bx0 := Lib.hid (bThen Bx0.out hbN)
  replace Og0 := Lib.hid (gow_IntS.frame _ _ _ _ _ Og0.out fun b hb' => (hbN).block b (Nat.lt_of_lt_of_le (Bg0.out b hb').2 LEg0.out))
  replace LEg0 := Lib.hid (Nat.le_trans LEg0.out (hbN).size)
  replace HW := Lib.hid (bThen HW.out hbN)
  have s8 : w7.heap.size ≤ w8.heap.size := (hbN).size
  clear hbN
  go_wp2_with fail
  have hS0 : (fun w' => Below w8.heap.size w8 w' ∧ w'.cell? ⟨w.heap.size, 0, none⟩ = some (.int .i64 za.1) ∧ w'.cell? ⟨w.heap.size, 1, none⟩ = some (.slice aA1 (za.2.1).length ac1) ∧ w'.cell? ⟨w.heap.size, 2, none⟩ = some (.slice aA2 (za.2.2.1).length ac2) ∧ w'.cell? ⟨w.heap.size, 3, none⟩ = some (.slice aA3 (za.2.2.2).length ac3) ∧ w'.cell? ⟨w5.heap.size, 0, none⟩ = some (.int .i64 za.1) ∧ w'.cell? ⟨w5.heap.size, 1, none⟩ = some (.slice x0A1 (za.2.1).length x0c1) ∧ w'.cell? ⟨w5.heap.size, 2, none⟩ = some (.slice x0A2 (za.2.2.1).length x0c2) ∧ w'.cell? ⟨w5.heap.size, 3, none⟩ = some (.slice x0A3 (za.2.2.2).length x0c3)) w8 := ⟨Below.refl _ _, aa0, aa1, aa2, aa3, b00, b01, b02, b03⟩
  have hS : ∀ {w0 w' : World}, (fun w' => Below w8.heap.size w8 w' ∧ w'.cell? ⟨w.heap.size, 0, none⟩ = some (.int .i64 za.1) ∧ w'.cell? ⟨w.heap.size, 1, none⟩ = some (.slice aA1 (za.2.1).length ac1) ∧ w'.cell? ⟨w.heap.size, 2, none⟩ = some (.slice aA2 (za.2.2.1).length ac2) ∧ w'.cell? ⟨w.heap.size, 3, none⟩ = some (.slice aA3 (za.2.2.2).length ac3) ∧ w'.cell? ⟨w5.heap.size, 0, none⟩ = some (.int .i64 za.1) ∧ w'.cell? ⟨w5.heap.size, 1, none⟩ = some (.slice x0A1 (za.2.1).length x0c1) ∧ w'.cell? ⟨w5.heap.size, 2, none⟩ = some (.slice x0A2 (za.2.2.1).length x0c2) ∧ w'.cell? ⟨w5.heap.size, 3, none⟩ = some (.slice x0A3 (za.2.2.2).length x0c3)) w0 → Below w0.heap.size w0 w' → (fun w' => Below w8.heap.size w8 w' ∧ w'.cell? ⟨w.heap.size, 0, none⟩ = some (.int .i64 za.1) ∧ w'.cell? ⟨w.heap.size, 1, none⟩ = some (.slice aA1 (za.2.1).length ac1) ∧ w'.cell? ⟨w.heap.size, 2, none⟩ = some (.slice aA2 (za.2.2.1).length ac2) ∧ w'.cell? ⟨w.heap.size, 3, none⟩ = some (.slice aA3 (za.2.2.2).length ac3) ∧ w'.cell? ⟨w5.heap.size, 0, none⟩ = some (.int .i64 za.1) ∧ w'.cell? ⟨w5.heap.size, 1, none⟩ = some (.slice x0A1 (za.2.1).length x0c1) ∧ w'.cell? ⟨w5.heap.size, 2, none⟩ = some (.slice x0A2 (za.2.2.1).length x0c2) ∧ w'.cell? ⟨w5.heap.size, 3, none⟩ = some (.slice x0A3 (za.2.2.2).length x0c3)) w' := fun h hb => ⟨bThen h.1 hb, keep hb h.2.1, keep hb h.2.2.1, keep hb h.2.2.2.1, keep hb h.2.2.2.2.1, keep hb h.2.2.2.2.2.1, keep hb h.2.2.2.2.2.2.1, keep hb h.2.2.2.2.2.2.2.1, keep hb h.2.2.2.2.2.2.2.2⟩
  dsimp only at hS0 hS
  refine wp_region_noPanic ?_
  refine wp_region_kept 4 5 (fun w' => Below w8.heap.size w8 w' ∧ w'.cell? ⟨w.heap.size, 0, none⟩ = some (.int .i64 za.1) ∧ w'.cell? ⟨w.heap.size, 1, none⟩ = some (.slice aA1 (za.2.1).length ac1) ∧ w'.cell? ⟨w.heap.size, 2, none⟩ = some (.slice aA2 (za.2.2.1).length ac2) ∧ w'.cell? ⟨w.heap.size, 3, none⟩ = some (.slice aA3 (za.2.2.2).length ac3) ∧ w'.cell? ⟨w5.heap.size, 0, none⟩ = some (.int .i64 za.1) ∧ w'.cell? ⟨w5.heap.size, 1, none⟩ = some (.slice x0A1 (za.2.1).length x0c1) ∧ w'.cell? ⟨w5.heap.size, 2, none⟩ = some (.slice x0A2 (za.2.2.1).length x0c2) ∧ w'.cell? ⟨w5.heap.size, 3, none⟩ = some (.slice x0A3 (za.2.2.2).length x0c3)) (by kernel_rfl) rfl (hS hS0 (Below.drew (Below.refl _ _))) (fun hK0 => ?_)
  refine Kept.take (v := ?vt8n0) 0 (by kernel_rfl) rfl (by kernel_rfl) (fun _ _ _ h => h) (Or.inl ⟨by rfl, ?hyt8n0⟩) hK0 ?restt8n0
  case hyt8n0 =>
    intro w0 hSw
    (try dsimp only at hSw)
    go_simp
    all_goals (with_reducible rfl)
  (try simp only [Act.put, List.setIfInBounds_toArray, List.set_cons_zero, List.set_cons_succ])
  refine Kept.take (v := ?vt8n1) 1 (by kernel_rfl) rfl (by kernel_rfl) (fun _ _ _ h => h) (Or.inl ⟨by rfl, ?hyt8n1⟩) hK0 ?restt8n1
  case hyt8n1 =>
    intro w0 hSw
    (try dsimp only at hSw)
    go_simp
    all_goals (with_reducible rfl)
  (try simp only [Act.put, List.setIfInBounds_toArray, List.set_cons_zero, List.set_cons_succ])
  refine Kept.one 2 (by kernel_rfl) rfl (fun K hK => ?_)
  go_simp
  go_at_call 15
  refine (toNet_any za [.int .i64 za.1, .slice aA1 (za.2.1).length ac1, .slice aA2 (za.2.2.1).length ac2, .slice aA3 (za.2.2.2).length ac3] _ (good_Net.below HDa.out (Nat.le_refl _) (bThen HW.out hK0.1)) (bThen HW.out hK0.1).size HSa.out).mono ?_
  rintro e wr0 ⟨v0, rfl, hxN, hbr0⟩
  have Hv0 := Lib.hid hxN
  obtain ⟨v0u0, v0u1, v0u2, v0u3, rfl, v0h0, v0h1, v0h2, v0h3⟩ := hxN
  obtain ⟨v0e0, -⟩ := v0h0
  injection v0e0 with v0e0
  subst v0e0
  obtain ⟨v0A1, v0c1, v0e1, v0m1, -⟩ := v0h1
  injection v0e1 with v0e1
  subst v0e1
  unfold maxLen at v0m1
  obtain ⟨v0A2, v0c2, v0e2, v0m2, -⟩ := v0h2
  injection v0e2 with v0e2
  subst v0e2
  unfold maxLen at v0m2
  obtain ⟨v0A3, v0c3, v0e3, v0m3, -⟩ := v0h3
  injection v0e3 with v0e3
  subst v0e3
  unfold maxLen at v0m3
  go_simp
  refine hK.out _ _ (hS hK0 hbr0) (fun hK1 => ?_)
  clear hK K hK0
  (try simp only [Act.put, List.setIfInBounds_toArray, List.set_cons_zero, List.set_cons_succ])
  refine Kept.one 3 (by kernel_rfl) rfl (fun K hK => ?_)
  go_simp
  go_at_call 17
  refine (eqNet_any za [.int .i64 za.1, .slice x0A1 (za.2.1).length x0c1, .slice x0A2 (za.2.2.1).length x0c2, .slice x0A3 (za.2.2.2).length x0c3] [.int .i64 za.1, .slice v0A1 (za.2.1).length v0c1, .slice v0A2 (za.2.2.1).length v0c2, .slice v0A3 (za.2.2.2).length v0c3] _ (good_Net.below (le_Net _ _ _ _ _ Hx0.out) (Nat.le_refl _) (bThen Bx0.out hK1.1)) Hv0.out (bThen Bx0.out hK1.1).size (Nat.le_refl _)).mono ?_
  rintro e wr1 ⟨rfl, hbr1⟩
  go_simp
  refine hK.out _ _ (hS hK1 hbr1) (fun hK2 => ?_)
  clear hK K hK1
  (try simp only [Act.put, List.setIfInBounds_toArray, List.set_cons_zero, List.set_cons_succ])
  refine Kept.tail (by rfl) (by kernel_rfl) ?_
  simp only [List.drop_succ_cons, List.drop_zero]
  go_wp2
  refine NoPanic.normal ?_
  obtain ⟨W8r, hWr⟩ : ∃ W, W = wr1 := ⟨_, rfl⟩
  rw [← hWr] at hK2 ⊢
  clear hWr
  have hbN := hK2.1
  replace aa0 := keep hbN aa0
  replace aa1 := keep hbN aa1
  replace aa2 := keep hbN aa2
  replace aa3 := keep hbN aa3
  replace b00 := keep hbN b00
  replace b01 := keep hbN b01
  replace b02 := keep hbN b02
  replace b03 := keep hbN b03
  replace Bs0 := Lib.hid (bThen Bs0.out hbN)
  replace Bx0 := Lib.hid (bThen Bx0.out hbN)
  replace Og0 := Lib.hid (gow_IntS.frame _ _ _ _ _ Og0.out fun b hb' => (hbN).block b (Nat.lt_of_lt_of_le (Bg0.out b hb').2 LEg0.out))
  replace LEg0 := Lib.hid (Nat.le_trans LEg0.out (hbN).size)
  replace HW := Lib.hid (bThen HW.out hbN)
  have s9 : w8.heap.size ≤ W8r.heap.size := (hbN).size
  clear hbN hK2 hS0 hS
  clear Hv0
  replace Hx0 := Lib.hid (goodw_Net.below Hx0.out (Nat.le_refl _) Bx0.out)
  go_wp2_with fail
  have bd0 := bndNet za HSa.out
  (try unfold cntNet at bd0)
  refine (markNet_arg za [.int .i64 za.1, .slice x0A1 (za.2.1).length x0c1, .slice x0A2 (za.2.2.1).length x0c2, .slice x0A3 (za.2.2.2).length x0c3] 1 W8r W8r _ Hx0.out (by omega) (Sims.refl _ _ _) (Sims.refl _ _ _) (by omega) (by omega)).mono ?_
  rintro e w10 ⟨⟨k0, k0a, k0b, rfl⟩, hsN, -⟩
  have s10 : W8r.heap.size ≤ w10.heap.size := hsN.size
  replace aa0 := (World.cell?_of_block (w := W8r) (w' := w10) (a := ⟨w.heap.size, 0, none⟩) (hsN.block _ (World.block_lt_of_cell? _ _ aa0) (by first | (left; dsimp only; omega) | (right; dsimp only; omega)))).trans aa0
  replace aa1 := (World.cell?_of_block (w := W8r) (w' := w10) (a := ⟨w.heap.size, 1, none⟩) (hsN.block _ (World.block_lt_of_cell? _ _ aa1) (by first | (left; dsimp only; omega) | (right; dsimp only; omega)))).trans aa1
  replace aa2 := (World.cell?_of_block (w := W8r) (w' := w10) (a := ⟨w.heap.size, 2, none⟩) (hsN.block _ (World.block_lt_of_cell? _ _ aa2) (by first | (left; dsimp only; omega) | (right; dsimp only; omega)))).trans aa2
  replace aa3 := (World.cell?_of_block (w := W8r) (w' := w10) (a := ⟨w.heap.size, 3, none⟩) (hsN.block _ (World.block_lt_of_cell? _ _ aa3) (by first | (left; dsimp only; omega) | (right; dsimp only; omega)))).trans aa3
  replace Bs0 := Lib.hid (below_sims Bs0.out hsN (by omega))
  replace Og0 := Lib.hid (gow_IntS.frame _ _ _ _ _ Og0.out fun b hb => hsN.block b (Nat.lt_of_lt_of_le (Bg0.out b hb).2 LEg0.out) (.inr (by have := (Bg0.out b hb).1; omega)))
  replace LEg0 := Lib.hid (Nat.le_trans LEg0.out hsN.size)
  replace HW := Lib.hid (below_sims HW.out hsN (by omega))
  clear hsN Hx0 Bx0 bd0
  have tkN : ¬ k0 < 0 := by omega
  go_wp2_with fail
  refine (eqIntS_any r0 (.slice g0A r0.length g0c) (.slice s0A r0.length s0c) _ (rds_IntS _ _ _ _ _ _ Og0.out (fun b hb => ⟨(Bg0.out b hb).1, Nat.lt_of_lt_of_le (Bg0.out b hb).2 LEg0.out⟩)) (good_IntS.below Hs0.out (Nat.le_refl _) Bs0.out) (Nat.le_refl _) Bs0.out.size).mono ?_
  rintro e w11 ⟨rfl, hbN⟩
  replace aa0 := keep hbN aa0
  replace aa1 := keep hbN aa1
  replace aa2 := keep hbN aa2
  replace aa3 := keep hbN aa3
  replace Bs0 := Lib.hid (bThen Bs0.out hbN)
  replace Og0 := Lib.hid (gow_IntS.frame _ _ _ _ _ Og0.out fun b hb' => (hbN).block b (Nat.lt_of_lt_of_le (Bg0.out b hb').2 LEg0.out))
  replace LEg0 := Lib.hid (Nat.le_trans LEg0.out (hbN).size)
  replace HW := Lib.hid (bThen HW.out hbN)
  have s11 : w10.heap.size ≤ w11.heap.size := (hbN).size
  clear hbN
  go_wp2_with fail
  refine (markIntS_own r0 g0A r0.length g0c g0bs 1 _ Og0.out Ng0.out (by omega) (by have := HBD.out; unfold cntIntS; omega)).mono ?_
  rintro e w12 ⟨rfl, oN, hchN⟩
  replace Og0 := Lib.hid oN
  replace LEg0 := Lib.hid (Nat.le_trans LEg0.out hchN.size)
  have s12 : w11.heap.size ≤ w12.heap.size := hchN.size
  replace aa0 := chg_cell hchN (fun h => by have h1 := (Bg0.out _ h).1; have h2 := (Bg0.out _ h).2; omega) aa0
  replace aa1 := chg_cell hchN (fun h => by have h1 := (Bg0.out _ h).1; have h2 := (Bg0.out _ h).2; omega) aa1
  replace aa2 := chg_cell hchN (fun h => by have h1 := (Bg0.out _ h).1; have h2 := (Bg0.out _ h).2; omega) aa2
  replace aa3 := chg_cell hchN (fun h => by have h1 := (Bg0.out _ h).1; have h2 := (Bg0.out _ h).2; omega) aa3
  replace Bs0 := Lib.hid (below_chg Bs0.out hchN (fun b h => by have h1 := (Bg0.out b h).1; omega))
  replace HW := Lib.hid (below_chg HW.out hchN (fun b h => by have h1 := (Bg0.out b h).1; omega))
  clear oN hchN
  obtain ⟨q0, hq0⟩ : ∃ q0 : Int, 1 + (cntIntS r0 : Int) = q0 := ⟨_, rfl⟩
  have HQ0 := Lib.hid hq0
  have q0a : ¬ q0 < 0 := by omega
  rw [hq0]
  clear hq0
  go_wp2_with fail
  refine (heldIntS_num r0 (.slice g0A r0.length g0c) 1 _ (rds_IntS _ _ _ _ _ _ Og0.out (fun b hb => ⟨(Bg0.out b hb).1, Nat.lt_of_lt_of_le (Bg0.out b hb).2 LEg0.out⟩)) (Nat.le_refl _) (by omega) (by have := HBD.out; unfold cntIntS; omega)).mono ?_
  rintro e w13 ⟨rfl, hbN⟩
  rw [HQ0.out]
  replace aa0 := keep hbN aa0
  replace aa1 := keep hbN aa1
  replace aa2 := keep hbN aa2
  replace aa3 := keep hbN aa3
  replace Bs0 := Lib.hid (bThen Bs0.out hbN)
  replace Og0 := Lib.hid (gow_IntS.frame _ _ _ _ _ Og0.out fun b hb' => (hbN).block b (Nat.lt_of_lt_of_le (Bg0.out b hb').2 LEg0.out))
  replace LEg0 := Lib.hid (Nat.le_trans LEg0.out (hbN).size)
  replace HW := Lib.hid (bThen HW.out hbN)
  have s13 : w12.heap.size ≤ w13.heap.size := (hbN).size
  clear hbN
  go_wp2_with fail
  refine (toNet_any za [.int .i64 za.1, .slice aA1 (za.2.1).length ac1, .slice aA2 (za.2.2.1).length ac2, .slice aA3 (za.2.2.2).length ac3] _ (good_Net.below HDa.out (Nat.le_refl _) HW.out) HW.out.size HSa.out).mono ?_
  rintro e w14 ⟨y0, rfl, hxN, hbN⟩
  replace aa0 := keep hbN aa0
  replace aa1 := keep hbN aa1
  replace aa2 := keep hbN aa2
  replace aa3 := keep hbN aa3
  replace Bs0 := Lib.hid (bThen Bs0.out hbN)
  replace Og0 := Lib.hid (gow_IntS.frame _ _ _ _ _ Og0.out fun b hb' => (hbN).block b (Nat.lt_of_lt_of_le (Bg0.out b hb').2 LEg0.out))
  replace LEg0 := Lib.hid (Nat.le_trans LEg0.out (hbN).size)
  replace HW := Lib.hid (bThen HW.out hbN)
  have s14 : w13.heap.size ≤ w14.heap.size := (hbN).size
  have Hy0 := Lib.hid hxN
  have By0 := Lib.hid (Below.refl w14.heap.size w14)
  obtain ⟨y0u0, y0u1, y0u2, y0u3, rfl, y0h0, y0h1, y0h2, y0h3⟩ := hxN
  obtain ⟨y0e0, -⟩ := y0h0
  injection y0e0 with y0e0
  subst y0e0
  obtain ⟨y0A1, y0c1, y0e1, y0m1, -⟩ := y0h1
  injection y0e1 with y0e1
  subst y0e1
  unfold maxLen at y0m1
  obtain ⟨y0A2, y0c2, y0e2, y0m2, -⟩ := y0h2
  injection y0e2 with y0e2
  subst y0e2
  unfold maxLen at y0m2
  obtain ⟨y0A3, y0c3, y0e3, y0m3, -⟩ := y0h3
  injection y0e3 with y0e3
  subst y0e3
  unfold maxLen at y0m3
  clear hbN
  go_wp2_with fail
  refine (implGConj za kv HFkv.out _ _ (good_Net.wider (good_Net.below Hy0.out (Nat.le_refl _) By0.out) (Nat.zero_le _) By0.out.size) HR0.out).mono ?_
  rintro e w15 ⟨h0v, h0bs, rfl, oN, ndN, bsN, hbN⟩
  replace aa0 := keep hbN aa0
  replace aa1 := keep hbN aa1
  replace aa2 := keep hbN aa2
  replace aa3 := keep hbN aa3
  replace Bs0 := Lib.hid (bThen Bs0.out hbN)
  replace By0 := Lib.hid (bThen By0.out hbN)
  replace Og0 := Lib.hid (gow_IntS.frame _ _ _ _ _ Og0.out fun b hb' => (hbN).block b (Nat.lt_of_lt_of_le (Bg0.out b hb').2 LEg0.out))
  replace LEg0 := Lib.hid (Nat.le_trans LEg0.out (hbN).size)
  replace HW := Lib.hid (bThen HW.out hbN)
  have s15 : w14.heap.size ≤ w15.heap.size := (hbN).size
  have rdN := rds_IntS _ _ _ _ _ _ oN bsN
  have Hh0 := Lib.hid rdN
  have Bh0 := Lib.hid (Below.refl w15.heap.size w15)
  clear oN ndN bsN hbN
  obtain ⟨h0A, h0c, rfl, -⟩ := slice_of rdN
  clear rdN
  go_wp2_with fail
  refine (eqIntS_any r0 (.slice h0A r0.length h0c) (.slice s0A r0.length s0c) _ (good_IntS.below Hh0.out (Nat.le_refl _) Bh0.out) (good_IntS.below Hs0.out (Nat.le_refl _) Bs0.out) Bh0.out.size Bs0.out.size).mono ?_
  rintro e w16 ⟨rfl, hbN⟩
  replace aa0 := keep hbN aa0
  replace aa1 := keep hbN aa1
  replace aa2 := keep hbN aa2
  replace aa3 := keep hbN aa3
  replace Bs0 := Lib.hid (bThen Bs0.out hbN)
  replace By0 := Lib.hid (bThen By0.out hbN)
  replace Bh0 := Lib.hid (bThen Bh0.out hbN)
  replace Og0 := Lib.hid (gow_IntS.frame _ _ _ _ _ Og0.out fun b hb' => (hbN).block b (Nat.lt_of_lt_of_le (Bg0.out b hb').2 LEg0.out))
  replace LEg0 := Lib.hid (Nat.le_trans LEg0.out (hbN).size)
  replace HW := Lib.hid (bThen HW.out hbN)
  have s16 : w15.heap.size ≤ w16.heap.size := (hbN).size
  clear hbN
  go_wp2_with fail
  refine (heldIntS_num r0 (.slice g0A r0.length g0c) 1 _ (rds_IntS _ _ _ _ _ _ Og0.out (fun b hb => ⟨(Bg0.out b hb).1, Nat.lt_of_lt_of_le (Bg0.out b hb).2 LEg0.out⟩)) (Nat.le_refl _) (by omega) (by have := HBD.out; unfold cntIntS; omega)).mono ?_
  rintro e w17 ⟨rfl, hbN⟩
  rw [HQ0.out]
  replace aa0 := keep hbN aa0
  replace aa1 := keep hbN aa1
  replace aa2 := keep hbN aa2
  replace aa3 := keep hbN aa3
  replace Bs0 := Lib.hid (bThen Bs0.out hbN)
  replace By0 := Lib.hid (bThen By0.out hbN)
  replace Bh0 := Lib.hid (bThen Bh0.out hbN)
  replace Og0 := Lib.hid (gow_IntS.frame _ _ _ _ _ Og0.out fun b hb' => (hbN).block b (Nat.lt_of_lt_of_le (Bg0.out b hb').2 LEg0.out))
  replace LEg0 := Lib.hid (Nat.le_trans LEg0.out (hbN).size)
  replace HW := Lib.hid (bThen HW.out hbN)
  have s17 : w16.heap.size ≤ w17.heap.size := (hbN).size
  clear hbN
  go_wp2
  go_ret
  exact ⟨rfl, HW.out⟩
end Go.Proofs.Ytiejilmgchmppaa
