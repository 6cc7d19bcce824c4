/-
  The walk of the exact law over SampleNet.
-/
import Derived.Test.YtnobdbppechccaaDmN
import Derived.Test.YtnobdbppechccaaDzN
import Derived.Test.YtnobdbppechccaaDoN
import Derived.Test.YtnobdbppechccaaSampN
import Derived.Test.YtnobdbppechccaaRgN
import Derived.Deep.RegionHeld3
namespace Go.Proofs.Ytnobdbppechccaa
open Go.RowKit
set_option linter.unusedVariables false
set_option linter.unusedSimpArgs false
theorem below_sims {B T N : Nat} {a w1 w2 : World} (hb : Below N a w1) (h : Sims B T w1 w2) (hN : N ≤ B ∧ N ≤ w1.heap.size) : Below N a w2 :=
  ⟨h.os.trans hb.os, h.tape.trans hb.tape, h.output.trans hb.output, Nat.le_trans hb.size h.size, fun k hk => (h.block k (Nat.lt_of_lt_of_le hk hN.2) (.inl (Nat.lt_of_lt_of_le hk hN.1))).trans (hb.block k hk)⟩
theorem below_chg {bs : List Nat} {N : Nat} {a w1 w2 : World} (hb : Below N a w1) (h : ChgL bs w1 w2) (hN : ∀ b ∈ bs, N ≤ b) (hs : N ≤ w1.heap.size := by omega) : Below N a w2 :=
  ⟨h.os.trans hb.os, h.tape.trans hb.tape, h.output.trans hb.output, Nat.le_trans hb.size h.size, fun k hk => (h.block k (Nat.lt_of_lt_of_le hk hs) (fun hm => by have := hN k hm; omega)).trans (hb.block k hk)⟩

set_option maxRecDepth 100000 in
set_option maxHeartbeats 25600000 in
theorem exactSampleN_walk  (w : World) :
    Calls Try.prog 11 #[] w fun e w' => e = .returned (.bool true) ∧ Below w.heap.size w w' := by
  obtain ⟨r0, hr0⟩ : ∃ r0, sampleN = r0 := ⟨_, rfl⟩
  have HR0 := Lib.hid hr0
  have HBD := Lib.hid (show cntSeqS r0.2.1 + cntAndS r0.2.2.1 + cntIntS r0.2.2.2 ≤ 100 by rw [← hr0]; decide)
  clear hr0
  have HW := Lib.hid (Below.refl w.heap.size w)
  go_enter Try.func11, Try.ntmps11
  go_wp2_with fail
  refine (specSampleN_at _ HR0.out).mono ?_
  rintro e w1 ⟨s0v, s0bs, rfl, oN, ndN, bsN, hbN⟩
  replace HW := Lib.hid (bThen HW.out hbN)
  have s1 : w.heap.size ≤ w1.heap.size := (hbN).size
  have rdN := rds_Net _ _ _ _ _ _ oN bsN
  have Hs0 := Lib.hid rdN
  have Bs0 := Lib.hid (Below.refl w1.heap.size w1)
  clear oN ndN bsN hbN
  obtain ⟨s0u0, s0u1, s0u2, s0u3, rfl, s0h0, s0h1, s0h2, s0h3⟩ := rdN
  obtain ⟨s0e0, -⟩ := s0h0
  injection s0e0 with s0e0
  subst s0e0
  obtain ⟨s0A1, s0c1, s0e1, s0m1, -⟩ := s0h1
  injection s0e1 with s0e1
  subst s0e1
  unfold maxLen at s0m1
  obtain ⟨s0A2, s0c2, s0e2, s0m2, -⟩ := s0h2
  injection s0e2 with s0e2
  subst s0e2
  unfold maxLen at s0m2
  obtain ⟨s0A3, s0c3, s0e3, s0m3, -⟩ := s0h3
  injection s0e3 with s0e3
  subst s0e3
  unfold maxLen at s0m3
  go_wp2_with fail
  obtain ⟨V2, hV⟩ : ∃ V2, V2 = (w1.alloc (.cells #[.int .i64 r0.1, .slice s0A1 (r0.2.1).length s0c1, .slice s0A2 (r0.2.2.1).length s0c2, .slice s0A3 (r0.2.2.2).length s0c3] 28)) := ⟨_, rfl⟩
  rw [← hV]
  have gN := eqbox1 hV
  have e00 : V2.cell? ⟨w1.heap.size, 0, none⟩ = some (.int .i64 r0.1) := box_cell gN.1 0 _ rfl
  have e01 : V2.cell? ⟨w1.heap.size, 1, none⟩ = some (.slice s0A1 (r0.2.1).length s0c1) := box_cell gN.1 1 _ rfl
  have e02 : V2.cell? ⟨w1.heap.size, 2, none⟩ = some (.slice s0A2 (r0.2.2.1).length s0c2) := box_cell gN.1 2 _ rfl
  have e03 : V2.cell? ⟨w1.heap.size, 3, none⟩ = some (.slice s0A3 (r0.2.2.2).length s0c3) := box_cell gN.1 3 _ rfl
  have t2 : V2.heap.size = w1.heap.size + 1 := by rw [hV]; simp
  replace Bs0 := Lib.hid (bThen Bs0.out gN.2)
  replace HW := Lib.hid (bThen HW.out gN.2)
  have s2 : w1.heap.size ≤ V2.heap.size := (gN.2).size
  clear hV gN
  refine (implSampleN_at _ HR0.out).mono ?_
  rintro e w3 ⟨g0v, g0bs, rfl, oN, ndN, bsN, hbN⟩
  replace e00 := keep hbN e00
  replace e01 := keep hbN e01
  replace e02 := keep hbN e02
  replace e03 := keep hbN e03
  replace Bs0 := Lib.hid (bThen Bs0.out hbN)
  replace HW := Lib.hid (bThen HW.out hbN)
  have s3 : V2.heap.size ≤ w3.heap.size := (hbN).size
  have rdN := rds_Net _ _ _ _ _ _ oN bsN
  have Og0 := Lib.hid oN
  have Ng0 := Lib.hid ndN
  have Bg0 := Lib.hid bsN
  have LEg0 := Lib.hid (Nat.le_refl w3.heap.size)
  clear oN ndN bsN hbN
  obtain ⟨g0u0, g0u1, g0u2, g0u3, rfl, g0h0, g0h1, g0h2, g0h3⟩ := rdN
  obtain ⟨g0e0, -⟩ := g0h0
  injection g0e0 with g0e0
  subst g0e0
  obtain ⟨g0A1, g0c1, g0e1, g0m1, -⟩ := g0h1
  injection g0e1 with g0e1
  subst g0e1
  unfold maxLen at g0m1
  obtain ⟨g0A2, g0c2, g0e2, g0m2, -⟩ := g0h2
  injection g0e2 with g0e2
  subst g0e2
  unfold maxLen at g0m2
  obtain ⟨g0A3, g0c3, g0e3, g0m3, -⟩ := g0h3
  injection g0e3 with g0e3
  subst g0e3
  unfold maxLen at g0m3
  have lte00 : w1.heap.size < w3.heap.size := World.block_lt_of_cell? _ _ e00
  go_wp2_with fail
  clear lte00
  obtain ⟨V4, hV⟩ : ∃ V4, V4 = (w3.alloc (.cells #[.int .i64 r0.1, .slice g0A1 (r0.2.1).length g0c1, .slice g0A2 (r0.2.2.1).length g0c2, .slice g0A3 (r0.2.2.2).length g0c3] 28)) := ⟨_, rfl⟩
  rw [← hV]
  have gN := eqbox1 hV
  have f00 : V4.cell? ⟨w3.heap.size, 0, none⟩ = some (.int .i64 r0.1) := box_cell gN.1 0 _ rfl
  have f01 : V4.cell? ⟨w3.heap.size, 1, none⟩ = some (.slice g0A1 (r0.2.1).length g0c1) := box_cell gN.1 1 _ rfl
  have f02 : V4.cell? ⟨w3.heap.size, 2, none⟩ = some (.slice g0A2 (r0.2.2.1).length g0c2) := box_cell gN.1 2 _ rfl
  have f03 : V4.cell? ⟨w3.heap.size, 3, none⟩ = some (.slice g0A3 (r0.2.2.2).length g0c3) := box_cell gN.1 3 _ rfl
  have t4 : V4.heap.size = w3.heap.size + 1 := by rw [hV]; simp
  replace e00 := keep gN.2 e00
  replace e01 := keep gN.2 e01
  replace e02 := keep gN.2 e02
  replace e03 := keep gN.2 e03
  replace Bs0 := Lib.hid (bThen Bs0.out gN.2)
  replace Og0 := Lib.hid (gow_Net.frame _ _ _ _ _ Og0.out fun b hb' => (gN.2).block b (Nat.lt_of_lt_of_le (Bg0.out b hb').2 LEg0.out))
  replace LEg0 := Lib.hid (Nat.le_trans LEg0.out (gN.2).size)
  replace HW := Lib.hid (bThen HW.out gN.2)
  have s4 : w3.heap.size ≤ V4.heap.size := (gN.2).size
  clear hV gN
  refine (eqNet_any r0 [.int .i64 r0.1, .slice g0A1 (r0.2.1).length g0c1, .slice g0A2 (r0.2.2.1).length g0c2, .slice g0A3 (r0.2.2.2).length g0c3] [.int .i64 r0.1, .slice s0A1 (r0.2.1).length s0c1, .slice s0A2 (r0.2.2.1).length s0c2, .slice s0A3 (r0.2.2.2).length s0c3] _ (rds_Net _ _ _ _ _ _ Og0.out (fun b hb => ⟨(Bg0.out b hb).1, Nat.lt_of_lt_of_le (Bg0.out b hb).2 LEg0.out⟩)) (good_Net.below Hs0.out (Nat.le_refl _) Bs0.out) (Nat.le_refl _) Bs0.out.size).mono ?_
  rintro e w5 ⟨rfl, hbN⟩
  replace e00 := keep hbN e00
  replace e01 := keep hbN e01
  replace e02 := keep hbN e02
  replace e03 := keep hbN e03
  replace f00 := keep hbN f00
  replace f01 := keep hbN f01
  replace f02 := keep hbN f02
  replace f03 := keep hbN f03
  replace Bs0 := Lib.hid (bThen Bs0.out hbN)
  replace Og0 := Lib.hid (gow_Net.frame _ _ _ _ _ Og0.out fun b hb' => (hbN).block b (Nat.lt_of_lt_of_le (Bg0.out b hb').2 LEg0.out))
  replace LEg0 := Lib.hid (Nat.le_trans LEg0.out (hbN).size)
  replace HW := Lib.hid (bThen HW.out hbN)
  have s5 : V4.heap.size ≤ w5.heap.size := (hbN).size
  clear hbN
  go_wp2_with fail
  refine (markNet_own r0 [.int .i64 r0.1, .slice g0A1 (r0.2.1).length g0c1, .slice g0A2 (r0.2.2.1).length g0c2, .slice g0A3 (r0.2.2.2).length g0c3] g0bs 1 _ Og0.out Ng0.out (by omega) (by have := HBD.out; unfold cntVNet; omega)).mono ?_
  rintro e w6 ⟨rfl, oN, hchN⟩
  replace Og0 := Lib.hid oN
  replace LEg0 := Lib.hid (Nat.le_trans LEg0.out hchN.size)
  have s6 : w5.heap.size ≤ w6.heap.size := hchN.size
  replace e00 := chg_cell hchN (fun h => by have h1 := (Bg0.out _ h).1; have h2 := (Bg0.out _ h).2; omega) e00
  replace e01 := chg_cell hchN (fun h => by have h1 := (Bg0.out _ h).1; have h2 := (Bg0.out _ h).2; omega) e01
  replace e02 := chg_cell hchN (fun h => by have h1 := (Bg0.out _ h).1; have h2 := (Bg0.out _ h).2; omega) e02
  replace e03 := chg_cell hchN (fun h => by have h1 := (Bg0.out _ h).1; have h2 := (Bg0.out _ h).2; omega) e03
  replace f00 := chg_cell hchN (fun h => by have h1 := (Bg0.out _ h).1; have h2 := (Bg0.out _ h).2; omega) f00
  replace f01 := chg_cell hchN (fun h => by have h1 := (Bg0.out _ h).1; have h2 := (Bg0.out _ h).2; omega) f01
  replace f02 := chg_cell hchN (fun h => by have h1 := (Bg0.out _ h).1; have h2 := (Bg0.out _ h).2; omega) f02
  replace f03 := chg_cell hchN (fun h => by have h1 := (Bg0.out _ h).1; have h2 := (Bg0.out _ h).2; omega) f03
  replace Bs0 := Lib.hid (below_chg Bs0.out hchN (fun b h => by have h1 := (Bg0.out b h).1; omega))
  replace HW := Lib.hid (below_chg HW.out hchN (fun b h => by have h1 := (Bg0.out b h).1; omega))
  clear oN hchN
  obtain ⟨q0, hq0⟩ : ∃ q0 : Int, 1 + (cntVNet r0 : Int) = q0 := ⟨_, rfl⟩
  have HQ0 := Lib.hid hq0
  have q0a : ¬ q0 < 0 := by omega
  rw [hq0]
  clear hq0
  go_wp2_with fail
  refine (heldNet_num r0 [.int .i64 r0.1, .slice g0A1 (r0.2.1).length g0c1, .slice g0A2 (r0.2.2.1).length g0c2, .slice g0A3 (r0.2.2.2).length g0c3] 1 _ (rds_Net _ _ _ _ _ _ Og0.out (fun b hb => ⟨(Bg0.out b hb).1, Nat.lt_of_lt_of_le (Bg0.out b hb).2 LEg0.out⟩)) (Nat.le_refl _) (by omega) (by have := HBD.out; unfold cntVNet; omega)).mono ?_
  rintro e w7 ⟨rfl, hbN⟩
  rw [HQ0.out]
  replace e00 := keep hbN e00
  replace e01 := keep hbN e01
  replace e02 := keep hbN e02
  replace e03 := keep hbN e03
  replace f00 := keep hbN f00
  replace f01 := keep hbN f01
  replace f02 := keep hbN f02
  replace f03 := keep hbN f03
  replace Bs0 := Lib.hid (bThen Bs0.out hbN)
  replace Og0 := Lib.hid (gow_Net.frame _ _ _ _ _ Og0.out fun b hb' => (hbN).block b (Nat.lt_of_lt_of_le (Bg0.out b hb').2 LEg0.out))
  replace LEg0 := Lib.hid (Nat.le_trans LEg0.out (hbN).size)
  replace HW := Lib.hid (bThen HW.out hbN)
  have s7 : w6.heap.size ≤ w7.heap.size := (hbN).size
  clear hbN
  go_wp2_with fail
  refine (implSampleN_at _ HR0.out).mono ?_
  rintro e w8 ⟨h0v, h0bs, rfl, oN, ndN, bsN, hbN⟩
  replace e00 := keep hbN e00
  replace e01 := keep hbN e01
  replace e02 := keep hbN e02
  replace e03 := keep hbN e03
  replace f00 := keep hbN f00
  replace f01 := keep hbN f01
  replace f02 := keep hbN f02
  replace f03 := keep hbN f03
  replace Bs0 := Lib.hid (bThen Bs0.out hbN)
  replace Og0 := Lib.hid (gow_Net.frame _ _ _ _ _ Og0.out fun b hb' => (hbN).block b (Nat.lt_of_lt_of_le (Bg0.out b hb').2 LEg0.out))
  replace LEg0 := Lib.hid (Nat.le_trans LEg0.out (hbN).size)
  replace HW := Lib.hid (bThen HW.out hbN)
  have s8 : w7.heap.size ≤ w8.heap.size := (hbN).size
  have rdN := rds_Net _ _ _ _ _ _ oN bsN
  have Hh0 := Lib.hid rdN
  have Bh0 := Lib.hid (Below.refl w8.heap.size w8)
  clear oN ndN bsN hbN
  obtain ⟨h0u0, h0u1, h0u2, h0u3, rfl, h0h0, h0h1, h0h2, h0h3⟩ := rdN
  obtain ⟨h0e0, -⟩ := h0h0
  injection h0e0 with h0e0
  subst h0e0
  obtain ⟨h0A1, h0c1, h0e1, h0m1, -⟩ := h0h1
  injection h0e1 with h0e1
  subst h0e1
  unfold maxLen at h0m1
  obtain ⟨h0A2, h0c2, h0e2, h0m2, -⟩ := h0h2
  injection h0e2 with h0e2
  subst h0e2
  unfold maxLen at h0m2
  obtain ⟨h0A3, h0c3, h0e3, h0m3, -⟩ := h0h3
  injection h0e3 with h0e3
  subst h0e3
  unfold maxLen at h0m3
  have lte00 : w1.heap.size < w8.heap.size := World.block_lt_of_cell? _ _ e00
  have ltf00 : w3.heap.size < w8.heap.size := World.block_lt_of_cell? _ _ f00
  go_wp2_with fail
  clear lte00 ltf00
  obtain ⟨V9, hV⟩ : ∃ V9, V9 = (w8.alloc (.cells #[.int .i64 r0.1, .slice h0A1 (r0.2.1).length h0c1, .slice h0A2 (r0.2.2.1).length h0c2, .slice h0A3 (r0.2.2.2).length h0c3] 28)) := ⟨_, rfl⟩
  rw [← hV]
  have gN := eqbox1 hV
  have i00 : V9.cell? ⟨w8.heap.size, 0, none⟩ = some (.int .i64 r0.1) := box_cell gN.1 0 _ rfl
  have i01 : V9.cell? ⟨w8.heap.size, 1, none⟩ = some (.slice h0A1 (r0.2.1).length h0c1) := box_cell gN.1 1 _ rfl
  have i02 : V9.cell? ⟨w8.heap.size, 2, none⟩ = some (.slice h0A2 (r0.2.2.1).length h0c2) := box_cell gN.1 2 _ rfl
  have i03 : V9.cell? ⟨w8.heap.size, 3, none⟩ = some (.slice h0A3 (r0.2.2.2).length h0c3) := box_cell gN.1 3 _ rfl
  have t9 : V9.heap.size = w8.heap.size + 1 := by rw [hV]; simp
  replace e00 := keep gN.2 e00
  replace e01 := keep gN.2 e01
  replace e02 := keep gN.2 e02
  replace e03 := keep gN.2 e03
  replace f00 := keep gN.2 f00
  replace f01 := keep gN.2 f01
  replace f02 := keep gN.2 f02
  replace f03 := keep gN.2 f03
  replace Bs0 := Lib.hid (bThen Bs0.out gN.2)
  replace Bh0 := Lib.hid (bThen Bh0.out gN.2)
  replace Og0 := Lib.hid (gow_Net.frame _ _ _ _ _ Og0.out fun b hb' => (gN.2).block b (Nat.lt_of_lt_of_le (Bg0.out b hb').2 LEg0.out))
  replace LEg0 := Lib.hid (Nat.le_trans LEg0.out (gN.2).size)
  replace HW := Lib.hid (bThen HW.out gN.2)
  have s9 : w8.heap.size ≤ V9.heap.size := (gN.2).size
  clear hV gN
  refine (eqNet_any r0 [.int .i64 r0.1, .slice h0A1 (r0.2.1).length h0c1, .slice h0A2 (r0.2.2.1).length h0c2, .slice h0A3 (r0.2.2.2).length h0c3] [.int .i64 r0.1, .slice s0A1 (r0.2.1).length s0c1, .slice s0A2 (r0.2.2.1).length s0c2, .slice s0A3 (r0.2.2.2).length s0c3] _ (good_Net.below Hh0.out (Nat.le_refl _) Bh0.out) (good_Net.below Hs0.out (Nat.le_refl _) Bs0.out) Bh0.out.size Bs0.out.size).mono ?_
  rintro e w10 ⟨rfl, hbN⟩
  replace e00 := keep hbN e00
  replace e01 := keep hbN e01
  replace e02 := keep hbN e02
  replace e03 := keep hbN e03
  replace f00 := keep hbN f00
  replace f01 := keep hbN f01
  replace f02 := keep hbN f02
  replace f03 := keep hbN f03
  replace i00 := keep hbN i00
  replace i01 := keep hbN i01
  replace i02 := keep hbN i02
  replace i03 := keep hbN i03
  replace Bs0 := Lib.hid (bThen Bs0.out hbN)
  replace Bh0 := Lib.hid (bThen Bh0.out hbN)
  replace Og0 := Lib.hid (gow_Net.frame _ _ _ _ _ Og0.out fun b hb' => (hbN).block b (Nat.lt_of_lt_of_le (Bg0.out b hb').2 LEg0.out))
  replace LEg0 := Lib.hid (Nat.le_trans LEg0.out (hbN).size)
  replace HW := Lib.hid (bThen HW.out hbN)
  have s10 : V9.heap.size ≤ w10.heap.size := (hbN).size
  clear hbN
  go_wp2_with fail
  refine (heldNet_num r0 [.int .i64 r0.1, .slice g0A1 (r0.2.1).length g0c1, .slice g0A2 (r0.2.2.1).length g0c2, .slice g0A3 (r0.2.2.2).length g0c3] 1 _ (rds_Net _ _ _ _ _ _ Og0.out (fun b hb => ⟨(Bg0.out b hb).1, Nat.lt_of_lt_of_le (Bg0.out b hb).2 LEg0.out⟩)) (Nat.le_refl _) (by omega) (by have := HBD.out; unfold cntVNet; omega)).mono ?_
  rintro e w11 ⟨rfl, hbN⟩
  rw [HQ0.out]
  replace e00 := keep hbN e00
  replace e01 := keep hbN e01
  replace e02 := keep hbN e02
  replace e03 := keep hbN e03
  replace f00 := keep hbN f00
  replace f01 := keep hbN f01
  replace f02 := keep hbN f02
  replace f03 := keep hbN f03
  replace i00 := keep hbN i00
  replace i01 := keep hbN i01
  replace i02 := keep hbN i02
  replace i03 := keep hbN i03
  replace Bs0 := Lib.hid (bThen Bs0.out hbN)
  replace Bh0 := Lib.hid (bThen Bh0.out hbN)
  replace Og0 := Lib.hid (gow_Net.frame _ _ _ _ _ Og0.out fun b hb' => (hbN).block b (Nat.lt_of_lt_of_le (Bg0.out b hb').2 LEg0.out))
  replace LEg0 := Lib.hid (Nat.le_trans LEg0.out (hbN).size)
  replace HW := Lib.hid (bThen HW.out hbN)
  have s11 : w10.heap.size ≤ w11.heap.size := (hbN).size
  clear hbN
  go_wp2
  go_ret
  exact ⟨rfl, HW.out⟩
end Go.Proofs.Ytnobdbppechccaa
