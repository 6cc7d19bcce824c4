/-
  A net without AND nodes: the specification.
-/
import Derived.Test.YtedamhkcblemdaaHdA
import Derived.Test.YtedamhkcblemdaaHcC
import Derived.Test.YtedamhkcblemdaaFork
import Derived.Deep.RegionHeld3
namespace Go.Proofs.Ytedamhkcblemdaa
open Go.RowKit
set_option linter.unusedVariables false
set_option linter.unusedSimpArgs false

/-- The first j elements have zeros for In. -/
def setK (L : List DSeq) (j : Nat) : List DSeq := (L.take j).map (fun s => (s.1, s.2.1, List.replicate s.2.2.length 0)) ++ L.drop j
theorem setK_zero (L : List DSeq) : setK L 0 = L := by unfold setK; simp
theorem setK_all (L : List DSeq) : setK L L.length = L.map (fun s => (s.1, s.2.1, List.replicate s.2.2.length 0)) := by unfold setK; simp
theorem setK_at {L : List DSeq} {j : Nat} {s : DSeq} (h : L[j]? = some s) : (setK L j)[j]? = some s := by
  have hj := (List.getElem?_eq_some_iff.1 h).1
  unfold setK
  rw [List.getElem?_append_right (by simp; omega)]
  simp only [List.length_map, List.length_take]
  rw [Nat.min_eq_left (by omega), Nat.sub_self, List.getElem?_drop]
  exact h
theorem setK_step {L : List DSeq} {j : Nat} {s : DSeq} (h : L[j]? = some s) : setK L (j + 1) = (setK L j).set j (s.1, s.2.1, List.replicate s.2.2.length 0) := by
  have hj := (List.getElem?_eq_some_iff.1 h).1
  unfold setK
  rw [List.set_append_right _ _ (by simp; omega), List.take_add_one, h]
  simp only [List.length_map, List.length_take, List.map_append, Option.toList_some, List.map_cons, List.map_nil]
  rw [Nat.min_eq_left (by omega), Nat.sub_self, List.append_assoc]
  congr 1
  have e : L.drop j = s :: L.drop (j + 1) := by
    rw [List.drop_eq_getElem_cons hj]
    rw [List.getElem?_eq_getElem hj] at h
    injection h with h
    rw [h]
  rw [e]
  rfl

set_option maxRecDepth 100000 in
set_option maxHeartbeats 25600000 in
theorem specEmpty_at (n : DNet) (us : List Value) (w : World) (h : rdNet 0 w.heap.size w us n) (hP : NetP n) :
    Calls Try.prog 82 #[.agg us.toArray] w fun e w' => ∃ v1 rows bs v', e = .returned (.tuple #[.agg #[.int .i64 n.1, v1, .slice none 0 0, .slice none 0 0], v']) ∧ NetG w.heap.size w' v1 (.slice none 0 0) (.slice none 0 0) rows bs (emptyN n) ∧ OwnsI w' w.heap.size v' (toK0 n) ∧ (∀ b, v'.ownBlock = some b → b ∉ blkL v1 ++ bs) ∧ Below w.heap.size w w' := by
  obtain ⟨i0, hi, hz0, hz1, hz2⟩ := info_parts infoI
  have HD := Lib.hid h
  have HP := Lib.hid hP
  have HFN := Lib.hid (net_fit h).1
  have HIN := Lib.hid (fun (s : DSeq) (hs : s ∈ n.2.1) => (show s.2.2.length ≤ 3000000 by have := (seq_ins (hP.seq s hs)).1; omega))
  have s12 := hP.sz.s12
  have i20 := hP.sz.i20
  have hf33 : firN n ≤ 40 := by unfold firN; omega
  clear hP i20
  obtain ⟨mu0, mu1, mu2, mu3, rfl, mh0, mh1, mh2, mh3⟩ := h
  obtain ⟨me0, -⟩ := mh0
  injection me0 with me0
  subst me0
  obtain ⟨mA1, mc1, me1, mm1, -⟩ := slice_of mh1
  subst me1
  have mR1 := Lib.hid mh1
  clear mh1
  obtain ⟨mA2, mc2, me2, mm2, -⟩ := slice_of mh2
  subst me2
  have mR2 := Lib.hid mh2
  clear mh2
  obtain ⟨mA3, mc3, me3, mm3, -⟩ := slice_of mh3
  subst me3
  have mR3 := Lib.hid mh3
  clear mh3
  go_enter Try.func82, Try.ntmps82
  go_wp2_with fail
  obtain ⟨W0, hV⟩ : ∃ W0, W0 = ((w.alloc (.cells #[.int .i64 n.1, .slice mA1 (n.2.1).length mc1, .slice mA2 (n.2.2.1).length mc2, .slice mA3 (n.2.2.2).length mc3] 36)).alloc (.cells #[.int .i64 0, .slice none 0 0, .slice none 0 0, .slice none 0 0] 36)) := ⟨_, rfl⟩
  rw [← hV]
  have gN := eqbox2 hV
  have d0 : W0.cell? ⟨w.heap.size, 0, none⟩ = some (.int .i64 n.1) := box_cell gN.1 0 _ rfl
  have d1 : W0.cell? ⟨w.heap.size, 1, none⟩ = some (.slice mA1 (n.2.1).length mc1) := box_cell gN.1 1 _ rfl
  have d2 : W0.cell? ⟨w.heap.size, 2, none⟩ = some (.slice mA2 (n.2.2.1).length mc2) := box_cell gN.1 2 _ rfl
  have d3 : W0.cell? ⟨w.heap.size, 3, none⟩ = some (.slice mA3 (n.2.2.2).length mc3) := box_cell gN.1 3 _ rfl
  have sW0 : W0.heap.size = w.heap.size + 2 := by rw [hV]; simp
  have sC := Nat.le_of_eq sW0
  have sD := Nat.le_of_eq sW0.symm
  obtain ⟨Wd, hWd⟩ : ∃ x, x = W0.drew := ⟨_, rfl⟩
  have hbd : Below W0.heap.size W0 Wd := by rw [hWd]; exact Below.drew (Below.refl _ _)
  have HB := Lib.hid (bThen gN.2.2 hbd)
  have HB0 := HB
  have HR := Lib.hid (show BoxN Wd (w.heap.size + 1) (.int .i64 0) vNil vNil vNil from BoxN.at (w := W0) gN.2.1 (hbd.block _ (BoxN.lt gN.2.1)))
  have sWd : W0.heap.size ≤ Wd.heap.size := hbd.size
  clear hV gN sW0 hbd
  have hS0 : (fun w' => Below W0.heap.size W0 w' ∧ w'.cell? ⟨w.heap.size, 0, none⟩ = some (.int .i64 n.1) ∧ w'.cell? ⟨w.heap.size, 1, none⟩ = some (.slice mA1 (n.2.1).length mc1) ∧ w'.cell? ⟨w.heap.size, 2, none⟩ = some (.slice mA2 (n.2.2.1).length mc2) ∧ w'.cell? ⟨w.heap.size, 3, none⟩ = some (.slice mA3 (n.2.2.2).length mc3)) W0 := ⟨Below.refl _ _, d0, d1, d2, d3⟩
  have hS : ∀ {w0 w' : World}, (fun w' => Below W0.heap.size W0 w' ∧ w'.cell? ⟨w.heap.size, 0, none⟩ = some (.int .i64 n.1) ∧ w'.cell? ⟨w.heap.size, 1, none⟩ = some (.slice mA1 (n.2.1).length mc1) ∧ w'.cell? ⟨w.heap.size, 2, none⟩ = some (.slice mA2 (n.2.2.1).length mc2) ∧ w'.cell? ⟨w.heap.size, 3, none⟩ = some (.slice mA3 (n.2.2.2).length mc3)) w0 → Below w0.heap.size w0 w' → (fun w' => Below W0.heap.size W0 w' ∧ w'.cell? ⟨w.heap.size, 0, none⟩ = some (.int .i64 n.1) ∧ w'.cell? ⟨w.heap.size, 1, none⟩ = some (.slice mA1 (n.2.1).length mc1) ∧ w'.cell? ⟨w.heap.size, 2, none⟩ = some (.slice mA2 (n.2.2.1).length mc2) ∧ w'.cell? ⟨w.heap.size, 3, none⟩ = some (.slice mA3 (n.2.2.2).length mc3)) w' := fun h hb => ⟨bThen h.1 hb, keep hb h.2.1, keep hb h.2.2.1, keep hb h.2.2.2.1, keep hb h.2.2.2.2⟩
  dsimp only at hS0 hS
  refine wp_region_noPanic ?_
  refine wp_region_kept 7 8 (fun w' => Below W0.heap.size W0 w' ∧ w'.cell? ⟨w.heap.size, 0, none⟩ = some (.int .i64 n.1) ∧ w'.cell? ⟨w.heap.size, 1, none⟩ = some (.slice mA1 (n.2.1).length mc1) ∧ w'.cell? ⟨w.heap.size, 2, none⟩ = some (.slice mA2 (n.2.2.1).length mc2) ∧ w'.cell? ⟨w.heap.size, 3, none⟩ = some (.slice mA3 (n.2.2.2).length mc3)) (by kernel_rfl) rfl (hS hS0 (Below.drew (Below.refl _ _))) (fun hK0 => ?_)
  rw [← hWd] at hK0 ⊢
  clear hWd
  refine Kept.take (v := ?vr0) 0 (by kernel_rfl) rfl (by kernel_rfl) (fun _ _ _ h => h) (Or.inl ⟨by rfl, ?hyr0⟩) hK0 ?restr0
  case hyr0 =>
    intro w0 hSw
    (try dsimp only at hSw)
    go_simp
    all_goals (with_reducible rfl)
  (try simp only [Act.put, List.setIfInBounds_toArray, List.set_cons_zero, List.set_cons_succ])
  refine Kept.take (v := ?vr1) 1 (by kernel_rfl) rfl (by kernel_rfl) (fun _ _ _ h => h) (Or.inl ⟨by rfl, ?hyr1⟩) hK0 ?restr1
  case hyr1 =>
    intro w0 hSw
    (try dsimp only at hSw)
    go_simp
    all_goals (with_reducible rfl)
  (try simp only [Act.put, List.setIfInBounds_toArray, List.set_cons_zero, List.set_cons_succ])
  refine Kept.take (v := ?vr2) 2 (by kernel_rfl) rfl (by kernel_rfl) (fun _ _ _ h => h) (Or.inl ⟨by rfl, ?hyr2⟩) hK0 ?restr2
  case hyr2 =>
    intro w0 hSw
    (try dsimp only at hSw)
    go_simp
    all_goals (with_reducible rfl)
  (try simp only [Act.put, List.setIfInBounds_toArray, List.set_cons_zero, List.set_cons_succ])
  refine Kept.take (v := ?vr3) 3 (by kernel_rfl) rfl (by kernel_rfl) (fun _ _ _ h => h) (Or.inl ⟨by rfl, ?hyr3⟩) hK0 ?restr3
  case hyr3 =>
    intro w0 hSw
    (try dsimp only at hSw)
    go_simp
    all_goals (with_reducible rfl)
  (try simp only [Act.put, List.setIfInBounds_toArray, List.set_cons_zero, List.set_cons_succ])
  refine Kept.fork [4, 6] (by kernel_rfl) (by decide) (fun iF hi o ho K hK => ?_)
  simp only [List.mem_cons, List.not_mem_nil, or_false] at hi
  rcases hi with rfl | rfl
  · have ho' := Option.some.inj ho
    subst ho'
    go_simp
    go_at_call 123
    refine (copySeqs_at n.2.1 _ _ (rdUp good_SeqS mR1.out HB.out) (by omega) HIN.out).mono ?_
    rintro e p4 ⟨vS, rows, bs, rfl, hg, hbN⟩
    have HSB := Lib.hid (show ∀ b ∈ blkL vS ++ bs, Wd.heap.size ≤ b ∧ b < p4.heap.size from fun b hb => ⟨(hg.lt gow_Seq hb).2, (hg.lt gow_Seq hb).1⟩)
    have HGS := Lib.hid (gr_lower hg (B' := w.heap.size + 2) (by have := HB.out.size; omega))
    obtain ⟨A1, c1, rfl⟩ := HGS.out.cap fV3_len
    clear hg
    have hszp4 : Wd.heap.size ≤ p4.heap.size := hbN.size
    replace HR := Lib.hid (HR.out.at (hbN.block _ HR.out.lt))
    replace HB := Lib.hid (bThen HB.out hbN)
    replace HB0 := Lib.hid (bThen HB0.out hbN)
    go_simp
    refine hK.out _ _ (hS hK0 hbN) (fun hK1 => ?_)
    clear hK K hK0 hbN
    (try simp only [Act.put, List.setIfInBounds_toArray, List.set_cons_zero, List.set_cons_succ])
    refine Kept.take (v := ?vb55) 5 (by kernel_rfl) rfl (by kernel_rfl) (fun _ _ _ h => h) (Or.inl ⟨by rfl, ?hyb55⟩) hK1 ?restb55
    case hyb55 =>
      intro w0 hSw
      (try dsimp only at hSw)
      go_simp
      all_goals (with_reducible rfl)
    (try simp only [Act.put, List.setIfInBounds_toArray, List.set_cons_zero, List.set_cons_succ])
    refine Kept.one 6 (by kernel_rfl) rfl (fun K hK => ?_)
    go_simp
    obtain ⟨p46, hw2⟩ : ∃ x, x = (p4.alloc (.cells #[.int .i64 0, .slice none 0 0, .slice none 0 0, .slice none 0 0] 36)) := ⟨_, rfl⟩
    rw [← hw2]
    have hbN : Below p4.heap.size p4 p46 := by rw [hw2]; exact bAlloc (Below.refl _ _) (Nat.le_refl _) _
    have HGz0 := Lib.hid (show BoxN p46 p4.heap.size (.int .i64 0) vNil vNil vNil by rw [hw2]; exact heap_alloc_new _ _)
    have hltp46 : p4.heap.size + 1 ≤ p46.heap.size := by rw [hw2]; simp
    have hWlp46 : w.heap.size + 2 ≤ p4.heap.size := by have := HB0.out.size; omega
    obtain ⟨G, hG⟩ : ∃ G, G = p4.heap.size := ⟨_, rfl⟩
    rw [← hG] at HGz0 ⊢
    have HGz := HGz0
    have hG1 := Nat.le_of_eq hG
    have hG2 := Nat.le_of_eq hG.symm
    clear HGz0 hw2 hG
    have hszp46 : p4.heap.size ≤ p46.heap.size := hbN.size
    replace HR := Lib.hid (HR.out.at (hbN.block _ HR.out.lt))
    replace HB := Lib.hid (bThen HB.out hbN)
    replace HB0 := Lib.hid (bThen HB0.out hbN)
    replace HGS := Lib.hid (HGS.out.below gow_Seq hbN)
    refine hK.out _ _ (hS hK1 hbN) (fun hK2 => ?_)
    clear hK K hK1 hbN
    (try simp only [Act.put, List.setIfInBounds_toArray, List.set_cons_zero, List.set_cons_succ])
    have HNET := Lib.hid (show NetG (w.heap.size + 2) p46 (.slice A1 n.2.1.length c1) (.slice none 0 0) (.slice none 0 0) rows bs (n.1, n.2.1, [], []) from
      ⟨HGS.out, GrR.nil _ _ _ _ _ _, GrR.nil _ _ _ _ _ _, (fun b hb hm => by simp [blkL_nil] at hm), (fun b hb hm => by simp [blkL_nil] at hm), (fun b hb hm => by simp [blkL_nil] at hm), HFN.out⟩)
    have HOFF := Lib.hid (show ∀ b ∈ blkL (.slice A1 n.2.1.length c1) ++ (bs ++ (blkL (Value.slice none 0 0) ++ blkL (Value.slice none 0 0))), b ≠ G from fun b hb => by
      simp only [blkL_nil, List.append_nil] at hb
      have h1 := HSB.out b hb
      have := HGz.out.lt
      omega)
    have HC := Lib.hid (CopyAt.stored HGz.out HR.out HNET.out HOFF.out HB0.out (Nat.le_succ _) (by omega) (by omega))
    have k0 := HGz.out.cells.1.1
    have k1 := HGz.out.cells.1.2.1
    have k2 := HGz.out.cells.1.2.2.1
    have k3 := HGz.out.cells.1.2.2.2
    have kz := HGz.out.cells.2
    have HE := Lib.hid hK2
    clear hK2 HNET HOFF HSB HGS HR
    refine Kept.tail (by rfl) (by kernel_rfl) ?_
    simp only [List.drop_succ_cons, List.drop_zero]
    have hEG : w.heap.size ≠ G := by omega
    go_wp2
    refine NoPanic.normal ?_
    obtain ⟨W5, hW5⟩ : ∃ x, x = ((((p46.setCell ⟨G, 0, none⟩ (.int .i64 n.1)).setCell ⟨G, 1, none⟩ (.slice A1 n.2.1.length c1)).setCell ⟨G, 2, none⟩ (.slice none 0 0)).setCell ⟨G, 3, none⟩ (.slice none 0 0)) := ⟨_, rfl⟩
    rw [← hW5] at HC ⊢
    have d0 : W5.cell? ⟨w.heap.size, 0, none⟩ = some (.int .i64 n.1) := by rw [hW5]; exact (World.cell?_of_block (far4 hEG)).trans HE.out.2.1
    have d1 : W5.cell? ⟨w.heap.size, 1, none⟩ = some (.slice mA1 (n.2.1).length mc1) := by rw [hW5]; exact (World.cell?_of_block (far4 hEG)).trans HE.out.2.2.1
    have d2 : W5.cell? ⟨w.heap.size, 2, none⟩ = some (.slice mA2 (n.2.2.1).length mc2) := by rw [hW5]; exact (World.cell?_of_block (far4 hEG)).trans HE.out.2.2.2.1
    have d3 : W5.cell? ⟨w.heap.size, 3, none⟩ = some (.slice mA3 (n.2.2.2).length mc3) := by rw [hW5]; exact (World.cell?_of_block (far4 hEG)).trans HE.out.2.2.2.2
    have hGlt := HC.out.box.lt
    clear hW5 k0 k1 k2 k3 kz HE HGz HB
    have HB5 := Lib.hid HC.out.chg
    go_wp2_with fail
    obtain ⟨W6, hW6⟩ : ∃ x, x = W5.alloc (.cells #[] 3) := ⟨_, rfl⟩
    rw [← hW6]
    have hb6 : Below W5.heap.size W5 W6 := by rw [hW6]; exact bAlloc (Below.refl _ _) (Nat.le_refl _) _
    have HO := Lib.hid (show OwnsI W6 W5.heap.size (.slice (some ⟨W5.heap.size, 0, none⟩) 0 0) [] by rw [hW6]; exact own_newI W5 W5.heap.size (Nat.le_refl _))
    replace d0 := keep hb6 d0
    replace d1 := keep hb6 d1
    replace d2 := keep hb6 d2
    replace d3 := keep hb6 d3
    have HB := Lib.hid hb6
    have HE0 := Lib.hid d0
    have HE1 := Lib.hid d1
    have HE2 := Lib.hid d2
    have HE3 := Lib.hid d3
    have hw5 := HB5.out.size
    clear hW6 hb6 d0 d1 d2 d3
    go_loopw [5, 6] (fun s z wr => ∃ (k : Nat) (A : Option Addr) (c : Nat), k ≤ firN n ∧ z = .int .i64 (k : Int) ∧ s = .slice A k c ∧ OwnsI wr W5.heap.size (.slice A k c) ((toK0 n).take k) ∧ Below W5.heap.size W5 wr ∧ wr.cell? ⟨w.heap.size, 0, none⟩ = some (.int .i64 n.1) ∧ wr.cell? ⟨w.heap.size, 1, none⟩ = some (.slice mA1 (n.2.1).length mc1) ∧ wr.cell? ⟨w.heap.size, 2, none⟩ = some (.slice mA2 (n.2.2.1).length mc2) ∧ wr.cell? ⟨w.heap.size, 3, none⟩ = some (.slice mA3 (n.2.2.2).length mc3)) (fun _ z _ => firN n - (intOf z).toNat)
    case atStart => exact ⟨0, _, 0, Nat.zero_le _, rfl, rfl, HO.out, HB.out, HE0.out, HE1.out, HE2.out, HE3.out⟩
    case round =>
      obtain ⟨k, A, c, hk, rfl, rfl, hown, hb, d0, d1, d2, d3⟩ := hrel
      obtain ⟨w3, rfl⟩ : ∃ w3, w3 = wr := ⟨_, rfl⟩
      clear HO HB HE0 HE1 HE2 HE3
      have HO := Lib.hid hown
      have HB := Lib.hid hb
      have HWW := Lib.hid (bThen HB5.out hb)
      clear hown hb
      go_wp2_with fail
      refine (specFirst_at n _ _ (rdUp good_Net HD.out HWW.out) (Nat.le_refl _) HP.out.sz).mono ?_
      rintro e w4 ⟨rfl, hb4⟩
      replace d0 := keep hb4 d0
      replace d1 := keep hb4 d1
      replace d2 := keep hb4 d2
      replace d3 := keep hb4 d3
      replace HO := Lib.hid (HO.out.below hb4)
      replace HB := Lib.hid (bThen HB.out hb4)
      clear hb4 HWW
      by_cases hlt : k < firN n
      · have tk : (k : Int) < ((firN n : Nat) : Int) := by omega
        obtain ⟨KL, hKL⟩ : ∃ KL, (toK0 n).take k = KL := ⟨_, rfl⟩
        have HNX := Lib.hid (show (toK0 n).take (k + 1) = KL ++ [((2 * k : Nat) : Int)] by rw [List.take_add_one, toK0_at hlt, hKL]; rfl)
        have HLK := Lib.hid (show KL.length = k by rw [← hKL, List.length_take, toK0_len]; omega)
        rw [hKL] at HO
        have e2k : IntKind.i64.wrap (2 * (k : Int)) = ((2 * k : Nat) : Int) := by rw [wrap64_int _ (by omega) (by omega)]; omega
        obtain ⟨y, hy⟩ : ∃ y : Int, ((2 * k : Nat) : Int) = y := ⟨_, rfl⟩
        rw [hy] at HNX e2k
        have HBA := Lib.hid (show Below w4.heap.size w4 (w4.alloc (.cells #[.int .i64 y] 3)) from bAlloc (Below.refl _ _) (Nat.le_refl _) _)
        have HNBk := Lib.hid (show (w4.alloc (.cells #[.int .i64 y] 3)).heap[w4.heap.size]? = some (.cells #[.int .i64 y] 3 (0, 0)) from heap_alloc_new _ _)
        have HOA := Lib.hid (HO.out.below HBA.out)
        have hsz := Lib.hid (show W5.heap.size ≤ (w4.alloc (.cells #[.int .i64 y] 3)).heap.size from Nat.le_trans HB.out.size HBA.out.size)
        have HOR := Lib.hid (show (w4.alloc (.cells #[.int .i64 y] 3)).ownsRow W5.heap.size 3 1 (.slice A k c) k (KL.map vI) by have h := HOA.out; unfold OwnsI at h; rw [HLK.out] at h; exact h)
        have HD4 := Lib.hid (And.intro d0 (And.intro d1 (And.intro d2 d3)))
        clear hKL hy d0 d1 d2 d3
        go_wp2_with (at_builtin; refine wpList_append_all (by rfl) _ _ 24 (by rfl) W5.heap.size 3 i0 (.int .i64 0) 1 8 Try.underlying24 hi hz0 hz1 hz2 rfl (by omega) (.slice A k c) k (KL.map vI) (by rfl) HOR.out (some ⟨w4.heap.size, 0, none⟩) 1 1 [.int .i64 y] (by rfl) (by rfl) (.inr ⟨_, rfl, World.news_of_block HNBk.out⟩) (by simp [Value.oneCell']) (by unfold maxLen; omega) (by omega) hsz.out ?_; intro A' c' w7 hown7 hgrow7 hkeep7 hat7)
        have hne : ∀ (bb : Nat), bb < W5.heap.size → some bb ≠ (Value.slice A k c).ownBlock := fun bb hbb e => by have := (HO.out.lt bb e.symm).1; omega
        have HB7 := Lib.hid (((bThen HB.out HBA.out).grown hgrow7 hsz.out (fun g hg => (HO.out.lt g hg).1)))
        have HO7 := Lib.hid (show OwnsI w7 W5.heap.size (.slice A' (k + 1) c') (KL ++ [y]) from (by unfold OwnsI; rw [List.length_append, List.map_append, HLK.out]; exact hown7))
        have h0 := grown_keep hgrow7 (keep HBA.out HD4.out.1) (hne w.heap.size (by omega))
        have h1 := grown_keep hgrow7 (keep HBA.out HD4.out.2.1) (hne w.heap.size (by omega))
        have h2 := grown_keep hgrow7 (keep HBA.out HD4.out.2.2.1) (hne w.heap.size (by omega))
        have h3 := grown_keep hgrow7 (keep HBA.out HD4.out.2.2.2) (hne w.heap.size (by omega))
        clear hown7 hgrow7 hkeep7 hat7 hsz hne
        go_roundw
        case rel => exact ⟨k + 1, A', c', by omega, by go_num, rfl, by rw [HNX.out]; exact HO7.out, HB7.out, h0, h1, h2, h3⟩
        case measure => simp [intOf] <;> omega
      · obtain rfl : firN n = k := by omega
        have hT := HO.out
        rw [List.take_of_length_le (by rw [toK0_len]; exact Nat.le_refl _)] at hT
        have HT := Lib.hid hT
        have HW3 := Lib.hid HB.out
        have HC3 := Lib.hid (HC.out.below HB.out)
        clear hT HO HB hlt d0 d1 d2 d3
        go_wp2
        have HCF := Lib.hid HC3.out
        have HTD := Lib.hid (show ∀ b, (Value.slice A (firN n) c).ownBlock = some b → W5.heap.size ≤ b ∧ b < w4.heap.size from fun b e => HT.out.lt b e)
        have HDJ := Lib.hid (show ∀ b, (Value.slice A (firN n) c).ownBlock = some b → b ∉ blkL (.slice A1 n.2.1.length c1) ++ bs from fun b e hm => by
          have h1 := (HTD.out b e).1
          have h2 := HC.out.lt b (by rcases List.mem_append.1 hm with hm | hm <;> simp [hm])
          omega)
        have HC4 := Lib.hid (show CopyAt w w4 (w.heap.size + 1) G (.slice A1 n.2.1.length c1) (.slice none 0 0) (.slice none 0 0) rows bs (n.1, setK n.2.1 0, [], []) by rw [setK_zero]; exact HC3.out)
        have HRL := Lib.hid (show rows.length = n.2.1.length from HC3.out.net.s.len)
        go_loopw [7] (fun z wr => ∃ (j : Nat) (rows : List V3) (bs : List Nat), j ≤ n.2.1.length ∧ z = .int .i64 (j : Int) ∧ rows.length = n.2.1.length ∧ CopyAt w wr (w.heap.size + 1) G (.slice A1 n.2.1.length c1) (.slice none 0 0) (.slice none 0 0) rows bs (n.1, setK n.2.1 j, [], []) ∧ OwnsI wr W5.heap.size (.slice A (firN n) c) (toK0 n) ∧ (∀ b, (Value.slice A (firN n) c).ownBlock = some b → b ∉ blkL (.slice A1 n.2.1.length c1) ++ bs)) (fun z _ => n.2.1.length - (intOf z).toNat)
        case atStart => exact ⟨0, rows, bs, Nat.zero_le _, rfl, HRL.out, HC4.out, HT.out, HDJ.out⟩
        case round =>
          obtain ⟨j, rows, bs, hj, rfl, hrl, hcp, hto, hdj⟩ := hrel
          obtain ⟨w3, rfl⟩ : ∃ w3, w3 = wr := ⟨_, rfl⟩
          have HC := Lib.hid hcp
          have HT := Lib.hid hto
          have HDJ := Lib.hid hdj
          have HRL := Lib.hid hrl
          have g0 := hcp.box.cells.1.1
          have g1 := hcp.box.cells.1.2.1
          have g2 := hcp.box.cells.1.2.2.1
          have g3 := hcp.box.cells.1.2.2.2
          clear hcp hto hdj hrl
          by_cases hlt : j < n.2.1.length
          · obtain ⟨s, hs⟩ : ∃ s, n.2.1[j]? = some s := ⟨_, List.getElem?_eq_getElem hlt⟩
            have HSK := Lib.hid (setK_at hs)
            have HS4 := Lib.hid (show s.2.2.length ≤ 16 by have := (seq_ins (HP.out.seq s (List.mem_of_getElem? hs))).1; omega)
            have HNX := Lib.hid (setK_step hs)
            have hs16 := HS4.out
            obtain ⟨gg, cc, r, xA, xc, hv1, hr, x2, hfz, hgl, hgw⟩ := HC.out.rowAt HSK.out
            rw [HRL.out] at hv1
            injection hv1 with hv1 hv2 hv3
            subst hv1 hv3
            have HR := Lib.hid hr
            have HFZ := Lib.hid hfz
            have tj : (j : Int) < (n.2.1.length : Int) := by omega
            have HLT := Lib.hid HC.out.lt
            have hGw := HC.out.box.lt
            have hGg := HC.out.hG
            have hGne := Lib.hid (HC.out.off gg (by simp [blkL_at]))
            clear hs hr hfz hv2
            go_wp2_with fail
            have hS0 : (fun w' => Below w3.heap.size w3 w' ∧ w'.cell? ⟨G, 0, none⟩ = some (.int .i64 n.1) ∧ w'.cell? ⟨G, 1, none⟩ = some (.slice (some ⟨gg, 0, none⟩) n.2.1.length c1) ∧ w'.cell? ⟨G, 2, none⟩ = some (.slice none 0 0) ∧ w'.cell? ⟨G, 3, none⟩ = some (.slice none 0 0) ∧ w'.cell? ⟨gg, j * 3 + 2, none⟩ = some (.slice xA s.2.2.length xc)) w3 := ⟨Below.refl _ _, g0, g1, g2, g3, x2⟩
            have hS : ∀ {w0 w' : World}, (fun w' => Below w3.heap.size w3 w' ∧ w'.cell? ⟨G, 0, none⟩ = some (.int .i64 n.1) ∧ w'.cell? ⟨G, 1, none⟩ = some (.slice (some ⟨gg, 0, none⟩) n.2.1.length c1) ∧ w'.cell? ⟨G, 2, none⟩ = some (.slice none 0 0) ∧ w'.cell? ⟨G, 3, none⟩ = some (.slice none 0 0) ∧ w'.cell? ⟨gg, j * 3 + 2, none⟩ = some (.slice xA s.2.2.length xc)) w0 → Below w0.heap.size w0 w' → (fun w' => Below w3.heap.size w3 w' ∧ w'.cell? ⟨G, 0, none⟩ = some (.int .i64 n.1) ∧ w'.cell? ⟨G, 1, none⟩ = some (.slice (some ⟨gg, 0, none⟩) n.2.1.length c1) ∧ w'.cell? ⟨G, 2, none⟩ = some (.slice none 0 0) ∧ w'.cell? ⟨G, 3, none⟩ = some (.slice none 0 0) ∧ w'.cell? ⟨gg, j * 3 + 2, none⟩ = some (.slice xA s.2.2.length xc)) w' := fun h hb => ⟨bThen h.1 hb, keep hb h.2.1, keep hb h.2.2.1, keep hb h.2.2.2.1, keep hb h.2.2.2.2.1, keep hb h.2.2.2.2.2⟩
            dsimp only at hS0 hS
            refine wp_region_noPanic ?_
            refine wp_region_kept 11 14 (fun w' => Below w3.heap.size w3 w' ∧ w'.cell? ⟨G, 0, none⟩ = some (.int .i64 n.1) ∧ w'.cell? ⟨G, 1, none⟩ = some (.slice (some ⟨gg, 0, none⟩) n.2.1.length c1) ∧ w'.cell? ⟨G, 2, none⟩ = some (.slice none 0 0) ∧ w'.cell? ⟨G, 3, none⟩ = some (.slice none 0 0) ∧ w'.cell? ⟨gg, j * 3 + 2, none⟩ = some (.slice xA s.2.2.length xc)) (by kernel_rfl) rfl (hS hS0 (Below.drew (Below.refl _ _))) (fun hK0 => ?_)
            refine Kept.take (v := ?vzp460) 0 (by kernel_rfl) rfl (by kernel_rfl) (fun _ _ _ h => h) (Or.inl ⟨by rfl, ?hyzp460⟩) hK0 ?restzp460
            case hyzp460 =>
              intro w0 hSw
              (try dsimp only at hSw)
              go_simp
              all_goals (with_reducible rfl)
            (try simp only [Act.put, List.setIfInBounds_toArray, List.set_cons_zero, List.set_cons_succ])
            refine Kept.take (v := ?vzp461) 1 (by kernel_rfl) rfl (by kernel_rfl) (fun _ _ _ h => h) (Or.inl ⟨by rfl, ?hyzp461⟩) hK0 ?restzp461
            case hyzp461 =>
              intro w0 hSw
              (try dsimp only at hSw)
              go_simp
              all_goals (with_reducible rfl)
            (try simp only [Act.put, List.setIfInBounds_toArray, List.set_cons_zero, List.set_cons_succ])
            refine Kept.take (v := ?vzp462) 2 (by kernel_rfl) rfl (by kernel_rfl) (fun _ _ _ h => h) (Or.inl ⟨by rfl, ?hyzp462⟩) hK0 ?restzp462
            case hyzp462 =>
              intro w0 hSw
              (try dsimp only at hSw)
              go_simp
              all_goals (with_reducible rfl)
            (try simp only [Act.put, List.setIfInBounds_toArray, List.set_cons_zero, List.set_cons_succ])
            refine Kept.take (v := ?vzp463) 3 (by kernel_rfl) rfl (by kernel_rfl) (fun _ _ _ h => h) (Or.inl ⟨by rfl, ?hyzp463⟩) hK0 ?restzp463
            case hyzp463 =>
              intro w0 hSw
              (try dsimp only at hSw)
              go_simp
              all_goals (with_reducible rfl)
            (try simp only [Act.put, List.setIfInBounds_toArray, List.set_cons_zero, List.set_cons_succ])
            refine Kept.take (v := ?vzp464) 4 (by kernel_rfl) rfl (by kernel_rfl) (fun _ _ _ h => h) (Or.inl ⟨by rfl, ?hyzp464⟩) hK0 ?restzp464
            case hyzp464 =>
              intro w0 hSw
              (try dsimp only at hSw)
              go_simp
              all_goals (with_reducible rfl)
            (try simp only [Act.put, List.setIfInBounds_toArray, List.set_cons_zero, List.set_cons_succ])
            refine Kept.take (v := ?vzp465) 5 (by kernel_rfl) rfl (by kernel_rfl) (fun _ _ _ h => h) (Or.inl ⟨by rfl, ?hyzp465⟩) hK0 ?restzp465
            case hyzp465 =>
              intro w0 hSw
              (try dsimp only at hSw)
              go_simp
              all_goals (with_reducible rfl)
            (try simp only [Act.put, List.setIfInBounds_toArray, List.set_cons_zero, List.set_cons_succ])
            refine Kept.take (v := ?vzp466) 6 (by kernel_rfl) rfl (by kernel_rfl) (fun _ _ _ h => h) (Or.inl ⟨by rfl, ?hyzp466⟩) hK0 ?restzp466
            case hyzp466 =>
              intro w0 hSw
              (try dsimp only at hSw)
              go_simp
              all_goals (with_reducible rfl)
            (try simp only [Act.put, List.setIfInBounds_toArray, List.set_cons_zero, List.set_cons_succ])
            refine Kept.take (v := ?vzp467) 7 (by kernel_rfl) rfl (by kernel_rfl) (fun _ _ _ h => h) (Or.inl ⟨by rfl, ?hyzp467⟩) hK0 ?restzp467
            case hyzp467 =>
              intro w0 hSw
              (try dsimp only at hSw)
              go_simp
              all_goals (with_reducible rfl)
            (try simp only [Act.put, List.setIfInBounds_toArray, List.set_cons_zero, List.set_cons_succ])
            refine Kept.take (v := ?vzp468) 8 (by kernel_rfl) rfl (by kernel_rfl) (fun _ _ _ h => h) (Or.inl ⟨by rfl, ?hyzp468⟩) hK0 ?restzp468
            case hyzp468 =>
              intro w0 hSw
              (try dsimp only at hSw)
              go_simp
              all_goals (with_reducible rfl)
            (try simp only [Act.put, List.setIfInBounds_toArray, List.set_cons_zero, List.set_cons_succ])
            refine Kept.take (v := ?vzp469) 9 (by kernel_rfl) rfl (by kernel_rfl) (fun _ _ _ h => h) (Or.inl ⟨by rfl, ?hyzp469⟩) hK0 ?restzp469
            case hyzp469 =>
              intro w0 hSw
              (try dsimp only at hSw)
              go_simp
              all_goals (with_reducible rfl)
            (try simp only [Act.put, List.setIfInBounds_toArray, List.set_cons_zero, List.set_cons_succ])
            refine Kept.one 10 (by kernel_rfl) rfl (fun K hK => ?_)
            refine step_make (by rfl) _ _ 24 (by rfl) w3.heap.size 3 i0 (.int .i64 0) 1 Try.underlying24 hi hz0 hz1 .i64 .i64 s.2.2.length (by rfl) (by rfl) (by rw [hz2]; omega) (by unfold maxLen; omega) (Nat.le_refl _) ?_
            intro w4 hown4 hgrow4
            have hb4 := below_grown0 hgrow4
            have hK0b := Lib.hid hK0.1
            have HO4 := Lib.hid (own_makeI hown4)
            clear hown4 hgrow4
            refine hK.out _ _ (hS hK0 hb4) (fun hK1 => ?_)
            clear hK K hK0
            (try simp only [Act.put, List.setIfInBounds_toArray, List.set_cons_zero, List.set_cons_succ])
            refine Kept.tail (by rfl) (by kernel_rfl) ?_
            simp only [List.drop_succ_cons, List.drop_zero]
            have y1 := hK1.2.2.1
            have y2 := hK1.2.2.2.2.2
            have yz : w4.frozen? ⟨gg, j * 3 + 2, none⟩ = false := (World.frozen?_of_block ((bThen hK0b.out hb4).block gg hgl)).trans (HFZ.out _)
            have HB34 := Lib.hid (bThen hK0b.out hb4)
            have HC5 := Lib.hid (HC.out.below HB34.out)
            have HT5 := Lib.hid (HT.out.below HB34.out)
            clear hK1 hS hS0 hb4 g0 g1 g2 g3 x2
            go_wp2
            refine NoPanic.normal ?_
            obtain ⟨bs', rows', hc6, hl6, hb6⟩ := CopyAt.setIn (N := w3.heap.size) (by rw [← HRL.out] at HC5; exact HC5.out) (by rw [HRL.out]; exact hlt) HR.out HSK.out HO4.out (fun x hx => by rw [List.eq_of_mem_replicate hx]; unfold Fit; omega) (by omega) hGw (fun b hb => HLT.out b (by rw [HRL.out] at hb; exact hb))
            rw [HRL.out] at hc6 hl6
            have HC6 := Lib.hid hc6
            have HL6 := Lib.hid hl6
            have HT6 := Lib.hid (ownI_far (k := j * 3 + 2) (u := .slice (some ⟨w3.heap.size, 0, none⟩) s.2.2.length s.2.2.length) HT5.out (fun e => HDJ.out gg e (by simp [blkL_at])))
            have HD6 := Lib.hid (show ∀ b, (Value.slice A (firN n) c).ownBlock = some b → b ∉ blkL (Value.slice (some ⟨gg, 0, none⟩) n.2.1.length c1) ++ bs' from fun b e hm => by
              rcases List.mem_append.1 hm with hm | hm
              · exact HDJ.out b e (List.mem_append.2 (.inl hm))
              · rcases hb6 b hm with hm | hm
                · exact HDJ.out b e (List.mem_append.2 (.inr hm))
                · have := (HT.out.lt b e).2; omega)
            clear hc6 hl6 hb6 y1 y2 yz
            go_wp2
            go_roundw
            case rel => exact ⟨j + 1, rows', bs', by omega, by go_num, HL6.out, by rw [HNX.out]; exact HC6.out, HT6.out, HD6.out⟩
            case measure => simp [intOf] <;> omega
          · obtain rfl : n.2.1.length = j := by omega
            have f0 := HC.out.res.cells.1.1
            have f1 := HC.out.res.cells.1.2.1
            have f2 := HC.out.res.cells.1.2.2.1
            have f3 := HC.out.res.cells.1.2.2.2
            have fz := HC.out.res.cells.2
            have HD2 := Lib.hid (HC.out.done (.int .i64 n.1) (.slice A1 n.2.1.length c1) (.slice none 0 0) (.slice none 0 0))
            rw [setK_all] at HD2
            have HT2 := Lib.hid (ownI_far (g := w.heap.size + 1) (k := 3) (u := .slice none 0 0) (ownI_far (g := w.heap.size + 1) (k := 2) (u := .slice none 0 0) (ownI_far (g := w.heap.size + 1) (k := 1) (u := (.slice A1 n.2.1.length c1)) (ownI_far (g := w.heap.size + 1) (k := 0) (u := .int .i64 n.1) HT.out (fun e => by have := (HT.out.lt _ e).1; omega)) (fun e => by have := (HT.out.lt _ e).1; omega)) (fun e => by have := (HT.out.lt _ e).1; omega)) (fun e => by have := (HT.out.lt _ e).1; omega))
            clear hlt
            go_wp2
            ((try simp only [Exit.inBlock, Exit.then]); refine bodyPost_ret (v := (.tuple #[.agg #[.int .i64 n.1, (.slice A1 n.2.1.length c1), .slice none 0 0, .slice none 0 0], .slice A (firN n) c])) (by rw [results_cell_tmp rfl]; go_simp) rfl ?_)
            exact ⟨_, rows, bs, _, rfl, HD2.out.1, HT2.out.lower hw5, (fun b e => ⟨fun hm => HDJ.out b e (List.mem_append.2 (.inl hm)), fun hm => HDJ.out b e (List.mem_append.2 (.inr hm))⟩), HD2.out.2⟩
  · have ho' := Option.some.inj ho
    subst ho'
    go_simp
    obtain ⟨p6, hw2⟩ : ∃ x, x = (Wd.alloc (.cells #[.int .i64 0, .slice none 0 0, .slice none 0 0, .slice none 0 0] 36)) := ⟨_, rfl⟩
    rw [← hw2]
    have hbN : Below Wd.heap.size Wd p6 := by rw [hw2]; exact bAlloc (Below.refl _ _) (Nat.le_refl _) _
    have HGz0 := Lib.hid (show BoxN p6 Wd.heap.size (.int .i64 0) vNil vNil vNil by rw [hw2]; exact heap_alloc_new _ _)
    have hltp6 : Wd.heap.size + 1 ≤ p6.heap.size := by rw [hw2]; simp
    have hWlp6 : w.heap.size + 2 ≤ Wd.heap.size := by have := HB0.out.size; omega
    obtain ⟨G, hG⟩ : ∃ G, G = Wd.heap.size := ⟨_, rfl⟩
    rw [← hG] at HGz0 ⊢
    have HGz := HGz0
    have hG1 := Nat.le_of_eq hG
    have hG2 := Nat.le_of_eq hG.symm
    clear HGz0 hw2 hG
    have hszp6 : Wd.heap.size ≤ p6.heap.size := hbN.size
    replace HR := Lib.hid (HR.out.at (hbN.block _ HR.out.lt))
    replace HB := Lib.hid (bThen HB.out hbN)
    replace HB0 := Lib.hid (bThen HB0.out hbN)
    refine hK.out _ _ (hS hK0 hbN) (fun hK1 => ?_)
    clear hK K hK0 hbN
    (try simp only [Act.put, List.setIfInBounds_toArray, List.set_cons_zero, List.set_cons_succ])
    refine Kept.one 4 (by kernel_rfl) rfl (fun K hK => ?_)
    go_simp
    go_at_call 123
    refine (copySeqs_at n.2.1 _ _ (rdUp good_SeqS mR1.out HB.out) (by omega) HIN.out).mono ?_
    rintro e p64 ⟨vS, rows, bs, rfl, hg, hbN⟩
    have HSB := Lib.hid (show ∀ b ∈ blkL vS ++ bs, p6.heap.size ≤ b ∧ b < p64.heap.size from fun b hb => ⟨(hg.lt gow_Seq hb).2, (hg.lt gow_Seq hb).1⟩)
    have HGS := Lib.hid (gr_lower hg (B' := w.heap.size + 2) (by have := HB.out.size; omega))
    obtain ⟨A1, c1, rfl⟩ := HGS.out.cap fV3_len
    clear hg
    have hszp64 : p6.heap.size ≤ p64.heap.size := hbN.size
    replace HR := Lib.hid (HR.out.at (hbN.block _ HR.out.lt))
    replace HB := Lib.hid (bThen HB.out hbN)
    replace HB0 := Lib.hid (bThen HB0.out hbN)
    replace HGz := Lib.hid (HGz.out.at (hbN.block _ HGz.out.lt))
    go_simp
    refine hK.out _ _ (hS hK1 hbN) (fun hK2 => ?_)
    clear hK K hK1 hbN
    (try simp only [Act.put, List.setIfInBounds_toArray, List.set_cons_zero, List.set_cons_succ])
    refine Kept.take (v := ?vtp645) 5 (by kernel_rfl) rfl (by kernel_rfl) (fun _ _ _ h => h) (Or.inl ⟨by rfl, ?hytp645⟩) hK2 ?resttp645
    case hytp645 =>
      intro w0 hSw
      (try dsimp only at hSw)
      go_simp
      all_goals (with_reducible rfl)
    (try simp only [Act.put, List.setIfInBounds_toArray, List.set_cons_zero, List.set_cons_succ])
    have HNET := Lib.hid (show NetG (w.heap.size + 2) p64 (.slice A1 n.2.1.length c1) (.slice none 0 0) (.slice none 0 0) rows bs (n.1, n.2.1, [], []) from
      ⟨HGS.out, GrR.nil _ _ _ _ _ _, GrR.nil _ _ _ _ _ _, (fun b hb hm => by simp [blkL_nil] at hm), (fun b hb hm => by simp [blkL_nil] at hm), (fun b hb hm => by simp [blkL_nil] at hm), HFN.out⟩)
    have HOFF := Lib.hid (show ∀ b ∈ blkL (.slice A1 n.2.1.length c1) ++ (bs ++ (blkL (Value.slice none 0 0) ++ blkL (Value.slice none 0 0))), b ≠ G from fun b hb => by
      simp only [blkL_nil, List.append_nil] at hb
      have h1 := HSB.out b hb
      have := HGz.out.lt
      omega)
    have HC := Lib.hid (CopyAt.stored HGz.out HR.out HNET.out HOFF.out HB0.out (Nat.le_succ _) (by omega) (by omega))
    have k0 := HGz.out.cells.1.1
    have k1 := HGz.out.cells.1.2.1
    have k2 := HGz.out.cells.1.2.2.1
    have k3 := HGz.out.cells.1.2.2.2
    have kz := HGz.out.cells.2
    have HE := Lib.hid hK2
    clear hK2 HNET HOFF HSB HGS HR
    refine Kept.tail (by rfl) (by kernel_rfl) ?_
    simp only [List.drop_succ_cons, List.drop_zero]
    have hEG : w.heap.size ≠ G := by omega
    go_wp2
    refine NoPanic.normal ?_
    obtain ⟨W5, hW5⟩ : ∃ x, x = ((((p64.setCell ⟨G, 0, none⟩ (.int .i64 n.1)).setCell ⟨G, 1, none⟩ (.slice A1 n.2.1.length c1)).setCell ⟨G, 2, none⟩ (.slice none 0 0)).setCell ⟨G, 3, none⟩ (.slice none 0 0)) := ⟨_, rfl⟩
    rw [← hW5] at HC ⊢
    have d0 : W5.cell? ⟨w.heap.size, 0, none⟩ = some (.int .i64 n.1) := by rw [hW5]; exact (World.cell?_of_block (far4 hEG)).trans HE.out.2.1
    have d1 : W5.cell? ⟨w.heap.size, 1, none⟩ = some (.slice mA1 (n.2.1).length mc1) := by rw [hW5]; exact (World.cell?_of_block (far4 hEG)).trans HE.out.2.2.1
    have d2 : W5.cell? ⟨w.heap.size, 2, none⟩ = some (.slice mA2 (n.2.2.1).length mc2) := by rw [hW5]; exact (World.cell?_of_block (far4 hEG)).trans HE.out.2.2.2.1
    have d3 : W5.cell? ⟨w.heap.size, 3, none⟩ = some (.slice mA3 (n.2.2.2).length mc3) := by rw [hW5]; exact (World.cell?_of_block (far4 hEG)).trans HE.out.2.2.2.2
    have hGlt := HC.out.box.lt
    clear hW5 k0 k1 k2 k3 kz HE HGz HB
    have HB5 := Lib.hid HC.out.chg
    go_wp2_with fail
    obtain ⟨W6, hW6⟩ : ∃ x, x = W5.alloc (.cells #[] 3) := ⟨_, rfl⟩
    rw [← hW6]
    have hb6 : Below W5.heap.size W5 W6 := by rw [hW6]; exact bAlloc (Below.refl _ _) (Nat.le_refl _) _
    have HO := Lib.hid (show OwnsI W6 W5.heap.size (.slice (some ⟨W5.heap.size, 0, none⟩) 0 0) [] by rw [hW6]; exact own_newI W5 W5.heap.size (Nat.le_refl _))
    replace d0 := keep hb6 d0
    replace d1 := keep hb6 d1
    replace d2 := keep hb6 d2
    replace d3 := keep hb6 d3
    have HB := Lib.hid hb6
    have HE0 := Lib.hid d0
    have HE1 := Lib.hid d1
    have HE2 := Lib.hid d2
    have HE3 := Lib.hid d3
    have hw5 := HB5.out.size
    clear hW6 hb6 d0 d1 d2 d3
    go_loopw [5, 6] (fun s z wr => ∃ (k : Nat) (A : Option Addr) (c : Nat), k ≤ firN n ∧ z = .int .i64 (k : Int) ∧ s = .slice A k c ∧ OwnsI wr W5.heap.size (.slice A k c) ((toK0 n).take k) ∧ Below W5.heap.size W5 wr ∧ wr.cell? ⟨w.heap.size, 0, none⟩ = some (.int .i64 n.1) ∧ wr.cell? ⟨w.heap.size, 1, none⟩ = some (.slice mA1 (n.2.1).length mc1) ∧ wr.cell? ⟨w.heap.size, 2, none⟩ = some (.slice mA2 (n.2.2.1).length mc2) ∧ wr.cell? ⟨w.heap.size, 3, none⟩ = some (.slice mA3 (n.2.2.2).length mc3)) (fun _ z _ => firN n - (intOf z).toNat)
    case atStart => exact ⟨0, _, 0, Nat.zero_le _, rfl, rfl, HO.out, HB.out, HE0.out, HE1.out, HE2.out, HE3.out⟩
    case round =>
      obtain ⟨k, A, c, hk, rfl, rfl, hown, hb, d0, d1, d2, d3⟩ := hrel
      obtain ⟨w3, rfl⟩ : ∃ w3, w3 = wr := ⟨_, rfl⟩
      clear HO HB HE0 HE1 HE2 HE3
      have HO := Lib.hid hown
      have HB := Lib.hid hb
      have HWW := Lib.hid (bThen HB5.out hb)
      clear hown hb
      go_wp2_with fail
      refine (specFirst_at n _ _ (rdUp good_Net HD.out HWW.out) (Nat.le_refl _) HP.out.sz).mono ?_
      rintro e w4 ⟨rfl, hb4⟩
      replace d0 := keep hb4 d0
      replace d1 := keep hb4 d1
      replace d2 := keep hb4 d2
      replace d3 := keep hb4 d3
      replace HO := Lib.hid (HO.out.below hb4)
      replace HB := Lib.hid (bThen HB.out hb4)
      clear hb4 HWW
      by_cases hlt : k < firN n
      · have tk : (k : Int) < ((firN n : Nat) : Int) := by omega
        obtain ⟨KL, hKL⟩ : ∃ KL, (toK0 n).take k = KL := ⟨_, rfl⟩
        have HNX := Lib.hid (show (toK0 n).take (k + 1) = KL ++ [((2 * k : Nat) : Int)] by rw [List.take_add_one, toK0_at hlt, hKL]; rfl)
        have HLK := Lib.hid (show KL.length = k by rw [← hKL, List.length_take, toK0_len]; omega)
        rw [hKL] at HO
        have e2k : IntKind.i64.wrap (2 * (k : Int)) = ((2 * k : Nat) : Int) := by rw [wrap64_int _ (by omega) (by omega)]; omega
        obtain ⟨y, hy⟩ : ∃ y : Int, ((2 * k : Nat) : Int) = y := ⟨_, rfl⟩
        rw [hy] at HNX e2k
        have HBA := Lib.hid (show Below w4.heap.size w4 (w4.alloc (.cells #[.int .i64 y] 3)) from bAlloc (Below.refl _ _) (Nat.le_refl _) _)
        have HNBk := Lib.hid (show (w4.alloc (.cells #[.int .i64 y] 3)).heap[w4.heap.size]? = some (.cells #[.int .i64 y] 3 (0, 0)) from heap_alloc_new _ _)
        have HOA := Lib.hid (HO.out.below HBA.out)
        have hsz := Lib.hid (show W5.heap.size ≤ (w4.alloc (.cells #[.int .i64 y] 3)).heap.size from Nat.le_trans HB.out.size HBA.out.size)
        have HOR := Lib.hid (show (w4.alloc (.cells #[.int .i64 y] 3)).ownsRow W5.heap.size 3 1 (.slice A k c) k (KL.map vI) by have h := HOA.out; unfold OwnsI at h; rw [HLK.out] at h; exact h)
        have HD4 := Lib.hid (And.intro d0 (And.intro d1 (And.intro d2 d3)))
        clear hKL hy d0 d1 d2 d3
        go_wp2_with (at_builtin; refine wpList_append_all (by rfl) _ _ 24 (by rfl) W5.heap.size 3 i0 (.int .i64 0) 1 8 Try.underlying24 hi hz0 hz1 hz2 rfl (by omega) (.slice A k c) k (KL.map vI) (by rfl) HOR.out (some ⟨w4.heap.size, 0, none⟩) 1 1 [.int .i64 y] (by rfl) (by rfl) (.inr ⟨_, rfl, World.news_of_block HNBk.out⟩) (by simp [Value.oneCell']) (by unfold maxLen; omega) (by omega) hsz.out ?_; intro A' c' w7 hown7 hgrow7 hkeep7 hat7)
        have hne : ∀ (bb : Nat), bb < W5.heap.size → some bb ≠ (Value.slice A k c).ownBlock := fun bb hbb e => by have := (HO.out.lt bb e.symm).1; omega
        have HB7 := Lib.hid (((bThen HB.out HBA.out).grown hgrow7 hsz.out (fun g hg => (HO.out.lt g hg).1)))
        have HO7 := Lib.hid (show OwnsI w7 W5.heap.size (.slice A' (k + 1) c') (KL ++ [y]) from (by unfold OwnsI; rw [List.length_append, List.map_append, HLK.out]; exact hown7))
        have h0 := grown_keep hgrow7 (keep HBA.out HD4.out.1) (hne w.heap.size (by omega))
        have h1 := grown_keep hgrow7 (keep HBA.out HD4.out.2.1) (hne w.heap.size (by omega))
        have h2 := grown_keep hgrow7 (keep HBA.out HD4.out.2.2.1) (hne w.heap.size (by omega))
        have h3 := grown_keep hgrow7 (keep HBA.out HD4.out.2.2.2) (hne w.heap.size (by omega))
        clear hown7 hgrow7 hkeep7 hat7 hsz hne
        go_roundw
        case rel => exact ⟨k + 1, A', c', by omega, by go_num, rfl, by rw [HNX.out]; exact HO7.out, HB7.out, h0, h1, h2, h3⟩
        case measure => simp [intOf] <;> omega
      · obtain rfl : firN n = k := by omega
        have hT := HO.out
        rw [List.take_of_length_le (by rw [toK0_len]; exact Nat.le_refl _)] at hT
        have HT := Lib.hid hT
        have HW3 := Lib.hid HB.out
        have HC3 := Lib.hid (HC.out.below HB.out)
        clear hT HO HB hlt d0 d1 d2 d3
        go_wp2
        have HCF := Lib.hid HC3.out
        have HTD := Lib.hid (show ∀ b, (Value.slice A (firN n) c).ownBlock = some b → W5.heap.size ≤ b ∧ b < w4.heap.size from fun b e => HT.out.lt b e)
        have HDJ := Lib.hid (show ∀ b, (Value.slice A (firN n) c).ownBlock = some b → b ∉ blkL (.slice A1 n.2.1.length c1) ++ bs from fun b e hm => by
          have h1 := (HTD.out b e).1
          have h2 := HC.out.lt b (by rcases List.mem_append.1 hm with hm | hm <;> simp [hm])
          omega)
        have HC4 := Lib.hid (show CopyAt w w4 (w.heap.size + 1) G (.slice A1 n.2.1.length c1) (.slice none 0 0) (.slice none 0 0) rows bs (n.1, setK n.2.1 0, [], []) by rw [setK_zero]; exact HC3.out)
        have HRL := Lib.hid (show rows.length = n.2.1.length from HC3.out.net.s.len)
        go_loopw [7] (fun z wr => ∃ (j : Nat) (rows : List V3) (bs : List Nat), j ≤ n.2.1.length ∧ z = .int .i64 (j : Int) ∧ rows.length = n.2.1.length ∧ CopyAt w wr (w.heap.size + 1) G (.slice A1 n.2.1.length c1) (.slice none 0 0) (.slice none 0 0) rows bs (n.1, setK n.2.1 j, [], []) ∧ OwnsI wr W5.heap.size (.slice A (firN n) c) (toK0 n) ∧ (∀ b, (Value.slice A (firN n) c).ownBlock = some b → b ∉ blkL (.slice A1 n.2.1.length c1) ++ bs)) (fun z _ => n.2.1.length - (intOf z).toNat)
        case atStart => exact ⟨0, rows, bs, Nat.zero_le _, rfl, HRL.out, HC4.out, HT.out, HDJ.out⟩
        case round =>
          obtain ⟨j, rows, bs, hj, rfl, hrl, hcp, hto, hdj⟩ := hrel
          obtain ⟨w3, rfl⟩ : ∃ w3, w3 = wr := ⟨_, rfl⟩
          have HC := Lib.hid hcp
          have HT := Lib.hid hto
          have HDJ := Lib.hid hdj
          have HRL := Lib.hid hrl
          have g0 := hcp.box.cells.1.1
          have g1 := hcp.box.cells.1.2.1
          have g2 := hcp.box.cells.1.2.2.1
          have g3 := hcp.box.cells.1.2.2.2
          clear hcp hto hdj hrl
          by_cases hlt : j < n.2.1.length
          · obtain ⟨s, hs⟩ : ∃ s, n.2.1[j]? = some s := ⟨_, List.getElem?_eq_getElem hlt⟩
            have HSK := Lib.hid (setK_at hs)
            have HS4 := Lib.hid (show s.2.2.length ≤ 16 by have := (seq_ins (HP.out.seq s (List.mem_of_getElem? hs))).1; omega)
            have HNX := Lib.hid (setK_step hs)
            have hs16 := HS4.out
            obtain ⟨gg, cc, r, xA, xc, hv1, hr, x2, hfz, hgl, hgw⟩ := HC.out.rowAt HSK.out
            rw [HRL.out] at hv1
            injection hv1 with hv1 hv2 hv3
            subst hv1 hv3
            have HR := Lib.hid hr
            have HFZ := Lib.hid hfz
            have tj : (j : Int) < (n.2.1.length : Int) := by omega
            have HLT := Lib.hid HC.out.lt
            have hGw := HC.out.box.lt
            have hGg := HC.out.hG
            have hGne := Lib.hid (HC.out.off gg (by simp [blkL_at]))
            clear hs hr hfz hv2
            go_wp2_with fail
            have hS0 : (fun w' => Below w3.heap.size w3 w' ∧ w'.cell? ⟨G, 0, none⟩ = some (.int .i64 n.1) ∧ w'.cell? ⟨G, 1, none⟩ = some (.slice (some ⟨gg, 0, none⟩) n.2.1.length c1) ∧ w'.cell? ⟨G, 2, none⟩ = some (.slice none 0 0) ∧ w'.cell? ⟨G, 3, none⟩ = some (.slice none 0 0) ∧ w'.cell? ⟨gg, j * 3 + 2, none⟩ = some (.slice xA s.2.2.length xc)) w3 := ⟨Below.refl _ _, g0, g1, g2, g3, x2⟩
            have hS : ∀ {w0 w' : World}, (fun w' => Below w3.heap.size w3 w' ∧ w'.cell? ⟨G, 0, none⟩ = some (.int .i64 n.1) ∧ w'.cell? ⟨G, 1, none⟩ = some (.slice (some ⟨gg, 0, none⟩) n.2.1.length c1) ∧ w'.cell? ⟨G, 2, none⟩ = some (.slice none 0 0) ∧ w'.cell? ⟨G, 3, none⟩ = some (.slice none 0 0) ∧ w'.cell? ⟨gg, j * 3 + 2, none⟩ = some (.slice xA s.2.2.length xc)) w0 → Below w0.heap.size w0 w' → (fun w' => Below w3.heap.size w3 w' ∧ w'.cell? ⟨G, 0, none⟩ = some (.int .i64 n.1) ∧ w'.cell? ⟨G, 1, none⟩ = some (.slice (some ⟨gg, 0, none⟩) n.2.1.length c1) ∧ w'.cell? ⟨G, 2, none⟩ = some (.slice none 0 0) ∧ w'.cell? ⟨G, 3, none⟩ = some (.slice none 0 0) ∧ w'.cell? ⟨gg, j * 3 + 2, none⟩ = some (.slice xA s.2.2.length xc)) w' := fun h hb => ⟨bThen h.1 hb, keep hb h.2.1, keep hb h.2.2.1, keep hb h.2.2.2.1, keep hb h.2.2.2.2.1, keep hb h.2.2.2.2.2⟩
            dsimp only at hS0 hS
            refine wp_region_noPanic ?_
            refine wp_region_kept 11 14 (fun w' => Below w3.heap.size w3 w' ∧ w'.cell? ⟨G, 0, none⟩ = some (.int .i64 n.1) ∧ w'.cell? ⟨G, 1, none⟩ = some (.slice (some ⟨gg, 0, none⟩) n.2.1.length c1) ∧ w'.cell? ⟨G, 2, none⟩ = some (.slice none 0 0) ∧ w'.cell? ⟨G, 3, none⟩ = some (.slice none 0 0) ∧ w'.cell? ⟨gg, j * 3 + 2, none⟩ = some (.slice xA s.2.2.length xc)) (by kernel_rfl) rfl (hS hS0 (Below.drew (Below.refl _ _))) (fun hK0 => ?_)
            refine Kept.take (v := ?vzp640) 0 (by kernel_rfl) rfl (by kernel_rfl) (fun _ _ _ h => h) (Or.inl ⟨by rfl, ?hyzp640⟩) hK0 ?restzp640
            case hyzp640 =>
              intro w0 hSw
              (try dsimp only at hSw)
              go_simp
              all_goals (with_reducible rfl)
            (try simp only [Act.put, List.setIfInBounds_toArray, List.set_cons_zero, List.set_cons_succ])
            refine Kept.take (v := ?vzp641) 1 (by kernel_rfl) rfl (by kernel_rfl) (fun _ _ _ h => h) (Or.inl ⟨by rfl, ?hyzp641⟩) hK0 ?restzp641
            case hyzp641 =>
              intro w0 hSw
              (try dsimp only at hSw)
              go_simp
              all_goals (with_reducible rfl)
            (try simp only [Act.put, List.setIfInBounds_toArray, List.set_cons_zero, List.set_cons_succ])
            refine Kept.take (v := ?vzp642) 2 (by kernel_rfl) rfl (by kernel_rfl) (fun _ _ _ h => h) (Or.inl ⟨by rfl, ?hyzp642⟩) hK0 ?restzp642
            case hyzp642 =>
              intro w0 hSw
              (try dsimp only at hSw)
              go_simp
              all_goals (with_reducible rfl)
            (try simp only [Act.put, List.setIfInBounds_toArray, List.set_cons_zero, List.set_cons_succ])
            refine Kept.take (v := ?vzp643) 3 (by kernel_rfl) rfl (by kernel_rfl) (fun _ _ _ h => h) (Or.inl ⟨by rfl, ?hyzp643⟩) hK0 ?restzp643
            case hyzp643 =>
              intro w0 hSw
              (try dsimp only at hSw)
              go_simp
              all_goals (with_reducible rfl)
            (try simp only [Act.put, List.setIfInBounds_toArray, List.set_cons_zero, List.set_cons_succ])
            refine Kept.take (v := ?vzp644) 4 (by kernel_rfl) rfl (by kernel_rfl) (fun _ _ _ h => h) (Or.inl ⟨by rfl, ?hyzp644⟩) hK0 ?restzp644
            case hyzp644 =>
              intro w0 hSw
              (try dsimp only at hSw)
              go_simp
              all_goals (with_reducible rfl)
            (try simp only [Act.put, List.setIfInBounds_toArray, List.set_cons_zero, List.set_cons_succ])
            refine Kept.take (v := ?vzp645) 5 (by kernel_rfl) rfl (by kernel_rfl) (fun _ _ _ h => h) (Or.inl ⟨by rfl, ?hyzp645⟩) hK0 ?restzp645
            case hyzp645 =>
              intro w0 hSw
              (try dsimp only at hSw)
              go_simp
              all_goals (with_reducible rfl)
            (try simp only [Act.put, List.setIfInBounds_toArray, List.set_cons_zero, List.set_cons_succ])
            refine Kept.take (v := ?vzp646) 6 (by kernel_rfl) rfl (by kernel_rfl) (fun _ _ _ h => h) (Or.inl ⟨by rfl, ?hyzp646⟩) hK0 ?restzp646
            case hyzp646 =>
              intro w0 hSw
              (try dsimp only at hSw)
              go_simp
              all_goals (with_reducible rfl)
            (try simp only [Act.put, List.setIfInBounds_toArray, List.set_cons_zero, List.set_cons_succ])
            refine Kept.take (v := ?vzp647) 7 (by kernel_rfl) rfl (by kernel_rfl) (fun _ _ _ h => h) (Or.inl ⟨by rfl, ?hyzp647⟩) hK0 ?restzp647
            case hyzp647 =>
              intro w0 hSw
              (try dsimp only at hSw)
              go_simp
              all_goals (with_reducible rfl)
            (try simp only [Act.put, List.setIfInBounds_toArray, List.set_cons_zero, List.set_cons_succ])
            refine Kept.take (v := ?vzp648) 8 (by kernel_rfl) rfl (by kernel_rfl) (fun _ _ _ h => h) (Or.inl ⟨by rfl, ?hyzp648⟩) hK0 ?restzp648
            case hyzp648 =>
              intro w0 hSw
              (try dsimp only at hSw)
              go_simp
              all_goals (with_reducible rfl)
            (try simp only [Act.put, List.setIfInBounds_toArray, List.set_cons_zero, List.set_cons_succ])
            refine Kept.take (v := ?vzp649) 9 (by kernel_rfl) rfl (by kernel_rfl) (fun _ _ _ h => h) (Or.inl ⟨by rfl, ?hyzp649⟩) hK0 ?restzp649
            case hyzp649 =>
              intro w0 hSw
              (try dsimp only at hSw)
              go_simp
              all_goals (with_reducible rfl)
            (try simp only [Act.put, List.setIfInBounds_toArray, List.set_cons_zero, List.set_cons_succ])
            refine Kept.one 10 (by kernel_rfl) rfl (fun K hK => ?_)
            refine step_make (by rfl) _ _ 24 (by rfl) w3.heap.size 3 i0 (.int .i64 0) 1 Try.underlying24 hi hz0 hz1 .i64 .i64 s.2.2.length (by rfl) (by rfl) (by rw [hz2]; omega) (by unfold maxLen; omega) (Nat.le_refl _) ?_
            intro w4 hown4 hgrow4
            have hb4 := below_grown0 hgrow4
            have hK0b := Lib.hid hK0.1
            have HO4 := Lib.hid (own_makeI hown4)
            clear hown4 hgrow4
            refine hK.out _ _ (hS hK0 hb4) (fun hK1 => ?_)
            clear hK K hK0
            (try simp only [Act.put, List.setIfInBounds_toArray, List.set_cons_zero, List.set_cons_succ])
            refine Kept.tail (by rfl) (by kernel_rfl) ?_
            simp only [List.drop_succ_cons, List.drop_zero]
            have y1 := hK1.2.2.1
            have y2 := hK1.2.2.2.2.2
            have yz : w4.frozen? ⟨gg, j * 3 + 2, none⟩ = false := (World.frozen?_of_block ((bThen hK0b.out hb4).block gg hgl)).trans (HFZ.out _)
            have HB34 := Lib.hid (bThen hK0b.out hb4)
            have HC5 := Lib.hid (HC.out.below HB34.out)
            have HT5 := Lib.hid (HT.out.below HB34.out)
            clear hK1 hS hS0 hb4 g0 g1 g2 g3 x2
            go_wp2
            refine NoPanic.normal ?_
            obtain ⟨bs', rows', hc6, hl6, hb6⟩ := CopyAt.setIn (N := w3.heap.size) (by rw [← HRL.out] at HC5; exact HC5.out) (by rw [HRL.out]; exact hlt) HR.out HSK.out HO4.out (fun x hx => by rw [List.eq_of_mem_replicate hx]; unfold Fit; omega) (by omega) hGw (fun b hb => HLT.out b (by rw [HRL.out] at hb; exact hb))
            rw [HRL.out] at hc6 hl6
            have HC6 := Lib.hid hc6
            have HL6 := Lib.hid hl6
            have HT6 := Lib.hid (ownI_far (k := j * 3 + 2) (u := .slice (some ⟨w3.heap.size, 0, none⟩) s.2.2.length s.2.2.length) HT5.out (fun e => HDJ.out gg e (by simp [blkL_at])))
            have HD6 := Lib.hid (show ∀ b, (Value.slice A (firN n) c).ownBlock = some b → b ∉ blkL (Value.slice (some ⟨gg, 0, none⟩) n.2.1.length c1) ++ bs' from fun b e hm => by
              rcases List.mem_append.1 hm with hm | hm
              · exact HDJ.out b e (List.mem_append.2 (.inl hm))
              · rcases hb6 b hm with hm | hm
                · exact HDJ.out b e (List.mem_append.2 (.inr hm))
                · have := (HT.out.lt b e).2; omega)
            clear hc6 hl6 hb6 y1 y2 yz
            go_wp2
            go_roundw
            case rel => exact ⟨j + 1, rows', bs', by omega, by go_num, HL6.out, by rw [HNX.out]; exact HC6.out, HT6.out, HD6.out⟩
            case measure => simp [intOf] <;> omega
          · obtain rfl : n.2.1.length = j := by omega
            have f0 := HC.out.res.cells.1.1
            have f1 := HC.out.res.cells.1.2.1
            have f2 := HC.out.res.cells.1.2.2.1
            have f3 := HC.out.res.cells.1.2.2.2
            have fz := HC.out.res.cells.2
            have HD2 := Lib.hid (HC.out.done (.int .i64 n.1) (.slice A1 n.2.1.length c1) (.slice none 0 0) (.slice none 0 0))
            rw [setK_all] at HD2
            have HT2 := Lib.hid (ownI_far (g := w.heap.size + 1) (k := 3) (u := .slice none 0 0) (ownI_far (g := w.heap.size + 1) (k := 2) (u := .slice none 0 0) (ownI_far (g := w.heap.size + 1) (k := 1) (u := (.slice A1 n.2.1.length c1)) (ownI_far (g := w.heap.size + 1) (k := 0) (u := .int .i64 n.1) HT.out (fun e => by have := (HT.out.lt _ e).1; omega)) (fun e => by have := (HT.out.lt _ e).1; omega)) (fun e => by have := (HT.out.lt _ e).1; omega)) (fun e => by have := (HT.out.lt _ e).1; omega))
            clear hlt
            go_wp2
            ((try simp only [Exit.inBlock, Exit.then]); refine bodyPost_ret (v := (.tuple #[.agg #[.int .i64 n.1, (.slice A1 n.2.1.length c1), .slice none 0 0, .slice none 0 0], .slice A (firN n) c])) (by rw [results_cell_tmp rfl]; go_simp) rfl ?_)
            exact ⟨_, rows, bs, _, rfl, HD2.out.1, HT2.out.lower hw5, (fun b e => ⟨fun hm => HDJ.out b e (List.mem_append.2 (.inl hm)), fun hm => HDJ.out b e (List.mem_append.2 (.inr hm))⟩), HD2.out.2⟩
end Go.Proofs.Ytedamhkcblemdaa
