/-
  slices.Insert and slices.Delete over ints.
-/
import Derived.Test.YtiejilmgchmppaaCpK
import Derived.Test.YtiejilmgchmppaaBits64
import Derived.Deep.RegionHeld3
namespace Go.Proofs.Ytiejilmgchmppaa
open Go.RowKit
set_option linter.unusedVariables false
set_option linter.unusedSimpArgs false
theorem growDrew (w : World) (row : Option Nat) : w.grownBy w.drew row := ⟨rfl, rfl, rfl, Nat.le_refl _, fun _ _ _ => rfl⟩
theorem growTr {a b c : World} {row : Option Nat} (h : a.grownBy b row) (k : b.grownBy c row) : a.grownBy c row := ⟨k.os.trans h.os, k.tape.trans h.tape, k.output.trans h.output, Nat.le_trans h.size k.size, fun j hj hne => (k.block j (Nat.lt_of_lt_of_le hj h.size) hne).trans (h.block j hj hne)⟩

theorem sizeI : ∀ w, (Go.sizeOf 3).run Try.prog w = .ok 1 w := fun w => by kernel_rfl
theorem infoSI : (Try.prog.info? 3).map (·.size) = some 1 := by kernel_rfl
set_option maxRecDepth 100000 in
set_option maxHeartbeats 12800000 in
theorem insI_at (v : Value) (n : Nat) (xs ys : List Value) (p vb : Nat) {B : Nat} (w : World) (h : w.ownsRow B 3 1 v n xs) (hx1 : ∀ u ∈ xs, u.oneCell' = true) (hy : w.heap[vb]? = some (.cells ys.toArray 3 (0, 0))) (hyl : ys.length = 1) (hy1 : ∀ u ∈ ys, u.oneCell' = true) (hne : v.ownBlock ≠ some vb) (hp : p ≤ n) (hn : n ≤ 1000000) (hB : B ≤ w.heap.size) :
    Calls Try.prog 71 #[v, .int .i64 (p : Int), .slice (some ⟨vb, 0, none⟩) 1 1] w fun e w' => ∃ A c, e = .returned (.slice A (n + 1) c) ∧ w'.ownsRow B 3 1 (.slice A (n + 1) c) (n + 1) (xs.take (p * 1) ++ (ys ++ xs.drop (p * 1))) ∧ w.grownBy w' v.ownBlock ∧ ((Value.slice A (n + 1) c).ownBlock = v.ownBlock ∨ (Value.slice A (n + 1) c).ownBlock = some w.heap.size) := by
  obtain ⟨i0, hi, hz0, hz1, hz2⟩ := info_parts infoI
  have HY := Lib.hid hy
  have HX1 := Lib.hid hx1
  have HY1 := Lib.hid hy1
  have HYL := Lib.hid hyl
  have hxl := h.1
  have HNE := Lib.hid hne
  by_cases hpn : p = n
  · have HO := Lib.hid h
    have HE := Lib.hid (show xs.take (p * 1) ++ (ys ++ xs.drop (p * 1)) = xs ++ ys by rw [hpn, List.take_of_length_le (by omega), List.drop_eq_nil_of_le (by omega), List.append_nil])
    have tpn : (p : Int) = (n : Int) := by omega
    obtain ⟨A, c, rfl⟩ : ∃ A c, v = .slice A n c := by
      rcases h.2 with ⟨rfl, rfl⟩ | ⟨g, cap, cur, rfl, _⟩
      · exact ⟨_, _, rfl⟩
      · exact ⟨_, _, rfl⟩
    have hcn : n ≤ c ∧ c ≤ maxLen := by
      rcases h.2 with ⟨e, e2⟩ | ⟨g, cap, cur, e, h1, h2, h3, h4, h5⟩
      · injection e with e3 e4 e5; subst e5; unfold maxLen; omega
      · injection e with e3 e4 e5; subst e5; exact ⟨h3, h4⟩
    unfold maxLen at hcn
    subst hpn
    clear h hx1 hy hy1 hne tpn hyl
    have hcc : c = p ∨ p < c := by omega
    go_enter Try.func71, Try.ntmps71
    rcases hcc with rfl | hcc
    all_goals go_wp2_with (at_builtin; refine wpList_append_all (by rfl) _ _ 26 (by rfl) B 3 i0 (.int .i64 0) 1 8 Try.underlying26 hi hz0 hz1 hz2 rfl (by omega) (.slice A _ _) _ xs (by rfl) HO.out (some ⟨vb, 0, none⟩) 1 1 ys (by rfl) HYL.out (.inr ⟨_, rfl, World.news_of_block HY.out⟩) HY1.out (by unfold maxLen; omega) (by omega) hB ?_; intro A' c' w7 hown7 hgrow7 hkeep7 hat7)
    all_goals go_ret
    all_goals exact ⟨A', c', rfl, by rw [HE.out]; exact hown7, hgrow7, hat7⟩
  · obtain ⟨g, cap, cur, rfl, hBg, hg, hnc, hcm, hcs, htk⟩ : ∃ g cap cur, v = .slice (some ⟨g, 0, none⟩) n cap ∧ B ≤ g ∧ w.heap[g]? = some (.cells cur 3 (0, 0)) ∧ n ≤ cap ∧ cap ≤ maxLen ∧ cur.size = cap * 1 ∧ cur.toList.take (n * 1) = xs := by
      rcases h.2 with ⟨rfl, rfl⟩ | h2
      · omega
      · exact h2
    unfold maxLen at hcm
    have hgv : vb ≠ g := fun e => hne (by rw [e]; rfl)
    have hgl : g < w.heap.size := (Array.getElem?_eq_some_iff.1 hg).1
    have hlt : p < n := by omega
    have tpn : (p : Int) < (n : Int) := by omega
    have HG := Lib.hid hg
    have HTK := Lib.hid htk
    have HCS := Lib.hid hcs
    have hov : ∀ (lb cb off : Nat) (W : World), W = w → (callFunc 74 #[.slice (some ⟨vb, 0, none⟩) 1 1, .slice (some ⟨g, off, none⟩) lb cb]).run Try.prog W = .ok (.value (.bool false)) W := fun lb cb off W hW => by
      subst hW
      rw [run_callFunc_extern Try.func74 (by kernel_rfl) (by kernel_rfl) (by kernel_rfl) (e := Extern.SlicesOverlaps.overlaps #[26, 26] #[4]) (by kernel_rfl),
        Lib.run_overlaps_apart W 26 4 3 Try.underlying26 1 sizeI ⟨vb, 0, none⟩ ⟨g, off, none⟩ 1 1 lb cb hgv 3 3 1 (cap * 1) (by simp [World.shape?, HY.out, hyl]) (by simp [World.shape?, HG.out, HCS.out]) (by omega) (by simp [World.frozen?, HY.out]) (by simp [World.frozen?, HY.out])]
      rfl
    clear h hx1 hy hy1 hne hpn hg htk hcs
    have hlm : xs.length = n * 1 := hxl
    obtain ⟨q, hq⟩ : ∃ q, p + 1 = q := ⟨_, rfl⟩
    have hqw : IntKind.i64.wrap ((p : Int) + 1) = (q : Int) := by rw [wrap64_int _ (by omega) (by omega)]; omega
    have hq1 : q ≤ n := by omega
    have HDR := Lib.hid (show ∀ j v, (xs.drop (p * 1))[j]? = some v → cur[p + j]? = some v from fun j v hj => by
      rw [List.getElem?_drop, ← HTK.out, List.getElem?_take] at hj
      split at hj
      · rw [← Array.getElem?_toList, ← hj]; congr 1; omega
      · cases hj)
    have HD1 := Lib.hid (show ∀ u ∈ xs.drop (p * 1), u.oneCell' = true from fun u hu => HX1.out u (List.mem_of_mem_drop hu))
    by_cases hroom : n + 1 ≤ cap
    · have HGD := Lib.hid (show w.drew.heap[g]? = some (.cells cur.toList.toArray 3 (0, 0)) from HG.out)
      have HN15 := Lib.hid (show (xs.drop (p * 1)).length = Nat.min (n + 1 - p) (n + 1 - q) * 1 by rw [List.length_drop, hxl]; simp only [Nat.min_def]; split <;> omega)
      have HS15 := Lib.hid (cells_of_row (w := w.drew) HG.out (p) (xs.drop (p * 1)) HDR.out)
      have HF15 := Lib.hid (show q + (xs.drop (p * 1)).length ≤ cur.toList.length by rw [List.length_drop, hxl, Array.length_toList, HCS.out]; omega)
      have HN16 := Lib.hid (show ys.length = Nat.min 1 (n + 1 - p) * 1 by rw [HYL.out]; simp only [Nat.min_def]; split <;> omega)
      have tr : (n : Int) + 1 ≤ (cap : Int) := by omega
      have tq : (q : Int) ≤ (n : Int) + 1 := by omega
      have tp : (p : Int) ≤ (n : Int) + 1 := by omega
      have hcq : ¬ cap = q := by omega
      have hcp : ¬ cap = p := by omega
      go_enter Try.func71, Try.ntmps71
      go_wp2_with fail
      refine wp_region_noPanic ?_
      refine wp_region_kept 8 9 (fun w' => w' = w.drew) (by kernel_rfl) rfl rfl (fun hK0 => ?_)
      refine Kept.take (v := ?va0) 0 (by kernel_rfl) rfl (by kernel_rfl) (fun _ _ _ h => h) (Or.inl ⟨by rfl, ?hya0⟩) hK0 ?resta0
      case hya0 =>
        intro w0 hSw
        (try dsimp only at hSw)
        go_simp
        all_goals (with_reducible rfl)
      (try simp only [Act.put, List.setIfInBounds_toArray, List.set_cons_zero, List.set_cons_succ])
      refine Kept.take (v := ?va1) 1 (by kernel_rfl) rfl (by kernel_rfl) (fun _ _ _ h => h) (Or.inl ⟨by rfl, ?hya1⟩) hK0 ?resta1
      case hya1 =>
        intro w0 hSw
        (try dsimp only at hSw)
        go_simp
        all_goals (with_reducible rfl)
      (try simp only [Act.put, List.setIfInBounds_toArray, List.set_cons_zero, List.set_cons_succ])
      refine Kept.take (v := ?va2) 2 (by kernel_rfl) rfl (by kernel_rfl) (fun _ _ _ h => h) (Or.inl ⟨by rfl, ?hya2⟩) hK0 ?resta2
      case hya2 =>
        intro w0 hSw
        (try dsimp only at hSw)
        go_simp
        all_goals (with_reducible rfl)
      (try simp only [Act.put, List.setIfInBounds_toArray, List.set_cons_zero, List.set_cons_succ])
      refine Kept.take (v := ?va3) 3 (by kernel_rfl) rfl (by kernel_rfl) (fun _ _ _ h => h) (Or.inl ⟨by rfl, ?hya3⟩) hK0 ?resta3
      case hya3 =>
        intro w0 hSw
        (try dsimp only at hSw)
        go_simp
        all_goals (with_reducible rfl)
      (try simp only [Act.put, List.setIfInBounds_toArray, List.set_cons_zero, List.set_cons_succ])
      refine Kept.take (v := ?va4) 4 (by kernel_rfl) rfl (by kernel_rfl) (fun _ _ _ h => h) (Or.inl ⟨by rfl, ?hya4⟩) hK0 ?resta4
      case hya4 =>
        intro w0 hSw
        (try dsimp only at hSw)
        go_simp
        all_goals (with_reducible rfl)
      (try simp only [Act.put, List.setIfInBounds_toArray, List.set_cons_zero, List.set_cons_succ])
      refine Kept.take (v := ?va5) 5 (by kernel_rfl) rfl (by kernel_rfl) (fun _ _ _ h => h) (Or.inl ⟨by rfl, ?hya5⟩) hK0 ?resta5
      case hya5 =>
        intro w0 hSw
        (try dsimp only at hSw)
        go_simp
        all_goals (with_reducible rfl)
      (try simp only [Act.put, List.setIfInBounds_toArray, List.set_cons_zero, List.set_cons_succ])
      refine Kept.take (v := ?va6) 6 (by kernel_rfl) rfl (by kernel_rfl) (fun _ _ _ h => h) (Or.inl ⟨by rfl, ?hya6⟩) hK0 ?resta6
      case hya6 =>
        intro w0 hSw
        (try dsimp only at hSw)
        go_simp
        all_goals (with_reducible rfl)
      (try simp only [Act.put, List.setIfInBounds_toArray, List.set_cons_zero, List.set_cons_succ])
      refine Kept.take (v := ?va7) 7 (by kernel_rfl) rfl (by kernel_rfl) (fun _ _ _ h => h) (Or.inl ⟨by rfl, ?hya7⟩) hK0 ?resta7
      case hya7 =>
        intro w0 hSw
        (try dsimp only at hSw)
        go_simp
        all_goals (with_reducible rfl)
      (try simp only [Act.put, List.setIfInBounds_toArray, List.set_cons_zero, List.set_cons_succ])
      refine Kept.tail (by rfl) (by kernel_rfl) ?_
      simp only [List.drop_succ_cons, List.drop_zero]
      (refine wpList_copyK (by rfl) (.tmp 73) (.tmp 76) 26 26 (by rfl) 3 Try.underlying26 1 infoSI g (q) _ _ ⟨g, p, none⟩ _ _ (by rfl) (by rfl) cur.toList 3 HGD.out (xs.drop (p * 1)) HN15.out HS15.out HF15.out HD1.out ?_; intro w3 hr3)
      obtain ⟨hg3, hgr3, hsz3⟩ := hr3.out
      have HR3 := Lib.hid hgr3
      have HG3 := Lib.hid hg3
      have HY3 := Lib.hid (show w3.heap[vb]? = some (.cells ys.toArray 3 (0, 0)) from (hgr3.block vb (by have := (Array.getElem?_eq_some_iff.1 HY.out).1; exact this) (fun e => hgv (by injection e))).trans HY.out)
      have HYS := Lib.hid (show ∀ j v, ys[j]? = some v → w3.cell? ((⟨vb, 0, none⟩ : Addr).add j) = some v from cells_of_row HY3.out 0 ys (fun j v hj => by rw [Nat.zero_add, List.getElem?_toArray]; exact hj))
      have HL3 := Lib.hid (show (splice cur.toList (q) (xs.drop (p * 1))).length = cap * 1 by rw [splice_len (by have := HF15.out; exact this), Array.length_toList, HCS.out])
      clear hg3 hgr3 hsz3 hr3
      refine NoPanic.normal ?_
      go_wp2_with (refine wpList_copyK (by rfl) (.tmp 80) (.tmp 81) 26 26 (by rfl) 3 Try.underlying26 1 infoSI g (p) _ _ ⟨vb, 0, none⟩ _ _ (by rfl) (by rfl) (splice cur.toList (q) (xs.drop (p * 1))) 3 HG3.out ys HN16.out HYS.out (by rw [HL3.out, HYL.out]; omega) HY1.out ?_; intro w4 hr4)
      obtain ⟨hg4, hgr4, hsz4⟩ := hr4.out
      clear hr4
      go_ret
      refine ⟨_, _, rfl, ⟨by rw [List.length_append, List.length_append, List.length_take, List.length_drop, HYL.out, hxl]; omega, .inr ⟨g, cap, _, rfl, hBg, hg4, hroom, hcm, ?_, ?_⟩⟩, growTr (growTr (growDrew w _) HR3.out) hgr4, .inl rfl⟩
      · rw [List.size_toArray, splice_len (by rw [HL3.out, HYL.out]; omega), HL3.out]
      · have e := splice_ins (k := 1) HTK.out HYL.out hlt (by rw [Array.length_toList, HCS.out]; omega)
        rw [show q = p * 1 + 1 by omega]
        (try simp only [Nat.mul_one] at e ⊢)
        exact e
    · obtain ⟨C, hC⟩ : ∃ C, grownCap w (n + 1) cap 3 = C := ⟨_, rfl⟩
      have hC1 : n + 1 ≤ C := by rw [← hC]; exact grownCap_ge w _ _ _
      have hC2 : C ≤ 9223372036854775807 := by rw [← hC]; exact grownCap_le_maxLen w _ _ _ (by unfold maxLen; omega)
      obtain ⟨KK, hKK⟩ : ∃ KK : Nat, n + 1 - p = KK := ⟨_, rfl⟩
      have tK : (n : Int) + 1 - (p : Int) = (KK : Int) := by omega
      have tr : (cap : Int) < (n : Int) + 1 := by omega
      have hpK : p + KK = n + 1 := by omega
      obtain ⟨Z, hZ⟩ : ∃ Z, Z = (Builtin.zeroCells ((.int .i64 0) : Value).cells KK ++ Builtin.zeroCells ((.int .i64 0) : Value).cells (C - (n + 1))).toList := ⟨_, rfl⟩
      have hZl : Z.length = (C - p) * 1 := by
        rw [hZ, Array.length_toList, Array.size_append, size_zeroCells, size_zeroCells]
        have : (((.int .i64 0) : Value).cells).size = 1 := rfl
        rw [this]; omega
      have hrun : ∀ ty, (Builtin.append_ #[26, 3] ty #[.slice (some ⟨g, 0, none⟩) p cap, .int .i64 (KK : Int)]).run Try.prog w = .ok (.slice (some ⟨w.heap.size, 0, none⟩) (n + 1) C) (w.drew.alloc (.cells (xs.take (p * 1) ++ Z).toArray 3)) := fun ty => by
        have hold : (Builtin.firstCells i0.size p (.slice (some ⟨g, 0, none⟩) p cap)).run Try.prog w.drew = .ok (xs.take (p * 1)).toArray w.drew := by
          rw [hz1]
          refine run_firstCells_some w.drew 1 p ⟨g, 0, none⟩ p cap (xs.take (p * 1)) (by rw [List.length_take, hxl]; omega) (cells_of_row (w := w.drew) HG.out 0 _ (fun j v hj => ?_))
          rw [← HTK.out, List.take_take, List.getElem?_take] at hj
          split at hj
          · rw [Nat.zero_add, ← Array.getElem?_toList]; exact hj
          · cases hj
        have e := Lib.run_append_grow_zeros w 26 3 ty 3 i0 _ .i64 .i64 Try.underlying26 Try.underlying3 hi hz0 (some ⟨g, 0, none⟩) p cap (xs.take (p * 1)) hold KK (by omega) (by omega) (by omega) (by omega) (by rw [hz2]; omega) (growslice_fits (by omega) (by rw [hz2]; omega))
        rw [hpK, hC] at e
        rw [e, hZ]
        congr 3
        apply Array.ext'
        simp
      have tnn : (p : Int) ≤ (cap : Int) := by omega
      have tq : (q : Int) ≤ (n : Int) + 1 := by omega
      have tp : (p : Int) ≤ (n : Int) + 1 := by omega
      have hCq : ¬ C = q := by omega
      have hCp : ¬ C = p := by omega
      have hcp : ¬ cap = p := by omega
      have HRUN := Lib.hid hrun
      have HN16 := Lib.hid (show ys.length = Nat.min 1 (n + 1 - p) * 1 by rw [HYL.out]; simp only [Nat.min_def]; split <;> omega)
      have HN15 := Lib.hid (show (xs.drop (p * 1)).length = Nat.min (n - p) (n + 1 - q) * 1 by rw [List.length_drop, hxl]; simp only [Nat.min_def]; split <;> omega)
      have HTL := Lib.hid (show (xs.take (p * 1)).length = p * 1 by rw [List.length_take, hxl]; omega)
      have HZL := Lib.hid hZl
      clear hrun hC hZ hZl hpK
      go_enter Try.func71, Try.ntmps71
      obtain ⟨W6, hW6⟩ : ∃ x, x = w.drew.alloc (.cells (xs.take (p * 1) ++ Z).toArray 3) := ⟨_, rfl⟩
      have HW6 := Lib.hid hW6
      have HG6 := Lib.hid (show W6.heap[w.heap.size]? = some (.cells (xs.take (p * 1) ++ Z).toArray 3 (0, 0)) by rw [hW6]; exact heap_alloc_new w.drew _)
      have HR6 := Lib.hid (show w.grownBy W6 (some g) by rw [hW6]; exact growTr (growDrew w _) (World.grownBy_alloc _ _ _))
      have HYS := Lib.hid (show ∀ j v, ys[j]? = some v → W6.cell? ((⟨vb, 0, none⟩ : Addr).add j) = some v from cells_of_row ((HR6.out.block vb (by have := (Array.getElem?_eq_some_iff.1 HY.out).1; exact this) (fun e => hgv (by injection e))).trans HY.out) 0 ys (fun j v hj => by rw [Nat.zero_add, List.getElem?_toArray]; exact hj))
      have HGO := Lib.hid (show W6.heap[g]? = some (.cells cur 3 (0, 0)) by rw [hW6]; exact (World.grownBy_alloc w.drew _ none).block g hgl (by simp) |>.trans HG.out)
      have HNK := Lib.hid (show ys.length = Nat.min 1 KK * 1 by rw [HYL.out]; simp only [Nat.min_def]; split <;> omega)
      have HF10 := Lib.hid (show p + ys.length ≤ (xs.take (p * 1) ++ Z).length by rw [List.length_append, HTL.out, HZL.out, HYL.out]; omega)
      rw [← hW6] at HRUN
      clear hW6
      go_wp2_with (first | (at_builtin; refine Lib.wpList_append_run _ (by rfl) _ _ _ _ (by rfl) _ _ (by rfl) (by rfl) _ _ (HRUN.out _) ?_) | (refine wpList_copyK (by rfl) (.tmp 43) (.tmp 44) 26 26 (by rfl) 3 Try.underlying26 1 infoSI w.heap.size (p) _ _ ⟨vb, 0, none⟩ _ _ (by rfl) (by rfl) (xs.take (p * 1) ++ Z) 3 HG6.out ys HNK.out HYS.out HF10.out HY1.out ?_; intro w4 hr4))
      obtain ⟨hg4, hgr4, hsz4⟩ := hr4.out
      obtain ⟨G, hG⟩ : ∃ G, w.heap.size = G := ⟨_, rfl⟩
      have hBG : B ≤ G := by omega
      have hgG : g ≠ G := by omega
      rw [hG] at hg4 hgr4 ⊢
      have HG4 := Lib.hid hg4
      have HR4 := Lib.hid hgr4
      have HGD := Lib.hid (show w4.drew.heap[G]? = some (.cells (splice (xs.take (p * 1) ++ Z) (p) ys).toArray 3 (0, 0)) from hg4)
      have HL4 := Lib.hid (show (splice (xs.take (p * 1) ++ Z) (p) ys).length = C * 1 by rw [splice_len HF10.out, List.length_append, HTL.out, HZL.out]; omega)
      have HS11 := Lib.hid (cells_of_row (w := w4.drew) ((hgr4.block g (by have := HR6.out.size; omega) (fun e => hgG (by injection e))).trans HGO.out) (p) (xs.drop (p * 1)) HDR.out)
      have HF11 := Lib.hid (show q + (xs.drop (p * 1)).length ≤ (splice (xs.take (p * 1) ++ Z) (p) ys).length by rw [HL4.out, List.length_drop, hxl]; omega)
      clear hg4 hgr4 hsz4 hr4
      refine wp_region_noPanic ?_
      refine wp_region_kept 8 9 (fun w' => w' = w4.drew) (by kernel_rfl) rfl rfl (fun hK0 => ?_)
      refine Kept.take (v := ?vb0) 0 (by kernel_rfl) rfl (by kernel_rfl) (fun _ _ _ h => h) (Or.inl ⟨by rfl, ?hyb0⟩) hK0 ?restb0
      case hyb0 =>
        intro w0 hSw
        (try dsimp only at hSw)
        go_simp
        all_goals (with_reducible rfl)
      (try simp only [Act.put, List.setIfInBounds_toArray, List.set_cons_zero, List.set_cons_succ])
      refine Kept.take (v := ?vb1) 1 (by kernel_rfl) rfl (by kernel_rfl) (fun _ _ _ h => h) (Or.inl ⟨by rfl, ?hyb1⟩) hK0 ?restb1
      case hyb1 =>
        intro w0 hSw
        (try dsimp only at hSw)
        go_simp
        all_goals (with_reducible rfl)
      (try simp only [Act.put, List.setIfInBounds_toArray, List.set_cons_zero, List.set_cons_succ])
      refine Kept.take (v := ?vb2) 2 (by kernel_rfl) rfl (by kernel_rfl) (fun _ _ _ h => h) (Or.inl ⟨by rfl, ?hyb2⟩) hK0 ?restb2
      case hyb2 =>
        intro w0 hSw
        (try dsimp only at hSw)
        go_simp
        all_goals (with_reducible rfl)
      (try simp only [Act.put, List.setIfInBounds_toArray, List.set_cons_zero, List.set_cons_succ])
      refine Kept.take (v := ?vb3) 3 (by kernel_rfl) rfl (by kernel_rfl) (fun _ _ _ h => h) (Or.inl ⟨by rfl, ?hyb3⟩) hK0 ?restb3
      case hyb3 =>
        intro w0 hSw
        (try dsimp only at hSw)
        go_simp
        all_goals (with_reducible rfl)
      (try simp only [Act.put, List.setIfInBounds_toArray, List.set_cons_zero, List.set_cons_succ])
      refine Kept.take (v := ?vb4) 4 (by kernel_rfl) rfl (by kernel_rfl) (fun _ _ _ h => h) (Or.inl ⟨by rfl, ?hyb4⟩) hK0 ?restb4
      case hyb4 =>
        intro w0 hSw
        (try dsimp only at hSw)
        go_simp
        all_goals (with_reducible rfl)
      (try simp only [Act.put, List.setIfInBounds_toArray, List.set_cons_zero, List.set_cons_succ])
      refine Kept.take (v := ?vb5) 5 (by kernel_rfl) rfl (by kernel_rfl) (fun _ _ _ h => h) (Or.inl ⟨by rfl, ?hyb5⟩) hK0 ?restb5
      case hyb5 =>
        intro w0 hSw
        (try dsimp only at hSw)
        go_simp
        all_goals (with_reducible rfl)
      (try simp only [Act.put, List.setIfInBounds_toArray, List.set_cons_zero, List.set_cons_succ])
      refine Kept.take (v := ?vb6) 6 (by kernel_rfl) rfl (by kernel_rfl) (fun _ _ _ h => h) (Or.inl ⟨by rfl, ?hyb6⟩) hK0 ?restb6
      case hyb6 =>
        intro w0 hSw
        (try dsimp only at hSw)
        go_simp
        all_goals (with_reducible rfl)
      (try simp only [Act.put, List.setIfInBounds_toArray, List.set_cons_zero, List.set_cons_succ])
      refine Kept.take (v := ?vb7) 7 (by kernel_rfl) rfl (by kernel_rfl) (fun _ _ _ h => h) (Or.inl ⟨by rfl, ?hyb7⟩) hK0 ?restb7
      case hyb7 =>
        intro w0 hSw
        (try dsimp only at hSw)
        go_simp
        all_goals (with_reducible rfl)
      (try simp only [Act.put, List.setIfInBounds_toArray, List.set_cons_zero, List.set_cons_succ])
      refine Kept.tail (by rfl) (by kernel_rfl) ?_
      simp only [List.drop_succ_cons, List.drop_zero]
      (refine wpList_copyK (by rfl) (.tmp 50) (.tmp 53) 26 26 (by rfl) 3 Try.underlying26 1 infoSI G (q) _ _ ⟨g, p, none⟩ _ _ (by rfl) (by rfl) (splice (xs.take (p * 1) ++ Z) (p) ys) 3 HGD.out (xs.drop (p * 1)) HN15.out HS11.out HF11.out HD1.out ?_; intro w5 hr5)
      obtain ⟨hg5, hgr5, hsz5⟩ := hr5.out
      clear hr5
      go_wp2
      refine NoPanic.normal ?_
      go_wp2
      go_ret
      refine ⟨_, _, rfl, ⟨by rw [List.length_append, List.length_append, List.length_take, List.length_drop, HYL.out, hxl]; omega, .inr ⟨G, C, _, rfl, hBG, hg5, hC1, by unfold maxLen; omega, ?_, ?_⟩⟩, ?_, .inr (by rw [hG]; rfl)⟩
      · rw [List.size_toArray, splice_len HF11.out, HL4.out]
      · have e := splice_grow (X := xs) (Y := ys) (Z := Z) (n := n) (k := 1) (i := p) hxl HYL.out hlt (by rw [HZL.out]; omega)
        rw [show q = p * 1 + 1 by omega]
        (try simp only [Nat.mul_one] at e ⊢)
        exact e
      · have hn : ∀ {a b : World}, a.grownBy b (some G) → w.heap.size ≤ G → w.grownBy a (some g) → w.grownBy b (some g) := fun h hG2 h1 => ⟨h.os.trans h1.os, h.tape.trans h1.tape, h.output.trans h1.output, Nat.le_trans h1.size h.size, fun j hj hne => (h.block j (Nat.lt_of_lt_of_le hj h1.size) (fun e => by injection e with e; omega)).trans (h1.block j hj hne)⟩
        exact hn hgr5 (by omega) (growTr (hn HR4.out (by omega) HR6.out) (growDrew _ _))

set_option maxRecDepth 100000 in
set_option maxHeartbeats 12800000 in
theorem delI_at (v : Value) (n : Nat) (xs : List Value) (p : Nat) {B : Nat} (w : World) (h : w.ownsRow B 3 1 v n xs) (hx1 : ∀ u ∈ xs, u.oneCell' = true) (hp : p < n) (hn : n ≤ 1000000) :
    Calls Try.prog 73 #[v, .int .i64 (p : Int), .int .i64 ((p + 1 : Nat) : Int)] w fun e w' => ∃ A c, e = .returned (.slice A (n - 1) c) ∧ w'.ownsRow B 3 1 (.slice A (n - 1) c) (n - 1) (xs.take (p * 1) ++ xs.drop (p * 1 + 1)) ∧ w.grownBy w' v.ownBlock ∧ (Value.slice A (n - 1) c).ownBlock = v.ownBlock := by
  obtain ⟨i0, hi, hz0, hz1, hz2⟩ := info_parts infoI
  have HX1 := Lib.hid hx1
  have hxl := h.1
  obtain ⟨g, cap, cur, rfl, hBg, hg, hnc, hcm, hcs, htk⟩ : ∃ g cap cur, v = .slice (some ⟨g, 0, none⟩) n cap ∧ B ≤ g ∧ w.heap[g]? = some (.cells cur 3 (0, 0)) ∧ n ≤ cap ∧ cap ≤ maxLen ∧ cur.size = cap * 1 ∧ cur.toList.take (n * 1) = xs := by
    rcases h.2 with ⟨rfl, rfl⟩ | h2
    · omega
    · exact h2
  unfold maxLen at hcm
  have HTK := Lib.hid htk
  obtain ⟨q, hq⟩ : ∃ q, p + 1 = q := ⟨_, rfl⟩
  rw [hq]
  obtain ⟨n1, hn1⟩ : ∃ n1, n - 1 = n1 := ⟨_, rfl⟩
  rw [hn1]
  have hpq : p + (n - q) = n1 := by omega
  obtain ⟨X, hX⟩ : ∃ X, cur.toList.take (p * 1) ++ xs.drop (q * 1) ++ cur.toList.drop (p * 1 + (xs.drop (q * 1)).length) = X := ⟨_, rfl⟩
  have hdl : (xs.drop (q * 1)).length = (n - q) * 1 := by rw [List.length_drop, hxl]; omega
  have htl : (cur.toList.take (p * 1)).length = p * 1 := by rw [List.length_take, Array.length_toList, hcs]; omega
  have hXl : X.length = cap * 1 := by rw [← hX, List.length_append, List.length_append, htl, hdl, List.length_drop, Array.length_toList, hcs]; omega
  have hXt : X.take (n1 * 1) = xs.take (p * 1) ++ xs.drop (p * 1 + 1) := by
    rw [← hX, List.take_append_of_le_length (by rw [List.length_append, htl, hdl]; omega), List.take_of_length_le (by rw [List.length_append, htl, hdl]; omega), ← htk, List.take_take, show min (p * 1) (n * 1) = p * 1 by omega, show q * 1 = p * 1 + 1 by omega]
  obtain ⟨W1, hW1⟩ : ∃ x, x = w.drew.setRow g X.toArray := ⟨_, rfl⟩
  have hg1 : W1.heap[g]? = some (.cells X.toArray 3 (0, 0)) := by rw [hW1]; exact setRow_heap w.drew g cur _ 3 _ hg
  have hgr1 : w.grownBy W1 (some g) := by rw [hW1]; exact growTr (growDrew w _) (rowTo_set w.drew X hg).2.1
  have hrun : ∀ ty, ∀ (a : Option Addr) (c : Nat), a = (if cap = q then some ⟨g, 0, none⟩ else some ⟨g, q, none⟩) → (Builtin.append_ #[26, 26] ty #[.slice (some ⟨g, 0, none⟩) p cap, .slice a (n - q) c]).run Try.prog w.drew = .ok (.slice (some ⟨g, 0, none⟩) n1 cap) W1 := fun ty a c ha => by
    have e := fun (a : Addr) (hs : ∀ j u, (xs.drop (q * 1))[j]? = some u → w.drew.cell? (a.add j) = some u) => run_append_room (P := Try.prog) w.drew 26 ty 3 i0 Try.underlying26 hi g p cap cur hg a (n - q) c (xs.drop (q * 1)) (by rw [hdl, hz1]) hs (fun u hu => hx1 u (List.mem_of_mem_drop hu)) (by omega) (by rw [hz1, hdl, hcs]; omega)
    by_cases hc : cap = q
    · rw [if_pos hc] at ha
      subst ha
      have e0 := e ⟨g, 0, none⟩ (fun j u hj => by have := (List.getElem?_eq_some_iff.1 hj).1; rw [hdl] at this; omega)
      rw [hz1, hpq, hX, ← hW1] at e0
      exact e0
    · rw [if_neg hc] at ha
      subst ha
      have e0 := e ⟨g, q, none⟩ (cells_of_row (w := w.drew) hg _ _ (fun j u hj => by
        rw [List.getElem?_drop, ← htk, List.getElem?_take] at hj
        split at hj
        · rw [← Array.getElem?_toList, ← hj]; congr 1; omega
        · cases hj))
      rw [hz1, hpq, hX, ← hW1] at e0
      exact e0
  obtain ⟨Y, hY⟩ : ∃ Y, X.take (n1 * 1) ++ ((.int .i64 0) : Value).cells.toList ++ X.drop (n1 * 1 + 1) = Y := ⟨_, rfl⟩
  have hYl : Y.length = cap * 1 := by
    rw [← hY, List.length_append, List.length_append, List.length_take, List.length_drop, hXl]
    have : (((.int .i64 0) : Value).cells.toList).length = 1 := rfl
    omega
  have hYt : Y.take (n1 * 1) = xs.take (p * 1) ++ xs.drop (p * 1 + 1) := by
    rw [← hXt, ← hY, List.append_assoc, List.take_append_of_le_length (by rw [List.length_take, hXl]; omega), List.take_take, Nat.min_self]
  obtain ⟨W2, hW2⟩ : ∃ x, x = W1.setRow g Y.toArray := ⟨_, rfl⟩
  have hcl : ∀ ty c, (Builtin.clear_ #[26] ty #[.slice (some ⟨g, n1, none⟩) (n - n1) c]).run Try.prog W1 = .ok (.tuple #[]) W2 := fun ty c => by
    have e1 : n - n1 = 1 := by omega
    have hst := run_storeCells_at Try.prog g (n1) 3 ((.int .i64 0) : Value).cells.toList 0 X.toArray W1 hg1 (by
      have : (((.int .i64 0) : Value).cells.toList).length = 1 := rfl
      rw [this, List.size_toArray, hXl]; omega) (by decide)
    have e2 : Builtin.zeroCells ((.int .i64 0) : Value).cells 1 = ((.int .i64 0) : Value).cells := by kernel_rfl
    rw [e1, hW2, ← hY]
    simp only [Nat.add_zero] at hst
    simp [Builtin.clear_, run_underlying Try.underlying26, zeroValue, typeInfo, hi, hz0, e2] at hst ⊢
    rw [hst]
    rfl
  have HG2 := Lib.hid (show W2.heap[g]? = some (.cells Y.toArray 3 (0, 0)) by rw [hW2]; exact setRow_heap W1 g _ _ 3 _ hg1)
  have HR2 := Lib.hid (show w.grownBy W2 (some g) by rw [hW2]; exact growTr hgr1 (rowTo_set W1 Y hg1).2.1)
  have HRUN := Lib.hid hrun
  have HYL := Lib.hid hYl
  have HYT := Lib.hid hYt
  have tpn : (p : Int) ≤ (n : Int) := by omega
  have tqn : (q : Int) ≤ (n : Int) := by omega
  have tpq : (p : Int) ≤ (q : Int) := by omega
  have hpne : ((p : Int) == (q : Int)) = false := beq_false_of_ne (by omega)
  have hpc : ¬ cap = p := by omega
  have hnp : ¬ n = p := by omega
  have tpc : (p : Int) ≤ (cap : Int) := by omega
  have tn1 : (n1 : Int) ≤ (n : Int) := by omega
  have tnc : (n : Int) ≤ (cap : Int) := by omega
  have hcn1 : ¬ cap = n1 := by omega
  clear h hx1 hg htk hcs hX hXl hXt hW1 hg1 hgr1 hrun hY hYl hYt hW2 hdl htl hpq hq
  go_enter Try.func73, Try.ntmps73
  by_cases hcq : cap = q
  · subst hcq
    have hcq : cap = cap := rfl
    have hr0 : n - cap = 0 := by omega
    have hrun := HRUN.out
    rw [hr0] at hrun
    have HRUN := Lib.hid hrun
    clear hrun hr0
    have ha : (if cap = cap then some (⟨g, 0, none⟩ : Addr) else some ⟨g, cap, none⟩) = some ⟨g, 0, none⟩ := if_pos hcq
    have HA := Lib.hid ha
    clear ha
    go_wp2_with fail
    refine wp_region_noPanic ?_
    refine wp_region_kept 6 8 (fun w' => w' = w.drew) (by kernel_rfl) rfl rfl (fun hK0 => ?_)
    refine Kept.take (v := ?va0) 0 (by kernel_rfl) rfl (by kernel_rfl) (fun _ _ _ h => h) (Or.inl ⟨by rfl, ?hya0⟩) hK0 ?resta0
    case hya0 =>
      intro w0 hSw
      (try dsimp only at hSw)
      go_simp
      all_goals (with_reducible rfl)
    (try simp only [Act.put, List.setIfInBounds_toArray, List.set_cons_zero, List.set_cons_succ])
    refine Kept.take (v := ?va1) 1 (by kernel_rfl) rfl (by kernel_rfl) (fun _ _ _ h => h) (Or.inl ⟨by rfl, ?hya1⟩) hK0 ?resta1
    case hya1 =>
      intro w0 hSw
      (try dsimp only at hSw)
      go_simp
      all_goals (with_reducible rfl)
    (try simp only [Act.put, List.setIfInBounds_toArray, List.set_cons_zero, List.set_cons_succ])
    refine Kept.take (v := ?va2) 2 (by kernel_rfl) rfl (by kernel_rfl) (fun _ _ _ h => h) (Or.inl ⟨by rfl, ?hya2⟩) hK0 ?resta2
    case hya2 =>
      intro w0 hSw
      (try dsimp only at hSw)
      go_simp
      all_goals (with_reducible rfl)
    (try simp only [Act.put, List.setIfInBounds_toArray, List.set_cons_zero, List.set_cons_succ])
    refine Kept.take (v := ?va3) 3 (by kernel_rfl) rfl (by kernel_rfl) (fun _ _ _ h => h) (Or.inl ⟨by rfl, ?hya3⟩) hK0 ?resta3
    case hya3 =>
      intro w0 hSw
      (try dsimp only at hSw)
      go_simp
      all_goals (with_reducible rfl)
    (try simp only [Act.put, List.setIfInBounds_toArray, List.set_cons_zero, List.set_cons_succ])
    refine Kept.take (v := ?va4) 4 (by kernel_rfl) rfl (by kernel_rfl) (fun _ _ _ h => h) (Or.inl ⟨by rfl, ?hya4⟩) hK0 ?resta4
    case hya4 =>
      intro w0 hSw
      (try dsimp only at hSw)
      go_simp
      all_goals (with_reducible rfl)
    (try simp only [Act.put, List.setIfInBounds_toArray, List.set_cons_zero, List.set_cons_succ])
    refine Kept.take (v := ?va5) 5 (by kernel_rfl) rfl (by kernel_rfl) (fun _ _ _ h => h) (Or.inl ⟨by rfl, ?hya5⟩) hK0 ?resta5
    case hya5 =>
      intro w0 hSw
      (try dsimp only at hSw)
      go_simp
      all_goals (with_reducible rfl)
    (try simp only [Act.put, List.setIfInBounds_toArray, List.set_cons_zero, List.set_cons_succ])
    refine Kept.tail (by rfl) (by kernel_rfl) ?_
    simp only [List.drop_succ_cons, List.drop_zero]
    refine Lib.wpList_append_run _ (by rfl) (.tmp 22) (.tmp 25) 26 26 (by rfl) _ _ (by rfl) (by rfl) _ _ (HRUN.out _ _ _ HA.out.symm) ?_
    go_wp2
    refine NoPanic.normal ?_
    go_wp2
    go_ret
    exact ⟨_, _, rfl, ⟨by rw [List.length_append, List.length_take, List.length_drop, hxl]; omega, .inr ⟨g, cap, _, rfl, hBg, HG2.out, by omega, hcm, by rw [List.size_toArray, HYL.out], HYT.out⟩⟩, HR2.out, rfl⟩
  · have ha : (if cap = q then some (⟨g, 0, none⟩ : Addr) else some ⟨g, q, none⟩) = some ⟨g, q, none⟩ := if_neg hcq
    have HA := Lib.hid ha
    clear ha
    go_wp2_with fail
    refine wp_region_noPanic ?_
    refine wp_region_kept 6 8 (fun w' => w' = w.drew) (by kernel_rfl) rfl rfl (fun hK0 => ?_)
    refine Kept.take (v := ?vc0) 0 (by kernel_rfl) rfl (by kernel_rfl) (fun _ _ _ h => h) (Or.inl ⟨by rfl, ?hyc0⟩) hK0 ?restc0
    case hyc0 =>
      intro w0 hSw
      (try dsimp only at hSw)
      go_simp
      all_goals (with_reducible rfl)
    (try simp only [Act.put, List.setIfInBounds_toArray, List.set_cons_zero, List.set_cons_succ])
    refine Kept.take (v := ?vc1) 1 (by kernel_rfl) rfl (by kernel_rfl) (fun _ _ _ h => h) (Or.inl ⟨by rfl, ?hyc1⟩) hK0 ?restc1
    case hyc1 =>
      intro w0 hSw
      (try dsimp only at hSw)
      go_simp
      all_goals (with_reducible rfl)
    (try simp only [Act.put, List.setIfInBounds_toArray, List.set_cons_zero, List.set_cons_succ])
    refine Kept.take (v := ?vc2) 2 (by kernel_rfl) rfl (by kernel_rfl) (fun _ _ _ h => h) (Or.inl ⟨by rfl, ?hyc2⟩) hK0 ?restc2
    case hyc2 =>
      intro w0 hSw
      (try dsimp only at hSw)
      go_simp
      all_goals (with_reducible rfl)
    (try simp only [Act.put, List.setIfInBounds_toArray, List.set_cons_zero, List.set_cons_succ])
    refine Kept.take (v := ?vc3) 3 (by kernel_rfl) rfl (by kernel_rfl) (fun _ _ _ h => h) (Or.inl ⟨by rfl, ?hyc3⟩) hK0 ?restc3
    case hyc3 =>
      intro w0 hSw
      (try dsimp only at hSw)
      go_simp
      all_goals (with_reducible rfl)
    (try simp only [Act.put, List.setIfInBounds_toArray, List.set_cons_zero, List.set_cons_succ])
    refine Kept.take (v := ?vc4) 4 (by kernel_rfl) rfl (by kernel_rfl) (fun _ _ _ h => h) (Or.inl ⟨by rfl, ?hyc4⟩) hK0 ?restc4
    case hyc4 =>
      intro w0 hSw
      (try dsimp only at hSw)
      go_simp
      all_goals (with_reducible rfl)
    (try simp only [Act.put, List.setIfInBounds_toArray, List.set_cons_zero, List.set_cons_succ])
    refine Kept.take (v := ?vc5) 5 (by kernel_rfl) rfl (by kernel_rfl) (fun _ _ _ h => h) (Or.inl ⟨by rfl, ?hyc5⟩) hK0 ?restc5
    case hyc5 =>
      intro w0 hSw
      (try dsimp only at hSw)
      go_simp
      all_goals (with_reducible rfl)
    (try simp only [Act.put, List.setIfInBounds_toArray, List.set_cons_zero, List.set_cons_succ])
    refine Kept.tail (by rfl) (by kernel_rfl) ?_
    simp only [List.drop_succ_cons, List.drop_zero]
    refine Lib.wpList_append_run _ (by rfl) (.tmp 22) (.tmp 25) 26 26 (by rfl) _ _ (by rfl) (by rfl) _ _ (HRUN.out _ _ _ HA.out.symm) ?_
    go_wp2
    refine NoPanic.normal ?_
    go_wp2
    go_ret
    exact ⟨_, _, rfl, ⟨by rw [List.length_append, List.length_take, List.length_drop, hxl]; omega, .inr ⟨g, cap, _, rfl, hBg, HG2.out, by omega, hcm, by rw [List.size_toArray, HYL.out], HYT.out⟩⟩, HR2.out, rfl⟩
end Go.Proofs.Ytiejilmgchmppaa
