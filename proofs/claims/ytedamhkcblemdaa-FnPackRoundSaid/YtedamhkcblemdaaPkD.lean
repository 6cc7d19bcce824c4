/-
  Drawn widths and words.
-/
import Derived.Test.YtedamhkcblemdaaPkC
import Derived.Test.YtedamhkcblemdaaNr12m
import Derived.Test.YtedamhkcblemdaaCurC
import Derived.Deep.RegionHeld3
namespace Go.Proofs.Ytedamhkcblemdaa
open Go.RowKit
set_option linter.unusedVariables false
set_option linter.unusedSimpArgs false

set_option maxRecDepth 100000 in
set_option maxHeartbeats 6400000 in
theorem sizes_any (g n : Nat) (w : World) (hc : Cur 105 w g n) :
    Calls Try.prog 40 #[.pointer (some ⟨g, 0, none⟩)] w fun e w' => ∃ v L, e = .returned v ∧ OwnsI w' w.heap.size v L ∧ L.length ≤ 6 ∧ (∀ x ∈ L, Fit x) ∧ Cur 105 w' g n ∧ Chg g w w' := by
  obtain ⟨i0, hi, hz0, hz1, hz2⟩ := info_parts infoI
  have hg := hc.lt
  have HCU := Lib.hid (show Cur 105 (w.alloc (.cells #[] 3)) g n from hc.keep (bAlloc (Below.refl _ _) (Nat.le_refl _) _))
  have HCH := Lib.hid (show Chg g w (w.alloc (.cells #[] 3)) from (Chg.refl g w).alloc _)
  have HOW := Lib.hid (own_newI w w.heap.size (Nat.le_refl _))
  clear hc
  go_enter Try.func40, Try.ntmps40
  go_wp2_with fail
  refine (below_any g n 6 _ (by omega) (by omega) HCU.out).mono ?_
  rintro e w1 ⟨x0, rfl, hx0, hcu, hch⟩
  have HC0 := Lib.hid hcu
  have HH0 := Lib.hid (HCH.out.trans hch)
  have HO0 := Lib.hid (ownI_chg HOW.out hch hg)
  clear hcu hch HCU HCH HOW
  go_wp2
  go_loopw [3, 4] (fun s z wr => ∃ (t : Int) (A : Option Addr) (c : Nat) (L : List Int), 0 ≤ t ∧ t ≤ 5 ∧ (L.length : Int) + t ≤ 5 ∧ z = .int .i64 t ∧ s = .slice A L.length c ∧ OwnsI wr w.heap.size (.slice A L.length c) L ∧ (∀ x ∈ L, Fit x) ∧ Cur 105 wr g n ∧ Chg g w wr) (fun _ z _ => (intOf z).toNat)
  case atStart => exact ⟨x0, some ⟨w.heap.size, 0, none⟩, 0, [], by omega, by omega, by simp; omega, rfl, rfl, HO0.out, fun x hx => (by cases hx), HC0.out, HH0.out⟩
  case round =>
    obtain ⟨t, A, c, L, ht0, ht5, hLt, rfl, rfl, hown, hfl, hcu, hch⟩ := hrel
    obtain ⟨w3, rfl⟩ : ∃ w3, w3 = wr := ⟨_, rfl⟩
    clear HC0 HH0 HO0
    have HF := Lib.hid hfl
    have HC3 := Lib.hid hcu
    have HH3 := Lib.hid hch
    have HO3 := Lib.hid hown
    clear hfl hcu hch hown
    by_cases hlt : 0 < t
    · go_wp2_with fail
      refine (below_any g n 4 _ (by omega) (by omega) HC3.out).mono ?_
      rintro e w4 ⟨x, rfl, hx, hcu, hch⟩
      have HC := Lib.hid hcu
      have HH := Lib.hid (HH3.out.trans hch)
      have HO := Lib.hid (ownI_chg HO3.out hch hg)
      have hbs := HH.out.size
      have HFY := Lib.hid (show Fit (1 + x) by unfold Fit; omega)
      clear hcu hch
      have hbA : Below w4.heap.size w4 (w4.alloc (.cells #[.int .i64 (1 + x)] 3)) := bAlloc (Below.refl _ _) (Nat.le_refl _) _
      have HBA := Lib.hid hbA
      have HOA := Lib.hid (HO.out.below hbA)
      have hsz := Lib.hid (show w.heap.size ≤ (w4.alloc (.cells #[.int .i64 (1 + x)] 3)).heap.size from Nat.le_trans hbs hbA.size)
      clear hbA
      go_wp2_with (at_builtin; refine wpList_append_all (by rfl) _ _ 24 (by rfl) (w.heap.size) 3 i0 (.int .i64 0) 1 8 Try.underlying24 hi hz0 hz1 hz2 rfl (by omega) (.slice A L.length c) L.length (L.map vI) (by rfl) HOA.out (some ⟨w4.heap.size, 0, none⟩) 1 1 [.int .i64 (1 + x)] (by rfl) (by rfl) (.inr ⟨_, rfl, World.news_of_block (heap_alloc_new _ _)⟩) (by simp [Value.oneCell']) (by unfold maxLen; omega) (by omega) hsz.out ?_; intro A' c' w7 hown7 hgrow7 hkeep7 hat7)
      have hrow : ∀ k, (Value.slice A L.length c).ownBlock = some k → w.heap.size ≤ k := fun k e => (HO.out.lt k e).1
      have HC7 := Lib.hid (cur_grown HC.out HBA.out hgrow7 (fun k e => by have := hrow k e; omega))
      have HH7 := Lib.hid (chg_grown HH.out HBA.out hgrow7 (fun k e => by have := hrow k e; omega))
      have HO7 := Lib.hid (own_int hown7)
      have HS7 := Lib.hid (show w.heap.size ≤ w7.heap.size from Nat.le_trans hsz.out hgrow7.size)
      clear hown7 hgrow7 hkeep7 hat7 hsz hrow
      go_roundw
      case rel => exact ⟨t - 1, A', c', L ++ [1 + x], by omega, by omega, by rw [List.length_append, List.length_singleton]; omega, by go_num, by rw [List.length_append]; rfl, by rw [List.length_append]; exact HO7.out, fun z hz => by rcases List.mem_append.1 hz with h | h; exact HF.out z h; exact (List.mem_singleton.1 h) ▸ HFY.out, HC7.out, HH7.out⟩
      case measure => simp [intOf] <;> omega
    · have hL5 : L.length ≤ 5 := by omega
      go_wp2_with fail
      refine (once_any g n 10 _ (by omega) (by omega) HC3.out).mono ?_
      rintro e w4 ⟨b, rfl, hcu, hch⟩
      have HC4 := Lib.hid hcu
      have HH4 := Lib.hid (HH3.out.trans hch)
      have HO4 := Lib.hid (ownI_chg HO3.out hch hg)
      clear hcu hch
      cases b with
      | false =>
        go_wp2
        go_ret
        exact ⟨_, L, rfl, HO4.out, by omega, HF.out, HC4.out, HH4.out⟩
      | true =>
        go_wp2_with fail
        refine (pickIn_any g n w4.heap.size 5 [-1, 0, 5, 4, 9223372036854775807] _ rfl (by omega) (by omega) (fun e => by have := HC4.out.lt; omega) ?_ (HC4.out.keep (bAlloc (Below.refl _ _) (Nat.le_refl _) _))).mono ?_
        · intro j hj
          rw [World.cell?_alloc_at _ _ _ _ rfl]
          match j, hj with
          | 0, _ | 1, _ | 2, _ | 3, _ | 4, _ => rfl
        rintro e w6 ⟨y, rfl, hy, hcu, hch⟩
        have HFY := Lib.hid (show Fit y by
          unfold Fit
          simp at hy
          omega)
        have HC := Lib.hid hcu
        have HH := Lib.hid ((HH4.out.alloc _).trans hch)
        have HO := Lib.hid (ownI_chg (HO4.out.below (bAlloc (Below.refl _ _) (Nat.le_refl _) _)) hch hg)
        have hbs := HH.out.size
        clear hcu hch hy
        have hbA : Below w6.heap.size w6 (w6.alloc (.cells #[.int .i64 y] 3)) := bAlloc (Below.refl _ _) (Nat.le_refl _) _
        have HBA := Lib.hid hbA
        have HOA := Lib.hid (HO.out.below hbA)
        have hsz := Lib.hid (show w.heap.size ≤ (w6.alloc (.cells #[.int .i64 y] 3)).heap.size from Nat.le_trans hbs hbA.size)
        clear hbA
        go_wp2_with (at_builtin; refine wpList_append_all (by rfl) _ _ 24 (by rfl) (w.heap.size) 3 i0 (.int .i64 0) 1 8 Try.underlying24 hi hz0 hz1 hz2 rfl (by omega) (.slice A L.length c) L.length (L.map vI) (by rfl) HOA.out (some ⟨w6.heap.size, 0, none⟩) 1 1 [.int .i64 y] (by rfl) (by rfl) (.inr ⟨_, rfl, World.news_of_block (heap_alloc_new _ _)⟩) (by simp [Value.oneCell']) (by unfold maxLen; omega) (by omega) hsz.out ?_; intro A' c' w7 hown7 hgrow7 hkeep7 hat7)
        have hrow : ∀ k, (Value.slice A L.length c).ownBlock = some k → w.heap.size ≤ k := fun k e => (HO.out.lt k e).1
        have HC7 := Lib.hid (cur_grown HC.out HBA.out hgrow7 (fun k e => by have := hrow k e; omega))
        have HH7 := Lib.hid (chg_grown HH.out HBA.out hgrow7 (fun k e => by have := hrow k e; omega))
        have HO7 := Lib.hid (own_int hown7)
        have HS7 := Lib.hid (show w.heap.size ≤ w7.heap.size from Nat.le_trans hsz.out hgrow7.size)
        clear hown7 hgrow7 hkeep7 hat7 hsz hrow
        go_ret
        exact ⟨.slice A' (L.length + 1) c', L ++ [y], rfl, HO7.out, by rw [List.length_append, List.length_singleton]; omega, fun z hz => by rcases List.mem_append.1 hz with h | h; exact HF.out z h; exact (List.mem_singleton.1 h) ▸ HFY.out, HC7.out, HH7.out⟩

set_option maxRecDepth 100000 in
set_option maxHeartbeats 12800000 in
theorem drawPack_any (a : Option Addr) (nn cap : Nat) (w : World) (hc : CodeW w a nn) :
    Calls Try.prog 11 #[.slice a nn cap] w fun e w' => ∃ v1 v2 L1 L2, e = .returned (.tuple #[v1, v2]) ∧ rdIntS 0 w'.heap.size w' [v1] L1 ∧ rdIntS 0 w'.heap.size w' [v2] L2 ∧ L1.length ≤ 10 ∧ L2.length ≤ 10 ∧ Below w.heap.size w w' := by
  obtain ⟨i0, hi, hz0, hz1, hz2⟩ := info_parts infoI
  have HCC := Lib.hid hc
  clear hc
  go_enter Try.func11, Try.ntmps11
  go_wp2_with fail
  refine (new_any a nn cap _ HCC.out).mono ?_
  rintro e w1 ⟨rfl, hcur, hb1⟩
  have HB1 := Lib.hid hb1
  have HC1 := Lib.hid hcur
  have hg1 := hcur.lt
  clear hcur hb1
  obtain ⟨g, hgw⟩ : ∃ g, w.heap.size = g := ⟨_, rfl⟩
  rw [hgw] at HC1 hg1 ⊢
  go_wp2_with fail
  refine (sizes_any g nn _ HC1.out).mono ?_
  rintro e w2 ⟨v1, L1, rfl, hov, hl1, hf1, hcu, hch⟩
  obtain ⟨VA, vc, rfl, -⟩ := hov.shape
  have HF1 := Lib.hid hf1
  have hg2 : g < w2.heap.size := Nat.lt_of_lt_of_le hg1 hch.size
  have hbA : Below w2.heap.size w2 (w2.alloc (.cells #[] 3)) := bAlloc (Below.refl _ _) (Nat.le_refl _) _
  have HV0 := Lib.hid (hov.below hbA)
  have HVL := Lib.hid (fun b (e : (Value.slice VA L1.length vc).ownBlock = some b) => (hov.lt b e).2)
  have HC0 := Lib.hid (hcu.keep hbA)
  have HH0 := Lib.hid (show Chg g w1 (w2.alloc (.cells #[] 3)) from hch.alloc _)
  have HO0 := Lib.hid (own_newI w2 w2.heap.size (Nat.le_refl _))
  have hs0 := hbA.size
  have hs12 := hch.size
  clear hov hf1 hcu hch hbA
  go_wp2
  go_loopw [6, 7] (fun s z wr => ∃ (k : Nat) (A : Option Addr) (c : Nat) (L : List Int), k ≤ L1.length ∧ z = .int .i64 (k : Int) ∧ L.length = k ∧ s = .slice A L.length c ∧ OwnsI wr w2.heap.size (.slice A L.length c) L ∧ (∀ x ∈ L, Fit x) ∧ OwnsI wr w1.heap.size (.slice VA L1.length vc) L1 ∧ w2.heap.size ≤ wr.heap.size ∧ Cur 105 wr g nn ∧ Chg g w1 wr) (fun _ z _ => L1.length - (intOf z).toNat)
  case atStart => exact ⟨0, some ⟨w2.heap.size, 0, none⟩, 0, [], Nat.zero_le _, rfl, rfl, rfl, HO0.out, fun x hx => (by cases hx), HV0.out, hs0, HC0.out, HH0.out⟩
  case round =>
    obtain ⟨k, A, c, L, hk, rfl, hLk, rfl, hown, hfl, hov, hbs3, hcu, hch⟩ := hrel
    obtain ⟨w3, rfl⟩ : ∃ w3, w3 = wr := ⟨_, rfl⟩
    clear HC0 HH0 HO0 HV0
    have HF := Lib.hid hfl
    have HC3 := Lib.hid hcu
    have HH3 := Lib.hid hch
    have HO3 := Lib.hid hown
    have HV3 := Lib.hid hov
    have HLK := Lib.hid hLk
    have hl6 : L.length ≤ 6 := by omega
    have HNE := Lib.hid (show (Value.slice VA L1.length vc).ownBlock = none ∨ (Value.slice VA L1.length vc).ownBlock ≠ (Value.slice A L.length c).ownBlock from by
      cases e : (Value.slice VA L1.length vc).ownBlock with
      | none => exact .inl rfl
      | some b => exact .inr (fun e2 => by have h1 := HVL.out b e; have h2 := (hown.lt b e2.symm).1; omega))
    clear hfl hcu hch hown hov
    by_cases hlt : k < L1.length
    · have tk : (k : Int) < (L1.length : Int) := by omega
      clear hLk
      go_wp2_with fail
      refine (below_any g nn 16 _ (by omega) (by omega) HC3.out).mono ?_
      rintro e w4 ⟨y, rfl, hx, hcu, hch⟩
      have HC := Lib.hid hcu
      have HH := Lib.hid (HH3.out.trans hch)
      have HO := Lib.hid (ownI_chg HO3.out hch hg2)
      have HV := Lib.hid (ownI_chg HV3.out hch hg1)
      have hbs : w2.heap.size ≤ w4.heap.size := Nat.le_trans hbs3 hch.size
      have HFY := Lib.hid (show Fit y by unfold Fit; omega)
      clear hcu hch hx
      have hbA : Below w4.heap.size w4 (w4.alloc (.cells #[.int .i64 y] 3)) := bAlloc (Below.refl _ _) (Nat.le_refl _) _
      have HBA := Lib.hid hbA
      have HOA := Lib.hid (HO.out.below hbA)
      have hsz := Lib.hid (show w2.heap.size ≤ (w4.alloc (.cells #[.int .i64 y] 3)).heap.size from Nat.le_trans hbs hbA.size)
      clear hbA
      go_wp2_with (at_builtin; refine wpList_append_all (by rfl) _ _ 24 (by rfl) (w2.heap.size) 3 i0 (.int .i64 0) 1 8 Try.underlying24 hi hz0 hz1 hz2 rfl (by omega) (.slice A L.length c) L.length (L.map vI) (by rfl) HOA.out (some ⟨w4.heap.size, 0, none⟩) 1 1 [.int .i64 y] (by rfl) (by rfl) (.inr ⟨_, rfl, World.news_of_block (heap_alloc_new _ _)⟩) (by simp [Value.oneCell']) (by unfold maxLen; omega) (by omega) hsz.out ?_; intro A' c' w7 hown7 hgrow7 hkeep7 hat7)
      have hrow : ∀ k, (Value.slice A L.length c).ownBlock = some k → w2.heap.size ≤ k := fun k e => (HO.out.lt k e).1
      have HC7 := Lib.hid (cur_grown HC.out HBA.out hgrow7 (fun k e => by have := hrow k e; omega))
      have HH7 := Lib.hid (chg_grown HH.out HBA.out hgrow7 (fun k e => by have := hrow k e; omega))
      have HO7 := Lib.hid (own_int hown7)
      have HS7 := Lib.hid (show w2.heap.size ≤ w7.heap.size from Nat.le_trans hsz.out hgrow7.size)
      have HV7 := Lib.hid (ownI_stays (HV.out.below HBA.out) hgrow7 (HNE.out))
      clear hown7 hgrow7 hkeep7 hat7 hsz hrow
      go_roundw
      case rel => exact ⟨k + 1, A', c', L ++ [y], by omega, by go_num, by rw [List.length_append, List.length_singleton, HLK.out], by rw [List.length_append]; rfl, by rw [List.length_append]; exact HO7.out, fun z hz => by rcases List.mem_append.1 hz with h | h; exact HF.out z h; exact (List.mem_singleton.1 h) ▸ HFY.out, HV7.out, HS7.out, HC7.out, HH7.out⟩
      case measure => simp [intOf] <;> omega
    · obtain rfl : L1.length = k := by omega
      clear hLk
      go_wp2_with fail
      refine (below_any g nn 8 _ (by omega) (by omega) HC3.out).mono ?_
      rintro e w4 ⟨x, rfl, hx, hcu, hch⟩
      have HC := Lib.hid hcu
      have HH := Lib.hid (HH3.out.trans hch)
      have HO := Lib.hid (ownI_chg HO3.out hch hg2)
      have HV := Lib.hid (ownI_chg HV3.out hch hg1)
      have hbs : w2.heap.size ≤ w4.heap.size := Nat.le_trans hbs3 hch.size
      clear hcu hch hlt
      by_cases h0 : x = 0
      · subst h0
        have hbA : Below w4.heap.size w4 (w4.alloc (.cells #[.int .i64 1] 3)) := bAlloc (Below.refl _ _) (Nat.le_refl _) _
        have HBA := Lib.hid hbA
        have HOA := Lib.hid (HO.out.below hbA)
        have hsz := Lib.hid (show w2.heap.size ≤ (w4.alloc (.cells #[.int .i64 1] 3)).heap.size from Nat.le_trans hbs hbA.size)
        clear hbA
        go_wp2_with (at_builtin; refine wpList_append_all (by rfl) _ _ 24 (by rfl) (w2.heap.size) 3 i0 (.int .i64 0) 1 8 Try.underlying24 hi hz0 hz1 hz2 rfl (by omega) (.slice A L.length c) L.length (L.map vI) (by rfl) HOA.out (some ⟨w4.heap.size, 0, none⟩) 1 1 [.int .i64 1] (by rfl) (by rfl) (.inr ⟨_, rfl, World.news_of_block (heap_alloc_new _ _)⟩) (by simp [Value.oneCell']) (by unfold maxLen; omega) (by omega) hsz.out ?_; intro A' c' w7 hown7 hgrow7 hkeep7 hat7)
        have hrow : ∀ k, (Value.slice A L.length c).ownBlock = some k → w2.heap.size ≤ k := fun k e => (HO.out.lt k e).1
        have HC7 := Lib.hid (cur_grown HC.out HBA.out hgrow7 (fun k e => by have := hrow k e; omega))
        have HH7 := Lib.hid (chg_grown HH.out HBA.out hgrow7 (fun k e => by have := hrow k e; omega))
        have HO7 := Lib.hid (own_int hown7)
        have HS7 := Lib.hid (show w2.heap.size ≤ w7.heap.size from Nat.le_trans hsz.out hgrow7.size)
        have HV7 := Lib.hid (ownI_stays (HV.out.below HBA.out) hgrow7 (HNE.out))
        clear hown7 hgrow7 hkeep7 hat7 hsz hrow
        have HFE := Lib.hid (show ∀ z ∈ L ++ [(1 : Int)], Fit z from fun z hz => by rcases List.mem_append.1 hz with h | h; exact HF.out z h; exact (List.mem_singleton.1 h) ▸ (by unfold Fit; omega))
        have HLE := Lib.hid (show (L ++ [(1 : Int)]).length = L.length + 1 by rw [List.length_append]; rfl)
        (try go_wp2)
        go_ret2
        subst hgw
        exact ⟨.slice VA L1.length vc, .slice A' (L.length + 1) c', L1, L ++ [1], rfl, ownI_rd HV7.out HF1.out, ownI_rd HO7.out HFE.out, by omega, by rw [HLE.out]; omega, Chg.below HB1.out HH7.out HB1.out.size (Nat.le_refl _)⟩
      · have b0 : (x == 0) = false := by simp [h0]
        by_cases h1 : x = 1
        · subst h1
          by_cases hl0 : 0 < L.length
          · have tl : (0 : Int) < (L.length : Int) := by omega
            go_wp2_with fail
            refine (number_any g nn _ HC.out).mono ?_
            rintro e w5 ⟨y, rfl, hy, hcu, hch⟩
            have HC5 := Lib.hid hcu
            have HH5 := Lib.hid (HH.out.trans hch)
            have ho5 := ownI_chg HO.out hch hg2
            have HV5 := Lib.hid (ownI_chg HV.out hch hg1)
            have HFY := Lib.hid (show Fit y by unfold I64 at hy; unfold Fit; omega)
            obtain ⟨A9, c9, eA, hsh⟩ := ho5.shape
            obtain ⟨eA, -, eC⟩ := Value.slice.inj eA
            subst eA
            subst eC
            obtain ⟨gv, rfl, y0, yz⟩ := hsh 0 hl0
            have HO5 := Lib.hid ho5
            have hgv := (ho5.lt gv rfl).1
            have HO6 := Lib.hid (ownI_set ho5 rfl hl0 y)
            have HV6 := Lib.hid (ownI_far (g := gv) (k := 0) (u := .int .i64 y) HV5.out (fun e => by have h2 := HVL.out gv e; omega))
            have HH6 := Lib.hid (show Below w.heap.size w (w5.setCell ⟨gv, 0, none⟩ (.int .i64 y)) from bSet (Chg.below HB1.out HH5.out HB1.out.size (by omega)) (p := ⟨gv, 0, none⟩) (by dsimp only; have := HB1.out.size; omega) _)
            have HFE := Lib.hid (show ∀ z ∈ L.set 0 y, Fit z from fun z hz => by rcases List.mem_or_eq_of_mem_set hz with h | h; exact HF.out z h; exact h ▸ HFY.out)
            clear hcu hch ho5 hsh hy
            go_wp2
            go_ret2
            refine ⟨_, _, L1, L.set 0 y, rfl, ownI_rd HV6.out HF1.out, ownI_rd HO6.out HFE.out, by omega, by rw [List.length_set]; omega, HH6.out⟩
          · have tl : ¬ (0 : Int) < (L.length : Int) := by omega
            go_wp2
            go_ret2
            subst hgw
            exact ⟨.slice VA L1.length vc, .slice A L.length c, L1, L, rfl, ownI_rd HV.out HF1.out, ownI_rd HO.out HF.out, by omega, by omega, Chg.below HB1.out HH.out HB1.out.size (Nat.le_refl _)⟩
        · have b1 : (x == 1) = false := by simp [h1]
          go_wp2
          go_ret2
          subst hgw
          exact ⟨.slice VA L1.length vc, .slice A L.length c, L1, L, rfl, ownI_rd HV.out HF1.out, ownI_rd HO.out HF.out, by omega, by omega, Chg.below HB1.out HH.out HB1.out.size (Nat.le_refl _)⟩
end Go.Proofs.Ytedamhkcblemdaa
