/-
  Drawn inputs of cycles.
-/
import Derived.Test.YtedamhkcblemdaaNrA
import Derived.Test.YtedamhkcblemdaaDrA
import Derived.Deep.RegionHeld3
namespace Go.Proofs.Ytedamhkcblemdaa
open Go.RowKit
set_option linter.unusedVariables false
set_option linter.unusedSimpArgs false
set_option maxHeartbeats 1600000 in
theorem pickIn_any (g n b m : Nat) (L : List Int) (w : World) (hm : L.length = m) (h0 : 0 < m) (hm2 : m ≤ 1000) (hb : b ≠ g) (hl : ∀ j (hj : j < L.length), w.cell? ⟨b, j, none⟩ = some (.int .i64 L[j])) (hc : Cur 105 w g n) :
    Calls Try.prog 96 #[.pointer (some ⟨g, 0, none⟩), .slice (some ⟨b, 0, none⟩) m m] w (Drawn 105 (· ∈ L) g n w) := by
  have HI := Lib.hid hl
  clear hl
  go_enter Try.func96, Try.ntmps96
  go_wp2_with fail
  refine (below_any g n _ _ (by omega) (by omega) hc).mono ?_
  rintro e w1 ⟨x, rfl, ⟨hx0, hx1⟩, hcur, hch⟩
  obtain ⟨j, rfl⟩ : ∃ j : Nat, x = (j : Int) := ⟨x.toNat, by omega⟩
  have hj : j < L.length := by omega
  have hv := HI.out j hj
  have hv' : w1.cell? ⟨b, j, none⟩ = some (.int .i64 L[j]) := (hch.cell (p := ⟨b, j, none⟩) (World.block_lt_of_cell? _ _ hv) hb).trans hv
  have HC := Lib.hid (And.intro hcur hch)
  have HM := Lib.hid (List.getElem_mem hj)
  obtain ⟨y, hy⟩ : ∃ y, L[j] = y := ⟨_, rfl⟩
  rw [hy] at hv' HM
  clear hv hcur hch HI hy
  go_wp2
  go_ret
  exact ⟨_, rfl, HM.out, HC.out.1, HC.out.2⟩

theorem grown_chg {g : Nat} {w w' : World} (h : Chg g w w') : w.grownBy w' (some g) := ⟨h.os, h.tape, h.output, h.size, fun k hk hne => h.block k hk (fun e => hne (by rw [e]))⟩
theorem ownI_chg {g : Nat} {w w' : World} {B : Nat} {v : Value} {L : List Int} (h : OwnsI w B v L) (hc : Chg g w w') (hg : g < B) : OwnsI w' B v L :=
  ownI_stays h (grown_chg hc) (.inr (fun e => by have := (h.lt _ e).1; omega))
set_option maxRecDepth 100000 in
set_option maxHeartbeats 6400000 in
theorem masks_any (g n m : Nat) (w : World) (hm : m ≤ 16) (hc : Cur 105 w g n) :
    Calls Try.prog 49 #[.pointer (some ⟨g, 0, none⟩), .int .i64 (m : Int)] w fun e w' => ∃ v L, e = .returned v ∧ OwnsI w' w.heap.size v L ∧ L.length = m ∧ (∀ x ∈ L, Fit x) ∧ Cur 105 w' g n ∧ Chg g w w' := by
  obtain ⟨i0, hi, hz0, hz1, hz2⟩ := info_parts infoI
  have hg := hc.lt
  have HCU := Lib.hid (show Cur 105 (w.alloc (.cells #[] 3)) g n from hc.keep (bAlloc (Below.refl _ _) (Nat.le_refl _) _))
  have HCH := Lib.hid (show Chg g w (w.alloc (.cells #[] 3)) from (Chg.refl g w).alloc _)
  have HO := Lib.hid (own_newI w w.heap.size (Nat.le_refl _))
  clear hc
  go_enter Try.func49, Try.ntmps49
  go_wp2
  go_loopw [5, 6] (fun s z wr => ∃ (k : Nat) (A : Option Addr) (c : Nat) (L : List Int), k ≤ m ∧ L.length = k ∧ z = .int .i64 (k : Int) ∧ s = .slice A L.length c ∧ OwnsI wr w.heap.size (.slice A L.length c) L ∧ (∀ x ∈ L, Fit x) ∧ Cur 105 wr g n ∧ Chg g w wr) (fun _ z _ => m - (intOf z).toNat)
  case atStart => exact ⟨0, some ⟨w.heap.size, 0, none⟩, 0, [], Nat.zero_le _, rfl, rfl, rfl, HO.out, fun x hx => (by cases hx), HCU.out, HCH.out⟩
  case round =>
    obtain ⟨k, A, c, L, hk, hlk, rfl, rfl, hown, hfl, hcu, hch⟩ := hrel
    obtain ⟨w3, rfl⟩ : ∃ w3, w3 = wr := ⟨_, rfl⟩
    clear HO HCU HCH
    have HFL := Lib.hid hfl
    by_cases hlt : k < m
    · have tk : (k : Int) < (m : Int) := by omega
      have hlen : L.length ≤ 16 := by omega
      have HLK := Lib.hid hlk
      have HO3 := Lib.hid hown
      have HC3 := Lib.hid hcu
      have HH3 := Lib.hid hch
      clear hlk hown hfl hcu hch
      go_wp2_with fail
      refine (below_any g n 256 _ (by omega) (by omega) HC3.out).mono ?_
      rintro e w4 ⟨x, rfl, hx, hcu, hch⟩
      have HC4 := Lib.hid hcu
      have HH4 := Lib.hid (HH3.out.trans hch)
      have HO4 := Lib.hid (ownI_chg HO3.out hch hg)
      have HFX := Lib.hid (show Fit x by unfold Fit; omega)
      clear hcu hch hx HC3 HH3 HO3
      go_wp2_with fail
      refine (once_any g n 12 _ (by omega) (by omega) HC4.out).mono ?_
      rintro e w5 ⟨b, rfl, hcu, hch⟩
      have HC5 := Lib.hid hcu
      have HH5 := Lib.hid (HH4.out.trans hch)
      have HO5 := Lib.hid (ownI_chg HO4.out hch hg)
      clear hcu hch HC4 HH4 HO4
      cases b with
      | false =>
        have HCU := Lib.hid HC5.out
        have HCH := Lib.hid HH5.out
        have HO := Lib.hid HO5.out
        have HFY := Lib.hid HFX.out
        have hbA : Below w5.heap.size w5 (w5.alloc (.cells #[.int .i64 x] 3)) := bAlloc (Below.refl _ _) (Nat.le_refl _) _
        have HBA := Lib.hid hbA
        have HOA := Lib.hid (HO.out.below hbA)
        have hsz := Lib.hid (show w.heap.size ≤ (w5.alloc (.cells #[.int .i64 x] 3)).heap.size from Nat.le_trans HCH.out.size hbA.size)
        clear hbA
        go_wp2_with (at_builtin; refine wpList_append_all (by rfl) _ _ 24 (by rfl) w.heap.size 3 i0 (.int .i64 0) 1 8 Try.underlying24 hi hz0 hz1 hz2 rfl (by omega) (.slice A L.length c) L.length (L.map vI) (by rfl) HOA.out (some ⟨w5.heap.size, 0, none⟩) 1 1 [.int .i64 x] (by rfl) (by rfl) (.inr ⟨_, rfl, World.news_of_block (heap_alloc_new _ _)⟩) (by simp [Value.oneCell']) (by unfold maxLen; omega) (by omega) hsz.out ?_; intro A' c' w7 hown7 hgrow7 hkeep7 hat7)
        have hrow : ∀ k, (Value.slice A L.length c).ownBlock = some k → w.heap.size ≤ k := fun k e => (HO.out.lt k e).1
        have HC7 := Lib.hid (cur_grown HCU.out HBA.out hgrow7 (fun k e => by have := hrow k e; omega))
        have HH7 := Lib.hid (chg_grown HCH.out HBA.out hgrow7 hrow)
        have HO7 := Lib.hid (own_int hown7)
        clear hown7 hgrow7 hkeep7 hat7 hsz hrow
        (try go_wp2)
        go_roundw
        case rel => exact ⟨k + 1, A', c', L ++ [x], by omega, by have := HLK.out; rw [List.length_append, List.length_singleton]; omega, by go_num, by rw [List.length_append]; rfl, by rw [List.length_append]; exact HO7.out, fun x hx => by rcases List.mem_append.1 hx with h | h; exact HFL.out x h; exact (List.mem_singleton.1 h) ▸ HFY.out, HC7.out, HH7.out⟩
        case measure => simp [intOf] <;> omega
      | true =>
        go_wp2_with fail
        refine (pickIn_any g n w5.heap.size 5 [-1, 1048575, 1048576, 9223372036854775807, -9223372036854775808] _ rfl (by omega) (by omega) (fun e => by have := HC5.out.lt; omega) ?_ (HC5.out.keep (bAlloc (Below.refl _ _) (Nat.le_refl _) _))).mono ?_
        · intro j hj
          rw [World.cell?_alloc_at _ _ _ _ rfl]
          match j, hj with
          | 0, _ | 1, _ | 2, _ | 3, _ | 4, _ => rfl
        rintro e w6 ⟨y, rfl, hy, hcu, hch⟩
        have HFY := Lib.hid (show Fit y by
          unfold Fit
          simp at hy
          omega)
        have HCU := Lib.hid hcu
        have HCH := Lib.hid ((HH5.out.alloc _).trans hch)
        have HO := Lib.hid (ownI_chg (HO5.out.below (bAlloc (Below.refl _ _) (Nat.le_refl _) _)) hch hg)
        clear hcu hch hy
        have hbA : Below w6.heap.size w6 (w6.alloc (.cells #[.int .i64 y] 3)) := bAlloc (Below.refl _ _) (Nat.le_refl _) _
        have HBA := Lib.hid hbA
        have HOA := Lib.hid (HO.out.below hbA)
        have hsz := Lib.hid (show w.heap.size ≤ (w6.alloc (.cells #[.int .i64 y] 3)).heap.size from Nat.le_trans HCH.out.size hbA.size)
        clear hbA
        go_wp2_with (at_builtin; refine wpList_append_all (by rfl) _ _ 24 (by rfl) w.heap.size 3 i0 (.int .i64 0) 1 8 Try.underlying24 hi hz0 hz1 hz2 rfl (by omega) (.slice A L.length c) L.length (L.map vI) (by rfl) HOA.out (some ⟨w6.heap.size, 0, none⟩) 1 1 [.int .i64 y] (by rfl) (by rfl) (.inr ⟨_, rfl, World.news_of_block (heap_alloc_new _ _)⟩) (by simp [Value.oneCell']) (by unfold maxLen; omega) (by omega) hsz.out ?_; intro A' c' w7 hown7 hgrow7 hkeep7 hat7)
        have hrow : ∀ k, (Value.slice A L.length c).ownBlock = some k → w.heap.size ≤ k := fun k e => (HO.out.lt k e).1
        have HC7 := Lib.hid (cur_grown HCU.out HBA.out hgrow7 (fun k e => by have := hrow k e; omega))
        have HH7 := Lib.hid (chg_grown HCH.out HBA.out hgrow7 hrow)
        have HO7 := Lib.hid (own_int hown7)
        clear hown7 hgrow7 hkeep7 hat7 hsz hrow
        (try go_wp2)
        go_roundw
        case rel => exact ⟨k + 1, A', c', L ++ [y], by omega, by have := HLK.out; rw [List.length_append, List.length_singleton]; omega, by go_num, by rw [List.length_append]; rfl, by rw [List.length_append]; exact HO7.out, fun x hx => by rcases List.mem_append.1 hx with h | h; exact HFL.out x h; exact (List.mem_singleton.1 h) ▸ HFY.out, HC7.out, HH7.out⟩
        case measure => simp [intOf] <;> omega
    · obtain rfl : k = m := by omega
      have HRES := Lib.hid (And.intro hown (And.intro hlk (And.intro hcu hch)))
      clear hown hcu hch hlk
      go_wp2
      go_ret
      exact ⟨_, L, rfl, HRES.out.1, HRES.out.2.1, HFL.out, HRES.out.2.2.1, HRES.out.2.2.2⟩
set_option maxHeartbeats 3200000 in
theorem drawMasks_any (A : Option Addr) (nn cap : Nat) (w : World) (hc : CodeW w A nn) : Calls Try.prog 21 #[.slice A nn cap] w fun e w' => ∃ v L, e = .returned v ∧ OwnsI w' w.heap.size v L ∧ 1 ≤ L.length ∧ L.length ≤ 12 ∧ (∀ x ∈ L, Fit x) ∧ Below w.heap.size w w' := by
  have HC := Lib.hid hc
  clear hc
  go_enter Try.func21, Try.ntmps21
  go_wp2_with fail
  refine (new_any A nn cap _ HC.out).mono ?_
  rintro e w1 ⟨rfl, hcur, hb1⟩
  have HB1 := Lib.hid hb1
  have HC1 := Lib.hid hcur
  clear hcur hb1
  go_wp2_with fail
  refine (below_any w.heap.size nn 12 _ (by omega) (by omega) HC1.out).mono ?_
  rintro e w2 ⟨x, rfl, hx, hcur, hch⟩
  obtain ⟨M, hM⟩ : ∃ M : Nat, 1 + x = (M : Int) := ⟨(1 + x).toNat, by omega⟩
  have hM12 : 1 ≤ M ∧ M ≤ 12 := by omega
  have HC2 := Lib.hid hcur
  have HB2 := Lib.hid (Chg.below HB1.out hch (HB1.out.size) (Nat.le_refl _))
  have hwr : IntKind.i64.wrap (1 + x) = (M : Int) := by rw [wrap64_int _ (by omega) (by omega)]; exact hM
  clear hcur hch hx
  go_wp2_with fail
  refine (masks_any w.heap.size nn M _ (by omega) HC2.out).mono ?_
  rintro e w3 ⟨v, L, rfl, ho, hl, hf, -, hch⟩
  have HRES := Lib.hid (And.intro (ho.lower HB2.out.size) (And.intro hl (And.intro hf (Chg.below HB2.out hch HB2.out.size (Nat.le_refl _)))))
  clear ho hl hf hch
  go_wp2
  go_ret
  exact ⟨v, L, rfl, HRES.out.1, by rw [HRES.out.2.1]; exact hM12.1, by rw [HRES.out.2.1]; exact hM12.2, HRES.out.2.2.1, HRES.out.2.2.2⟩
end Go.Proofs.Ytedamhkcblemdaa
