/-
  Hc1, HcA, Hc2, HcB, Hc8 as one text.
-/
import Derived.Test.YtedamhkcblemdaaDrA
import Derived.Test.YtedamhkcblemdaaNrA
import Derived.Deep.RegionHeld3
import Derived.Test.YtedamhkcblemdaaFork
import Derived.Test.YtedamhkcblemdaaHsA
/- Hc1: Copies of sequential elements: the specification. -/
namespace Go.Proofs.Ytedamhkcblemdaa
open Go.RowKit
set_option linter.unusedVariables false
set_option linter.unusedSimpArgs false

theorem infoQ1 : (Try.prog.info? 103).map (fun i => (i.zero, i.size, i.bytes)) = some (some (.agg #[.int .i64 0, .int .i64 0, .slice none 0 0]), 3, 40) := by kernel_rfl
theorem gr_new {α ρ : Type} (f : ρ → List Value) (k T : Nat) (P : Ow α) (w : World) (B : Nat) (hB : B ≤ w.heap.size) : GrR f k T P B [] (w.alloc (.cells #[] T)) (.slice (some ⟨w.heap.size, 0, none⟩) 0 0) [] [] :=
  ⟨ownR_new f k T w B hB, rfl, ⟨fun _ => [], rfl, fun j hj => absurd hj (by simp)⟩, by simp [blkL_at], fun b hb => by cases hb⟩
theorem owSeq_own {w : World} {B : Nat} {y I : Int} {v : Value} {L : List Int} (hk : Fit y) (hI : Fit I) (h : OwnsI w B v L) (hf : ∀ x ∈ L, Fit x) : owSeq (blkL v) w (fV3 (.int .i64 y, .int .i64 I, v)) (y, I, L) := by
  refine ⟨[], [], blkL v, _, _, _, rfl, rfl, ⟨rfl, rfl, hk⟩, ⟨rfl, rfl, hI⟩, ownI_ow h hf⟩
theorem blkL_nodup (v : Value) : (blkL v).Nodup := by unfold blkL; cases v.ownBlock <;> simp
set_option maxRecDepth 100000 in
set_option maxHeartbeats 12800000 in
theorem copySeqs_at (L : List DSeq) (v : Value) (w : World) (h : rdSeqS 0 w.heap.size w [v] L) (hl : L.length ≤ 3000000) (hin : ∀ s ∈ L, s.2.2.length ≤ 3000000) :
    Calls Try.prog 123 #[v] w fun e w' => ∃ v' rows bs, e = .returned v' ∧ GrR fV3 3 TSeq owSeq w.heap.size bs w' v' rows L ∧ Below w.heap.size w w' := by
  obtain ⟨i0, hi, hz0, hz1, hz2⟩ := info_parts infoI
  obtain ⟨iQ, hiQ, hzQ0, hzQ1, hzQ2⟩ := info_parts infoQ1
  have HI0 := Lib.hid (And.intro hi (And.intro hz0 (And.intro hz1 hz2)))
  have HD := Lib.hid h
  have HIN := Lib.hid hin
  obtain ⟨mA, mc, rfl, mm, -⟩ := slice_of h
  clear h hin
  go_enter Try.func123, Try.ntmps123
  go_wp2
  have HG := Lib.hid (gr_new fV3 3 TSeq owSeq w w.heap.size (Nat.le_refl _))
  have HB := Lib.hid (show Below w.heap.size w (w.alloc (.cells #[] TSeq)) from bAlloc (Below.refl _ _) (Nat.le_refl _) _)
  go_loopw [3, 4] (fun s z wr => ∃ (k : Nat) (A : Option Addr) (c : Nat) (rows : List V3) (bs : List Nat), k ≤ L.length ∧ rows.length = k ∧ z = .int .i64 (k : Int) ∧ s = .slice A rows.length c ∧ GrR fV3 3 TSeq owSeq w.heap.size bs wr (.slice A rows.length c) rows (L.take k) ∧ Below w.heap.size w wr) (fun _ z _ => L.length - (intOf z).toNat)
  case atStart => exact ⟨0, some ⟨w.heap.size, 0, none⟩, 0, [], [], Nat.zero_le _, rfl, rfl, rfl, HG.out, HB.out⟩
  case round =>
    obtain ⟨k, A, c, rows, bs, hk, hrk, rfl, rfl, hg, hb⟩ := hrel
    obtain ⟨w3, rfl⟩ : ∃ w3, w3 = wr := ⟨_, rfl⟩
    clear HG HB
    have HG := Lib.hid hg
    have HB := Lib.hid hb
    have HRK := Lib.hid hrk
    have hrl : rows.length ≤ 3000000 := by omega
    clear hg hb hrk
    by_cases hlt : k < L.length
    · obtain ⟨s, hs⟩ : ∃ s, L[k]? = some s := ⟨_, List.getElem?_eq_getElem hlt⟩
      have HTK := Lib.hid (show L.take (k + 1) = L.take k ++ [s] by rw [List.take_add_one, hs]; rfl)
      have hsl := HIN.out s (List.mem_of_getElem? hs)
      obtain ⟨sb, sq, sA, sc, rfl, sb1, x0, xf0, x1, xf1, x2, sR⟩ := at_Seq (good_SeqS.below HD.out (Nat.le_refl _) HB.out) hs
      have sb2 := Nat.lt_of_lt_of_le sb1 HB.out.size
      have tk : (k : Int) < (L.length : Int) := by omega
      obtain ⟨_, hnw⟩ := newsAt_of fInt 1 fInt_len (by omega) usInt (good_IntS.wider sR (Nat.zero_le _) HB.out.size)
      have HNW := Lib.hid (show NewsAt (w3.drew.alloc (.cells #[] 3)) sA s.2.2.length (s.2.2.flatMap fInt) from hnw.below (bAlloc (Below.drew (Below.refl _ _)) (Nat.le_refl _) _))
      have HFT := Lib.hid (show ∀ x ∈ s.2.2, Fit x from rd_fit sR)
      have HFX := Lib.hid (And.intro xf0 xf1)
      clear hs sb1 sR hnw xf0 xf1
      go_wp2_with fail
      have hS0 : (fun w' => Below w3.heap.size w3 w' ∧ w'.cell? ⟨sb, sq + k * 3, none⟩ = some (.int .i64 s.1) ∧ w'.cell? ⟨sb, sq + k * 3 + 1, none⟩ = some (.int .i64 s.2.1) ∧ w'.cell? ⟨sb, sq + k * 3 + 2, none⟩ = some (.slice sA s.2.2.length sc)) w3 := ⟨Below.refl _ _, x0, x1, x2⟩
      have hS : ∀ {w0 w' : World}, (fun w' => Below w3.heap.size w3 w' ∧ w'.cell? ⟨sb, sq + k * 3, none⟩ = some (.int .i64 s.1) ∧ w'.cell? ⟨sb, sq + k * 3 + 1, none⟩ = some (.int .i64 s.2.1) ∧ w'.cell? ⟨sb, sq + k * 3 + 2, none⟩ = some (.slice sA s.2.2.length sc)) w0 → Below w0.heap.size w0 w' → (fun w' => Below w3.heap.size w3 w' ∧ w'.cell? ⟨sb, sq + k * 3, none⟩ = some (.int .i64 s.1) ∧ w'.cell? ⟨sb, sq + k * 3 + 1, none⟩ = some (.int .i64 s.2.1) ∧ w'.cell? ⟨sb, sq + k * 3 + 2, none⟩ = some (.slice sA s.2.2.length sc)) w' := fun h hb => ⟨bThen h.1 hb, keep hb h.2.1, keep hb h.2.2.1, keep hb h.2.2.2⟩
      dsimp only at hS0 hS
      refine wp_region_noPanic ?_
      refine wp_region_kept 20 22 (fun w' => Below w3.heap.size w3 w' ∧ w'.cell? ⟨sb, sq + k * 3, none⟩ = some (.int .i64 s.1) ∧ w'.cell? ⟨sb, sq + k * 3 + 1, none⟩ = some (.int .i64 s.2.1) ∧ w'.cell? ⟨sb, sq + k * 3 + 2, none⟩ = some (.slice sA s.2.2.length sc)) (by kernel_rfl) rfl (hS hS0 (Below.drew (Below.refl _ _))) (fun hK0 => ?_)
      refine Kept.take (v := ?vc0) 0 (by kernel_rfl) rfl (by kernel_rfl) (fun _ _ _ h => h) (Or.inl ⟨by rfl, ?hyc0⟩) hK0 ?restc0
      case hyc0 =>
        intro w0 hSw
        (try dsimp only at hSw)
        go_simp
        all_goals (with_reducible rfl)
      (try simp only [Act.put, List.setIfInBounds_toArray, List.set_cons_zero, List.set_cons_succ])
      refine Kept.take (v := ?vc1) 1 (by kernel_rfl) rfl (by kernel_rfl) (fun _ _ _ h => h) (Or.inl ⟨by rfl, ?hyc1⟩) hK0 ?restc1
      case hyc1 =>
        intro w0 hSw
        (try dsimp only at hSw)
        go_simp
        all_goals (with_reducible rfl)
      (try simp only [Act.put, List.setIfInBounds_toArray, List.set_cons_zero, List.set_cons_succ])
      refine Kept.take (v := ?vc2) 2 (by kernel_rfl) rfl (by kernel_rfl) (fun _ _ _ h => h) (Or.inl ⟨by rfl, ?hyc2⟩) hK0 ?restc2
      case hyc2 =>
        intro w0 hSw
        (try dsimp only at hSw)
        go_simp
        all_goals (with_reducible rfl)
      (try simp only [Act.put, List.setIfInBounds_toArray, List.set_cons_zero, List.set_cons_succ])
      refine Kept.take (v := ?vc3) 3 (by kernel_rfl) rfl (by kernel_rfl) (fun _ _ _ h => h) (Or.inl ⟨by rfl, ?hyc3⟩) hK0 ?restc3
      case hyc3 =>
        intro w0 hSw
        (try dsimp only at hSw)
        go_simp
        all_goals (with_reducible rfl)
      (try simp only [Act.put, List.setIfInBounds_toArray, List.set_cons_zero, List.set_cons_succ])
      refine Kept.take (v := ?vc4) 4 (by kernel_rfl) rfl (by kernel_rfl) (fun _ _ _ h => h) (Or.inl ⟨by rfl, ?hyc4⟩) hK0 ?restc4
      case hyc4 =>
        intro w0 hSw
        (try dsimp only at hSw)
        go_simp
        all_goals (with_reducible rfl)
      (try simp only [Act.put, List.setIfInBounds_toArray, List.set_cons_zero, List.set_cons_succ])
      refine Kept.take (v := ?vc5) 5 (by kernel_rfl) rfl (by kernel_rfl) (fun _ _ _ h => h) (Or.inl ⟨by rfl, ?hyc5⟩) hK0 ?restc5
      case hyc5 =>
        intro w0 hSw
        (try dsimp only at hSw)
        go_simp
        all_goals (with_reducible rfl)
      (try simp only [Act.put, List.setIfInBounds_toArray, List.set_cons_zero, List.set_cons_succ])
      refine Kept.take (v := ?vc6) 6 (by kernel_rfl) rfl (by kernel_rfl) (fun _ _ _ h => h) (Or.inl ⟨by rfl, ?hyc6⟩) hK0 ?restc6
      case hyc6 =>
        intro w0 hSw
        (try dsimp only at hSw)
        go_simp
        all_goals (with_reducible rfl)
      (try simp only [Act.put, List.setIfInBounds_toArray, List.set_cons_zero, List.set_cons_succ])
      refine Kept.take (v := ?vc7) 7 (by kernel_rfl) rfl (by kernel_rfl) (fun _ _ _ h => h) (Or.inl ⟨by rfl, ?hyc7⟩) hK0 ?restc7
      case hyc7 =>
        intro w0 hSw
        (try dsimp only at hSw)
        go_simp
        all_goals (with_reducible rfl)
      (try simp only [Act.put, List.setIfInBounds_toArray, List.set_cons_zero, List.set_cons_succ])
      refine Kept.take (v := ?vc8) 8 (by kernel_rfl) rfl (by kernel_rfl) (fun _ _ _ h => h) (Or.inl ⟨by rfl, ?hyc8⟩) hK0 ?restc8
      case hyc8 =>
        intro w0 hSw
        (try dsimp only at hSw)
        go_simp
        all_goals (with_reducible rfl)
      (try simp only [Act.put, List.setIfInBounds_toArray, List.set_cons_zero, List.set_cons_succ])
      refine Kept.take (v := ?vc9) 9 (by kernel_rfl) rfl (by kernel_rfl) (fun _ _ _ h => h) (Or.inl ⟨by rfl, ?hyc9⟩) hK0 ?restc9
      case hyc9 =>
        intro w0 hSw
        (try dsimp only at hSw)
        go_simp
        all_goals (with_reducible rfl)
      (try simp only [Act.put, List.setIfInBounds_toArray, List.set_cons_zero, List.set_cons_succ])
      refine Kept.take (v := ?vc10) 10 (by kernel_rfl) rfl (by kernel_rfl) (fun _ _ _ h => h) (Or.inl ⟨by rfl, ?hyc10⟩) hK0 ?restc10
      case hyc10 =>
        intro w0 hSw
        (try dsimp only at hSw)
        go_simp
        all_goals (with_reducible rfl)
      (try simp only [Act.put, List.setIfInBounds_toArray, List.set_cons_zero, List.set_cons_succ])
      refine Kept.take (v := ?vc12) 12 (by kernel_rfl) rfl (by kernel_rfl) (fun _ _ _ h => h) (Or.inl ⟨by rfl, ?hyc12⟩) hK0 ?restc12
      case hyc12 =>
        intro w0 hSw
        (try dsimp only at hSw)
        go_simp
        all_goals (with_reducible rfl)
      (try simp only [Act.put, List.setIfInBounds_toArray, List.set_cons_zero, List.set_cons_succ])
      refine Kept.take (v := ?vc13) 13 (by kernel_rfl) rfl (by kernel_rfl) (fun _ _ _ h => h) (Or.inl ⟨by rfl, ?hyc13⟩) hK0 ?restc13
      case hyc13 =>
        intro w0 hSw
        (try dsimp only at hSw)
        go_simp
        all_goals (with_reducible rfl)
      (try simp only [Act.put, List.setIfInBounds_toArray, List.set_cons_zero, List.set_cons_succ])
      refine Kept.take (v := ?vc14) 14 (by kernel_rfl) rfl (by kernel_rfl) (fun _ _ _ h => h) (Or.inl ⟨by rfl, ?hyc14⟩) hK0 ?restc14
      case hyc14 =>
        intro w0 hSw
        (try dsimp only at hSw)
        go_simp
        all_goals (with_reducible rfl)
      (try simp only [Act.put, List.setIfInBounds_toArray, List.set_cons_zero, List.set_cons_succ])
      refine Kept.take (v := ?vc15) 15 (by kernel_rfl) rfl (by kernel_rfl) (fun _ _ _ h => h) (Or.inl ⟨by rfl, ?hyc15⟩) hK0 ?restc15
      case hyc15 =>
        intro w0 hSw
        (try dsimp only at hSw)
        go_simp
        all_goals (with_reducible rfl)
      (try simp only [Act.put, List.setIfInBounds_toArray, List.set_cons_zero, List.set_cons_succ])
      refine Kept.take (v := ?vc16) 16 (by kernel_rfl) rfl (by kernel_rfl) (fun _ _ _ h => h) (Or.inl ⟨by rfl, ?hyc16⟩) hK0 ?restc16
      case hyc16 =>
        intro w0 hSw
        (try dsimp only at hSw)
        go_simp
        all_goals (with_reducible rfl)
      (try simp only [Act.put, List.setIfInBounds_toArray, List.set_cons_zero, List.set_cons_succ])
      refine Kept.one 11 (by kernel_rfl) rfl (fun K hK => ?_)
      go_simp
      refine hK.out _ _ (hS hK0 (bAlloc (Below.refl _ _) (Nat.le_refl _) _)) (fun hK1 => ?_)
      clear hK K hK0
      (try simp only [Act.put, List.setIfInBounds_toArray, List.set_cons_zero, List.set_cons_succ])
      refine Kept.one 17 (by kernel_rfl) rfl (fun K hK => ?_)
      refine step_append_all (by rfl) _ _ 24 (by rfl) w3.heap.size 3 i0 (.int .i64 0) 1 8 Try.underlying24 HI0.out.1 HI0.out.2.1 HI0.out.2.2.1 HI0.out.2.2.2 rfl (by omega) (.slice (some ⟨w3.heap.size, 0, none⟩) 0 0) 0 [] (by rfl) (ownR_new fInt 1 3 w3.drew w3.heap.size (Nat.le_refl _)) sA s.2.2.length sc (s.2.2.flatMap fInt) (by rfl) (flat_len fInt 1 fInt_len s.2.2) HNW.out (fInt_one s.2.2) (by unfold maxLen; omega) (by omega) (by simp) ?_
      intro A' c' w4 hown4 hgrow4 hkeep4 hat4
      rw [Nat.zero_add]
      rw [Nat.zero_add, List.nil_append] at hown4
      have HO4 := Lib.hid (show OwnsI w4 w3.heap.size (.slice A' s.2.2.length c') s.2.2 by unfold OwnsI; rw [← flat_vI]; exact hown4)
      have HB4 := Lib.hid (show Below w3.heap.size w3 w4 from (show Below w3.heap.size w3 (w3.drew.alloc (.cells #[] 3)) from bAlloc (Below.drew (Below.refl _ _)) (Nat.le_refl _) _).grown hgrow4 (by simp) (by intro g hg; injection hg with hg; dsimp only at hg; omega))
      clear hown4 hgrow4 hkeep4 hat4
      refine hK.out _ _ (⟨HB4.out, keep HB4.out x0, keep HB4.out x1, keep HB4.out x2⟩) (fun hK2 => ?_)
      clear hK K hK1
      (try simp only [Act.put, List.setIfInBounds_toArray, List.set_cons_zero, List.set_cons_succ])
      refine Kept.take (v := ?vc18) 18 (by kernel_rfl) rfl (by kernel_rfl) (fun _ _ _ h => h) (Or.inl ⟨by rfl, ?hyc18⟩) hK2 ?restc18
      case hyc18 =>
        intro w0 hSw
        (try dsimp only at hSw)
        go_simp
        all_goals (with_reducible rfl)
      (try simp only [Act.put, List.setIfInBounds_toArray, List.set_cons_zero, List.set_cons_succ])
      refine Kept.one 19 (by kernel_rfl) rfl (fun K hK => ?_)
      go_simp
      refine hK.out _ _ (hS hK2 (bAlloc (Below.refl _ _) (Nat.le_refl _) _)) (fun hK3 => ?_)
      clear hK K hK2
      (try simp only [Act.put, List.setIfInBounds_toArray, List.set_cons_zero, List.set_cons_succ])
      refine Kept.tail (by rfl) (by kernel_rfl) ?_
      simp only [List.drop_succ_cons, List.drop_zero]
      have hwb := HB4.out.size
      have HWA := Lib.hid (show Below w3.heap.size w3 (w4.alloc (.cells #[.int .i64 s.1, .int .i64 s.2.1, .slice A' s.2.2.length c'] 103)) from hK3.1)
      obtain ⟨WA, hWA⟩ : ∃ WA, WA = w4.alloc (.cells #[.int .i64 s.1, .int .i64 s.2.1, .slice A' s.2.2.length c'] 103) := ⟨_, rfl⟩
      have HNB := Lib.hid (show WA.heap[w4.heap.size]? = some (.cells #[.int .i64 s.1, .int .i64 s.2.1, .slice A' s.2.2.length c'] 103 (0, 0)) by rw [hWA]; exact heap_alloc_new _ _)
      have HBW := Lib.hid (show Below w4.heap.size w4 WA by rw [hWA]; exact bAlloc (Below.refl _ _) (Nat.le_refl _) _)
      rw [← hWA] at HWA ⊢
      have hGA := HG.out.below gow_Seq HWA.out
      have HGA := Lib.hid hGA
      have hrow : OwnsR fV3 3 TSeq WA w.heap.size (.slice A rows.length c) rows := hGA.own
      unfold OwnsR at hrow
      have HROW := Lib.hid hrow
      have HBX := Lib.hid (bThen HB.out HWA.out)
      have HSZ := Lib.hid HBX.out.size
      clear hS hS0 hK3 x0 x1 x2 hWA hGA hrow
      go_wp2_with (at_builtin; refine wpList_append_all (by rfl) _ _ 33 (by rfl) w.heap.size 103 iQ (.agg #[.int .i64 0, .int .i64 0, .slice none 0 0]) 3 40 Try.underlying33 hiQ hzQ0 hzQ1 hzQ2 rfl (by omega) (.slice A rows.length c) rows.length (rows.flatMap fV3) (by rfl) HROW.out (some ⟨w4.heap.size, 0, none⟩) 1 1 [.int .i64 s.1, .int .i64 s.2.1, .slice A' s.2.2.length c'] (by rfl) (by rfl) (.inr ⟨_, rfl, World.news_of_block HNB.out⟩) (by simp [Value.oneCell']) (by unfold maxLen; omega) (by omega) HSZ.out ?_; intro A2 c2 w6 hown6 hgrow6 hkeep6 hat6)
      refine NoPanic.normal ?_
      have hnew : ∀ b ∈ blkL (Value.slice A' s.2.2.length c'), w3.heap.size ≤ b := fun b hb => (HO4.out.lt b (mem_blkL.1 hb)).1
      have hg7 := HGA.out.addV (n := rows.length + 1) (r := (.int .i64 s.1, .int .i64 s.2.1, .slice A' s.2.2.length c')) (x := s) (cs := blkL (Value.slice A' s.2.2.length c')) gow_Seq (Below.refl _ _) hgrow6 hown6 rfl hat6 (owSeq_own HFX.out.1 HFX.out.2 (HO4.out.below HBW.out) HFT.out) (nodup_add HG.out.nd (blkL_nodup _) fun q hq hb => by
        have h1 := hnew q hq
        have h2 := (HG.out.lt gow_Seq hb).1
        omega) (fun q hq => by have h1 := hnew q hq; have h2 := HB.out.size; omega)
      have HG7 := Lib.hid hg7
      have HB7 := Lib.hid (HBX.out.grown hgrow6 HSZ.out (fun g e => (HG.out.own.blk_lt e).2))
      clear hown6 hgrow6 hkeep6 hat6 hg7 hnew
      go_wp2
      go_roundw
      case rel => exact ⟨k + 1, A2, c2, rows ++ [(.int .i64 s.1, .int .i64 s.2.1, .slice A' s.2.2.length c')], bs ++ blkL (Value.slice A' s.2.2.length c'), by omega, by have := HRK.out; rw [List.length_append, List.length_singleton]; omega, by go_num, by rw [List.length_append]; rfl, by rw [List.length_append, HTK.out]; exact HG7.out, HB7.out⟩
      case measure => simp [intOf] <;> omega
    · obtain rfl : k = L.length := by omega
      have hg := HG.out
      rw [List.take_length] at hg
      have HG2 := Lib.hid hg
      clear hg hlt
      go_wp2
      go_ret
      exact ⟨_, rows, bs, rfl, HG2.out, HB.out⟩
end Go.Proofs.Ytedamhkcblemdaa
/- HcA: A net of one's own that grows. -/
namespace Go.Proofs.Ytedamhkcblemdaa
open Go.RowKit
set_option linter.unusedVariables false
set_option linter.unusedSimpArgs false
theorem row0 {w : World} {g B T k : Nat} (hg : w.heap[g]? = some (.cells #[] T)) (hB : B ≤ g) : w.ownsRow B T k (.slice (some ⟨g, 0, none⟩) 0 0) 0 [] := by
  have hlt : g < w.heap.size := (Array.getElem?_eq_some_iff.1 hg).1
  have e : ({ w with heap := w.heap.take g } : World).heap.size = g := by simp; omega
  have h := ownR_new (α := Int) (fun _ => []) k T { w with heap := w.heap.take g } B (by rw [e]; exact hB)
  rw [e] at h
  refine OwnsR.atB h (fun b hb => ?_)
  injection hb with hb
  subst hb
  rw [hg]
  have h2 := heap_alloc_new { w with heap := w.heap.take g } (.cells #[] T)
  rw [e] at h2
  exact h2.symm
theorem step_copy {P : Program} {ops : Array Oper} {o : Oper} {a : Act} {w : World} {K : Act → World → Prop} {Q : Exit → Act → World → Prop} {E : Prop} (hgd : o.guard = none) (s x : Operand) (t : TypeId)
    (ho : o.op = .call { callee := .builtin .append, args := #[s, x], argTypes := #[t, t] }) {α : Type} (f : α → List Value) (L : List α)
    (e : TypeId) (i : TypeInfo) (z : Value) (size bytes : Nat) (ht : P.underlying t = some (.slice e)) (hi : P.info? e = some i) (hz : i.zero = some z)
    (hsize : i.size = size) (hby : i.bytes = bytes) (hzs : z.cells.size = size) (hsz : 0 < size) (base : Nat) (A : Option Addr) (c : Nat)
    (hl : (L.flatMap f).length = L.length * size) (h1 : ∀ u ∈ L.flatMap f, u.oneCell' = true) (h63 : L.length ≤ maxLen) (hbytes : L.length * bytes ≤ 140737488355328)
    (hx : a.eval x = .slice A L.length c) (hnews : NewsAt w A L.length (L.flatMap f)) (g : Nat) (hs : a.eval s = .slice (some ⟨g, 0, none⟩) 0 0) (hg : w.heap[g]? = some (.cells #[] e)) (hB : base ≤ g)
    (h : ∀ A' c' w', w'.ownsRow base e size (.slice A' L.length c') L.length (L.flatMap f) → ChgL [g] w w' → ((Value.slice A' L.length c').ownBlock = some g ∨ (Value.slice A' L.length c').ownBlock = some w.heap.size) →
      K (a.put o.dst (.slice A' L.length c')) w') :
    if Region.wanted o (yielded ops a.tmps) = true then Oper.wp P o a w K Q else E := by
  have hlt : g < w.heap.size := (Array.getElem?_eq_some_iff.1 hg).1
  refine step_append_all hgd s x t ho base e i z size bytes ht hi hz hsize hby hzs hsz (.slice (some ⟨g, 0, none⟩) 0 0) 0 [] hs (row0 hg hB) A L.length c (L.flatMap f) hx hl hnews h1 (by omega) (by rw [Nat.zero_add]; exact hbytes) (by omega) ?_
  intro A' c' w' hown hgrow hkeep hat
  rw [Nat.zero_add, List.nil_append] at hown
  rw [Nat.zero_add] at hat ⊢
  refine h A' c' w' hown ⟨hgrow.os, hgrow.tape, hgrow.output, hgrow.size, fun b hb hn => hgrow.block b hb (fun e => hn ?_)⟩ hat
  have e' : some b = some g := e
  injection e' with e'
  simp [e']
theorem gr_lower {α ρ : Type} {f : ρ → List Value} {k T : Nat} {P : Ow α} {B B' : Nat} {bs : List Nat} {w : World} {v : Value} {rows : List ρ} {L : List α} (h : GrR f k T P B bs w v rows L) (hB : B' ≤ B) : GrR f k T P B' bs w v rows L := by
  refine ⟨?_, h.len, h.bf, h.nd, fun b hb => Nat.le_trans hB (h.low b hb)⟩
  obtain ⟨h1, h2⟩ := h.own
  refine ⟨h1, ?_⟩
  rcases h2 with h2 | ⟨g, cap, cur, e1, e2, e3⟩
  · exact .inl h2
  · exact .inr ⟨g, cap, cur, e1, Nat.le_trans hB e2, e3⟩
theorem below_chgL {bs : List Nat} {N : Nat} {a w1 w2 : World} (hb : Below N a w1) (h : ChgL bs w1 w2) (hN : ∀ b ∈ bs, N ≤ b) (hs : N ≤ w1.heap.size) : Below N a w2 :=
  ⟨h.os.trans hb.os, h.tape.trans hb.tape, h.output.trans hb.output, Nat.le_trans hb.size h.size, fun k hk => (h.block k (Nat.lt_of_lt_of_le hk hs) (fun hm => by have := hN k hm; omega)).trans (hb.block k hk)⟩
theorem infoA1 : (Try.prog.info? 67).map (fun i => (i.zero, i.size, i.bytes)) = some (some (.agg #[.int .i64 0, .int .i64 0]), 2, 16) := by kernel_rfl
theorem fAnd_one (L : List DAnd) : ∀ u ∈ L.flatMap fAnd, u.oneCell' = true := fun u hu => by
  obtain ⟨c, _, hc⟩ := List.mem_flatMap.1 hu
  simp only [fAnd, List.mem_cons, List.not_mem_nil, or_false] at hc
  rcases hc with rfl | rfl <;> rfl
theorem usAnd (B T : Nat) (w : World) (us : List Value) (x : DAnd) (h : rdAnd B T w us x) : us = fAnd x := by
  obtain ⟨u0, u1, rfl, h0, h1⟩ := h
  obtain ⟨e0, _⟩ := h0
  obtain ⟨e1, _⟩ := h1
  injection e0 with e0
  injection e1 with e1
  subst e0 e1
  rfl
theorem ands_fit {B T : Nat} {w : World} {v : Value} {L : List DAnd} (h : rdAndS B T w [v] L) : ∀ x ∈ L, Fit x.1 ∧ Fit x.2 := fun x hx => by
  obtain ⟨A, c, e, hm, hA⟩ := h
  obtain ⟨j, hj, rfl⟩ := List.getElem_of_mem hx
  obtain ⟨b, o, _, _, _, us, _, _, hr⟩ := hA j hj
  obtain ⟨v0, v1, rfl, g0, g1⟩ := hr
  exact ⟨g0.2, g1.2⟩
/-- A net of one's own: its slices grow, and share no block. -/
structure NetG (B : Nat) (w : World) (v1 vA v3 : Value) (rows : List V3) (bs : List Nat) (n : DNet) : Prop where
  s : GrR fV3 3 TSeq owSeq B bs w v1 rows n.2.1
  a : GrR fAnd 2 TAnd owAnd B [] w vA n.2.2.1 n.2.2.1
  o : GrR fInt 1 TInt1 owInt B [] w v3 n.2.2.2 n.2.2.2
  sa : ∀ b ∈ blkL v1 ++ bs, b ∉ blkL vA
  so : ∀ b ∈ blkL v1 ++ bs, b ∉ blkL v3
  ao : ∀ b ∈ blkL vA, b ∉ blkL v3
  fit : Fit n.1
theorem gr_flat {α : Type} {f : α → List Value} {k T : Nat} {P : Ow α} {B : Nat} {w : World} {v : Value} {L : List α} (h : OwnsR f k T w B v L) (hP : ∀ x ∈ L, P [] w (f x) x) : GrR f k T P B [] w v L L :=
  ⟨h, rfl, ⟨fun _ => [], by simp, fun j hj hj' => hP _ (List.getElem_mem hj)⟩, by rw [List.append_nil]; exact blkL_nodup v, fun b hb => by cases hb⟩
theorem net_fit {B T : Nat} {w : World} {us : List Value} {n : DNet} (h : rdNet B T w us n) : Fit n.1 ∧ (∀ x ∈ n.2.2.1, Fit x.1 ∧ Fit x.2) ∧ (∀ x ∈ n.2.2.2, Fit x) := by
  obtain ⟨_, _, _, _, _, ho0, ho1, ho2, ho3⟩ := h
  exact ⟨ho0.2, ands_fit ho2, rd_fit ho3⟩
theorem far4 {w : World} {F g : Nat} {a b c d : Value} (hn : g ≠ F) : ((((w.setCell ⟨F, 0, none⟩ a).setCell ⟨F, 1, none⟩ b).setCell ⟨F, 2, none⟩ c).setCell ⟨F, 3, none⟩ d).heap[g]? = w.heap[g]? := by
  rw [heap_setCell_other _ ⟨F, 3, none⟩ g _ hn, heap_setCell_other _ ⟨F, 2, none⟩ g _ hn, heap_setCell_other _ ⟨F, 1, none⟩ g _ hn, heap_setCell_other _ ⟨F, 0, none⟩ g _ hn]
theorem netG_fin {B0 B F : Nat} {w : World} {v1 vA v3 a b c d : Value} {rows : List V3} {bs : List Nat} {n : DNet} (hs : GrR fV3 3 TSeq owSeq B bs w v1 rows n.2.1) (ha : OwnsR fAnd 2 TAnd w B vA n.2.2.1) (ho : OwnsR fInt 1 TInt1 w B v3 n.2.2.2) (fa : ∀ x ∈ n.2.2.1, Fit x.1 ∧ Fit x.2) (fo : ∀ x ∈ n.2.2.2, Fit x) (f0 : Fit n.1) (hF : F < B) (hB : B0 ≤ B)
    (sa : ∀ b ∈ blkL v1 ++ bs, b ∉ blkL vA) (so : ∀ b ∈ blkL v1 ++ bs, b ∉ blkL v3) (ao : ∀ b ∈ blkL vA, b ∉ blkL v3) : NetG B0 ((((w.setCell ⟨F, 0, none⟩ a).setCell ⟨F, 1, none⟩ b).setCell ⟨F, 2, none⟩ c).setCell ⟨F, 3, none⟩ d) v1 vA v3 rows bs n := by
  refine ⟨gr_lower (hs.at gow_Seq fun g hg => far4 (by have := (hs.lt gow_Seq hg).2; omega)) hB,
    gr_lower (gr_flat (OwnsR.atB ha fun g e => far4 (by have := (OwnsR.blk_lt ha e).2; omega)) fun x hx => owAnd_of (fa x hx).1 (fa x hx).2 _) hB,
    gr_lower (gr_flat (OwnsR.atB ho fun g e => far4 (by have := (OwnsR.blk_lt ho e).2; omega)) fun x hx => ⟨rfl, rfl, fo x hx⟩) hB, sa, so, ao, f0⟩
end Go.Proofs.Ytedamhkcblemdaa
/- Hc2: Copies of nets: the specification. -/
namespace Go.Proofs.Ytedamhkcblemdaa
open Go.RowKit
set_option linter.unusedVariables false
set_option linter.unusedSimpArgs false

set_option maxRecDepth 100000 in
set_option maxHeartbeats 25600000 in
theorem specCopy_at (n : DNet) (us : List Value) (w : World) (h : rdNet 0 w.heap.size w us n) (hq12 : n.2.1.length ≤ 3000000) (hin : ∀ s ∈ n.2.1, s.2.2.length ≤ 3000000) (ha12 : n.2.2.1.length ≤ 3000000) (ho12 : n.2.2.2.length ≤ 3000000) :
    Calls Try.prog 124 #[.agg us.toArray] w fun e w' => ∃ v1 vA v3 rows bs, e = .returned (.agg #[.int .i64 n.1, v1, vA, v3]) ∧ NetG w.heap.size w' v1 vA v3 rows bs n ∧ Below w.heap.size w w' := by
  obtain ⟨i0, hi, hz0, hz1, hz2⟩ := info_parts infoI
  obtain ⟨iA, hiA, hzA0, hzA1, hzA2⟩ := info_parts infoA1
  have HIi0 := Lib.hid (And.intro hi (And.intro hz0 (And.intro hz1 hz2)))
  have HIiA := Lib.hid (And.intro hiA (And.intro hzA0 (And.intro hzA1 hzA2)))
  have HD := Lib.hid h
  have HIN := Lib.hid hin
  have HFN := Lib.hid (net_fit h)
  clear hin hi hz0 hz1 hz2 hiA hzA0 hzA1 hzA2
  obtain ⟨mu0, mu1, mu2, mu3, rfl, mh0, mh1, mh2, mh3⟩ := h
  obtain ⟨me0, -⟩ := mh0
  injection me0 with me0
  subst me0
  obtain ⟨mA1, mc1, me1, mm1, -⟩ := slice_of mh1
  subst me1
  have mR1 := Lib.hid mh1
  clear mh1
  obtain ⟨mA2, mc2, me2, mm2, -⟩ := slice_of mh2
  subst me2
  have mR2 := Lib.hid mh2
  clear mh2
  obtain ⟨mA3, mc3, me3, mm3, -⟩ := slice_of mh3
  subst me3
  have mR3 := Lib.hid mh3
  clear mh3
  go_enter Try.func124, Try.ntmps124
  go_wp2_with fail
  obtain ⟨W0, hV⟩ : ∃ W0, W0 = ((w.alloc (.cells #[.int .i64 n.1, .slice mA1 (n.2.1).length mc1, .slice mA2 (n.2.2.1).length mc2, .slice mA3 (n.2.2.2).length mc3] 36)).alloc (.cells #[.int .i64 0, .slice none 0 0, .slice none 0 0, .slice none 0 0] 36)) := ⟨_, rfl⟩
  rw [← hV]
  have gN := eqbox2 hV
  have d0 : W0.cell? ⟨w.heap.size, 0, none⟩ = some (.int .i64 n.1) := box_cell gN.1 0 _ rfl
  have d1 : W0.cell? ⟨w.heap.size, 1, none⟩ = some (.slice mA1 (n.2.1).length mc1) := box_cell gN.1 1 _ rfl
  have d2 : W0.cell? ⟨w.heap.size, 2, none⟩ = some (.slice mA2 (n.2.2.1).length mc2) := box_cell gN.1 2 _ rfl
  have d3 : W0.cell? ⟨w.heap.size, 3, none⟩ = some (.slice mA3 (n.2.2.2).length mc3) := box_cell gN.1 3 _ rfl
  have HROW := Lib.hid gN.2.1
  have HW0 := Lib.hid gN.2.2
  have sW0 : W0.heap.size = w.heap.size + 2 := by rw [hV]; simp
  obtain ⟨Wd, hWd⟩ : ∃ x, x = W0.drew := ⟨_, rfl⟩
  have sWd : Wd.heap.size = W0.heap.size := by rw [hWd]; rfl
  have sA := Nat.le_of_eq sWd
  have sB := Nat.le_of_eq sWd.symm
  have sC := Nat.le_of_eq sW0
  have sD := Nat.le_of_eq sW0.symm
  clear sWd sW0
  have HE0 := Lib.hid d0
  have HE1 := Lib.hid d1
  have HE2 := Lib.hid d2
  have HE3 := Lib.hid d3
  have HNA := Lib.hid (show NewsAt W0 mA2 n.2.2.1.length (n.2.2.1.flatMap fAnd) from (newsAt_of fAnd 2 fAnd_len (by omega) usAnd (good_AndS.below mR2.out (Nat.le_refl _) HW0.out)).2)
  have HNO := Lib.hid (show NewsAt W0 mA3 n.2.2.2.length (n.2.2.2.flatMap fInt) from (newsAt_of fInt 1 fInt_len (by omega) usInt (good_IntS.below mR3.out (Nat.le_refl _) HW0.out)).2)
  clear hV gN
  have hS0 : (fun w' => Below W0.heap.size W0 w' ∧ w'.cell? ⟨w.heap.size, 0, none⟩ = some (.int .i64 n.1) ∧ w'.cell? ⟨w.heap.size, 1, none⟩ = some (.slice mA1 (n.2.1).length mc1) ∧ w'.cell? ⟨w.heap.size, 2, none⟩ = some (.slice mA2 (n.2.2.1).length mc2) ∧ w'.cell? ⟨w.heap.size, 3, none⟩ = some (.slice mA3 (n.2.2.2).length mc3)) W0 := ⟨Below.refl _ _, d0, d1, d2, d3⟩
  have hS : ∀ {w0 w' : World}, (fun w' => Below W0.heap.size W0 w' ∧ w'.cell? ⟨w.heap.size, 0, none⟩ = some (.int .i64 n.1) ∧ w'.cell? ⟨w.heap.size, 1, none⟩ = some (.slice mA1 (n.2.1).length mc1) ∧ w'.cell? ⟨w.heap.size, 2, none⟩ = some (.slice mA2 (n.2.2.1).length mc2) ∧ w'.cell? ⟨w.heap.size, 3, none⟩ = some (.slice mA3 (n.2.2.2).length mc3)) w0 → Below w0.heap.size w0 w' → (fun w' => Below W0.heap.size W0 w' ∧ w'.cell? ⟨w.heap.size, 0, none⟩ = some (.int .i64 n.1) ∧ w'.cell? ⟨w.heap.size, 1, none⟩ = some (.slice mA1 (n.2.1).length mc1) ∧ w'.cell? ⟨w.heap.size, 2, none⟩ = some (.slice mA2 (n.2.2.1).length mc2) ∧ w'.cell? ⟨w.heap.size, 3, none⟩ = some (.slice mA3 (n.2.2.2).length mc3)) w' := fun h hb => ⟨bThen h.1 hb, keep hb h.2.1, keep hb h.2.2.1, keep hb h.2.2.2.1, keep hb h.2.2.2.2⟩
  dsimp only at hS0 hS
  refine wp_region_noPanic ?_
  refine wp_region_kept 14 15 (fun w' => Below W0.heap.size W0 w' ∧ w'.cell? ⟨w.heap.size, 0, none⟩ = some (.int .i64 n.1) ∧ w'.cell? ⟨w.heap.size, 1, none⟩ = some (.slice mA1 (n.2.1).length mc1) ∧ w'.cell? ⟨w.heap.size, 2, none⟩ = some (.slice mA2 (n.2.2.1).length mc2) ∧ w'.cell? ⟨w.heap.size, 3, none⟩ = some (.slice mA3 (n.2.2.2).length mc3)) (by kernel_rfl) rfl (hS hS0 (Below.drew (Below.refl _ _))) (fun hK0 => ?_)
  rw [← hWd] at hK0 ⊢
  clear hWd
  refine Kept.take (v := ?vr0) 0 (by kernel_rfl) rfl (by kernel_rfl) (fun _ _ _ h => h) (Or.inl ⟨by rfl, ?hyr0⟩) hK0 ?restr0
  case hyr0 =>
    intro w0 hSw
    (try dsimp only at hSw)
    go_simp
    all_goals (with_reducible rfl)
  (try simp only [Act.put, List.setIfInBounds_toArray, List.set_cons_zero, List.set_cons_succ])
  refine Kept.take (v := ?vr1) 1 (by kernel_rfl) rfl (by kernel_rfl) (fun _ _ _ h => h) (Or.inl ⟨by rfl, ?hyr1⟩) hK0 ?restr1
  case hyr1 =>
    intro w0 hSw
    (try dsimp only at hSw)
    go_simp
    all_goals (with_reducible rfl)
  (try simp only [Act.put, List.setIfInBounds_toArray, List.set_cons_zero, List.set_cons_succ])
  refine Kept.take (v := ?vr2) 2 (by kernel_rfl) rfl (by kernel_rfl) (fun _ _ _ h => h) (Or.inl ⟨by rfl, ?hyr2⟩) hK0 ?restr2
  case hyr2 =>
    intro w0 hSw
    (try dsimp only at hSw)
    go_simp
    all_goals (with_reducible rfl)
  (try simp only [Act.put, List.setIfInBounds_toArray, List.set_cons_zero, List.set_cons_succ])
  refine Kept.take (v := ?vr3) 3 (by kernel_rfl) rfl (by kernel_rfl) (fun _ _ _ h => h) (Or.inl ⟨by rfl, ?hyr3⟩) hK0 ?restr3
  case hyr3 =>
    intro w0 hSw
    (try dsimp only at hSw)
    go_simp
    all_goals (with_reducible rfl)
  (try simp only [Act.put, List.setIfInBounds_toArray, List.set_cons_zero, List.set_cons_succ])
  refine Kept.take (v := ?vr6) 6 (by kernel_rfl) rfl (by kernel_rfl) (fun _ _ _ h => h) (Or.inl ⟨by rfl, ?hyr6⟩) hK0 ?restr6
  case hyr6 =>
    intro w0 hSw
    (try dsimp only at hSw)
    go_simp
    all_goals (with_reducible rfl)
  (try simp only [Act.put, List.setIfInBounds_toArray, List.set_cons_zero, List.set_cons_succ])
  refine Kept.take (v := ?vr7) 7 (by kernel_rfl) rfl (by kernel_rfl) (fun _ _ _ h => h) (Or.inl ⟨by rfl, ?hyr7⟩) hK0 ?restr7
  case hyr7 =>
    intro w0 hSw
    (try dsimp only at hSw)
    go_simp
    all_goals (with_reducible rfl)
  (try simp only [Act.put, List.setIfInBounds_toArray, List.set_cons_zero, List.set_cons_succ])
  refine Kept.take (v := ?vr10) 10 (by kernel_rfl) rfl (by kernel_rfl) (fun _ _ _ h => h) (Or.inl ⟨by rfl, ?hyr10⟩) hK0 ?restr10
  case hyr10 =>
    intro w0 hSw
    (try dsimp only at hSw)
    go_simp
    all_goals (with_reducible rfl)
  (try simp only [Act.put, List.setIfInBounds_toArray, List.set_cons_zero, List.set_cons_succ])
  refine Kept.take (v := ?vr11) 11 (by kernel_rfl) rfl (by kernel_rfl) (fun _ _ _ h => h) (Or.inl ⟨by rfl, ?hyr11⟩) hK0 ?restr11
  case hyr11 =>
    intro w0 hSw
    (try dsimp only at hSw)
    go_simp
    all_goals (with_reducible rfl)
  (try simp only [Act.put, List.setIfInBounds_toArray, List.set_cons_zero, List.set_cons_succ])
  refine Kept.fork [4, 5, 9] (by kernel_rfl) (by decide) (fun iF hi o ho K hK => ?_)
  simp only [List.mem_cons, List.not_mem_nil, or_false] at hi
  rcases hi with rfl | rfl | rfl
  · have ho' := Option.some.inj ho
    subst ho'
    go_simp
    go_at_call 123
    refine (copySeqs_at n.2.1 _ _ (rdUp good_SeqS mR1.out (bThen HW0.out hK0.1)) hq12 HIN.out).mono ?_
    rintro e wq4 ⟨vS, rows, bs, rfl, hgN, hbN⟩
    have hszwq4 : Wd.heap.size ≤ wq4.heap.size := hbN.size
    have HSB := Lib.hid (show ∀ b ∈ blkL vS ++ bs, Wd.heap.size ≤ b ∧ b < wq4.heap.size from fun b hb => ⟨(hgN.lt gow_Seq hb).2, (hgN.lt gow_Seq hb).1⟩)
    have HGS := Lib.hid (gr_lower hgN hK0.1.size)
    obtain ⟨aS, cS, rfl⟩ := HGS.out.cap fV3_len
    clear hgN
    go_simp
    refine hK.out _ _ (hS hK0 hbN) (fun hK1 => ?_)
    clear hK K hK0 hbN
    (try simp only [Act.put, List.setIfInBounds_toArray, List.set_cons_zero, List.set_cons_succ])
    refine Kept.fork [5, 9] (by kernel_rfl) (by decide) (fun iF hi o ho K hK => ?_)
    simp only [List.mem_cons, List.not_mem_nil, or_false] at hi
    rcases hi with rfl | rfl
    · have ho' := Option.some.inj ho
      subst ho'
      go_simp
      obtain ⟨wq4_5, hw2⟩ : ∃ x, x = (wq4.alloc (.cells #[] 67)) := ⟨_, rfl⟩
      rw [← hw2]
      have hbN : Below wq4.heap.size wq4 wq4_5 := by rw [hw2]; exact bAlloc (Below.refl _ _) (Nat.le_refl _) _
      have hszwq4_5 : wq4.heap.size + 1 = wq4_5.heap.size := by rw [hw2]; simp
      have FA0 : wq4_5.heap[wq4.heap.size]? = some (.cells #[] 67 (0, 0)) := by rw [hw2]; exact heap_alloc_new _ _
      obtain ⟨gA, hgA⟩ : ∃ g, g = wq4.heap.size := ⟨_, rfl⟩
      rw [← hgA] at FA0 ⊢
      have FA := Lib.hid FA0
      have hgA1 := Nat.le_of_eq hgA
      have hgA2 := Nat.le_of_eq hgA.symm
      clear FA0 hw2 hgA
      replace HGS := Lib.hid (HGS.out.below gow_Seq hbN)
      refine hK.out _ _ (hS hK1 hbN) (fun hK2 => ?_)
      clear hK K hK1 hbN
      (try simp only [Act.put, List.setIfInBounds_toArray, List.set_cons_zero, List.set_cons_succ])
      refine Kept.fork [8, 9] (by kernel_rfl) (by decide) (fun iF hi o ho K hK => ?_)
      simp only [List.mem_cons, List.not_mem_nil, or_false] at hi
      rcases hi with rfl | rfl
      · have ho' := Option.some.inj ho
        subst ho'
        refine step_copy (by rfl) _ _ 34 (by rfl) fAnd n.2.2.1 67 iA (.agg #[.int .i64 0, .int .i64 0]) 2 16 Try.underlying34 HIiA.out.1 HIiA.out.2.1 HIiA.out.2.2.1 HIiA.out.2.2.2 rfl (by omega) W0.heap.size mA2 mc2 (flat_len fAnd 2 fAnd_len n.2.2.1) (fAnd_one n.2.2.1) (by unfold maxLen; omega) (by omega) (by rfl) (HNA.out.below hK2.1) gA (by rfl) FA.out (by omega) ?_
        intro aA cA wq4_5_8 hownN hchN hatN
        have hbN : Below W0.heap.size W0 wq4_5_8 := below_chgL hK2.1 hchN (fun b hb => by simp only [List.mem_cons, List.not_mem_nil, or_false] at hb; omega) hK2.1.size
        have hszwq4_5_8 : wq4_5.heap.size ≤ wq4_5_8.heap.size := hchN.size
        replace HGS := Lib.hid (HGS.out.at gow_Seq fun b hb => hchN.block b (HGS.out.lt gow_Seq hb).1 (by have h1 := HSB.out b hb; simp only [List.mem_cons, List.not_mem_nil, or_false]; omega))
        have HAO := Lib.hid (show OwnsR fAnd 2 67 wq4_5_8 W0.heap.size (.slice aA (n.2.2.1).length cA) n.2.2.1 from hownN)
        have HAB := Lib.hid (show ∀ b, (Value.slice aA (n.2.2.1).length cA).ownBlock = some b → (b = gA ∨ b = wq4_5.heap.size) ∧ b < wq4_5_8.heap.size from fun b e => by
          refine ⟨?_, (OwnsR.blk_lt HAO.out e).1⟩
          rcases hatN with h | h
          · rw [e] at h; injection h with h; exact .inl h
          · rw [e] at h; injection h with h; exact .inr h)
        clear hownN hatN
        refine hK.out _ _ (⟨hbN, keep hbN HE0.out, keep hbN HE1.out, keep hbN HE2.out, keep hbN HE3.out⟩) (fun hK3 => ?_)
        clear hK K hK2 hbN hchN
        (try simp only [Act.put, List.setIfInBounds_toArray, List.set_cons_zero, List.set_cons_succ])
        refine Kept.one 9 (by kernel_rfl) rfl (fun K hK => ?_)
        go_simp
        obtain ⟨wq4_5_8_9, hw2⟩ : ∃ x, x = (wq4_5_8.alloc (.cells #[] 3)) := ⟨_, rfl⟩
        rw [← hw2]
        have hbN : Below wq4_5_8.heap.size wq4_5_8 wq4_5_8_9 := by rw [hw2]; exact bAlloc (Below.refl _ _) (Nat.le_refl _) _
        have hszwq4_5_8_9 : wq4_5_8.heap.size + 1 = wq4_5_8_9.heap.size := by rw [hw2]; simp
        have FO0 : wq4_5_8_9.heap[wq4_5_8.heap.size]? = some (.cells #[] 3 (0, 0)) := by rw [hw2]; exact heap_alloc_new _ _
        obtain ⟨gO, hgO⟩ : ∃ g, g = wq4_5_8.heap.size := ⟨_, rfl⟩
        rw [← hgO] at FO0 ⊢
        have FO := Lib.hid FO0
        have hgO1 := Nat.le_of_eq hgO
        have hgO2 := Nat.le_of_eq hgO.symm
        clear FO0 hw2 hgO
        replace HGS := Lib.hid (HGS.out.below gow_Seq hbN)
        replace HAO := Lib.hid (OwnsR.atB HAO.out fun b e => hbN.block b (OwnsR.blk_lt HAO.out e).1)
        refine hK.out _ _ (hS hK3 hbN) (fun hK4 => ?_)
        clear hK K hK3 hbN
        (try simp only [Act.put, List.setIfInBounds_toArray, List.set_cons_zero, List.set_cons_succ])
        refine Kept.one 12 (by kernel_rfl) rfl (fun K hK => ?_)
        refine step_copy (by rfl) _ _ 24 (by rfl) fInt n.2.2.2 3 i0 (.int .i64 0) 1 8 Try.underlying24 HIi0.out.1 HIi0.out.2.1 HIi0.out.2.2.1 HIi0.out.2.2.2 rfl (by omega) W0.heap.size mA3 mc3 (flat_len fInt 1 fInt_len n.2.2.2) (fInt_one n.2.2.2) (by unfold maxLen; omega) (by omega) (by rfl) (HNO.out.below hK4.1) gO (by rfl) FO.out (by omega) ?_
        intro aO cO wq4_5_8_9_12 hownN hchN hatN
        have hbN : Below W0.heap.size W0 wq4_5_8_9_12 := below_chgL hK4.1 hchN (fun b hb => by simp only [List.mem_cons, List.not_mem_nil, or_false] at hb; omega) hK4.1.size
        have hszwq4_5_8_9_12 : wq4_5_8_9.heap.size ≤ wq4_5_8_9_12.heap.size := hchN.size
        replace HGS := Lib.hid (HGS.out.at gow_Seq fun b hb => hchN.block b (HGS.out.lt gow_Seq hb).1 (by have h1 := HSB.out b hb; simp only [List.mem_cons, List.not_mem_nil, or_false]; omega))
        replace HAO := Lib.hid (OwnsR.atB HAO.out fun b e => hchN.block b (OwnsR.blk_lt HAO.out e).1 (by have h1 := HAB.out b e; simp only [List.mem_cons, List.not_mem_nil, or_false]; omega))
        have HOO := Lib.hid (show OwnsR fInt 1 3 wq4_5_8_9_12 W0.heap.size (.slice aO (n.2.2.2).length cO) n.2.2.2 from hownN)
        have HOB := Lib.hid (show ∀ b, (Value.slice aO (n.2.2.2).length cO).ownBlock = some b → (b = gO ∨ b = wq4_5_8_9.heap.size) ∧ b < wq4_5_8_9_12.heap.size from fun b e => by
          refine ⟨?_, (OwnsR.blk_lt HOO.out e).1⟩
          rcases hatN with h | h
          · rw [e] at h; injection h with h; exact .inl h
          · rw [e] at h; injection h with h; exact .inr h)
        clear hownN hatN
        refine hK.out _ _ (⟨hbN, keep hbN HE0.out, keep hbN HE1.out, keep hbN HE2.out, keep hbN HE3.out⟩) (fun hK5 => ?_)
        clear hK K hK4 hbN hchN
        (try simp only [Act.put, List.setIfInBounds_toArray, List.set_cons_zero, List.set_cons_succ])
        refine Kept.take (v := ?vt4_5_8_9_12n13) 13 (by kernel_rfl) rfl (by kernel_rfl) (fun _ _ _ h => h) (Or.inl ⟨by rfl, ?hyt4_5_8_9_12n13⟩) hK5 ?restt4_5_8_9_12n13
        case hyt4_5_8_9_12n13 =>
          intro w0 hSw
          (try dsimp only at hSw)
          go_simp
          all_goals (with_reducible rfl)
        (try simp only [Act.put, List.setIfInBounds_toArray, List.set_cons_zero, List.set_cons_succ])
        have HE9 := Lib.hid hK5.1
        have HEB := Lib.hid (rowB' hK5.1 HROW.out)
        refine Kept.tail (by rfl) (by kernel_rfl) ?_
        simp only [List.drop_succ_cons, List.drop_zero]
        have f0 := box_cell HEB.out 0 _ rfl
        have f1 := box_cell HEB.out 1 _ rfl
        have f2 := box_cell HEB.out 2 _ rfl
        have f3 := box_cell HEB.out 3 _ rfl
        have z0 := frozen_of_row _ _ 0 _ _ HEB.out
        have z1 := frozen_of_row _ _ 1 _ _ HEB.out
        have z2 := frozen_of_row _ _ 2 _ _ HEB.out
        have z3 := frozen_of_row _ _ 3 _ _ HEB.out
        have sE := hK5.1.size
        clear hK5
        go_wp2
        refine NoPanic.normal ?_
        go_wp2
        ((try simp only [Exit.inBlock, Exit.then]); refine bodyPost_ret (v := (.agg #[.int .i64 n.1, .slice aS n.2.1.length cS, .slice aA n.2.2.1.length cA, .slice aO n.2.2.2.length cO])) (by rw [results_cell1 rfl]; go_simp) rfl ?_)
        refine ⟨_, _, _, rows, bs, rfl, netG_fin (B := W0.heap.size) HGS.out HAO.out HOO.out HFN.out.2.1 HFN.out.2.2 HFN.out.1 (by omega) (by omega) ?_ ?_ ?_, bSet (bSet (bSet (bSet (bThen HW0.out HE9.out) (Nat.le_succ _) _) (Nat.le_succ _) _) (Nat.le_succ _) _) (Nat.le_succ _) _⟩
        · intro b hb hm
          have h1 := HSB.out b hb
          have h2 := HAB.out b (mem_blkL.1 hm)
          omega
        · intro b hb hm
          have h1 := HSB.out b hb
          have h2 := HOB.out b (mem_blkL.1 hm)
          omega
        · intro b hb hm
          have h1 := HAB.out b (mem_blkL.1 hb)
          have h2 := HOB.out b (mem_blkL.1 hm)
          omega
      · have ho' := Option.some.inj ho
        subst ho'
        go_simp
        obtain ⟨wq4_5_9, hw2⟩ : ∃ x, x = (wq4_5.alloc (.cells #[] 3)) := ⟨_, rfl⟩
        rw [← hw2]
        have hbN : Below wq4_5.heap.size wq4_5 wq4_5_9 := by rw [hw2]; exact bAlloc (Below.refl _ _) (Nat.le_refl _) _
        have hszwq4_5_9 : wq4_5.heap.size + 1 = wq4_5_9.heap.size := by rw [hw2]; simp
        have FO0 : wq4_5_9.heap[wq4_5.heap.size]? = some (.cells #[] 3 (0, 0)) := by rw [hw2]; exact heap_alloc_new _ _
        obtain ⟨gO, hgO⟩ : ∃ g, g = wq4_5.heap.size := ⟨_, rfl⟩
        rw [← hgO] at FO0 ⊢
        have FO := Lib.hid FO0
        have hgO1 := Nat.le_of_eq hgO
        have hgO2 := Nat.le_of_eq hgO.symm
        clear FO0 hw2 hgO
        replace HGS := Lib.hid (HGS.out.below gow_Seq hbN)
        replace FA := Lib.hid (rowB' hbN FA.out)
        refine hK.out _ _ (hS hK2 hbN) (fun hK3 => ?_)
        clear hK K hK2 hbN
        (try simp only [Act.put, List.setIfInBounds_toArray, List.set_cons_zero, List.set_cons_succ])
        refine Kept.one 8 (by kernel_rfl) rfl (fun K hK => ?_)
        refine step_copy (by rfl) _ _ 34 (by rfl) fAnd n.2.2.1 67 iA (.agg #[.int .i64 0, .int .i64 0]) 2 16 Try.underlying34 HIiA.out.1 HIiA.out.2.1 HIiA.out.2.2.1 HIiA.out.2.2.2 rfl (by omega) W0.heap.size mA2 mc2 (flat_len fAnd 2 fAnd_len n.2.2.1) (fAnd_one n.2.2.1) (by unfold maxLen; omega) (by omega) (by rfl) (HNA.out.below hK3.1) gA (by rfl) FA.out (by omega) ?_
        intro aA cA wq4_5_9_8 hownN hchN hatN
        have hbN : Below W0.heap.size W0 wq4_5_9_8 := below_chgL hK3.1 hchN (fun b hb => by simp only [List.mem_cons, List.not_mem_nil, or_false] at hb; omega) hK3.1.size
        have hszwq4_5_9_8 : wq4_5_9.heap.size ≤ wq4_5_9_8.heap.size := hchN.size
        replace HGS := Lib.hid (HGS.out.at gow_Seq fun b hb => hchN.block b (HGS.out.lt gow_Seq hb).1 (by have h1 := HSB.out b hb; simp only [List.mem_cons, List.not_mem_nil, or_false]; omega))
        replace FO := Lib.hid ((hchN.block gO (Array.getElem?_eq_some_iff.1 FO.out).1 (by simp only [List.mem_cons, List.not_mem_nil, or_false]; omega)).trans FO.out)
        have HAO := Lib.hid (show OwnsR fAnd 2 67 wq4_5_9_8 W0.heap.size (.slice aA (n.2.2.1).length cA) n.2.2.1 from hownN)
        have HAB := Lib.hid (show ∀ b, (Value.slice aA (n.2.2.1).length cA).ownBlock = some b → (b = gA ∨ b = wq4_5_9.heap.size) ∧ b < wq4_5_9_8.heap.size from fun b e => by
          refine ⟨?_, (OwnsR.blk_lt HAO.out e).1⟩
          rcases hatN with h | h
          · rw [e] at h; injection h with h; exact .inl h
          · rw [e] at h; injection h with h; exact .inr h)
        clear hownN hatN
        refine hK.out _ _ (⟨hbN, keep hbN HE0.out, keep hbN HE1.out, keep hbN HE2.out, keep hbN HE3.out⟩) (fun hK4 => ?_)
        clear hK K hK3 hbN hchN
        (try simp only [Act.put, List.setIfInBounds_toArray, List.set_cons_zero, List.set_cons_succ])
        refine Kept.one 12 (by kernel_rfl) rfl (fun K hK => ?_)
        refine step_copy (by rfl) _ _ 24 (by rfl) fInt n.2.2.2 3 i0 (.int .i64 0) 1 8 Try.underlying24 HIi0.out.1 HIi0.out.2.1 HIi0.out.2.2.1 HIi0.out.2.2.2 rfl (by omega) W0.heap.size mA3 mc3 (flat_len fInt 1 fInt_len n.2.2.2) (fInt_one n.2.2.2) (by unfold maxLen; omega) (by omega) (by rfl) (HNO.out.below hK4.1) gO (by rfl) FO.out (by omega) ?_
        intro aO cO wq4_5_9_8_12 hownN hchN hatN
        have hbN : Below W0.heap.size W0 wq4_5_9_8_12 := below_chgL hK4.1 hchN (fun b hb => by simp only [List.mem_cons, List.not_mem_nil, or_false] at hb; omega) hK4.1.size
        have hszwq4_5_9_8_12 : wq4_5_9_8.heap.size ≤ wq4_5_9_8_12.heap.size := hchN.size
        replace HGS := Lib.hid (HGS.out.at gow_Seq fun b hb => hchN.block b (HGS.out.lt gow_Seq hb).1 (by have h1 := HSB.out b hb; simp only [List.mem_cons, List.not_mem_nil, or_false]; omega))
        replace HAO := Lib.hid (OwnsR.atB HAO.out fun b e => hchN.block b (OwnsR.blk_lt HAO.out e).1 (by have h1 := HAB.out b e; simp only [List.mem_cons, List.not_mem_nil, or_false]; omega))
        have HOO := Lib.hid (show OwnsR fInt 1 3 wq4_5_9_8_12 W0.heap.size (.slice aO (n.2.2.2).length cO) n.2.2.2 from hownN)
        have HOB := Lib.hid (show ∀ b, (Value.slice aO (n.2.2.2).length cO).ownBlock = some b → (b = gO ∨ b = wq4_5_9_8.heap.size) ∧ b < wq4_5_9_8_12.heap.size from fun b e => by
          refine ⟨?_, (OwnsR.blk_lt HOO.out e).1⟩
          rcases hatN with h | h
          · rw [e] at h; injection h with h; exact .inl h
          · rw [e] at h; injection h with h; exact .inr h)
        clear hownN hatN
        refine hK.out _ _ (⟨hbN, keep hbN HE0.out, keep hbN HE1.out, keep hbN HE2.out, keep hbN HE3.out⟩) (fun hK5 => ?_)
        clear hK K hK4 hbN hchN
        (try simp only [Act.put, List.setIfInBounds_toArray, List.set_cons_zero, List.set_cons_succ])
        refine Kept.take (v := ?vt4_5_9_8_12n13) 13 (by kernel_rfl) rfl (by kernel_rfl) (fun _ _ _ h => h) (Or.inl ⟨by rfl, ?hyt4_5_9_8_12n13⟩) hK5 ?restt4_5_9_8_12n13
        case hyt4_5_9_8_12n13 =>
          intro w0 hSw
          (try dsimp only at hSw)
          go_simp
          all_goals (with_reducible rfl)
        (try simp only [Act.put, List.setIfInBounds_toArray, List.set_cons_zero, List.set_cons_succ])
        have HE9 := Lib.hid hK5.1
        have HEB := Lib.hid (rowB' hK5.1 HROW.out)
        refine Kept.tail (by rfl) (by kernel_rfl) ?_
        simp only [List.drop_succ_cons, List.drop_zero]
        have f0 := box_cell HEB.out 0 _ rfl
        have f1 := box_cell HEB.out 1 _ rfl
        have f2 := box_cell HEB.out 2 _ rfl
        have f3 := box_cell HEB.out 3 _ rfl
        have z0 := frozen_of_row _ _ 0 _ _ HEB.out
        have z1 := frozen_of_row _ _ 1 _ _ HEB.out
        have z2 := frozen_of_row _ _ 2 _ _ HEB.out
        have z3 := frozen_of_row _ _ 3 _ _ HEB.out
        have sE := hK5.1.size
        clear hK5
        go_wp2
        refine NoPanic.normal ?_
        go_wp2
        ((try simp only [Exit.inBlock, Exit.then]); refine bodyPost_ret (v := (.agg #[.int .i64 n.1, .slice aS n.2.1.length cS, .slice aA n.2.2.1.length cA, .slice aO n.2.2.2.length cO])) (by rw [results_cell1 rfl]; go_simp) rfl ?_)
        refine ⟨_, _, _, rows, bs, rfl, netG_fin (B := W0.heap.size) HGS.out HAO.out HOO.out HFN.out.2.1 HFN.out.2.2 HFN.out.1 (by omega) (by omega) ?_ ?_ ?_, bSet (bSet (bSet (bSet (bThen HW0.out HE9.out) (Nat.le_succ _) _) (Nat.le_succ _) _) (Nat.le_succ _) _) (Nat.le_succ _) _⟩
        · intro b hb hm
          have h1 := HSB.out b hb
          have h2 := HAB.out b (mem_blkL.1 hm)
          omega
        · intro b hb hm
          have h1 := HSB.out b hb
          have h2 := HOB.out b (mem_blkL.1 hm)
          omega
        · intro b hb hm
          have h1 := HAB.out b (mem_blkL.1 hb)
          have h2 := HOB.out b (mem_blkL.1 hm)
          omega
    · have ho' := Option.some.inj ho
      subst ho'
      go_simp
      obtain ⟨wq4_9, hw2⟩ : ∃ x, x = (wq4.alloc (.cells #[] 3)) := ⟨_, rfl⟩
      rw [← hw2]
      have hbN : Below wq4.heap.size wq4 wq4_9 := by rw [hw2]; exact bAlloc (Below.refl _ _) (Nat.le_refl _) _
      have hszwq4_9 : wq4.heap.size + 1 = wq4_9.heap.size := by rw [hw2]; simp
      have FO0 : wq4_9.heap[wq4.heap.size]? = some (.cells #[] 3 (0, 0)) := by rw [hw2]; exact heap_alloc_new _ _
      obtain ⟨gO, hgO⟩ : ∃ g, g = wq4.heap.size := ⟨_, rfl⟩
      rw [← hgO] at FO0 ⊢
      have FO := Lib.hid FO0
      have hgO1 := Nat.le_of_eq hgO
      have hgO2 := Nat.le_of_eq hgO.symm
      clear FO0 hw2 hgO
      replace HGS := Lib.hid (HGS.out.below gow_Seq hbN)
      refine hK.out _ _ (hS hK1 hbN) (fun hK2 => ?_)
      clear hK K hK1 hbN
      (try simp only [Act.put, List.setIfInBounds_toArray, List.set_cons_zero, List.set_cons_succ])
      refine Kept.one 5 (by kernel_rfl) rfl (fun K hK => ?_)
      go_simp
      obtain ⟨wq4_9_5, hw2⟩ : ∃ x, x = (wq4_9.alloc (.cells #[] 67)) := ⟨_, rfl⟩
      rw [← hw2]
      have hbN : Below wq4_9.heap.size wq4_9 wq4_9_5 := by rw [hw2]; exact bAlloc (Below.refl _ _) (Nat.le_refl _) _
      have hszwq4_9_5 : wq4_9.heap.size + 1 = wq4_9_5.heap.size := by rw [hw2]; simp
      have FA0 : wq4_9_5.heap[wq4_9.heap.size]? = some (.cells #[] 67 (0, 0)) := by rw [hw2]; exact heap_alloc_new _ _
      obtain ⟨gA, hgA⟩ : ∃ g, g = wq4_9.heap.size := ⟨_, rfl⟩
      rw [← hgA] at FA0 ⊢
      have FA := Lib.hid FA0
      have hgA1 := Nat.le_of_eq hgA
      have hgA2 := Nat.le_of_eq hgA.symm
      clear FA0 hw2 hgA
      replace HGS := Lib.hid (HGS.out.below gow_Seq hbN)
      replace FO := Lib.hid (rowB' hbN FO.out)
      refine hK.out _ _ (hS hK2 hbN) (fun hK3 => ?_)
      clear hK K hK2 hbN
      (try simp only [Act.put, List.setIfInBounds_toArray, List.set_cons_zero, List.set_cons_succ])
      refine Kept.one 8 (by kernel_rfl) rfl (fun K hK => ?_)
      refine step_copy (by rfl) _ _ 34 (by rfl) fAnd n.2.2.1 67 iA (.agg #[.int .i64 0, .int .i64 0]) 2 16 Try.underlying34 HIiA.out.1 HIiA.out.2.1 HIiA.out.2.2.1 HIiA.out.2.2.2 rfl (by omega) W0.heap.size mA2 mc2 (flat_len fAnd 2 fAnd_len n.2.2.1) (fAnd_one n.2.2.1) (by unfold maxLen; omega) (by omega) (by rfl) (HNA.out.below hK3.1) gA (by rfl) FA.out (by omega) ?_
      intro aA cA wq4_9_5_8 hownN hchN hatN
      have hbN : Below W0.heap.size W0 wq4_9_5_8 := below_chgL hK3.1 hchN (fun b hb => by simp only [List.mem_cons, List.not_mem_nil, or_false] at hb; omega) hK3.1.size
      have hszwq4_9_5_8 : wq4_9_5.heap.size ≤ wq4_9_5_8.heap.size := hchN.size
      replace HGS := Lib.hid (HGS.out.at gow_Seq fun b hb => hchN.block b (HGS.out.lt gow_Seq hb).1 (by have h1 := HSB.out b hb; simp only [List.mem_cons, List.not_mem_nil, or_false]; omega))
      replace FO := Lib.hid ((hchN.block gO (Array.getElem?_eq_some_iff.1 FO.out).1 (by simp only [List.mem_cons, List.not_mem_nil, or_false]; omega)).trans FO.out)
      have HAO := Lib.hid (show OwnsR fAnd 2 67 wq4_9_5_8 W0.heap.size (.slice aA (n.2.2.1).length cA) n.2.2.1 from hownN)
      have HAB := Lib.hid (show ∀ b, (Value.slice aA (n.2.2.1).length cA).ownBlock = some b → (b = gA ∨ b = wq4_9_5.heap.size) ∧ b < wq4_9_5_8.heap.size from fun b e => by
        refine ⟨?_, (OwnsR.blk_lt HAO.out e).1⟩
        rcases hatN with h | h
        · rw [e] at h; injection h with h; exact .inl h
        · rw [e] at h; injection h with h; exact .inr h)
      clear hownN hatN
      refine hK.out _ _ (⟨hbN, keep hbN HE0.out, keep hbN HE1.out, keep hbN HE2.out, keep hbN HE3.out⟩) (fun hK4 => ?_)
      clear hK K hK3 hbN hchN
      (try simp only [Act.put, List.setIfInBounds_toArray, List.set_cons_zero, List.set_cons_succ])
      refine Kept.one 12 (by kernel_rfl) rfl (fun K hK => ?_)
      refine step_copy (by rfl) _ _ 24 (by rfl) fInt n.2.2.2 3 i0 (.int .i64 0) 1 8 Try.underlying24 HIi0.out.1 HIi0.out.2.1 HIi0.out.2.2.1 HIi0.out.2.2.2 rfl (by omega) W0.heap.size mA3 mc3 (flat_len fInt 1 fInt_len n.2.2.2) (fInt_one n.2.2.2) (by unfold maxLen; omega) (by omega) (by rfl) (HNO.out.below hK4.1) gO (by rfl) FO.out (by omega) ?_
      intro aO cO wq4_9_5_8_12 hownN hchN hatN
      have hbN : Below W0.heap.size W0 wq4_9_5_8_12 := below_chgL hK4.1 hchN (fun b hb => by simp only [List.mem_cons, List.not_mem_nil, or_false] at hb; omega) hK4.1.size
      have hszwq4_9_5_8_12 : wq4_9_5_8.heap.size ≤ wq4_9_5_8_12.heap.size := hchN.size
      replace HGS := Lib.hid (HGS.out.at gow_Seq fun b hb => hchN.block b (HGS.out.lt gow_Seq hb).1 (by have h1 := HSB.out b hb; simp only [List.mem_cons, List.not_mem_nil, or_false]; omega))
      replace HAO := Lib.hid (OwnsR.atB HAO.out fun b e => hchN.block b (OwnsR.blk_lt HAO.out e).1 (by have h1 := HAB.out b e; simp only [List.mem_cons, List.not_mem_nil, or_false]; omega))
      have HOO := Lib.hid (show OwnsR fInt 1 3 wq4_9_5_8_12 W0.heap.size (.slice aO (n.2.2.2).length cO) n.2.2.2 from hownN)
      have HOB := Lib.hid (show ∀ b, (Value.slice aO (n.2.2.2).length cO).ownBlock = some b → (b = gO ∨ b = wq4_9_5_8.heap.size) ∧ b < wq4_9_5_8_12.heap.size from fun b e => by
        refine ⟨?_, (OwnsR.blk_lt HOO.out e).1⟩
        rcases hatN with h | h
        · rw [e] at h; injection h with h; exact .inl h
        · rw [e] at h; injection h with h; exact .inr h)
      clear hownN hatN
      refine hK.out _ _ (⟨hbN, keep hbN HE0.out, keep hbN HE1.out, keep hbN HE2.out, keep hbN HE3.out⟩) (fun hK5 => ?_)
      clear hK K hK4 hbN hchN
      (try simp only [Act.put, List.setIfInBounds_toArray, List.set_cons_zero, List.set_cons_succ])
      refine Kept.take (v := ?vt4_9_5_8_12n13) 13 (by kernel_rfl) rfl (by kernel_rfl) (fun _ _ _ h => h) (Or.inl ⟨by rfl, ?hyt4_9_5_8_12n13⟩) hK5 ?restt4_9_5_8_12n13
      case hyt4_9_5_8_12n13 =>
        intro w0 hSw
        (try dsimp only at hSw)
        go_simp
        all_goals (with_reducible rfl)
      (try simp only [Act.put, List.setIfInBounds_toArray, List.set_cons_zero, List.set_cons_succ])
      have HE9 := Lib.hid hK5.1
      have HEB := Lib.hid (rowB' hK5.1 HROW.out)
      refine Kept.tail (by rfl) (by kernel_rfl) ?_
      simp only [List.drop_succ_cons, List.drop_zero]
      have f0 := box_cell HEB.out 0 _ rfl
      have f1 := box_cell HEB.out 1 _ rfl
      have f2 := box_cell HEB.out 2 _ rfl
      have f3 := box_cell HEB.out 3 _ rfl
      have z0 := frozen_of_row _ _ 0 _ _ HEB.out
      have z1 := frozen_of_row _ _ 1 _ _ HEB.out
      have z2 := frozen_of_row _ _ 2 _ _ HEB.out
      have z3 := frozen_of_row _ _ 3 _ _ HEB.out
      have sE := hK5.1.size
      clear hK5
      go_wp2
      refine NoPanic.normal ?_
      go_wp2
      ((try simp only [Exit.inBlock, Exit.then]); refine bodyPost_ret (v := (.agg #[.int .i64 n.1, .slice aS n.2.1.length cS, .slice aA n.2.2.1.length cA, .slice aO n.2.2.2.length cO])) (by rw [results_cell1 rfl]; go_simp) rfl ?_)
      refine ⟨_, _, _, rows, bs, rfl, netG_fin (B := W0.heap.size) HGS.out HAO.out HOO.out HFN.out.2.1 HFN.out.2.2 HFN.out.1 (by omega) (by omega) ?_ ?_ ?_, bSet (bSet (bSet (bSet (bThen HW0.out HE9.out) (Nat.le_succ _) _) (Nat.le_succ _) _) (Nat.le_succ _) _) (Nat.le_succ _) _⟩
      · intro b hb hm
        have h1 := HSB.out b hb
        have h2 := HAB.out b (mem_blkL.1 hm)
        omega
      · intro b hb hm
        have h1 := HSB.out b hb
        have h2 := HOB.out b (mem_blkL.1 hm)
        omega
      · intro b hb hm
        have h1 := HAB.out b (mem_blkL.1 hb)
        have h2 := HOB.out b (mem_blkL.1 hm)
        omega
  · have ho' := Option.some.inj ho
    subst ho'
    go_simp
    obtain ⟨wq5, hw2⟩ : ∃ x, x = (Wd.alloc (.cells #[] 67)) := ⟨_, rfl⟩
    rw [← hw2]
    have hbN : Below Wd.heap.size Wd wq5 := by rw [hw2]; exact bAlloc (Below.refl _ _) (Nat.le_refl _) _
    have hszwq5 : Wd.heap.size + 1 = wq5.heap.size := by rw [hw2]; simp
    have FA0 : wq5.heap[Wd.heap.size]? = some (.cells #[] 67 (0, 0)) := by rw [hw2]; exact heap_alloc_new _ _
    obtain ⟨gA, hgA⟩ : ∃ g, g = Wd.heap.size := ⟨_, rfl⟩
    rw [← hgA] at FA0 ⊢
    have FA := Lib.hid FA0
    have hgA1 := Nat.le_of_eq hgA
    have hgA2 := Nat.le_of_eq hgA.symm
    clear FA0 hw2 hgA
    refine hK.out _ _ (hS hK0 hbN) (fun hK1 => ?_)
    clear hK K hK0 hbN
    (try simp only [Act.put, List.setIfInBounds_toArray, List.set_cons_zero, List.set_cons_succ])
    refine Kept.fork [4, 9] (by kernel_rfl) (by decide) (fun iF hi o ho K hK => ?_)
    simp only [List.mem_cons, List.not_mem_nil, or_false] at hi
    rcases hi with rfl | rfl
    · have ho' := Option.some.inj ho
      subst ho'
      go_simp
      go_at_call 123
      refine (copySeqs_at n.2.1 _ _ (rdUp good_SeqS mR1.out (bThen HW0.out hK1.1)) hq12 HIN.out).mono ?_
      rintro e wq5_4 ⟨vS, rows, bs, rfl, hgN, hbN⟩
      have hszwq5_4 : wq5.heap.size ≤ wq5_4.heap.size := hbN.size
      replace FA := Lib.hid (rowB' hbN FA.out)
      have HSB := Lib.hid (show ∀ b ∈ blkL vS ++ bs, wq5.heap.size ≤ b ∧ b < wq5_4.heap.size from fun b hb => ⟨(hgN.lt gow_Seq hb).2, (hgN.lt gow_Seq hb).1⟩)
      have HGS := Lib.hid (gr_lower hgN hK1.1.size)
      obtain ⟨aS, cS, rfl⟩ := HGS.out.cap fV3_len
      clear hgN
      go_simp
      refine hK.out _ _ (hS hK1 hbN) (fun hK2 => ?_)
      clear hK K hK1 hbN
      (try simp only [Act.put, List.setIfInBounds_toArray, List.set_cons_zero, List.set_cons_succ])
      refine Kept.fork [8, 9] (by kernel_rfl) (by decide) (fun iF hi o ho K hK => ?_)
      simp only [List.mem_cons, List.not_mem_nil, or_false] at hi
      rcases hi with rfl | rfl
      · have ho' := Option.some.inj ho
        subst ho'
        refine step_copy (by rfl) _ _ 34 (by rfl) fAnd n.2.2.1 67 iA (.agg #[.int .i64 0, .int .i64 0]) 2 16 Try.underlying34 HIiA.out.1 HIiA.out.2.1 HIiA.out.2.2.1 HIiA.out.2.2.2 rfl (by omega) W0.heap.size mA2 mc2 (flat_len fAnd 2 fAnd_len n.2.2.1) (fAnd_one n.2.2.1) (by unfold maxLen; omega) (by omega) (by rfl) (HNA.out.below hK2.1) gA (by rfl) FA.out (by omega) ?_
        intro aA cA wq5_4_8 hownN hchN hatN
        have hbN : Below W0.heap.size W0 wq5_4_8 := below_chgL hK2.1 hchN (fun b hb => by simp only [List.mem_cons, List.not_mem_nil, or_false] at hb; omega) hK2.1.size
        have hszwq5_4_8 : wq5_4.heap.size ≤ wq5_4_8.heap.size := hchN.size
        replace HGS := Lib.hid (HGS.out.at gow_Seq fun b hb => hchN.block b (HGS.out.lt gow_Seq hb).1 (by have h1 := HSB.out b hb; simp only [List.mem_cons, List.not_mem_nil, or_false]; omega))
        have HAO := Lib.hid (show OwnsR fAnd 2 67 wq5_4_8 W0.heap.size (.slice aA (n.2.2.1).length cA) n.2.2.1 from hownN)
        have HAB := Lib.hid (show ∀ b, (Value.slice aA (n.2.2.1).length cA).ownBlock = some b → (b = gA ∨ b = wq5_4.heap.size) ∧ b < wq5_4_8.heap.size from fun b e => by
          refine ⟨?_, (OwnsR.blk_lt HAO.out e).1⟩
          rcases hatN with h | h
          · rw [e] at h; injection h with h; exact .inl h
          · rw [e] at h; injection h with h; exact .inr h)
        clear hownN hatN
        refine hK.out _ _ (⟨hbN, keep hbN HE0.out, keep hbN HE1.out, keep hbN HE2.out, keep hbN HE3.out⟩) (fun hK3 => ?_)
        clear hK K hK2 hbN hchN
        (try simp only [Act.put, List.setIfInBounds_toArray, List.set_cons_zero, List.set_cons_succ])
        refine Kept.one 9 (by kernel_rfl) rfl (fun K hK => ?_)
        go_simp
        obtain ⟨wq5_4_8_9, hw2⟩ : ∃ x, x = (wq5_4_8.alloc (.cells #[] 3)) := ⟨_, rfl⟩
        rw [← hw2]
        have hbN : Below wq5_4_8.heap.size wq5_4_8 wq5_4_8_9 := by rw [hw2]; exact bAlloc (Below.refl _ _) (Nat.le_refl _) _
        have hszwq5_4_8_9 : wq5_4_8.heap.size + 1 = wq5_4_8_9.heap.size := by rw [hw2]; simp
        have FO0 : wq5_4_8_9.heap[wq5_4_8.heap.size]? = some (.cells #[] 3 (0, 0)) := by rw [hw2]; exact heap_alloc_new _ _
        obtain ⟨gO, hgO⟩ : ∃ g, g = wq5_4_8.heap.size := ⟨_, rfl⟩
        rw [← hgO] at FO0 ⊢
        have FO := Lib.hid FO0
        have hgO1 := Nat.le_of_eq hgO
        have hgO2 := Nat.le_of_eq hgO.symm
        clear FO0 hw2 hgO
        replace HGS := Lib.hid (HGS.out.below gow_Seq hbN)
        replace HAO := Lib.hid (OwnsR.atB HAO.out fun b e => hbN.block b (OwnsR.blk_lt HAO.out e).1)
        refine hK.out _ _ (hS hK3 hbN) (fun hK4 => ?_)
        clear hK K hK3 hbN
        (try simp only [Act.put, List.setIfInBounds_toArray, List.set_cons_zero, List.set_cons_succ])
        refine Kept.one 12 (by kernel_rfl) rfl (fun K hK => ?_)
        refine step_copy (by rfl) _ _ 24 (by rfl) fInt n.2.2.2 3 i0 (.int .i64 0) 1 8 Try.underlying24 HIi0.out.1 HIi0.out.2.1 HIi0.out.2.2.1 HIi0.out.2.2.2 rfl (by omega) W0.heap.size mA3 mc3 (flat_len fInt 1 fInt_len n.2.2.2) (fInt_one n.2.2.2) (by unfold maxLen; omega) (by omega) (by rfl) (HNO.out.below hK4.1) gO (by rfl) FO.out (by omega) ?_
        intro aO cO wq5_4_8_9_12 hownN hchN hatN
        have hbN : Below W0.heap.size W0 wq5_4_8_9_12 := below_chgL hK4.1 hchN (fun b hb => by simp only [List.mem_cons, List.not_mem_nil, or_false] at hb; omega) hK4.1.size
        have hszwq5_4_8_9_12 : wq5_4_8_9.heap.size ≤ wq5_4_8_9_12.heap.size := hchN.size
        replace HGS := Lib.hid (HGS.out.at gow_Seq fun b hb => hchN.block b (HGS.out.lt gow_Seq hb).1 (by have h1 := HSB.out b hb; simp only [List.mem_cons, List.not_mem_nil, or_false]; omega))
        replace HAO := Lib.hid (OwnsR.atB HAO.out fun b e => hchN.block b (OwnsR.blk_lt HAO.out e).1 (by have h1 := HAB.out b e; simp only [List.mem_cons, List.not_mem_nil, or_false]; omega))
        have HOO := Lib.hid (show OwnsR fInt 1 3 wq5_4_8_9_12 W0.heap.size (.slice aO (n.2.2.2).length cO) n.2.2.2 from hownN)
        have HOB := Lib.hid (show ∀ b, (Value.slice aO (n.2.2.2).length cO).ownBlock = some b → (b = gO ∨ b = wq5_4_8_9.heap.size) ∧ b < wq5_4_8_9_12.heap.size from fun b e => by
          refine ⟨?_, (OwnsR.blk_lt HOO.out e).1⟩
          rcases hatN with h | h
          · rw [e] at h; injection h with h; exact .inl h
          · rw [e] at h; injection h with h; exact .inr h)
        clear hownN hatN
        refine hK.out _ _ (⟨hbN, keep hbN HE0.out, keep hbN HE1.out, keep hbN HE2.out, keep hbN HE3.out⟩) (fun hK5 => ?_)
        clear hK K hK4 hbN hchN
        (try simp only [Act.put, List.setIfInBounds_toArray, List.set_cons_zero, List.set_cons_succ])
        refine Kept.take (v := ?vt5_4_8_9_12n13) 13 (by kernel_rfl) rfl (by kernel_rfl) (fun _ _ _ h => h) (Or.inl ⟨by rfl, ?hyt5_4_8_9_12n13⟩) hK5 ?restt5_4_8_9_12n13
        case hyt5_4_8_9_12n13 =>
          intro w0 hSw
          (try dsimp only at hSw)
          go_simp
          all_goals (with_reducible rfl)
        (try simp only [Act.put, List.setIfInBounds_toArray, List.set_cons_zero, List.set_cons_succ])
        have HE9 := Lib.hid hK5.1
        have HEB := Lib.hid (rowB' hK5.1 HROW.out)
        refine Kept.tail (by rfl) (by kernel_rfl) ?_
        simp only [List.drop_succ_cons, List.drop_zero]
        have f0 := box_cell HEB.out 0 _ rfl
        have f1 := box_cell HEB.out 1 _ rfl
        have f2 := box_cell HEB.out 2 _ rfl
        have f3 := box_cell HEB.out 3 _ rfl
        have z0 := frozen_of_row _ _ 0 _ _ HEB.out
        have z1 := frozen_of_row _ _ 1 _ _ HEB.out
        have z2 := frozen_of_row _ _ 2 _ _ HEB.out
        have z3 := frozen_of_row _ _ 3 _ _ HEB.out
        have sE := hK5.1.size
        clear hK5
        go_wp2
        refine NoPanic.normal ?_
        go_wp2
        ((try simp only [Exit.inBlock, Exit.then]); refine bodyPost_ret (v := (.agg #[.int .i64 n.1, .slice aS n.2.1.length cS, .slice aA n.2.2.1.length cA, .slice aO n.2.2.2.length cO])) (by rw [results_cell1 rfl]; go_simp) rfl ?_)
        refine ⟨_, _, _, rows, bs, rfl, netG_fin (B := W0.heap.size) HGS.out HAO.out HOO.out HFN.out.2.1 HFN.out.2.2 HFN.out.1 (by omega) (by omega) ?_ ?_ ?_, bSet (bSet (bSet (bSet (bThen HW0.out HE9.out) (Nat.le_succ _) _) (Nat.le_succ _) _) (Nat.le_succ _) _) (Nat.le_succ _) _⟩
        · intro b hb hm
          have h1 := HSB.out b hb
          have h2 := HAB.out b (mem_blkL.1 hm)
          omega
        · intro b hb hm
          have h1 := HSB.out b hb
          have h2 := HOB.out b (mem_blkL.1 hm)
          omega
        · intro b hb hm
          have h1 := HAB.out b (mem_blkL.1 hb)
          have h2 := HOB.out b (mem_blkL.1 hm)
          omega
      · have ho' := Option.some.inj ho
        subst ho'
        go_simp
        obtain ⟨wq5_4_9, hw2⟩ : ∃ x, x = (wq5_4.alloc (.cells #[] 3)) := ⟨_, rfl⟩
        rw [← hw2]
        have hbN : Below wq5_4.heap.size wq5_4 wq5_4_9 := by rw [hw2]; exact bAlloc (Below.refl _ _) (Nat.le_refl _) _
        have hszwq5_4_9 : wq5_4.heap.size + 1 = wq5_4_9.heap.size := by rw [hw2]; simp
        have FO0 : wq5_4_9.heap[wq5_4.heap.size]? = some (.cells #[] 3 (0, 0)) := by rw [hw2]; exact heap_alloc_new _ _
        obtain ⟨gO, hgO⟩ : ∃ g, g = wq5_4.heap.size := ⟨_, rfl⟩
        rw [← hgO] at FO0 ⊢
        have FO := Lib.hid FO0
        have hgO1 := Nat.le_of_eq hgO
        have hgO2 := Nat.le_of_eq hgO.symm
        clear FO0 hw2 hgO
        replace HGS := Lib.hid (HGS.out.below gow_Seq hbN)
        replace FA := Lib.hid (rowB' hbN FA.out)
        refine hK.out _ _ (hS hK2 hbN) (fun hK3 => ?_)
        clear hK K hK2 hbN
        (try simp only [Act.put, List.setIfInBounds_toArray, List.set_cons_zero, List.set_cons_succ])
        refine Kept.one 8 (by kernel_rfl) rfl (fun K hK => ?_)
        refine step_copy (by rfl) _ _ 34 (by rfl) fAnd n.2.2.1 67 iA (.agg #[.int .i64 0, .int .i64 0]) 2 16 Try.underlying34 HIiA.out.1 HIiA.out.2.1 HIiA.out.2.2.1 HIiA.out.2.2.2 rfl (by omega) W0.heap.size mA2 mc2 (flat_len fAnd 2 fAnd_len n.2.2.1) (fAnd_one n.2.2.1) (by unfold maxLen; omega) (by omega) (by rfl) (HNA.out.below hK3.1) gA (by rfl) FA.out (by omega) ?_
        intro aA cA wq5_4_9_8 hownN hchN hatN
        have hbN : Below W0.heap.size W0 wq5_4_9_8 := below_chgL hK3.1 hchN (fun b hb => by simp only [List.mem_cons, List.not_mem_nil, or_false] at hb; omega) hK3.1.size
        have hszwq5_4_9_8 : wq5_4_9.heap.size ≤ wq5_4_9_8.heap.size := hchN.size
        replace HGS := Lib.hid (HGS.out.at gow_Seq fun b hb => hchN.block b (HGS.out.lt gow_Seq hb).1 (by have h1 := HSB.out b hb; simp only [List.mem_cons, List.not_mem_nil, or_false]; omega))
        replace FO := Lib.hid ((hchN.block gO (Array.getElem?_eq_some_iff.1 FO.out).1 (by simp only [List.mem_cons, List.not_mem_nil, or_false]; omega)).trans FO.out)
        have HAO := Lib.hid (show OwnsR fAnd 2 67 wq5_4_9_8 W0.heap.size (.slice aA (n.2.2.1).length cA) n.2.2.1 from hownN)
        have HAB := Lib.hid (show ∀ b, (Value.slice aA (n.2.2.1).length cA).ownBlock = some b → (b = gA ∨ b = wq5_4_9.heap.size) ∧ b < wq5_4_9_8.heap.size from fun b e => by
          refine ⟨?_, (OwnsR.blk_lt HAO.out e).1⟩
          rcases hatN with h | h
          · rw [e] at h; injection h with h; exact .inl h
          · rw [e] at h; injection h with h; exact .inr h)
        clear hownN hatN
        refine hK.out _ _ (⟨hbN, keep hbN HE0.out, keep hbN HE1.out, keep hbN HE2.out, keep hbN HE3.out⟩) (fun hK4 => ?_)
        clear hK K hK3 hbN hchN
        (try simp only [Act.put, List.setIfInBounds_toArray, List.set_cons_zero, List.set_cons_succ])
        refine Kept.one 12 (by kernel_rfl) rfl (fun K hK => ?_)
        refine step_copy (by rfl) _ _ 24 (by rfl) fInt n.2.2.2 3 i0 (.int .i64 0) 1 8 Try.underlying24 HIi0.out.1 HIi0.out.2.1 HIi0.out.2.2.1 HIi0.out.2.2.2 rfl (by omega) W0.heap.size mA3 mc3 (flat_len fInt 1 fInt_len n.2.2.2) (fInt_one n.2.2.2) (by unfold maxLen; omega) (by omega) (by rfl) (HNO.out.below hK4.1) gO (by rfl) FO.out (by omega) ?_
        intro aO cO wq5_4_9_8_12 hownN hchN hatN
        have hbN : Below W0.heap.size W0 wq5_4_9_8_12 := below_chgL hK4.1 hchN (fun b hb => by simp only [List.mem_cons, List.not_mem_nil, or_false] at hb; omega) hK4.1.size
        have hszwq5_4_9_8_12 : wq5_4_9_8.heap.size ≤ wq5_4_9_8_12.heap.size := hchN.size
        replace HGS := Lib.hid (HGS.out.at gow_Seq fun b hb => hchN.block b (HGS.out.lt gow_Seq hb).1 (by have h1 := HSB.out b hb; simp only [List.mem_cons, List.not_mem_nil, or_false]; omega))
        replace HAO := Lib.hid (OwnsR.atB HAO.out fun b e => hchN.block b (OwnsR.blk_lt HAO.out e).1 (by have h1 := HAB.out b e; simp only [List.mem_cons, List.not_mem_nil, or_false]; omega))
        have HOO := Lib.hid (show OwnsR fInt 1 3 wq5_4_9_8_12 W0.heap.size (.slice aO (n.2.2.2).length cO) n.2.2.2 from hownN)
        have HOB := Lib.hid (show ∀ b, (Value.slice aO (n.2.2.2).length cO).ownBlock = some b → (b = gO ∨ b = wq5_4_9_8.heap.size) ∧ b < wq5_4_9_8_12.heap.size from fun b e => by
          refine ⟨?_, (OwnsR.blk_lt HOO.out e).1⟩
          rcases hatN with h | h
          · rw [e] at h; injection h with h; exact .inl h
          · rw [e] at h; injection h with h; exact .inr h)
        clear hownN hatN
        refine hK.out _ _ (⟨hbN, keep hbN HE0.out, keep hbN HE1.out, keep hbN HE2.out, keep hbN HE3.out⟩) (fun hK5 => ?_)
        clear hK K hK4 hbN hchN
        (try simp only [Act.put, List.setIfInBounds_toArray, List.set_cons_zero, List.set_cons_succ])
        refine Kept.take (v := ?vt5_4_9_8_12n13) 13 (by kernel_rfl) rfl (by kernel_rfl) (fun _ _ _ h => h) (Or.inl ⟨by rfl, ?hyt5_4_9_8_12n13⟩) hK5 ?restt5_4_9_8_12n13
        case hyt5_4_9_8_12n13 =>
          intro w0 hSw
          (try dsimp only at hSw)
          go_simp
          all_goals (with_reducible rfl)
        (try simp only [Act.put, List.setIfInBounds_toArray, List.set_cons_zero, List.set_cons_succ])
        have HE9 := Lib.hid hK5.1
        have HEB := Lib.hid (rowB' hK5.1 HROW.out)
        refine Kept.tail (by rfl) (by kernel_rfl) ?_
        simp only [List.drop_succ_cons, List.drop_zero]
        have f0 := box_cell HEB.out 0 _ rfl
        have f1 := box_cell HEB.out 1 _ rfl
        have f2 := box_cell HEB.out 2 _ rfl
        have f3 := box_cell HEB.out 3 _ rfl
        have z0 := frozen_of_row _ _ 0 _ _ HEB.out
        have z1 := frozen_of_row _ _ 1 _ _ HEB.out
        have z2 := frozen_of_row _ _ 2 _ _ HEB.out
        have z3 := frozen_of_row _ _ 3 _ _ HEB.out
        have sE := hK5.1.size
        clear hK5
        go_wp2
        refine NoPanic.normal ?_
        go_wp2
        ((try simp only [Exit.inBlock, Exit.then]); refine bodyPost_ret (v := (.agg #[.int .i64 n.1, .slice aS n.2.1.length cS, .slice aA n.2.2.1.length cA, .slice aO n.2.2.2.length cO])) (by rw [results_cell1 rfl]; go_simp) rfl ?_)
        refine ⟨_, _, _, rows, bs, rfl, netG_fin (B := W0.heap.size) HGS.out HAO.out HOO.out HFN.out.2.1 HFN.out.2.2 HFN.out.1 (by omega) (by omega) ?_ ?_ ?_, bSet (bSet (bSet (bSet (bThen HW0.out HE9.out) (Nat.le_succ _) _) (Nat.le_succ _) _) (Nat.le_succ _) _) (Nat.le_succ _) _⟩
        · intro b hb hm
          have h1 := HSB.out b hb
          have h2 := HAB.out b (mem_blkL.1 hm)
          omega
        · intro b hb hm
          have h1 := HSB.out b hb
          have h2 := HOB.out b (mem_blkL.1 hm)
          omega
        · intro b hb hm
          have h1 := HAB.out b (mem_blkL.1 hb)
          have h2 := HOB.out b (mem_blkL.1 hm)
          omega
    · have ho' := Option.some.inj ho
      subst ho'
      go_simp
      obtain ⟨wq5_9, hw2⟩ : ∃ x, x = (wq5.alloc (.cells #[] 3)) := ⟨_, rfl⟩
      rw [← hw2]
      have hbN : Below wq5.heap.size wq5 wq5_9 := by rw [hw2]; exact bAlloc (Below.refl _ _) (Nat.le_refl _) _
      have hszwq5_9 : wq5.heap.size + 1 = wq5_9.heap.size := by rw [hw2]; simp
      have FO0 : wq5_9.heap[wq5.heap.size]? = some (.cells #[] 3 (0, 0)) := by rw [hw2]; exact heap_alloc_new _ _
      obtain ⟨gO, hgO⟩ : ∃ g, g = wq5.heap.size := ⟨_, rfl⟩
      rw [← hgO] at FO0 ⊢
      have FO := Lib.hid FO0
      have hgO1 := Nat.le_of_eq hgO
      have hgO2 := Nat.le_of_eq hgO.symm
      clear FO0 hw2 hgO
      replace FA := Lib.hid (rowB' hbN FA.out)
      refine hK.out _ _ (hS hK1 hbN) (fun hK2 => ?_)
      clear hK K hK1 hbN
      (try simp only [Act.put, List.setIfInBounds_toArray, List.set_cons_zero, List.set_cons_succ])
      refine Kept.one 4 (by kernel_rfl) rfl (fun K hK => ?_)
      go_simp
      go_at_call 123
      refine (copySeqs_at n.2.1 _ _ (rdUp good_SeqS mR1.out (bThen HW0.out hK2.1)) hq12 HIN.out).mono ?_
      rintro e wq5_9_4 ⟨vS, rows, bs, rfl, hgN, hbN⟩
      have hszwq5_9_4 : wq5_9.heap.size ≤ wq5_9_4.heap.size := hbN.size
      replace FA := Lib.hid (rowB' hbN FA.out)
      replace FO := Lib.hid (rowB' hbN FO.out)
      have HSB := Lib.hid (show ∀ b ∈ blkL vS ++ bs, wq5_9.heap.size ≤ b ∧ b < wq5_9_4.heap.size from fun b hb => ⟨(hgN.lt gow_Seq hb).2, (hgN.lt gow_Seq hb).1⟩)
      have HGS := Lib.hid (gr_lower hgN hK2.1.size)
      obtain ⟨aS, cS, rfl⟩ := HGS.out.cap fV3_len
      clear hgN
      go_simp
      refine hK.out _ _ (hS hK2 hbN) (fun hK3 => ?_)
      clear hK K hK2 hbN
      (try simp only [Act.put, List.setIfInBounds_toArray, List.set_cons_zero, List.set_cons_succ])
      refine Kept.one 8 (by kernel_rfl) rfl (fun K hK => ?_)
      refine step_copy (by rfl) _ _ 34 (by rfl) fAnd n.2.2.1 67 iA (.agg #[.int .i64 0, .int .i64 0]) 2 16 Try.underlying34 HIiA.out.1 HIiA.out.2.1 HIiA.out.2.2.1 HIiA.out.2.2.2 rfl (by omega) W0.heap.size mA2 mc2 (flat_len fAnd 2 fAnd_len n.2.2.1) (fAnd_one n.2.2.1) (by unfold maxLen; omega) (by omega) (by rfl) (HNA.out.below hK3.1) gA (by rfl) FA.out (by omega) ?_
      intro aA cA wq5_9_4_8 hownN hchN hatN
      have hbN : Below W0.heap.size W0 wq5_9_4_8 := below_chgL hK3.1 hchN (fun b hb => by simp only [List.mem_cons, List.not_mem_nil, or_false] at hb; omega) hK3.1.size
      have hszwq5_9_4_8 : wq5_9_4.heap.size ≤ wq5_9_4_8.heap.size := hchN.size
      replace HGS := Lib.hid (HGS.out.at gow_Seq fun b hb => hchN.block b (HGS.out.lt gow_Seq hb).1 (by have h1 := HSB.out b hb; simp only [List.mem_cons, List.not_mem_nil, or_false]; omega))
      replace FO := Lib.hid ((hchN.block gO (Array.getElem?_eq_some_iff.1 FO.out).1 (by simp only [List.mem_cons, List.not_mem_nil, or_false]; omega)).trans FO.out)
      have HAO := Lib.hid (show OwnsR fAnd 2 67 wq5_9_4_8 W0.heap.size (.slice aA (n.2.2.1).length cA) n.2.2.1 from hownN)
      have HAB := Lib.hid (show ∀ b, (Value.slice aA (n.2.2.1).length cA).ownBlock = some b → (b = gA ∨ b = wq5_9_4.heap.size) ∧ b < wq5_9_4_8.heap.size from fun b e => by
        refine ⟨?_, (OwnsR.blk_lt HAO.out e).1⟩
        rcases hatN with h | h
        · rw [e] at h; injection h with h; exact .inl h
        · rw [e] at h; injection h with h; exact .inr h)
      clear hownN hatN
      refine hK.out _ _ (⟨hbN, keep hbN HE0.out, keep hbN HE1.out, keep hbN HE2.out, keep hbN HE3.out⟩) (fun hK4 => ?_)
      clear hK K hK3 hbN hchN
      (try simp only [Act.put, List.setIfInBounds_toArray, List.set_cons_zero, List.set_cons_succ])
      refine Kept.one 12 (by kernel_rfl) rfl (fun K hK => ?_)
      refine step_copy (by rfl) _ _ 24 (by rfl) fInt n.2.2.2 3 i0 (.int .i64 0) 1 8 Try.underlying24 HIi0.out.1 HIi0.out.2.1 HIi0.out.2.2.1 HIi0.out.2.2.2 rfl (by omega) W0.heap.size mA3 mc3 (flat_len fInt 1 fInt_len n.2.2.2) (fInt_one n.2.2.2) (by unfold maxLen; omega) (by omega) (by rfl) (HNO.out.below hK4.1) gO (by rfl) FO.out (by omega) ?_
      intro aO cO wq5_9_4_8_12 hownN hchN hatN
      have hbN : Below W0.heap.size W0 wq5_9_4_8_12 := below_chgL hK4.1 hchN (fun b hb => by simp only [List.mem_cons, List.not_mem_nil, or_false] at hb; omega) hK4.1.size
      have hszwq5_9_4_8_12 : wq5_9_4_8.heap.size ≤ wq5_9_4_8_12.heap.size := hchN.size
      replace HGS := Lib.hid (HGS.out.at gow_Seq fun b hb => hchN.block b (HGS.out.lt gow_Seq hb).1 (by have h1 := HSB.out b hb; simp only [List.mem_cons, List.not_mem_nil, or_false]; omega))
      replace HAO := Lib.hid (OwnsR.atB HAO.out fun b e => hchN.block b (OwnsR.blk_lt HAO.out e).1 (by have h1 := HAB.out b e; simp only [List.mem_cons, List.not_mem_nil, or_false]; omega))
      have HOO := Lib.hid (show OwnsR fInt 1 3 wq5_9_4_8_12 W0.heap.size (.slice aO (n.2.2.2).length cO) n.2.2.2 from hownN)
      have HOB := Lib.hid (show ∀ b, (Value.slice aO (n.2.2.2).length cO).ownBlock = some b → (b = gO ∨ b = wq5_9_4_8.heap.size) ∧ b < wq5_9_4_8_12.heap.size from fun b e => by
        refine ⟨?_, (OwnsR.blk_lt HOO.out e).1⟩
        rcases hatN with h | h
        · rw [e] at h; injection h with h; exact .inl h
        · rw [e] at h; injection h with h; exact .inr h)
      clear hownN hatN
      refine hK.out _ _ (⟨hbN, keep hbN HE0.out, keep hbN HE1.out, keep hbN HE2.out, keep hbN HE3.out⟩) (fun hK5 => ?_)
      clear hK K hK4 hbN hchN
      (try simp only [Act.put, List.setIfInBounds_toArray, List.set_cons_zero, List.set_cons_succ])
      refine Kept.take (v := ?vt5_9_4_8_12n13) 13 (by kernel_rfl) rfl (by kernel_rfl) (fun _ _ _ h => h) (Or.inl ⟨by rfl, ?hyt5_9_4_8_12n13⟩) hK5 ?restt5_9_4_8_12n13
      case hyt5_9_4_8_12n13 =>
        intro w0 hSw
        (try dsimp only at hSw)
        go_simp
        all_goals (with_reducible rfl)
      (try simp only [Act.put, List.setIfInBounds_toArray, List.set_cons_zero, List.set_cons_succ])
      have HE9 := Lib.hid hK5.1
      have HEB := Lib.hid (rowB' hK5.1 HROW.out)
      refine Kept.tail (by rfl) (by kernel_rfl) ?_
      simp only [List.drop_succ_cons, List.drop_zero]
      have f0 := box_cell HEB.out 0 _ rfl
      have f1 := box_cell HEB.out 1 _ rfl
      have f2 := box_cell HEB.out 2 _ rfl
      have f3 := box_cell HEB.out 3 _ rfl
      have z0 := frozen_of_row _ _ 0 _ _ HEB.out
      have z1 := frozen_of_row _ _ 1 _ _ HEB.out
      have z2 := frozen_of_row _ _ 2 _ _ HEB.out
      have z3 := frozen_of_row _ _ 3 _ _ HEB.out
      have sE := hK5.1.size
      clear hK5
      go_wp2
      refine NoPanic.normal ?_
      go_wp2
      ((try simp only [Exit.inBlock, Exit.then]); refine bodyPost_ret (v := (.agg #[.int .i64 n.1, .slice aS n.2.1.length cS, .slice aA n.2.2.1.length cA, .slice aO n.2.2.2.length cO])) (by rw [results_cell1 rfl]; go_simp) rfl ?_)
      refine ⟨_, _, _, rows, bs, rfl, netG_fin (B := W0.heap.size) HGS.out HAO.out HOO.out HFN.out.2.1 HFN.out.2.2 HFN.out.1 (by omega) (by omega) ?_ ?_ ?_, bSet (bSet (bSet (bSet (bThen HW0.out HE9.out) (Nat.le_succ _) _) (Nat.le_succ _) _) (Nat.le_succ _) _) (Nat.le_succ _) _⟩
      · intro b hb hm
        have h1 := HSB.out b hb
        have h2 := HAB.out b (mem_blkL.1 hm)
        omega
      · intro b hb hm
        have h1 := HSB.out b hb
        have h2 := HOB.out b (mem_blkL.1 hm)
        omega
      · intro b hb hm
        have h1 := HAB.out b (mem_blkL.1 hb)
        have h2 := HOB.out b (mem_blkL.1 hm)
        omega
  · have ho' := Option.some.inj ho
    subst ho'
    go_simp
    obtain ⟨wq9, hw2⟩ : ∃ x, x = (Wd.alloc (.cells #[] 3)) := ⟨_, rfl⟩
    rw [← hw2]
    have hbN : Below Wd.heap.size Wd wq9 := by rw [hw2]; exact bAlloc (Below.refl _ _) (Nat.le_refl _) _
    have hszwq9 : Wd.heap.size + 1 = wq9.heap.size := by rw [hw2]; simp
    have FO0 : wq9.heap[Wd.heap.size]? = some (.cells #[] 3 (0, 0)) := by rw [hw2]; exact heap_alloc_new _ _
    obtain ⟨gO, hgO⟩ : ∃ g, g = Wd.heap.size := ⟨_, rfl⟩
    rw [← hgO] at FO0 ⊢
    have FO := Lib.hid FO0
    have hgO1 := Nat.le_of_eq hgO
    have hgO2 := Nat.le_of_eq hgO.symm
    clear FO0 hw2 hgO
    refine hK.out _ _ (hS hK0 hbN) (fun hK1 => ?_)
    clear hK K hK0 hbN
    (try simp only [Act.put, List.setIfInBounds_toArray, List.set_cons_zero, List.set_cons_succ])
    refine Kept.fork [4, 5] (by kernel_rfl) (by decide) (fun iF hi o ho K hK => ?_)
    simp only [List.mem_cons, List.not_mem_nil, or_false] at hi
    rcases hi with rfl | rfl
    · have ho' := Option.some.inj ho
      subst ho'
      go_simp
      go_at_call 123
      refine (copySeqs_at n.2.1 _ _ (rdUp good_SeqS mR1.out (bThen HW0.out hK1.1)) hq12 HIN.out).mono ?_
      rintro e wq9_4 ⟨vS, rows, bs, rfl, hgN, hbN⟩
      have hszwq9_4 : wq9.heap.size ≤ wq9_4.heap.size := hbN.size
      replace FO := Lib.hid (rowB' hbN FO.out)
      have HSB := Lib.hid (show ∀ b ∈ blkL vS ++ bs, wq9.heap.size ≤ b ∧ b < wq9_4.heap.size from fun b hb => ⟨(hgN.lt gow_Seq hb).2, (hgN.lt gow_Seq hb).1⟩)
      have HGS := Lib.hid (gr_lower hgN hK1.1.size)
      obtain ⟨aS, cS, rfl⟩ := HGS.out.cap fV3_len
      clear hgN
      go_simp
      refine hK.out _ _ (hS hK1 hbN) (fun hK2 => ?_)
      clear hK K hK1 hbN
      (try simp only [Act.put, List.setIfInBounds_toArray, List.set_cons_zero, List.set_cons_succ])
      refine Kept.one 5 (by kernel_rfl) rfl (fun K hK => ?_)
      go_simp
      obtain ⟨wq9_4_5, hw2⟩ : ∃ x, x = (wq9_4.alloc (.cells #[] 67)) := ⟨_, rfl⟩
      rw [← hw2]
      have hbN : Below wq9_4.heap.size wq9_4 wq9_4_5 := by rw [hw2]; exact bAlloc (Below.refl _ _) (Nat.le_refl _) _
      have hszwq9_4_5 : wq9_4.heap.size + 1 = wq9_4_5.heap.size := by rw [hw2]; simp
      have FA0 : wq9_4_5.heap[wq9_4.heap.size]? = some (.cells #[] 67 (0, 0)) := by rw [hw2]; exact heap_alloc_new _ _
      obtain ⟨gA, hgA⟩ : ∃ g, g = wq9_4.heap.size := ⟨_, rfl⟩
      rw [← hgA] at FA0 ⊢
      have FA := Lib.hid FA0
      have hgA1 := Nat.le_of_eq hgA
      have hgA2 := Nat.le_of_eq hgA.symm
      clear FA0 hw2 hgA
      replace HGS := Lib.hid (HGS.out.below gow_Seq hbN)
      replace FO := Lib.hid (rowB' hbN FO.out)
      refine hK.out _ _ (hS hK2 hbN) (fun hK3 => ?_)
      clear hK K hK2 hbN
      (try simp only [Act.put, List.setIfInBounds_toArray, List.set_cons_zero, List.set_cons_succ])
      refine Kept.one 8 (by kernel_rfl) rfl (fun K hK => ?_)
      refine step_copy (by rfl) _ _ 34 (by rfl) fAnd n.2.2.1 67 iA (.agg #[.int .i64 0, .int .i64 0]) 2 16 Try.underlying34 HIiA.out.1 HIiA.out.2.1 HIiA.out.2.2.1 HIiA.out.2.2.2 rfl (by omega) W0.heap.size mA2 mc2 (flat_len fAnd 2 fAnd_len n.2.2.1) (fAnd_one n.2.2.1) (by unfold maxLen; omega) (by omega) (by rfl) (HNA.out.below hK3.1) gA (by rfl) FA.out (by omega) ?_
      intro aA cA wq9_4_5_8 hownN hchN hatN
      have hbN : Below W0.heap.size W0 wq9_4_5_8 := below_chgL hK3.1 hchN (fun b hb => by simp only [List.mem_cons, List.not_mem_nil, or_false] at hb; omega) hK3.1.size
      have hszwq9_4_5_8 : wq9_4_5.heap.size ≤ wq9_4_5_8.heap.size := hchN.size
      replace HGS := Lib.hid (HGS.out.at gow_Seq fun b hb => hchN.block b (HGS.out.lt gow_Seq hb).1 (by have h1 := HSB.out b hb; simp only [List.mem_cons, List.not_mem_nil, or_false]; omega))
      replace FO := Lib.hid ((hchN.block gO (Array.getElem?_eq_some_iff.1 FO.out).1 (by simp only [List.mem_cons, List.not_mem_nil, or_false]; omega)).trans FO.out)
      have HAO := Lib.hid (show OwnsR fAnd 2 67 wq9_4_5_8 W0.heap.size (.slice aA (n.2.2.1).length cA) n.2.2.1 from hownN)
      have HAB := Lib.hid (show ∀ b, (Value.slice aA (n.2.2.1).length cA).ownBlock = some b → (b = gA ∨ b = wq9_4_5.heap.size) ∧ b < wq9_4_5_8.heap.size from fun b e => by
        refine ⟨?_, (OwnsR.blk_lt HAO.out e).1⟩
        rcases hatN with h | h
        · rw [e] at h; injection h with h; exact .inl h
        · rw [e] at h; injection h with h; exact .inr h)
      clear hownN hatN
      refine hK.out _ _ (⟨hbN, keep hbN HE0.out, keep hbN HE1.out, keep hbN HE2.out, keep hbN HE3.out⟩) (fun hK4 => ?_)
      clear hK K hK3 hbN hchN
      (try simp only [Act.put, List.setIfInBounds_toArray, List.set_cons_zero, List.set_cons_succ])
      refine Kept.one 12 (by kernel_rfl) rfl (fun K hK => ?_)
      refine step_copy (by rfl) _ _ 24 (by rfl) fInt n.2.2.2 3 i0 (.int .i64 0) 1 8 Try.underlying24 HIi0.out.1 HIi0.out.2.1 HIi0.out.2.2.1 HIi0.out.2.2.2 rfl (by omega) W0.heap.size mA3 mc3 (flat_len fInt 1 fInt_len n.2.2.2) (fInt_one n.2.2.2) (by unfold maxLen; omega) (by omega) (by rfl) (HNO.out.below hK4.1) gO (by rfl) FO.out (by omega) ?_
      intro aO cO wq9_4_5_8_12 hownN hchN hatN
      have hbN : Below W0.heap.size W0 wq9_4_5_8_12 := below_chgL hK4.1 hchN (fun b hb => by simp only [List.mem_cons, List.not_mem_nil, or_false] at hb; omega) hK4.1.size
      have hszwq9_4_5_8_12 : wq9_4_5_8.heap.size ≤ wq9_4_5_8_12.heap.size := hchN.size
      replace HGS := Lib.hid (HGS.out.at gow_Seq fun b hb => hchN.block b (HGS.out.lt gow_Seq hb).1 (by have h1 := HSB.out b hb; simp only [List.mem_cons, List.not_mem_nil, or_false]; omega))
      replace HAO := Lib.hid (OwnsR.atB HAO.out fun b e => hchN.block b (OwnsR.blk_lt HAO.out e).1 (by have h1 := HAB.out b e; simp only [List.mem_cons, List.not_mem_nil, or_false]; omega))
      have HOO := Lib.hid (show OwnsR fInt 1 3 wq9_4_5_8_12 W0.heap.size (.slice aO (n.2.2.2).length cO) n.2.2.2 from hownN)
      have HOB := Lib.hid (show ∀ b, (Value.slice aO (n.2.2.2).length cO).ownBlock = some b → (b = gO ∨ b = wq9_4_5_8.heap.size) ∧ b < wq9_4_5_8_12.heap.size from fun b e => by
        refine ⟨?_, (OwnsR.blk_lt HOO.out e).1⟩
        rcases hatN with h | h
        · rw [e] at h; injection h with h; exact .inl h
        · rw [e] at h; injection h with h; exact .inr h)
      clear hownN hatN
      refine hK.out _ _ (⟨hbN, keep hbN HE0.out, keep hbN HE1.out, keep hbN HE2.out, keep hbN HE3.out⟩) (fun hK5 => ?_)
      clear hK K hK4 hbN hchN
      (try simp only [Act.put, List.setIfInBounds_toArray, List.set_cons_zero, List.set_cons_succ])
      refine Kept.take (v := ?vt9_4_5_8_12n13) 13 (by kernel_rfl) rfl (by kernel_rfl) (fun _ _ _ h => h) (Or.inl ⟨by rfl, ?hyt9_4_5_8_12n13⟩) hK5 ?restt9_4_5_8_12n13
      case hyt9_4_5_8_12n13 =>
        intro w0 hSw
        (try dsimp only at hSw)
        go_simp
        all_goals (with_reducible rfl)
      (try simp only [Act.put, List.setIfInBounds_toArray, List.set_cons_zero, List.set_cons_succ])
      have HE9 := Lib.hid hK5.1
      have HEB := Lib.hid (rowB' hK5.1 HROW.out)
      refine Kept.tail (by rfl) (by kernel_rfl) ?_
      simp only [List.drop_succ_cons, List.drop_zero]
      have f0 := box_cell HEB.out 0 _ rfl
      have f1 := box_cell HEB.out 1 _ rfl
      have f2 := box_cell HEB.out 2 _ rfl
      have f3 := box_cell HEB.out 3 _ rfl
      have z0 := frozen_of_row _ _ 0 _ _ HEB.out
      have z1 := frozen_of_row _ _ 1 _ _ HEB.out
      have z2 := frozen_of_row _ _ 2 _ _ HEB.out
      have z3 := frozen_of_row _ _ 3 _ _ HEB.out
      have sE := hK5.1.size
      clear hK5
      go_wp2
      refine NoPanic.normal ?_
      go_wp2
      ((try simp only [Exit.inBlock, Exit.then]); refine bodyPost_ret (v := (.agg #[.int .i64 n.1, .slice aS n.2.1.length cS, .slice aA n.2.2.1.length cA, .slice aO n.2.2.2.length cO])) (by rw [results_cell1 rfl]; go_simp) rfl ?_)
      refine ⟨_, _, _, rows, bs, rfl, netG_fin (B := W0.heap.size) HGS.out HAO.out HOO.out HFN.out.2.1 HFN.out.2.2 HFN.out.1 (by omega) (by omega) ?_ ?_ ?_, bSet (bSet (bSet (bSet (bThen HW0.out HE9.out) (Nat.le_succ _) _) (Nat.le_succ _) _) (Nat.le_succ _) _) (Nat.le_succ _) _⟩
      · intro b hb hm
        have h1 := HSB.out b hb
        have h2 := HAB.out b (mem_blkL.1 hm)
        omega
      · intro b hb hm
        have h1 := HSB.out b hb
        have h2 := HOB.out b (mem_blkL.1 hm)
        omega
      · intro b hb hm
        have h1 := HAB.out b (mem_blkL.1 hb)
        have h2 := HOB.out b (mem_blkL.1 hm)
        omega
    · have ho' := Option.some.inj ho
      subst ho'
      go_simp
      obtain ⟨wq9_5, hw2⟩ : ∃ x, x = (wq9.alloc (.cells #[] 67)) := ⟨_, rfl⟩
      rw [← hw2]
      have hbN : Below wq9.heap.size wq9 wq9_5 := by rw [hw2]; exact bAlloc (Below.refl _ _) (Nat.le_refl _) _
      have hszwq9_5 : wq9.heap.size + 1 = wq9_5.heap.size := by rw [hw2]; simp
      have FA0 : wq9_5.heap[wq9.heap.size]? = some (.cells #[] 67 (0, 0)) := by rw [hw2]; exact heap_alloc_new _ _
      obtain ⟨gA, hgA⟩ : ∃ g, g = wq9.heap.size := ⟨_, rfl⟩
      rw [← hgA] at FA0 ⊢
      have FA := Lib.hid FA0
      have hgA1 := Nat.le_of_eq hgA
      have hgA2 := Nat.le_of_eq hgA.symm
      clear FA0 hw2 hgA
      replace FO := Lib.hid (rowB' hbN FO.out)
      refine hK.out _ _ (hS hK1 hbN) (fun hK2 => ?_)
      clear hK K hK1 hbN
      (try simp only [Act.put, List.setIfInBounds_toArray, List.set_cons_zero, List.set_cons_succ])
      refine Kept.one 4 (by kernel_rfl) rfl (fun K hK => ?_)
      go_simp
      go_at_call 123
      refine (copySeqs_at n.2.1 _ _ (rdUp good_SeqS mR1.out (bThen HW0.out hK2.1)) hq12 HIN.out).mono ?_
      rintro e wq9_5_4 ⟨vS, rows, bs, rfl, hgN, hbN⟩
      have hszwq9_5_4 : wq9_5.heap.size ≤ wq9_5_4.heap.size := hbN.size
      replace FA := Lib.hid (rowB' hbN FA.out)
      replace FO := Lib.hid (rowB' hbN FO.out)
      have HSB := Lib.hid (show ∀ b ∈ blkL vS ++ bs, wq9_5.heap.size ≤ b ∧ b < wq9_5_4.heap.size from fun b hb => ⟨(hgN.lt gow_Seq hb).2, (hgN.lt gow_Seq hb).1⟩)
      have HGS := Lib.hid (gr_lower hgN hK2.1.size)
      obtain ⟨aS, cS, rfl⟩ := HGS.out.cap fV3_len
      clear hgN
      go_simp
      refine hK.out _ _ (hS hK2 hbN) (fun hK3 => ?_)
      clear hK K hK2 hbN
      (try simp only [Act.put, List.setIfInBounds_toArray, List.set_cons_zero, List.set_cons_succ])
      refine Kept.one 8 (by kernel_rfl) rfl (fun K hK => ?_)
      refine step_copy (by rfl) _ _ 34 (by rfl) fAnd n.2.2.1 67 iA (.agg #[.int .i64 0, .int .i64 0]) 2 16 Try.underlying34 HIiA.out.1 HIiA.out.2.1 HIiA.out.2.2.1 HIiA.out.2.2.2 rfl (by omega) W0.heap.size mA2 mc2 (flat_len fAnd 2 fAnd_len n.2.2.1) (fAnd_one n.2.2.1) (by unfold maxLen; omega) (by omega) (by rfl) (HNA.out.below hK3.1) gA (by rfl) FA.out (by omega) ?_
      intro aA cA wq9_5_4_8 hownN hchN hatN
      have hbN : Below W0.heap.size W0 wq9_5_4_8 := below_chgL hK3.1 hchN (fun b hb => by simp only [List.mem_cons, List.not_mem_nil, or_false] at hb; omega) hK3.1.size
      have hszwq9_5_4_8 : wq9_5_4.heap.size ≤ wq9_5_4_8.heap.size := hchN.size
      replace HGS := Lib.hid (HGS.out.at gow_Seq fun b hb => hchN.block b (HGS.out.lt gow_Seq hb).1 (by have h1 := HSB.out b hb; simp only [List.mem_cons, List.not_mem_nil, or_false]; omega))
      replace FO := Lib.hid ((hchN.block gO (Array.getElem?_eq_some_iff.1 FO.out).1 (by simp only [List.mem_cons, List.not_mem_nil, or_false]; omega)).trans FO.out)
      have HAO := Lib.hid (show OwnsR fAnd 2 67 wq9_5_4_8 W0.heap.size (.slice aA (n.2.2.1).length cA) n.2.2.1 from hownN)
      have HAB := Lib.hid (show ∀ b, (Value.slice aA (n.2.2.1).length cA).ownBlock = some b → (b = gA ∨ b = wq9_5_4.heap.size) ∧ b < wq9_5_4_8.heap.size from fun b e => by
        refine ⟨?_, (OwnsR.blk_lt HAO.out e).1⟩
        rcases hatN with h | h
        · rw [e] at h; injection h with h; exact .inl h
        · rw [e] at h; injection h with h; exact .inr h)
      clear hownN hatN
      refine hK.out _ _ (⟨hbN, keep hbN HE0.out, keep hbN HE1.out, keep hbN HE2.out, keep hbN HE3.out⟩) (fun hK4 => ?_)
      clear hK K hK3 hbN hchN
      (try simp only [Act.put, List.setIfInBounds_toArray, List.set_cons_zero, List.set_cons_succ])
      refine Kept.one 12 (by kernel_rfl) rfl (fun K hK => ?_)
      refine step_copy (by rfl) _ _ 24 (by rfl) fInt n.2.2.2 3 i0 (.int .i64 0) 1 8 Try.underlying24 HIi0.out.1 HIi0.out.2.1 HIi0.out.2.2.1 HIi0.out.2.2.2 rfl (by omega) W0.heap.size mA3 mc3 (flat_len fInt 1 fInt_len n.2.2.2) (fInt_one n.2.2.2) (by unfold maxLen; omega) (by omega) (by rfl) (HNO.out.below hK4.1) gO (by rfl) FO.out (by omega) ?_
      intro aO cO wq9_5_4_8_12 hownN hchN hatN
      have hbN : Below W0.heap.size W0 wq9_5_4_8_12 := below_chgL hK4.1 hchN (fun b hb => by simp only [List.mem_cons, List.not_mem_nil, or_false] at hb; omega) hK4.1.size
      have hszwq9_5_4_8_12 : wq9_5_4_8.heap.size ≤ wq9_5_4_8_12.heap.size := hchN.size
      replace HGS := Lib.hid (HGS.out.at gow_Seq fun b hb => hchN.block b (HGS.out.lt gow_Seq hb).1 (by have h1 := HSB.out b hb; simp only [List.mem_cons, List.not_mem_nil, or_false]; omega))
      replace HAO := Lib.hid (OwnsR.atB HAO.out fun b e => hchN.block b (OwnsR.blk_lt HAO.out e).1 (by have h1 := HAB.out b e; simp only [List.mem_cons, List.not_mem_nil, or_false]; omega))
      have HOO := Lib.hid (show OwnsR fInt 1 3 wq9_5_4_8_12 W0.heap.size (.slice aO (n.2.2.2).length cO) n.2.2.2 from hownN)
      have HOB := Lib.hid (show ∀ b, (Value.slice aO (n.2.2.2).length cO).ownBlock = some b → (b = gO ∨ b = wq9_5_4_8.heap.size) ∧ b < wq9_5_4_8_12.heap.size from fun b e => by
        refine ⟨?_, (OwnsR.blk_lt HOO.out e).1⟩
        rcases hatN with h | h
        · rw [e] at h; injection h with h; exact .inl h
        · rw [e] at h; injection h with h; exact .inr h)
      clear hownN hatN
      refine hK.out _ _ (⟨hbN, keep hbN HE0.out, keep hbN HE1.out, keep hbN HE2.out, keep hbN HE3.out⟩) (fun hK5 => ?_)
      clear hK K hK4 hbN hchN
      (try simp only [Act.put, List.setIfInBounds_toArray, List.set_cons_zero, List.set_cons_succ])
      refine Kept.take (v := ?vt9_5_4_8_12n13) 13 (by kernel_rfl) rfl (by kernel_rfl) (fun _ _ _ h => h) (Or.inl ⟨by rfl, ?hyt9_5_4_8_12n13⟩) hK5 ?restt9_5_4_8_12n13
      case hyt9_5_4_8_12n13 =>
        intro w0 hSw
        (try dsimp only at hSw)
        go_simp
        all_goals (with_reducible rfl)
      (try simp only [Act.put, List.setIfInBounds_toArray, List.set_cons_zero, List.set_cons_succ])
      have HE9 := Lib.hid hK5.1
      have HEB := Lib.hid (rowB' hK5.1 HROW.out)
      refine Kept.tail (by rfl) (by kernel_rfl) ?_
      simp only [List.drop_succ_cons, List.drop_zero]
      have f0 := box_cell HEB.out 0 _ rfl
      have f1 := box_cell HEB.out 1 _ rfl
      have f2 := box_cell HEB.out 2 _ rfl
      have f3 := box_cell HEB.out 3 _ rfl
      have z0 := frozen_of_row _ _ 0 _ _ HEB.out
      have z1 := frozen_of_row _ _ 1 _ _ HEB.out
      have z2 := frozen_of_row _ _ 2 _ _ HEB.out
      have z3 := frozen_of_row _ _ 3 _ _ HEB.out
      have sE := hK5.1.size
      clear hK5
      go_wp2
      refine NoPanic.normal ?_
      go_wp2
      ((try simp only [Exit.inBlock, Exit.then]); refine bodyPost_ret (v := (.agg #[.int .i64 n.1, .slice aS n.2.1.length cS, .slice aA n.2.2.1.length cA, .slice aO n.2.2.2.length cO])) (by rw [results_cell1 rfl]; go_simp) rfl ?_)
      refine ⟨_, _, _, rows, bs, rfl, netG_fin (B := W0.heap.size) HGS.out HAO.out HOO.out HFN.out.2.1 HFN.out.2.2 HFN.out.1 (by omega) (by omega) ?_ ?_ ?_, bSet (bSet (bSet (bSet (bThen HW0.out HE9.out) (Nat.le_succ _) _) (Nat.le_succ _) _) (Nat.le_succ _) _) (Nat.le_succ _) _⟩
      · intro b hb hm
        have h1 := HSB.out b hb
        have h2 := HAB.out b (mem_blkL.1 hm)
        omega
      · intro b hb hm
        have h1 := HSB.out b hb
        have h2 := HOB.out b (mem_blkL.1 hm)
        omega
      · intro b hb hm
        have h1 := HAB.out b (mem_blkL.1 hb)
        have h2 := HOB.out b (mem_blkL.1 hm)
        omega
end Go.Proofs.Ytedamhkcblemdaa
/- HcB: A copy of a net under construction; the answers of AddAnd. -/
namespace Go.Proofs.Ytedamhkcblemdaa
open Go.RowKit
set_option linter.unusedVariables false
set_option linter.unusedSimpArgs false

theorem xor_one (a : Nat) : a ^^^ 1 = if a % 2 = 0 then a + 1 else a - 1 := by
  have h1 : (a ^^^ 1) / 2 = a / 2 := by rw [Nat.xor_div_two]; simp
  have h2 := @Nat.xor_mod_two_eq_one a 1
  by_cases h3 : a % 2 = 0
  · rw [if_pos h3]
    have h4 : (a ^^^ 1) % 2 = 1 := h2.2 (by omega)
    omega
  · rw [if_neg h3]
    have h4 : ¬ (a ^^^ 1) % 2 = 1 := fun c => (h2.1 c) (by omega)
    omega
theorem not_bits (a : Nat) (ha : a < 9223372036854775808) : bits .xor .i64 (a : Int) 1 = notI (a : Int) := by
  have h := i64_xor a 1 ha (by omega)
  rw [xor_one] at h
  unfold notI
  rw [if_neg (by omega)]
  refine h.trans ?_
  by_cases h2 : a % 2 = 0
  · rw [if_pos h2, if_pos (by omega)]; omega
  · rw [if_neg h2, if_neg (by omega)]; omega
section
variable {n : DNet} {a b : Int}
theorem andA_bad (h : ¬ (netB n = true ∧ litB (ncI n) a = true ∧ litB (ncI n) b = true)) : andO n a b = (n, -1) := if_pos h
theorem andO_zero (h : netB n = true ∧ litB (ncI n) a = true ∧ litB (ncI n) b = true) (h1 : a = 0 ∨ b = 0 ∨ a = notI b) : andO n a b = (n, 0) := by
  unfold andO; rw [if_neg (fun c => c h), if_pos h1]
theorem andO_right (h : netB n = true ∧ litB (ncI n) a = true ∧ litB (ncI n) b = true) (h1 : ¬ (a = 0 ∨ b = 0 ∨ a = notI b)) (h2 : a = 1 ∨ a = b) : andO n a b = (n, b) := by
  unfold andO; rw [if_neg (fun c => c h), if_neg h1, if_pos h2]
theorem andO_left (h : netB n = true ∧ litB (ncI n) a = true ∧ litB (ncI n) b = true) (h1 : ¬ (a = 0 ∨ b = 0 ∨ a = notI b)) (h2 : ¬ (a = 1 ∨ a = b)) (h3 : b = 1) : andO n a b = (n, a) := by
  unfold andO; rw [if_neg (fun c => c h), if_neg h1, if_neg h2, if_pos h3]
theorem andO_find (h : netB n = true ∧ litB (ncI n) a = true ∧ litB (ncI n) b = true) (h1 : ¬ (a = 0 ∨ b = 0 ∨ a = notI b)) (h2 : ¬ (a = 1 ∨ a = b)) (h3 : b ≠ 1) {i : Nat} (h4 : idxG (min a b, max a b) n.2.2.1 0 = some i) : andO n a b = (n, 2 * ((firN n + i : Nat) : Int)) := by
  unfold andO; rw [if_neg (fun c => c h), if_neg h1, if_neg h2, if_neg h3, h4]
theorem andO_full (h : netB n = true ∧ litB (ncI n) a = true ∧ litB (ncI n) b = true) (h1 : ¬ (a = 0 ∨ b = 0 ∨ a = notI b)) (h2 : ¬ (a = 1 ∨ a = b)) (h3 : b ≠ 1) (h4 : idxG (min a b, max a b) n.2.2.1 0 = none) (h5 : n.2.2.1.length = 300) : andO n a b = (n, -1) := by
  unfold andO; rw [if_neg (fun c => c h), if_neg h1, if_neg h2, if_neg h3, h4]; dsimp only; rw [if_pos h5]
theorem andO_add (h : netB n = true ∧ litB (ncI n) a = true ∧ litB (ncI n) b = true) (h1 : ¬ (a = 0 ∨ b = 0 ∨ a = notI b)) (h2 : ¬ (a = 1 ∨ a = b)) (h3 : b ≠ 1) (h4 : idxG (min a b, max a b) n.2.2.1 0 = none) (h5 : n.2.2.1.length ≠ 300) : andO n a b = (addN n (min a b, max a b), 2 * (netN n : Int)) := by
  unfold andO; rw [if_neg (fun c => c h), if_neg h1, if_neg h2, if_neg h3, h4]; dsimp only; rw [if_neg h5]
end
theorem BoxN.set0 {w : World} {F : Nat} {v0 v1 v2 v3 : Value} (h : BoxN w F v0 v1 v2 v3) (u : Value) : BoxN (w.setCell ⟨F, 0, none⟩ u) F u v1 v2 v3 := by
  have hlt := h.lt
  have e := h.val
  unfold BoxN
  simp [World.setCell, hlt, Array.getElem_modify_self, e]
section
variable {B : Nat} {w w' : World} {v1 vA v3 : Value} {rows : List V3} {bs : List Nat} {n : DNet}
theorem NetG.at (h : NetG B w v1 vA v3 rows bs n) (hk : ∀ b, b < w.heap.size → B ≤ b → b ∈ blkL v1 ++ (bs ++ (blkL vA ++ blkL v3)) → w'.heap[b]? = w.heap[b]?) : NetG B w' v1 vA v3 rows bs n := by
  refine ⟨h.s.at gow_Seq fun b hb => ?_, h.a.at gow_And fun b hb => ?_, h.o.at owInt_good fun b hb => ?_, h.sa, h.so, h.ao, h.fit⟩
  · exact hk b (h.s.lt gow_Seq hb).1 (h.s.lt gow_Seq hb).2 (by rcases List.mem_append.1 hb with hb | hb <;> simp [hb])
  · exact hk b (h.a.lt gow_And hb).1 (h.a.lt gow_And hb).2 (by simp only [List.append_nil] at hb; simp [hb])
  · exact hk b (h.o.lt owInt_good hb).1 (h.o.lt owInt_good hb).2 (by simp only [List.append_nil] at hb; simp [hb])
theorem NetG.lt (h : NetG B w v1 vA v3 rows bs n) {b : Nat} (hb : b ∈ blkL v1 ++ (bs ++ (blkL vA ++ blkL v3))) : b < w.heap.size ∧ B ≤ b := by
  rcases List.mem_append.1 hb with hb | hb
  · exact h.s.lt gow_Seq (List.mem_append.2 (.inl hb))
  rcases List.mem_append.1 hb with hb | hb
  · exact h.s.lt gow_Seq (List.mem_append.2 (.inr hb))
  rcases List.mem_append.1 hb with hb | hb
  · exact h.a.lt gow_And (List.mem_append.2 (.inl hb))
  · exact h.o.lt owInt_good (List.mem_append.2 (.inl hb))
theorem NetG.lower {B' : Nat} (h : NetG B w v1 vA v3 rows bs n) (hB : B' ≤ B) : NetG B' w v1 vA v3 rows bs n :=
  ⟨gr_lower h.s hB, gr_lower h.a hB, gr_lower h.o hB, h.sa, h.so, h.ao, h.fit⟩
theorem NetG.below (h : NetG B w v1 vA v3 rows bs n) (hb : Below w.heap.size w w') : NetG B w' v1 vA v3 rows bs n := h.at fun b h1 _ _ => hb.block b h1
end
/-- A copy in block G; the result's block F. -/
structure CopyAt (w0 w : World) (F G : Nat) (v1 vA v3 : Value) (rows : List V3) (bs : List Nat) (n : DNet) : Prop where
  box : BoxN w G (.int .i64 n.1) v1 vA v3
  res : BoxN w F (.int .i64 0) vNil vNil vNil
  net : NetG (w0.heap.size + 2) w v1 vA v3 rows bs n
  off : ∀ b ∈ blkL v1 ++ (bs ++ (blkL vA ++ blkL v3)), b ≠ G
  chg : Below w0.heap.size w0 w
  hF : w0.heap.size ≤ F
  hF2 : F < w0.heap.size + 2
  hG : w0.heap.size + 2 ≤ G
section
variable {w0 w w' : World} {F G : Nat} {v1 vA v3 : Value} {rows : List V3} {bs : List Nat} {n : DNet}
theorem CopyAt.below (h : CopyAt w0 w F G v1 vA v3 rows bs n) (hb : Below w.heap.size w w') : CopyAt w0 w' F G v1 vA v3 rows bs n :=
  ⟨h.box.at (hb.block G h.box.lt), h.res.at (hb.block F h.res.lt), h.net.below hb, h.off, bThen h.chg hb, h.hF, h.hF2, h.hG⟩
theorem CopyAt.done (h : CopyAt w0 w F G v1 vA v3 rows bs n) (a b c d : Value) : NetG w0.heap.size ((((w.setCell ⟨F, 0, none⟩ a).setCell ⟨F, 1, none⟩ b).setCell ⟨F, 2, none⟩ c).setCell ⟨F, 3, none⟩ d) v1 vA v3 rows bs n ∧ Below w0.heap.size w0 ((((w.setCell ⟨F, 0, none⟩ a).setCell ⟨F, 1, none⟩ b).setCell ⟨F, 2, none⟩ c).setCell ⟨F, 3, none⟩ d) := by
  have hF := h.hF2
  refine ⟨(h.net.at fun g h1 h2 h3 => far4 (by omega)).lower (by omega), bSet (bSet (bSet (bSet h.chg h.hF _) h.hF _) h.hF _) h.hF _⟩
theorem CopyAt.init {wb : World} (hw : wb = w.alloc (.cells #[.int .i64 n.1, v1, vA, v3] 36)) (hr : BoxN w F (.int .i64 0) vNil vNil vNil) (hn : NetG (w0.heap.size + 2) w v1 vA v3 rows bs n) (hb : Below w0.heap.size w0 w) (hF : w0.heap.size ≤ F) (hF2 : F < w0.heap.size + 2) (hG : w0.heap.size + 2 ≤ w.heap.size) :
    CopyAt w0 wb F w.heap.size v1 vA v3 rows bs n := by
  have h0 : BoxN wb w.heap.size (.int .i64 n.1) v1 vA v3 := by rw [hw]; exact heap_alloc_new _ _
  have hb2 : Below w.heap.size w wb := by rw [hw]; exact bAlloc (Below.refl _ _) (Nat.le_refl _) _
  refine ⟨h0, hr.at (hb2.block F hr.lt), hn.below hb2, fun b hb => ?_, bThen hb hb2, hF, hF2, hG⟩
  have := (hn.lt hb).1
  omega
theorem CopyAt.add {w6 : World} {k : Nat} {vA' : Value} {x : DAnd} (h : CopyAt w0 w F G v1 vA v3 rows bs n) (hown : w6.ownsRow (w0.heap.size + 2) TAnd 2 vA' k (n.2.2.1.flatMap fAnd ++ fAnd x)) (hn : k = n.2.2.1.length + 1) (hgrow : w.grownBy w6 vA.ownBlock) (hat : vA'.ownBlock = vA.ownBlock ∨ vA'.ownBlock = some w.heap.size) (hx : Fit x.1 ∧ Fit x.2) (hsz : w0.heap.size + 2 ≤ w.heap.size) :
    CopyAt w0 (w6.setCell ⟨G, 2, none⟩ vA') F G v1 vA' v3 rows bs (addN n x) := by
  have hGlt := h.box.lt
  have hFlt := h.res.lt
  have hF2 := h.hF2
  have hGg := h.hG
  have hown0 : ∀ g, vA.ownBlock = some g → w0.heap.size + 2 ≤ g ∧ g ≠ G ∧ g ≠ F := fun g e => by
    have h1 := (h.net.a.own.blk_lt e).2
    exact ⟨h1, h.off g (by simp [mem_blkL.2 e]), by omega⟩
  have hnew : ∀ g, g ∈ blkL vA' → g ∈ blkL vA ∨ g = w.heap.size := fun g hg => by
    have e := mem_blkL.1 hg
    rcases hat with h1 | h1
    · exact .inl (mem_blkL.2 (h1 ▸ e))
    · rw [h1] at e; injection e with e; exact .inr e.symm
  have hG' : G ∉ blkL vA' := fun hb => by
    rcases hnew G hb with h1 | h1
    · exact h.off G (by simp [h1]) rfl
    · omega
  have a1 := h.net.a.addV (n := k) (r := x) (x := x) (cs := []) gow_And (Below.refl _ _) hgrow hown hn hat (owAnd_of hx.1 hx.2 _) (by simpa using h.net.a.nd) (fun b hb => by cases hb)
  have s1 := h.net.s.keepG gow_Seq hgrow (fun g e hb => h.net.sa g hb (mem_blkL.2 e))
  have o1 := h.net.o.keepG owInt_good hgrow (fun g e hb => h.net.ao g (mem_blkL.2 e) (by simpa using hb))
  refine ⟨?_, ?_, ⟨s1.far gow_Seq (fun hb => h.off G (by rcases List.mem_append.1 hb with hb | hb <;> simp [hb]) rfl), ?_, o1.far owInt_good (fun hb => h.off G (by simp only [List.append_nil] at hb; simp [hb]) rfl), fun b hb hm => ?_, h.net.so, fun b hb => ?_, h.net.fit⟩, fun b hb => ?_, ?_, h.hF, h.hF2, h.hG⟩
  · exact (h.box.at (hgrow.block G hGlt (fun e => (hown0 G e.symm).2.1 rfl))).set2 vA'
  · exact h.res.at ((Below.heap_setCell w6 _ _ F (by show F ≠ G; omega)).trans (hgrow.block F hFlt (fun e => (hown0 F e.symm).2.2 rfl)))
  · exact (GrR.far gow_And a1 (by simpa using hG'))
  · rcases hnew b hm with h1 | h1
    · exact h.net.sa b hb h1
    · have := (h.net.s.lt gow_Seq hb).1; omega
  · rcases hnew b hb with h1 | h1
    · exact h.net.ao b h1
    · intro hm; have := (h.net.o.lt owInt_good (by simpa using hm)).1; omega
  · by_cases hb2 : b ∈ blkL vA'
    · exact fun e => hG' (e ▸ hb2)
    · refine h.off b ?_
      simp only [List.mem_append] at hb ⊢
      rcases hb with h1 | h1 | h1 | h1
      · exact .inl h1
      · exact .inr (.inl h1)
      · exact absurd h1 hb2
      · exact .inr (.inr (.inr h1))
  · exact bSet (h.chg.grown hgrow (by omega) (fun g e => by have := (hown0 g e).1; omega)) (by show w0.heap.size ≤ G; omega) _
end
end Go.Proofs.Ytedamhkcblemdaa
/- Hc8: l10Map: the specification. -/
namespace Go.Proofs.Ytedamhkcblemdaa
open Go.RowKit
set_option linter.unusedVariables false
set_option linter.unusedSimpArgs false

theorem map_bits {t p : Nat} {to : List Int} (h : to[p / 2]? = some (t : Int)) (ht : t < 9223372036854775808) : bits .xor .i64 (t : Int) ((p : Int) % 2) = mapI to (p : Int) := by
  have hd : to.getD (p / 2) 0 = (t : Int) := by rw [List.getD_eq_getElem?_getD, h]; rfl
  unfold mapI
  rw [Int.toNat_natCast, hd]
  by_cases hp : p % 2 = 0
  · rw [if_pos (by omega), show (p : Int) % 2 = ((0 : Nat) : Int) by omega, i64_xor t 0 ht (by omega)]; simp
  · rw [if_neg (by omega), show (p : Int) % 2 = (1 : Int) by omega, not_bits t ht]
set_option maxRecDepth 100000 in
set_option maxHeartbeats 12800000 in
theorem specMap_at (to lits : List Int) (v l : Value) (w : World) (hv : rdIntS 0 w.heap.size w [v] to) (hl : rdIntS 0 w.heap.size w [l] lits) (hlit : ∀ x ∈ lits, ∃ p : Nat, x = (p : Int) ∧ p / 2 < to.length) (hto : ∀ x ∈ to, 0 ≤ x) (hn : lits.length ≤ 3000000) :
    Calls Try.prog 95 #[v, l] w fun e w' => ∃ v', e = .returned v' ∧ OwnsI w' w.heap.size v' (lits.map (mapI to)) ∧ Below w.heap.size w w' := by
  obtain ⟨i0, hi, hz0, hz1, hz2⟩ := info_parts infoI
  have HV := Lib.hid hv
  have HL := Lib.hid hl
  have HLIT := Lib.hid hlit
  have HTO := Lib.hid hto
  have HTF := Lib.hid (rd_fit hv)
  have HLF := Lib.hid (rd_fit hl)
  obtain ⟨tA, tc, rfl, tm, -⟩ := slice_of hv
  obtain ⟨lA, lc, rfl, lm, -⟩ := slice_of hl
  clear hv hl hlit hto
  go_enter Try.func95, Try.ntmps95
  go_wp2_with fail
  have HO := Lib.hid (own_newI w w.heap.size (Nat.le_refl _))
  have HB := Lib.hid (show Below w.heap.size w (w.alloc (.cells #[] 3)) from bAlloc (Below.refl _ _) (Nat.le_refl _) _)
  go_loopw [5, 6] (fun s z wr => ∃ (k : Nat) (A : Option Addr) (c : Nat), k ≤ lits.length ∧ z = .int .i64 (k : Int) ∧ s = .slice A k c ∧ OwnsI wr w.heap.size (.slice A k c) ((lits.take k).map (mapI to)) ∧ Below w.heap.size w wr) (fun _ z _ => lits.length - (intOf z).toNat)
  case atStart => exact ⟨0, some ⟨w.heap.size, 0, none⟩, 0, Nat.zero_le _, rfl, rfl, HO.out, HB.out⟩
  case round =>
    obtain ⟨k, A, c, hk, rfl, rfl, hown, hb⟩ := hrel
    obtain ⟨w3, rfl⟩ : ∃ w3, w3 = wr := ⟨_, rfl⟩
    clear HO HB
    have HO := Lib.hid hown
    have HB := Lib.hid hb
    clear hown hb
    by_cases hlt : k < lits.length
    · obtain ⟨x, hx⟩ : ∃ x, lits[k]? = some x := ⟨_, List.getElem?_eq_getElem hlt⟩
      obtain ⟨p, rfl, hp⟩ := HLIT.out x (List.mem_of_getElem? hx)
      obtain ⟨y0, hy0⟩ : ∃ y0, to[p / 2]? = some y0 := ⟨_, List.getElem?_eq_getElem hp⟩
      obtain ⟨t, rfl⟩ : ∃ t : Nat, y0 = (t : Int) := ⟨y0.toNat, by have := HTO.out _ (List.mem_of_getElem? hy0); omega⟩
      obtain ⟨lb, lq, rfl, lb1, x0, -⟩ := at_Int (good_IntS.below HL.out (Nat.le_refl _) HB.out) hx
      obtain ⟨tb, tq, rfl, tb1, x1, -⟩ := at_Int (good_IntS.below HV.out (Nat.le_refl _) HB.out) hy0
      have lb2 := Nat.lt_of_lt_of_le lb1 HB.out.size
      have tb2 := Nat.lt_of_lt_of_le tb1 HB.out.size
      have pf : p ≤ 9223372036854775807 := by have := HLF.out _ (List.mem_of_getElem? hx); unfold Fit at this; omega
      have tf : t ≤ 9223372036854775807 := by have := HTF.out _ (List.mem_of_getElem? hy0); unfold Fit at this; omega
      have ky : (k : Int) < (lits.length : Int) := by omega
      have ty : ((p / 2 : Nat) : Int) < (to.length : Int) := by omega
      obtain ⟨f, hf⟩ : ∃ f, p / 2 = f := ⟨_, rfl⟩
      have e1 : IntKind.i64.wrap ((p : Int) / 2) = (f : Int) := by rw [wrap64_int _ (by omega) (by omega)]; omega
      have e3 := map_bits hy0 (by omega)
      rw [hf] at x1 ty
      have e2 := and_one (p : Int)
      obtain ⟨y, hy⟩ : ∃ y, mapI to (p : Int) = y := ⟨_, rfl⟩
      obtain ⟨u, hu⟩ : ∃ u, (p : Int) % 2 = u := ⟨_, rfl⟩
      rw [hu] at e2 e3
      rw [hy] at e3
      have HNX := Lib.hid (show (lits.take (k + 1)).map (mapI to) = (lits.take k).map (mapI to) ++ [y] by rw [List.take_add_one, hx, List.map_append, ← hy]; rfl)
      clear hx hy0 hy hu hp hf
      go_wp2_with fail
      have hS0 : (fun w' => Below w3.heap.size w3 w' ∧ w'.cell? ⟨lb, lq + k, none⟩ = some (.int .i64 (p : Int)) ∧ w'.cell? ⟨tb, tq + f, none⟩ = some (.int .i64 (t : Int))) w3 := ⟨Below.refl _ _, x0, x1⟩
      have hS : ∀ {w0 w' : World}, (fun w' => Below w3.heap.size w3 w' ∧ w'.cell? ⟨lb, lq + k, none⟩ = some (.int .i64 (p : Int)) ∧ w'.cell? ⟨tb, tq + f, none⟩ = some (.int .i64 (t : Int))) w0 → Below w0.heap.size w0 w' → (fun w' => Below w3.heap.size w3 w' ∧ w'.cell? ⟨lb, lq + k, none⟩ = some (.int .i64 (p : Int)) ∧ w'.cell? ⟨tb, tq + f, none⟩ = some (.int .i64 (t : Int))) w' := fun h hb => ⟨bThen h.1 hb, keep hb h.2.1, keep hb h.2.2⟩
      dsimp only at hS0 hS
      refine wp_region_noPanic ?_
      refine wp_region_kept 16 18 (fun w' => Below w3.heap.size w3 w' ∧ w'.cell? ⟨lb, lq + k, none⟩ = some (.int .i64 (p : Int)) ∧ w'.cell? ⟨tb, tq + f, none⟩ = some (.int .i64 (t : Int))) (by kernel_rfl) rfl (hS hS0 (Below.drew (Below.refl _ _))) (fun hK0 => ?_)
      refine Kept.take (v := ?va0) 0 (by kernel_rfl) rfl (by kernel_rfl) (fun _ _ _ h => h) (Or.inl ⟨by rfl, ?hya0⟩) hK0 ?resta0
      case hya0 =>
        intro w0 hSw
        (try dsimp only at hSw)
        go_simp
        all_goals (with_reducible rfl)
      (try simp only [Act.put, List.setIfInBounds_toArray, List.set_cons_zero, List.set_cons_succ])
      refine Kept.take (v := ?va1) 1 (by kernel_rfl) rfl (by kernel_rfl) (fun _ _ _ h => h) (Or.inl ⟨by rfl, ?hya1⟩) hK0 ?resta1
      case hya1 =>
        intro w0 hSw
        (try dsimp only at hSw)
        go_simp
        all_goals (with_reducible rfl)
      (try simp only [Act.put, List.setIfInBounds_toArray, List.set_cons_zero, List.set_cons_succ])
      refine Kept.take (v := ?va2) 2 (by kernel_rfl) rfl (by kernel_rfl) (fun _ _ _ h => h) (Or.inl ⟨by rfl, ?hya2⟩) hK0 ?resta2
      case hya2 =>
        intro w0 hSw
        (try dsimp only at hSw)
        go_simp
        all_goals (with_reducible rfl)
      (try simp only [Act.put, List.setIfInBounds_toArray, List.set_cons_zero, List.set_cons_succ])
      refine Kept.take (v := ?va3) 3 (by kernel_rfl) rfl (by kernel_rfl) (fun _ _ _ h => h) (Or.inl ⟨by rfl, ?hya3⟩) hK0 ?resta3
      case hya3 =>
        intro w0 hSw
        (try dsimp only at hSw)
        go_simp
        all_goals (with_reducible rfl)
      (try simp only [Act.put, List.setIfInBounds_toArray, List.set_cons_zero, List.set_cons_succ])
      refine Kept.take (v := ?va4) 4 (by kernel_rfl) rfl (by kernel_rfl) (fun _ _ _ h => h) (Or.inl ⟨by rfl, ?hya4⟩) hK0 ?resta4
      case hya4 =>
        intro w0 hSw
        (try dsimp only at hSw)
        go_simp
        all_goals (with_reducible rfl)
      (try simp only [Act.put, List.setIfInBounds_toArray, List.set_cons_zero, List.set_cons_succ])
      refine Kept.take (v := ?va5) 5 (by kernel_rfl) rfl (by kernel_rfl) (fun _ _ _ h => h) (Or.inl ⟨by rfl, ?hya5⟩) hK0 ?resta5
      case hya5 =>
        intro w0 hSw
        (try dsimp only at hSw)
        go_simp
        all_goals (with_reducible rfl)
      (try simp only [Act.put, List.setIfInBounds_toArray, List.set_cons_zero, List.set_cons_succ])
      refine Kept.take (v := ?va6) 6 (by kernel_rfl) rfl (by kernel_rfl) (fun _ _ _ h => h) (Or.inl ⟨by rfl, ?hya6⟩) hK0 ?resta6
      case hya6 =>
        intro w0 hSw
        (try dsimp only at hSw)
        go_simp
        all_goals (with_reducible rfl)
      (try simp only [Act.put, List.setIfInBounds_toArray, List.set_cons_zero, List.set_cons_succ])
      refine Kept.take (v := ?va7) 7 (by kernel_rfl) rfl (by kernel_rfl) (fun _ _ _ h => h) (Or.inl ⟨by rfl, ?hya7⟩) hK0 ?resta7
      case hya7 =>
        intro w0 hSw
        (try dsimp only at hSw)
        go_simp
        all_goals (with_reducible rfl)
      (try simp only [Act.put, List.setIfInBounds_toArray, List.set_cons_zero, List.set_cons_succ])
      refine Kept.take (v := ?va8) 8 (by kernel_rfl) rfl (by kernel_rfl) (fun _ _ _ h => h) (Or.inl ⟨by rfl, ?hya8⟩) hK0 ?resta8
      case hya8 =>
        intro w0 hSw
        (try dsimp only at hSw)
        go_simp
        all_goals (with_reducible rfl)
      (try simp only [Act.put, List.setIfInBounds_toArray, List.set_cons_zero, List.set_cons_succ])
      refine Kept.take (v := ?va9) 9 (by kernel_rfl) rfl (by kernel_rfl) (fun _ _ _ h => h) (Or.inl ⟨by rfl, ?hya9⟩) hK0 ?resta9
      case hya9 =>
        intro w0 hSw
        (try dsimp only at hSw)
        go_simp
        all_goals (with_reducible rfl)
      (try simp only [Act.put, List.setIfInBounds_toArray, List.set_cons_zero, List.set_cons_succ])
      refine Kept.take (v := ?va10) 10 (by kernel_rfl) rfl (by kernel_rfl) (fun _ _ _ h => h) (Or.inl ⟨by rfl, ?hya10⟩) hK0 ?resta10
      case hya10 =>
        intro w0 hSw
        (try dsimp only at hSw)
        go_simp
        all_goals (with_reducible rfl)
      (try simp only [Act.put, List.setIfInBounds_toArray, List.set_cons_zero, List.set_cons_succ])
      refine Kept.take (v := ?va11) 11 (by kernel_rfl) rfl (by kernel_rfl) (fun _ _ _ h => h) (Or.inl ⟨by rfl, ?hya11⟩) hK0 ?resta11
      case hya11 =>
        intro w0 hSw
        (try dsimp only at hSw)
        go_simp
        all_goals (with_reducible rfl)
      (try simp only [Act.put, List.setIfInBounds_toArray, List.set_cons_zero, List.set_cons_succ])
      refine Kept.take (v := ?va12) 12 (by kernel_rfl) rfl (by kernel_rfl) (fun _ _ _ h => h) (Or.inl ⟨by rfl, ?hya12⟩) hK0 ?resta12
      case hya12 =>
        intro w0 hSw
        (try dsimp only at hSw)
        go_simp
        all_goals (with_reducible rfl)
      (try simp only [Act.put, List.setIfInBounds_toArray, List.set_cons_zero, List.set_cons_succ])
      refine Kept.take (v := ?va13) 13 (by kernel_rfl) rfl (by kernel_rfl) (fun _ _ _ h => h) (Or.inl ⟨by rfl, ?hya13⟩) hK0 ?resta13
      case hya13 =>
        intro w0 hSw
        (try dsimp only at hSw)
        go_simp
        all_goals (with_reducible rfl)
      (try simp only [Act.put, List.setIfInBounds_toArray, List.set_cons_zero, List.set_cons_succ])
      refine Kept.take (v := ?va14) 14 (by kernel_rfl) rfl (by kernel_rfl) (fun _ _ _ h => h) (Or.inl ⟨by rfl, ?hya14⟩) hK0 ?resta14
      case hya14 =>
        intro w0 hSw
        (try dsimp only at hSw)
        go_simp
        all_goals (with_reducible rfl)
      (try simp only [Act.put, List.setIfInBounds_toArray, List.set_cons_zero, List.set_cons_succ])
      refine Kept.one 15 (by kernel_rfl) rfl (fun K hK => ?_)
      go_simp
      refine hK.out _ _ (hS hK0 (bAlloc (Below.refl _ _) (Nat.le_refl _) _)) (fun hK1 => ?_)
      clear hK K hK0
      (try simp only [Act.put, List.setIfInBounds_toArray, List.set_cons_zero, List.set_cons_succ])
      refine Kept.tail (by rfl) (by kernel_rfl) ?_
      simp only [List.drop_succ_cons, List.drop_zero]
      obtain ⟨WA, hWA⟩ : ∃ WA, WA = (w3.alloc (.cells #[.int .i64 y] 3)).drew := ⟨_, rfl⟩
      have HBA := Lib.hid (show Below w3.heap.size w3 WA by rw [hWA]; exact Below.drew (bAlloc (Below.refl _ _) (Nat.le_refl _) _))
      have HNBk := Lib.hid (show WA.heap[w3.heap.size]? = some (.cells #[.int .i64 y] 3 (0, 0)) by rw [hWA]; exact heap_alloc_new _ _)
      rw [← hWA]
      clear hWA hK1 hS hS0
      obtain ⟨KL, hKL⟩ : ∃ KL, (lits.take k).map (mapI to) = KL := ⟨_, rfl⟩
      rw [hKL] at HO HNX
      have HLK := Lib.hid (show KL.length = k by rw [← hKL]; simp; omega)
      have HOA := Lib.hid (HO.out.below HBA.out)
      have hsz := Lib.hid (show w.heap.size ≤ WA.heap.size from Nat.le_trans HB.out.size HBA.out.size)
      have HOR := Lib.hid (show WA.ownsRow w.heap.size 3 1 (.slice A k c) k (KL.map vI) by have h := HOA.out; unfold OwnsI at h; rw [HLK.out] at h; exact h)
      clear hKL x0 x1
      go_wp2_with (at_builtin; refine wpList_append_all (by rfl) _ _ 24 (by rfl) w.heap.size 3 i0 (.int .i64 0) 1 8 Try.underlying24 hi hz0 hz1 hz2 rfl (by omega) (.slice A k c) k (KL.map vI) (by rfl) HOR.out (some ⟨w3.heap.size, 0, none⟩) 1 1 [.int .i64 y] (by rfl) (by rfl) (.inr ⟨_, rfl, World.news_of_block HNBk.out⟩) (by simp [Value.oneCell']) (by unfold maxLen; omega) (by omega) hsz.out ?_; intro A' c' w7 hown7 hgrow7 hkeep7 hat7)
      refine NoPanic.normal ?_
      have HB7 := Lib.hid (((bThen HB.out HBA.out).grown hgrow7 hsz.out (fun g hg => (HO.out.lt g hg).1)))
      have HO7 := Lib.hid (show OwnsI w7 w.heap.size (.slice A' (k + 1) c') (KL ++ [y]) from (by unfold OwnsI; rw [List.length_append, List.map_append, HLK.out]; exact hown7))
      clear hown7 hgrow7 hkeep7 hat7 hsz
      go_wp2
      go_roundw
      case rel =>
        refine ⟨k + 1, A', c', by omega, by go_num, ?_, ?_, HB7.out⟩
        · rfl
        · rw [HNX.out]; exact HO7.out
      case measure => simp [intOf] <;> omega
    · obtain rfl : k = lits.length := by omega
      have HO2 := HO.out
      rw [List.take_length] at HO2
      have HO3 := Lib.hid HO2
      clear hlt HO2
      go_wp2
      go_ret
      exact ⟨_, rfl, HO3.out, HB.out⟩
end Go.Proofs.Ytedamhkcblemdaa
