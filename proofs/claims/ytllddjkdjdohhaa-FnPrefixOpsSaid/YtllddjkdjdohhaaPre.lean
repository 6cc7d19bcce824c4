/-
  FnPrefixOps.
-/
import Derived.Test.YtllddjkdjdohhaaDOps
import Derived.Test.YtllddjkdjdohhaaE4
namespace Go.Proofs.Ytllddjkdjdohhaa
open Go.RowKit
set_option linter.unusedVariables false
set_option linter.unusedSimpArgs false

theorem ops_len {n : Int} {L : List DOp} (h : opsB n L = true) : L.length ≤ 15 := by
  unfold opsB at h
  rw [Bool.and_eq_true] at h
  exact of_decide_eq_true h.1

set_option maxRecDepth 100000 in
set_option maxHeartbeats 12800000 in
theorem prefixOps_walk (a : Option Addr) (len cap : Nat) (zs : List Int) (w : World) (hw : IsRow .u8 w a len cap zs) :
    Calls Try.prog 4 #[.slice a len cap] w fun e w' => e = .returned (.bool true) ∧ Below w.heap.size w w' := by
  have hcode := hw.codeW
  clear hw
  by_cases hbig : 1048576 < (len : Int)
  · go_enter Try.func4, Try.ntmps4
    go_wp2_with fail
    refine (big_any a len cap _).mono ?_
    rw [decide_eq_true (by omega)]
    rintro e w1 ⟨rfl, rfl⟩
    go_wp2
    go_ret
    exact ⟨rfl, Below.refl _ _⟩
  · obtain ⟨i0, hi, hz0, hz1, hz2⟩ := info_parts info_Op
    go_enter Try.func4, Try.ntmps4
    go_wp2_with fail
    refine (big_any a len cap _).mono ?_
    rw [decide_eq_false (by omega)]
    rintro e w1 ⟨rfl, rfl⟩
    go_wp2_with fail
    refine (drawOps_any a len cap _ hcode).mono ?_
    rintro e w1 ⟨v, L, na, rfl, hna, hro, hb1⟩
    have HRO := Lib.hid hro
    obtain ⟨b, c, rfl, hlc, hcm, -, -, hl, -, -⟩ := hro
    unfold maxLen at hcm
    have HB1 := Lib.hid hb1
    obtain ⟨d, hd⟩ : ∃ d, opsB (na : Int) L = d := ⟨_, rfl⟩
    have HD := Lib.hid hd
    clear hcode hb1 hd
    go_wp2_with fail
    refine (specOps_at (na : Int) L _ _ HRO.out.rd (Nat.le_refl _) HD.out).mono ?_
    rintro e w2 ⟨rfl, hb2⟩
    have HB2 := Lib.hid (bThen HB1.out hb2)
    have HR2 := Lib.hid (HRO.out.below hb2)
    clear hb2
    go_wp2_with fail
    refine (implOps_at (na : Int) L _ _ HR2.out.rd (Nat.le_refl _) HD.out).mono ?_
    rintro e w3 ⟨rfl, hb3⟩
    have HB3 := Lib.hid (bThen HB2.out hb3)
    have HR3 := Lib.hid (HR2.out.below hb3)
    clear hb3
    cases d
    · skip
      go_wp2_with fail
      have hlast : RowsO (w3.alloc (.cells #[.int .i64 4, .int .i64 0, .int .i64 0, .int .i64 0, .int .i64 0, .int .i64 0] 49)) 0 (.slice (some ⟨w3.heap.size, 0, none⟩) 2 2) [(4, 0, 0), (0, 0, 0)] :=
        RowsO.of_owns (World.ownsRow_lit w3 #[.int .i64 4, .int .i64 0, .int .i64 0, .int .i64 0, .int .i64 0, .int .i64 0] 2 (Nat.zero_le _) (by unfold maxLen; omega) rfl) (by simp) (by simp) (by intro x hx; simp at hx; rcases hx with rfl | rfl; exact fitO_not; exact fitO_zero)
      refine (implOps_at (na : Int) [(4, 0, 0), (0, 0, 0)] _ _ hlast.rd (Nat.le_refl _) (ops_not _)).mono ?_
      rintro e w9 ⟨rfl, hb9⟩
      have HB9 := Lib.hid (bTrans (bAlloc HB3.out (Nat.le_refl _) (.cells #[.int .i64 4, .int .i64 0, .int .i64 0, .int .i64 0, .int .i64 0, .int .i64 0] 49)) (bAlloc HB3.out (Nat.le_refl _) (.cells #[.int .i64 4, .int .i64 0, .int .i64 0, .int .i64 0, .int .i64 0, .int .i64 0] 49)).size hb9)
      clear hlast hb9
      go_wp2
      go_ret
      exact ⟨rfl, HB9.out⟩
    · have h0 : 0 < L.length := ops_pos HD.out
      have h15 : L.length ≤ 15 := ops_len HD.out
      go_wp2
      go_loopw [6] (fun v wr => ∃ k : Nat, k ≤ L.length ∧ v = .int .i64 k ∧ RowsO wr w.heap.size (.slice (some ⟨b, 0, none⟩) L.length c) L ∧ Below w.heap.size w wr) (fun v _ => L.length - (intOf v).toNat)
      case atStart => exact ⟨0, Nat.zero_le _, rfl, HR3.out, HB3.out⟩
      case round =>
        obtain ⟨k, hk, rfl, hr, hb⟩ := hrel
        have HR := Lib.hid hr
        have HB := Lib.hid hb
        clear hr hb
        by_cases hlt : k < L.length
        · have hkc : k ≤ c := by omega
          go_wp2_with fail
          refine (implOps_at (na : Int) (L.take k) _ _ (RowsO.take HR.out hk).rd (Nat.le_refl _) (ops_prefix HD.out hlt)).mono ?_
          rintro e w4 ⟨rfl, hb4⟩
          have HB4 := Lib.hid (bThen HB.out hb4)
          have HR4 := Lib.hid (HR.out.below hb4)
          clear hb4
          go_wp2
          go_roundw
          case rel => exact ⟨k + 1, by omega, by go_num, HR4.out, HB4.out⟩
          case measure => simp [intOf]; omega
        · have hcell := HR.out
          obtain ⟨b', c', e9, -, -, -, hbl, -, hLf, hLc⟩ := hcell
          injection e9 with e91 e92 e93
          injection e91 with e91
          injection e91 with e91
          subst e91 e93
          have HLF := Lib.hid hLf
          have hn1 : ∀ j u, (L.flatMap fO)[j]? = some u → (wr.alloc (.cells #[] 49)).cell? ((⟨b, 0, none⟩ : Addr).add j) = some u := by
            intro j u hu
            rw [Addr.add_mid, Nat.zero_add]
            exact keep (bAlloc (Below.refl _ _) (Nat.le_refl _) _) (hLc j u hu)
          have hone := oneCell_fO L
          have hln : (L.flatMap fO).length = L.length * 3 := flat_len fO 3 fO_len L
          have hsz : w.heap.size ≤ wr.heap.size := HB.out.size
          have hown0 : World.ownsRow (wr.alloc (.cells #[] 49)) wr.heap.size 49 3 (.slice (some ⟨wr.heap.size, 0, none⟩) 0 0) 0 [] := ownR_new fO 3 49 wr _ (Nat.le_refl _)
          have HO0 := Lib.hid hown0
          have HN1 := Lib.hid hn1
          clear hown0 hn1 hLf hLc e92
          go_wp2_with (first | (refine wpList_append_lies _ rfl _ _ 44 (by rfl) wr.heap.size 49 i0 _ 3 24 Try.underlying44 hi hz0 hz1 hz2 rfl (by omega) (.slice (some ⟨g4, 0, none⟩) L.length cap4) L.length _ (by rfl) (World.ownsRow.alloc hown4 _) ⟨w4.heap.size, 0, none⟩ 1 1 [.int .i64 0, .int .i64 0, .int .i64 0] (by rfl) (by rfl) (World.news_of_block (heap_alloc_new w4 _)) (by simp [Value.oneCell']) (by omega) (by unfold maxLen; omega) (by omega) hs4 (w4.heap.size + 1) (by simp) ?_; intro g5 cap5 w5 hown5 hgrow5 hat5 hlt5) | (refine wpList_append_lies _ rfl _ _ 44 (by rfl) wr.heap.size 49 i0 _ 3 24 Try.underlying44 hi hz0 hz1 hz2 rfl (by omega) (.slice (some ⟨wr.heap.size, 0, none⟩) 0 0) 0 [] (by rfl) HO0.out ⟨b, 0, none⟩ L.length c (L.flatMap fO) (by rfl) hln HN1.out hone h0 (by unfold maxLen; omega) (by omega) (by simp) (wr.heap.size + 1) (by simp) ?_; intro g4 cap4 w4 hown4 hgrow4 hat4 hlt4; rw [Nat.zero_add, List.nil_append] at hown4; (try simp only [Nat.zero_add]); have hs4 : wr.heap.size ≤ (w4.alloc (.cells #[.int .i64 0, .int .i64 0, .int .i64 0] 49)).heap.size := by have := hgrow4.size; simp at this ⊢; omega))
          have hb4 : Below w.heap.size w w4 := (bAlloc HB.out (Nat.le_refl _) (.cells #[] 49)).grown hgrow4 (by simp; omega) (fun j hj => Nat.le_trans hsz (Nat.le_of_eq (by simpa [Value.ownBlock] using hj)))
          have hlo4 := World.ownsRow.lt hown4
          have hb5 : Below w.heap.size w w5 := (bAlloc hb4 (Nat.le_refl _) (.cells #[.int .i64 0, .int .i64 0, .int .i64 0] 49)).grown hgrow5 (by omega) (fun j hj => by have := (hlo4 j hj).1; omega)
          have ho5 := own_addO (wr := w4) hown5
          have hr5 := RowsO.of_owns ho5 (by simp) (by simp; omega) (fit_app HLF.out fitO_zero)
          have HB5 := Lib.hid hb5
          have HR5 := Lib.hid hr5
          clear hown4 hgrow4 hat4 hlt4 hown5 hgrow5 hat5 hlt5 hb4 hb5 hlo4 ho5 hr5 hs4 hone hln
          refine (implOps_at (na : Int) (L ++ [(0, 0, 0)]) _ _ HR5.out.rd (Nat.le_refl _) (ops_more _ HD.out)).mono ?_
          rintro e w6 ⟨rfl, hb6⟩
          have HB6 := Lib.hid (bThen HB5.out hb6)
          clear hb6
          go_wp2_with fail
          have hlast : RowsO (w6.alloc (.cells #[.int .i64 4, .int .i64 0, .int .i64 0, .int .i64 0, .int .i64 0, .int .i64 0] 49)) 0 (.slice (some ⟨w6.heap.size, 0, none⟩) 2 2) [(4, 0, 0), (0, 0, 0)] :=
            RowsO.of_owns (World.ownsRow_lit w6 #[.int .i64 4, .int .i64 0, .int .i64 0, .int .i64 0, .int .i64 0, .int .i64 0] 2 (Nat.zero_le _) (by unfold maxLen; omega) rfl) (by simp) (by simp) (by intro x hx; simp at hx; rcases hx with rfl | rfl; exact fitO_not; exact fitO_zero)
          refine (implOps_at (na : Int) [(4, 0, 0), (0, 0, 0)] _ _ hlast.rd (Nat.le_refl _) (ops_not _)).mono ?_
          rintro e w9 ⟨rfl, hb9⟩
          have HB9 := Lib.hid (bTrans (bAlloc HB6.out (Nat.le_refl _) (.cells #[.int .i64 4, .int .i64 0, .int .i64 0, .int .i64 0, .int .i64 0, .int .i64 0] 49)) (bAlloc HB6.out (Nat.le_refl _) (.cells #[.int .i64 4, .int .i64 0, .int .i64 0, .int .i64 0, .int .i64 0, .int .i64 0] 49)).size hb9)
          clear hlast hb9
          go_wp2
          go_ret
          exact ⟨rfl, HB9.out⟩
end Go.Proofs.Ytllddjkdjdohhaa
