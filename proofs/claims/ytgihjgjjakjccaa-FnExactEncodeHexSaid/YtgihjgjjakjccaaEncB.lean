/-
  The contracts of spec.l01Figure and spec.EncodeHex; the walk of the law FnExactEncodeHex.
-/
import Derived.Test.YtgihjgjjakjccaaEncA
import Derived.IntWalk
namespace Go.Proofs.Ytgihjgjjakjccaa
open Go.RowKit

theorem figure_any (n : Int) (h0 : 0 ≤ n) (h1 : n < 16) (w : World) :
    Calls Try.prog 25 #[.int .i64 n] w fun e w' => e = .returned (.int .u8 ((digB n.toNat).toNat : Int)) ∧ w = w' := by
  by_cases h : n < 10
  · have e : ((digB n.toNat).toNat : Int) = 48 + n := by rw [digB_low _ (by omega)]; omega
    rw [e]
    clear e
    go_enter Try.func25, Try.ntmps25
    go_wp2
    go_ret
    exact ⟨rfl, rfl⟩
  · have e : ((digB n.toNat).toNat : Int) = 97 + n - 10 := by rw [digB_high _ (by omega) (by omega)]; omega
    rw [e]
    clear e
    go_enter Try.func25, Try.ntmps25
    go_wp2
    go_ret
    exact ⟨rfl, rfl⟩

set_option maxHeartbeats 400000 in
theorem specEnc_long (s : ByteArray) (w : World) (hs : 20000 < s.size) (hm : s.size ≤ maxLen) :
    Calls Try.prog 11 #[.string s] w fun e w' => e = .returned (.tuple #[.string ByteArray.empty, .bool false]) ∧ w = w' := by
  unfold maxLen at hm
  go_enter Try.func11, Try.ntmps11
  go_wp2
  go_ret2
  exact ⟨rfl, rfl⟩

set_option maxHeartbeats 800000 in
theorem specEnc_short (s : ByteArray) (w : World) (hs : s.size ≤ 20000) :
    Calls Try.prog 11 #[.string s] w fun e w' => e = .returned (.tuple #[.string ⟨(encB s.data.toList).toArray⟩, .bool true]) ∧ Below w.heap.size w w' := by
  obtain ⟨i0, hi, hz0, hz1, hz2⟩ := info_parts Try.info5
  go_enter Try.func11, Try.ntmps11
  go_wp2
  go_loopw [4, 5] (fun v i wr => ∃ k : Nat, k ≤ s.size ∧ i = .int .i64 k ∧ wr.ownsRow w.heap.size 5 1 v (2 * k) ((encB (s.data.toList.take k)).map bv) ∧ Below w.heap.size w wr)
    (fun _ i _ => s.size - (intOf i).toNat)
  case atStart => exact ⟨0, Nat.zero_le _, rfl, World.ownsRow_lit _ #[] 0 (Nat.le_refl _) (by unfold maxLen; omega) rfl, (Below.refl _ _).alloc (Nat.le_refl _) _⟩
  case round =>
    obtain ⟨k, hk, rfl, hown, hbel⟩ := hrel
    have hsz := hbel.size
    by_cases hlt : k < s.size
    · have hx0 := s[k].toNat_lt
      have hx1 : (0 : Int) ≤ (s[k].toNat : Int) / 16 := by omega
      have hx2 : (s[k].toNat : Int) / 16 < 16 := by omega
      have hx4 : (0 : Int) ≤ (s[k].toNat : Int) % 16 := by omega
      have hx5 : (s[k].toNat : Int) % 16 < 16 := by omega
      have hA : 2 * k + 2 ≤ maxLen := by unfold maxLen; omega
      have hB : (2 * k + 2) * 1 ≤ 140737488355328 := by omega
      have hC : w.heap.size ≤ wr.heap.size + 1 := by omega
      have hw : IntKind.i64.wrap (s[k].toNat : Int) = (s[k].toNat : Int) := IntWalk.i64_in _ (by omega)
      have hq : IntKind.i64.wrap ((s[k].toNat : Int) / 16) = (s[k].toNat : Int) / 16 := IntWalk.i64_in _ (by omega)
      have hq' : (s[k].toNat : Int).tdiv 16 = (s[k].toNat : Int) / 16 := Int.tdiv_eq_ediv_of_nonneg (by omega)
      have hr : IntKind.i64.wrap ((s[k].toNat : Int) % 16) = (s[k].toNat : Int) % 16 := IntWalk.i64_in _ (by omega)
      have hr' : (s[k].toNat : Int).tmod 16 = (s[k].toNat : Int) % 16 := by rw [Int.tmod_eq_emod_of_nonneg (by omega)]
      go_wp2
      go_region_law (first | (refine step_append_lies _ (by rfl) _ _ _ (by rfl) w.heap.size 5 i0 _ 1 1 Try.underlying22 hi hz0 hz1 hz2 rfl (by omega) u4 (2 * k) _ (by rfl) ((hown.alloc _).drew) ⟨wr.heap.size, 0, none⟩ 2 2 _ (by rfl) (by rfl) (World.news_of_block (heap_alloc_new wr _)) (by simp [Value.oneCell']) (by omega) hA hB (by simp; exact hC) (wr.heap.size + 1) (by simp) ?_; intro gg cap w2 hown2 hgrow2 hat2 hlt2) | (go_simp; go_at_call 25; refine (figure_any _ (by first | exact hx1 | exact hx4) (by first | exact hx2 | exact hx5) _).mono ?_; rintro e w' ⟨rfl, rfl⟩))
      all_goals
        have R := enc_rel hlt hsz hown hbel (((Below.refl _ _).alloc (Nat.le_refl _) _).drew) hgrow2 hown2 (by simp only [bv]; congr 5 <;> omega)
        clear hown2 hgrow2 hown
        go_wp2
        go_roundw
        case rel => exact ⟨k + 1, by omega, by go_num, R.1, R.2⟩
        case measure => simp [intOf]; omega
    · obtain rfl : k = s.size := by omega
      rw [encB_all s _ (Nat.le_refl _)] at hown
      obtain ⟨a, c, hv, hcv⟩ := own_string (P := Try.prog) 22 9 hown Try.underlying22 Try.underlying5 Try.underlying9
      rw [hv]
      clear hv hown
      go_wp2
      go_ret2
      exact ⟨rfl, hbel⟩

set_option maxHeartbeats 400000 in
theorem exactEncodeHex_walk (s : ByteArray) (hm : s.size ≤ maxLen) (w : World) :
    Calls Try.prog 4 #[.string s] w fun e w' => e = .returned (.bool true) ∧ Below w.heap.size w w' := by
  have hm' := hm
  unfold maxLen at hm'
  by_cases h1 : s.size ≤ 20000
  · go_enter Try.func4, Try.ntmps4
    go_wp2_with fail
    refine (specEnc_short s _ h1).mono ?_
    rintro e w1 ⟨rfl, hb1⟩
    go_wp2_with fail
    refine (implEnc_short s _ h1).mono ?_
    rintro e w2 ⟨rfl, hb2⟩
    go_wp2
    go_ret
    exact ⟨rfl, hb1.trans (hb2.mono hb1.size)⟩
  · by_cases h2 : s.size ≤ 1048576
    · go_enter Try.func4, Try.ntmps4
      go_wp2_with fail
      refine (specEnc_long s _ (by omega) hm).mono ?_
      rintro e w1 ⟨rfl, rfl⟩
      go_wp2_with fail
      refine (implEnc_long s _ (by omega) hm).mono ?_
      rintro e w2 ⟨rfl, rfl⟩
      go_wp2
      go_ret
      exact ⟨rfl, Below.refl _ _⟩
    · go_enter Try.func4, Try.ntmps4
      go_wp2_with fail
      go_ret
      exact ⟨rfl, Below.refl _ _⟩
end Go.Proofs.Ytgihjgjjakjccaa
