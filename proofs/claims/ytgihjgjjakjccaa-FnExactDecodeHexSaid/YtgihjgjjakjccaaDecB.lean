/-
  The contract of spec.DecodeHex; the walk of the law FnExactDecodeHex: it returns 'decR s'.
-/
import Derived.Test.YtgihjgjjakjccaaRows
import Derived.Test.YtgihjgjjakjccaaDecMath
import Derived.Test.YtgihjgjjakjccaaEncA
import Derived.Test.YtgihjgjjakjccaaDecA
import Derived.Test.YtgihjgjjakjccaaClampA
import Derived.WalkKit
import Derived.WalkSpells
import Derived.WalkLawsBesides
import Derived.Deep.AppendLies
import Derived.IntWalk
namespace Go.Proofs.Ytgihjgjjakjccaa
open Go.RowKit

theorem value_any (b : UInt8) (w : World) :
    Calls Try.prog 26 #[.int .u8 (b.toNat : Int)] w fun e w' => e = .returned (.int .i64 (valI b)) ∧ w = w' := by
  have hb := b.toNat_lt
  go_enter Try.func26, Try.ntmps26
  go_wp2
  all_goals
    go_ret
    exact ⟨ret_int (by unfold valI; repeat' split <;> omega), rfl⟩

set_option maxHeartbeats 400000 in
theorem specDec_no (s : ByteArray) (w : World) (hm : s.size ≤ maxLen) (h : s.size % 2 ≠ 0 ∨ 40000 < s.size) :
    Calls Try.prog 13 #[.string s] w fun e w' => e = .returned (.tuple #[.string (decR s).1, .bool (decR s).2]) ∧ Below w.heap.size w w' := by
  rw [decR_no s h]
  unfold maxLen at hm
  by_cases hl : 40000 < s.size
  · clear h
    go_enter Try.func13, Try.ntmps13
    go_wp2
    go_ret2
    exact ⟨rfl, Below.refl _ _⟩
  · have hmod : (s.size : Int) % 2 = 1 := by omega
    clear h
    go_enter Try.func13, Try.ntmps13
    go_wp2
    go_ret2
    exact ⟨rfl, Below.refl _ _⟩

set_option maxHeartbeats 1000000 in
theorem specDec_go (s : ByteArray) (w : World) (h1 : s.size % 2 = 0) (h2 : s.size ≤ 40000) :
    Calls Try.prog 13 #[.string s] w fun e w' => e = .returned (.tuple #[.string (decR s).1, .bool (decR s).2]) ∧ Below w.heap.size w w' := by
  obtain ⟨i0, hi, hz0, hz1, hz2⟩ := info_parts Try.info5
  have hmod : (s.size : Int) % 2 = 0 := by omega
  have HE := Lib.hid h1
  clear h1
  go_enter Try.func13, Try.ntmps13
  go_wp2
  go_loopw [4, 5] (fun v j wr => ∃ i : Nat, i ≤ s.size ∧ i % 2 = 0 ∧ j = .int .i64 i ∧ wr.ownsRow w.heap.size 5 1 v (i / 2) ((outP (s.data.toList.take i)).map bv) ∧ Below w.heap.size w wr ∧ allHex (s.data.toList.take i) = true)
    (fun _ j _ => s.size - (intOf j).toNat)
  case atStart => exact ⟨0, Nat.zero_le _, rfl, rfl, World.ownsRow_lit _ #[] 0 (Nat.le_refl _) (by unfold maxLen; omega) rfl, (Below.refl _ _).alloc (Nat.le_refl _) _, rfl⟩
  case round =>
    obtain ⟨i, hk, hev, rfl, hown, hbel, hall⟩ := hrel
    have hsz := hbel.size
    have HV := Lib.hid hev
    have HA := Lib.hid hall
    clear hev hall
    by_cases hlt : i < s.size
    · have hlt1 : i + 1 < s.size := by have := HV.out; have := HE.out; omega
      have va := valI_bd s[i]
      have vb := valI_bd s[i + 1]
      by_cases ha : valI s[i] < 0
      · have hbad := Lib.hid (decR_bad s (allHex_bad s i hlt ha))
        go_wp2_with (go_at_call 26; refine (value_any _ _).mono ?_; rintro e w' ⟨rfl, rfl⟩)
        go_ret2
        rw [hbad.out]
        exact ⟨rfl, hbel⟩
      · by_cases hb : valI s[i + 1] < 0
        · have hbad := Lib.hid (decR_bad s (allHex_bad s (i + 1) hlt1 hb))
          go_wp2_with (go_at_call 26; refine (value_any _ _).mono ?_; rintro e w' ⟨rfl, rfl⟩)
          go_ret2
          rw [hbad.out]
          exact ⟨rfl, hbel⟩
        · have hp := Lib.hid (pairB_int s[i] s[i + 1] (by omega) (by omega))
          skip
          go_wp2_with (first | (go_at_call 26; refine (value_any _ _).mono ?_; rintro e w' ⟨rfl, rfl⟩) | (refine wpList_append_lies _ rfl _ _ 22 (by rfl) w.heap.size 5 i0 _ 1 1 Try.underlying22 hi hz0 hz1 hz2 rfl (by omega) u4 (i / 2) _ (by rfl) ((hown.alloc _)) ⟨wr.heap.size, 0, none⟩ 1 1 _ (by rfl) (by rfl) (World.news_of_block (heap_alloc_new wr _)) (by simp [Value.oneCell']) (by omega) (by unfold maxLen; omega) (by omega) (by simp; omega) (wr.heap.size + 1) (by simp) ?_; intro gg cap w2 hown2 hgrow2 hat2 hlt2))
          have R := dec_rel hlt1 HV.out hsz hown hbel ((Below.refl _ _).alloc (Nat.le_refl _) _) hgrow2 hown2 (by simp only [bv, hp.out]) HA.out (by omega) (by omega)
          clear hown2 hgrow2 hown
          go_wp2
          go_roundw
          case rel => exact ⟨i + 2, by omega, by have := HV.out; omega, by go_num, R.1, R.2.1, R.2.2⟩
          case measure => simp [intOf]; omega
    · obtain rfl : i = s.size := by omega
      have et : s.data.toList.take s.size = s.data.toList := List.take_of_length_le (by simp)
      rw [et] at hown
      have hok := Lib.hid (decR_ok s HE.out h2 (by have := HA.out; rw [et] at this; exact this))
      clear et
      obtain ⟨a, c, hv, hcv⟩ := own_string (P := Try.prog) 22 9 hown Try.underlying22 Try.underlying5 Try.underlying9
      rw [hv]
      clear hv hown
      go_wp2
      go_ret2
      rw [hok.out]
      exact ⟨rfl, hbel⟩

set_option maxHeartbeats 400000 in
theorem exactDecodeHex_walk (s : ByteArray) (hm : s.size ≤ maxLen) (w : World) :
    Calls Try.prog 5 #[.string s] w fun e w' => e = .returned (.bool true) ∧ Below w.heap.size w w' := by
  have hS : ∀ W, Calls Try.prog 13 #[.string s] W fun e w' => e = .returned (.tuple #[.string (decR s).1, .bool (decR s).2]) ∧ Below W.heap.size W w' := fun W => by
    by_cases h : s.size % 2 = 0 ∧ s.size ≤ 40000
    · exact specDec_go s W h.1 h.2
    · exact specDec_no s W hm (by omega)
  have hI : ∀ W, Calls Try.prog 14 #[.string s] W fun e w' => e = .returned (.tuple #[.string (decR s).1, .bool (decR s).2]) ∧ Below W.heap.size W w' := fun W => by
    by_cases h : s.size % 2 = 0 ∧ s.size ≤ 40000
    · exact implDec_go s W h.1 h.2
    · exact implDec_no s W hm (by omega)
  have HS := Lib.hid hS
  have HI := Lib.hid hI
  clear hS hI
  unfold maxLen at hm
  by_cases h2 : s.size ≤ 1048576
  · obtain ⟨r, q, hr⟩ : ∃ r q, decR s = (r, q) := ⟨_, _, rfl⟩
    rw [hr] at HS HI
    clear hr
    go_enter Try.func5, Try.ntmps5
    go_wp2_with fail
    refine (HS.out _).mono ?_
    rintro e w1 ⟨rfl, hb1⟩
    go_wp2_with fail
    refine (HI.out _).mono ?_
    rintro e w2 ⟨rfl, hb2⟩
    go_wp2
    go_ret
    exact ⟨rfl, hb1.trans (hb2.mono hb1.size)⟩
  · go_enter Try.func5, Try.ntmps5
    go_wp2_with fail
    go_ret
    exact ⟨rfl, Below.refl _ _⟩
end Go.Proofs.Ytgihjgjjakjccaa
