/-
  The contract of impl.DecodeHex: it returns 'decR s'.
-/
import Derived.Test.YtgihjgjjakjccaaDoorRows
import Derived.Test.YtgihjgjjakjccaaDoorDecMath
import Derived.Test.YtgihjgjjakjccaaDoorEncA
import Derived.Test.YtgihjgjjakjccaaDoorShelf
import Derived.WalkKit
import Derived.WalkSpells
import Derived.WalkLawsBesides
import Derived.Deep.AppendLies
import Derived.IntWalk
namespace Go.Proofs.YtgihjgjjakjccaaDoor
open Go.RowKit

theorem index_any (b : UInt8) (w : World) :
    Calls Tryd.prog 27 #[.string ⟨#[48, 49, 50, 51, 52, 53, 54, 55, 56, 57, 97, 98, 99, 100, 101, 102]⟩, .int .u8 (b.toNat : Int)] w fun e w' => e = .returned (.int .i64 (valI b)) ∧ w = w' := by
  refine (Tryd.strings_IndexByte _ _ _).mono ?_
  rintro e w' ⟨rfl, rfl⟩
  refine ⟨?_, rfl⟩
  rw [show ((b.toNat : Int)).toNat.toUInt8 = b from by simp]
  exact congrArg (fun n => Ending.returned (.int .i64 n)) (index_val b)

set_option maxHeartbeats 400000 in
theorem implDec_no (s : ByteArray) (w : World) (hm : s.size ≤ maxLen) (h : s.size % 2 ≠ 0 ∨ 40000 < s.size) :
    Calls Tryd.prog 12 #[.string s] w fun e w' => e = .returned (.tuple #[.string (decR s).1, .bool (decR s).2]) ∧ Below w.heap.size w w' := by
  rw [decR_no s h]
  unfold maxLen at hm
  by_cases hp : s.size % 2 = 0
  · have hmod : (s.size : Int) % 2 = 0 := by omega
    have hl : 40000 < s.size := by omega
    clear h hp
    go_enter Tryd.func12, Tryd.ntmps12
    go_wp2
    go_ret2
    exact ⟨rfl, Below.refl _ _⟩
  · have hmod : (s.size : Int) % 2 = 1 := by omega
    clear h hp
    go_enter Tryd.func12, Tryd.ntmps12
    go_wp2
    go_ret2
    exact ⟨rfl, Below.refl _ _⟩

set_option maxHeartbeats 1000000 in
theorem implDec_go (s : ByteArray) (w : World) (h1 : s.size % 2 = 0) (h2 : s.size ≤ 40000) :
    Calls Tryd.prog 12 #[.string s] w fun e w' => e = .returned (.tuple #[.string (decR s).1, .bool (decR s).2]) ∧ Below w.heap.size w w' := by
  obtain ⟨i0, hi, hz0, hz1, hz2⟩ := info_parts Tryd.info5
  have hmod : (s.size : Int) % 2 = 0 := by omega
  have HE := Lib.hid h1
  clear h1
  go_enter Tryd.func12, Tryd.ntmps12
  go_wp2_with (at_make; refine wpList_make_own _ rfl _ _ 22 rfl w.heap.size 5 i0 (.int .u8 0) 1 Tryd.underlying22 hi hz0 hz1 .i64 .i64 ((s.size : Int) / 2) (s.size / 2) rfl rfl (by omega) (by rw [hz2]; omega) (by unfold maxLen; omega) (Nat.le_refl _) ?_; intro w1 hown1 hgrow1)
  have hbel1 : Below w.heap.size w w1 := (Below.refl _ _).grown hgrow1 (Nat.le_refl _) (by intro g hg; cases hg)
  have hsz1 : w.heap.size ≤ w1.heap.size := hbel1.size
  clear hgrow1
  go_loopw [4, 5] (fun v j wr => ∃ i : Nat, i ≤ s.size ∧ i % 2 = 0 ∧ j = .int .i64 i ∧ wr.ownsRow w.heap.size 5 1 v (i / 2) ((outP (s.data.toList.take i)).map bv) ∧ Below w.heap.size w wr ∧ allHex (s.data.toList.take i) = true)
    (fun _ j _ => s.size - (intOf j).toNat)
  case atStart => exact ⟨0, Nat.zero_le _, rfl, rfl, by simpa [outP] using hown1, hbel1, rfl⟩
  case round =>
    obtain ⟨i, hk, hev, rfl, hown, hbel, hall⟩ := hrel
    have hsz := hbel.size
    have HV := Lib.hid hev
    have HA := Lib.hid hall
    clear hev hall
    by_cases hlt : i < s.size
    · have hlt1 : i + 1 < s.size := by have := HV.out; have := HE.out; omega
      have va := valI_bd s[i]
      have vb := valI_bd s[i + 1]
      by_cases ha : valI s[i] < 0
      · have hbad := Lib.hid (decR_bad s (allHex_bad s i hlt ha))
        go_wp2_with (go_at_call 27; refine (index_any _ _).mono ?_; rintro e w' ⟨rfl, rfl⟩)
        go_ret2
        rw [hbad.out]
        exact ⟨rfl, hbel⟩
      · by_cases hb : valI s[i + 1] < 0
        · have hbad := Lib.hid (decR_bad s (allHex_bad s (i + 1) hlt1 hb))
          go_wp2_with (go_at_call 27; refine (index_any _ _).mono ?_; rintro e w' ⟨rfl, rfl⟩)
          go_ret2
          rw [hbad.out]
          exact ⟨rfl, hbel⟩
        · have hp := Lib.hid (pairB_int s[i] s[i + 1] (by omega) (by omega))
          have ho := or_hex (valI s[i]) (valI s[i + 1]) (by omega) va.2 (by omega) vb.2
          go_wp2_with (first | (go_at_call 27; refine (index_any _ _).mono ?_; rintro e w' ⟨rfl, rfl⟩) | (refine wpList_append_lies _ rfl _ _ 22 (by rfl) w.heap.size 5 i0 _ 1 1 Tryd.underlying22 hi hz0 hz1 hz2 rfl (by omega) u4 (i / 2) _ (by rfl) ((hown.alloc _)) ⟨wr.heap.size, 0, none⟩ 1 1 _ (by rfl) (by rfl) (World.news_of_block (heap_alloc_new wr _)) (by simp [Value.oneCell']) (by omega) (by unfold maxLen; omega) (by omega) (by simp; omega) (wr.heap.size + 1) (by simp) ?_; intro gg cap w2 hown2 hgrow2 hat2 hlt2))
          have R := dec_rel hlt1 HV.out hsz hown hbel ((Below.refl _ _).alloc (Nat.le_refl _) _) hgrow2 hown2 (by simp only [bv, hp.out]) HA.out (by omega) (by omega)
          clear hown2 hgrow2 hown
          go_wp2
          go_roundw
          case rel => exact ⟨i + 2, by omega, by have := HV.out; omega, by go_num, R.1, R.2.1, R.2.2⟩
          case measure => simp [intOf]; omega
    · obtain rfl : i = s.size := by omega
      have et : s.data.toList.take s.size = s.data.toList := List.take_of_length_le (by simp)
      rw [et] at hown
      have hok := Lib.hid (decR_ok s HE.out h2 (by have := HA.out; rw [et] at this; exact this))
      clear et
      obtain ⟨a, c, hv, hcv⟩ := own_string (P := Tryd.prog) 22 9 hown Tryd.underlying22 Tryd.underlying5 Tryd.underlying9
      rw [hv]
      clear hv hown
      go_wp2
      go_ret2
      rw [hok.out]
      exact ⟨rfl, hbel⟩
end Go.Proofs.YtgihjgjjakjccaaDoor
