/-
  The contract of DrawFormatInt; the walk of the law FnNumbers.
-/
import Derived.Test.YtgihjgjjakjccaaDoorNumB
import Derived.Test.YtgihjgjjakjccaaDoorCurC
namespace Go.Proofs.YtgihjgjjakjccaaDoor
open Go.RowKit

theorem wrap64_I64 (z : Int) : I64 (wrap64 z) := by unfold I64 wrap64; omega

set_option maxHeartbeats 400000 in
theorem drawFmt_any (A : Option Addr) (n cap : Nat) (w : World) (hc : CodeW w A n) :
    Calls Tryd.prog 13 #[.slice A n cap] w fun e w' => ∃ x : Int, e = .returned (.int .i64 x) ∧ I64 x ∧ Below w.heap.size w w' := by
  go_enter Tryd.func13, Tryd.ntmps13
  go_wp2_with fail
  refine (new_any A n cap _ hc).mono ?_
  rintro e w1 ⟨rfl, hcur1, hb1⟩
  have hsz1 := hb1.size
  go_wp2_with fail
  refine (once_any _ n _ _ (by omega) (by omega) hcur1).mono ?_
  rintro e w2 ⟨q, rfl, hcur2, hch2⟩
  have hb2 := Chg.below hb1 hch2 hsz1 (Nat.le_refl _)
  clear hcur1 hch2 hb1
  cases q
  · go_wp2_with fail
    refine (number_any _ n _ hcur2).mono ?_
    rintro e w3 ⟨x, rfl, hx, hcur3, hch3⟩
    have hb3 := Chg.below hb2 hch3 hb2.size (Nat.le_refl _)
    have HX := Lib.hid hx
    clear hcur2 hch3 hb2 hx hcur3
    go_wp2
    go_ret
    exact ⟨_, rfl, HX.out, hb3⟩
  · go_wp2_with fail
    refine (below_any _ n _ _ (by omega) (by omega) hcur2).mono ?_
    rintro e w3 ⟨x, rfl, ⟨hx0, hx1⟩, hcur3, hch3⟩
    have hb3 := Chg.below hb2 hch3 hb2.size (Nat.le_refl _)
    clear hcur2 hch3 hb2
    go_wp2_with fail
    refine (below_any _ n _ _ (by omega) (by omega) hcur3).mono ?_
    rintro e w4 ⟨y, rfl, ⟨hy0, hy1⟩, hcur4, hch4⟩
    have hb4 := Chg.below hb3 hch4 hb3.size (Nat.le_refl _)
    clear hcur3 hch4 hb3 hcur4
    go_wp2
    go_ret
    exact ⟨_, rfl, wrap64_I64 _, hb4⟩

theorem itoa_in {n : Int} (h0 : 0 ≤ n) (h1 : n ≤ 1000000000) {x : Int} {ok : Bool} (h : Parsed (Lib.itoa n) x ok) : x = n ∧ ok = true :=
  h.uniq (.inl ⟨rfl, h0, h1, rfl⟩)
theorem itoa_out {n : Int} (hn : n < 0 ∨ 1000000000 < n) {x : Int} {ok : Bool} (h : Parsed (Lib.itoa n) x ok) : x = 0 ∧ ok = false := by
  refine h.uniq (.inr ⟨rfl, rfl, fun m hm => ?_⟩)
  have hd := hm.dec
  unfold Lib.itoa at hd
  by_cases h0 : n < 0
  · rw [if_pos h0] at hd
    have : Lib.digitVal 45 = none := by decide
    simp [Lib.decFrom, this] at hd
  · rw [if_neg h0, decFrom_digits] at hd
    injection hd with hd
    have := hm.1
    have := hm.2.1
    omega
theorem itoa_ne (n : Int) : (Lib.itoa n).isEmpty = false := by
  unfold Lib.itoa
  split
  · rfl
  · obtain ⟨b, r, e, _⟩ := decDigits_head n.toNat
    rw [e]; rfl

set_option maxHeartbeats 1000000 in
theorem numbers_walk (a0 : Option Addr) (len0 cap0 : Nat) (z0 : List Int) (w : World) (w0 : IsRow .u8 w a0 len0 cap0 z0) (hL : laidMetH Tryd.prog Rows.fnNumbersRow.laid w) :
    Calls Tryd.prog 4 #[.slice a0 len0 cap0] w fun e w' => e = .returned (.bool true) ∧ Below w.heap.size w w' := by
  have hT : PowTab w := powTab_of (laidMet.tail (laidMet.tail hL))
  have hE : Errs w := errs_of (laidMet.tail (laidMet.tail (laidMet.tail hL)))
  have HT := Lib.hid hT
  have HE := Lib.hid hE
  have hc := w0.codeW
  clear hL hT hE w0
  go_enter Tryd.func4, Tryd.ntmps4
  go_wp2_with fail
  refine (big_any a0 len0 cap0 _).mono ?_
  rintro e w' ⟨rfl, rfl⟩
  by_cases hbig : 1048576 < (len0 : Int)
  · go_wp2_with fail
    go_ret
    exact ⟨rfl, Below.refl _ _⟩
  · go_wp2_with fail
    refine (drawFmt_any a0 len0 cap0 _ hc).mono ?_
    rintro e w1 ⟨n, rfl, ⟨hn0, hn1⟩, hb1⟩
    have HB1 := Lib.hid hb1
    clear hb1 hc
    go_wp2_with fail
    refine (implFmt_any n _ hn0 hn1 (HT.out.keep HB1.out)).mono ?_
    rintro e w2 ⟨rfl, hb2⟩
    have HB2 := Lib.hid (HB1.out.trans (hb2.mono HB1.out.size))
    clear hb2 HB1
    go_wp2_with fail
    have hlen := Lib.itoa_length_le n hn0 hn1
    refine (implParse_any ⟨(Lib.itoa n).toArray⟩ _ ?_ (HT.out.keep HB2.out) (HE.out.keep HB2.out)).mono ?_
    · show (Lib.itoa n).toArray.size ≤ _
      simp
      omega
    rintro e w3 ⟨x, ok, rfl, hp, hb3⟩
    have HB3 := Lib.hid (HB2.out.trans (hb3.mono HB2.out.size))
    have hp' : Parsed (Lib.itoa n) x ok := by simpa using hp
    have HP := Lib.hid hp'
    have hne := itoa_ne n
    clear hb3 HB2 hp hp' hlen
    by_cases hin : 0 ≤ n ∧ n ≤ 1000000000
    · obtain ⟨rfl, rfl⟩ := itoa_in hin.1 hin.2 HP.out
      obtain ⟨hi0, hi1⟩ := hin
      clear HP
      go_wp2
      go_ret
      exact ⟨rfl, HB3.out⟩
    · obtain ⟨rfl, rfl⟩ := itoa_out (n := n) (by omega) HP.out
      clear HP
      by_cases hneg : n < 0
      · clear hin
        go_wp2
        go_ret
        exact ⟨rfl, HB3.out⟩
      · have hbig2 : 1000000000 < n := by omega
        clear hin
        go_wp2
        go_ret
        exact ⟨rfl, HB3.out⟩
end Go.Proofs.YtgihjgjjakjccaaDoor
