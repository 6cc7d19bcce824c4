/-
  The contract of DrawEncodeHex; decoding takes back encoding; the walk of the law FnHexText.
-/
import Derived.Test.YtgihjgjjakjccaaDoorDrawText
import Derived.Test.YtgihjgjjakjccaaDoorEncA
import Derived.Test.YtgihjgjjakjccaaDoorDecA
import Derived.Test.YtgihjgjjakjccaaDoorFmtB
import Derived.Test.YtgihjgjjakjccaaDoorCurC
namespace Go.Proofs.YtgihjgjjakjccaaDoor
open Go.RowKit

theorem valI_digB (n : Nat) (h : n < 16) : valI (digB n) = n := by
  have : ∀ m : Fin 16, valI (digB m.val) = m.val := by decide
  exact this ⟨n, h⟩
theorem pairB_dig (b : UInt8) : pairB (digB (b.toNat / 16)) (digB (b.toNat % 16)) = b := by
  have hb := b.toNat_lt
  unfold pairB
  rw [valI_digB _ (by omega), valI_digB _ (by omega), show (16 * ((b.toNat / 16 : Nat) : Int) + ((b.toNat % 16 : Nat) : Int)).toNat = b.toNat from by omega]
  simp
theorem outP_encB (l : List UInt8) : outP (encB l) = l := by
  induction l with
  | nil => rfl
  | cons b l ih =>
    show outP (digB (b.toNat / 16) :: digB (b.toNat % 16) :: encB l) = b :: l
    rw [outP, ih, pairB_dig]
theorem allHex_encB (l : List UInt8) : allHex (encB l) = true := by
  induction l with
  | nil => rfl
  | cons b l ih =>
    have hb := b.toNat_lt
    show allHex (digB (b.toNat / 16) :: digB (b.toNat % 16) :: encB l) = true
    unfold allHex at ih ⊢
    rw [List.all_cons, List.all_cons, ih, valI_digB _ (by omega), valI_digB _ (by omega)]
    simp
    omega
theorem decR_enc (s : ByteArray) (h : s.size ≤ 20000) : decR ⟨(encB s.data.toList).toArray⟩ = (s, true) := by
  have hl : (ByteArray.mk (encB s.data.toList).toArray).size = 2 * s.size := by
    show (encB s.data.toList).toArray.size = _
    rw [List.size_toArray, encB_length]; simp
  rw [decR_ok _ (by omega) (by omega) (allHex_encB _)]
  show (ByteArray.mk (outP (encB s.data.toList)).toArray, true) = _
  rw [outP_encB]

set_option maxHeartbeats 400000 in
theorem drawEnc_any (A : Option Addr) (n cap : Nat) (w : World) (hc : CodeW w A n) :
    Calls Tryd.prog 9 #[.slice A n cap] w fun e w' => ∃ s : ByteArray, e = .returned (.string s) ∧ s.size ≤ 100000 ∧ Below w.heap.size w w' := by
  go_enter Tryd.func9, Tryd.ntmps9
  go_wp2_with fail
  refine (new_any A n cap _ hc).mono ?_
  rintro e w1 ⟨rfl, hcur1, hb1⟩
  have hsz1 := hb1.size
  go_wp2_with fail
  refine (once_any _ n _ _ (by omega) (by omega) hcur1).mono ?_
  rintro e w2 ⟨q, rfl, hcur2, hch2⟩
  have hb2 := Chg.below hb1 hch2 hsz1 (Nat.le_refl _)
  clear hcur1 hch2 hb1
  cases q
  · go_wp2_with fail
    refine (below_any _ n _ _ (by omega) (by omega) hcur2).mono ?_
    rintro e w3 ⟨x, rfl, ⟨hx0, hx1⟩, hcur3, hch3⟩
    have hb3 := Chg.below hb2 hch3 hb2.size (Nat.le_refl _)
    clear hcur2 hch3 hb2
    go_wp2_with fail
    refine (text_any _ n _ _ hx0 (by omega) hcur3).mono ?_
    rintro e w4 ⟨s, rfl, hs, hcur4, hch4⟩
    have hb4 := Chg.below hb3 hch4 hb3.size (Nat.le_refl _)
    clear hcur3 hch4 hb3 hcur4
    go_wp2
    go_ret
    exact ⟨s, rfl, by omega, hb4⟩
  · go_wp2_with fail
    refine (below_any _ n _ _ (by omega) (by omega) hcur2).mono ?_
    rintro e w3 ⟨x, rfl, ⟨hx0, hx1⟩, hcur3, hch3⟩
    have hb3 := Chg.below hb2 hch3 hb2.size (Nat.le_refl _)
    obtain ⟨u, rfl⟩ : ∃ u : Nat, x = (u : Int) := ⟨x.toNat, by omega⟩
    clear hcur2 hch3 hb2 hcur3
    go_wp2_with fail
    refine (long_any (20000 + u) 200 _ (by omega)).mono ?_
    rintro e w4 ⟨rfl, hb4⟩
    have HB := Lib.hid (hb3.trans (hb4.mono hb3.size))
    clear hb4 hb3
    go_wp2
    go_ret
    exact ⟨_, rfl, by show (List.replicate _ _).toArray.size ≤ _; simp; omega, HB.out⟩

theorem itoa_ten : Lib.itoa 10 = [49, 48] := by
  unfold Lib.itoa
  rw [if_neg (by omega), show (10 : Int).toNat = 10 from rfl, Lib.decDigits_two (by omega) (by omega)]
  rfl

set_option maxHeartbeats 1000000 in
theorem hexText_walk (a0 : Option Addr) (len0 cap0 : Nat) (z0 : List Int) (w : World) (w0 : IsRow .u8 w a0 len0 cap0 z0) (hL : laidMetH Tryd.prog Rows.fnHexTextRow.laid w) :
    Calls Tryd.prog 3 #[.slice a0 len0 cap0] w fun e w' => e = .returned (.bool true) ∧ Below w.heap.size w w' := by
  have hT : PowTab w := powTab_of (laidMet.tail (laidMet.tail hL))
  have HT := Lib.hid hT
  have hc := w0.codeW
  clear hL hT w0
  go_enter Tryd.func3, Tryd.ntmps3
  go_wp2_with fail
  refine (big_any a0 len0 cap0 _).mono ?_
  rintro e w' ⟨rfl, rfl⟩
  by_cases hbig : 1048576 < (len0 : Int)
  · go_wp2_with fail
    go_ret
    exact ⟨rfl, Below.refl _ _⟩
  · go_wp2_with fail
    refine (drawEnc_any a0 len0 cap0 _ hc).mono ?_
    rintro e w1 ⟨s, rfl, hs, hb1⟩
    have HB1 := Lib.hid hb1
    clear hb1 hc
    by_cases hl : s.size ≤ 20000
    · have hsz : (ByteArray.mk (encB s.data.toList).toArray).size = 2 * s.size := by
        show (encB s.data.toList).toArray.size = _
        rw [List.size_toArray, encB_length]; simp
      have hd := decR_enc s hl
      have hgo := implDec_go ⟨(encB s.data.toList).toArray⟩
      simp only [hd] at hgo
      have HG := Lib.hid hgo
      have HS := Lib.hid hsz
      clear hd hgo hsz
      go_wp2_with fail
      refine (implEnc_short s _ hl).mono ?_
      rintro e w2 ⟨rfl, hb2⟩
      have HB2 := Lib.hid (HB1.out.trans (hb2.mono HB1.out.size))
      clear hb2 HB1
      obtain ⟨h, hh⟩ : ∃ h : ByteArray, h = ⟨(encB s.data.toList).toArray⟩ := ⟨_, rfl⟩
      rw [← hh] at HG HS ⊢
      clear hh
      go_wp2_with fail
      refine (HG.out _ (by have := HS.out; omega) (by have := HS.out; omega)).mono ?_
      rintro e w3 ⟨rfl, hb3⟩
      have HB3 := Lib.hid (HB2.out.trans (hb3.mono HB2.out.size))
      have hsz : (h.size : Int) = 2 * (s.size : Int) := by have := HS.out; omega
      clear hb3 HB2 HG
      go_wp2
      go_ret
      exact ⟨rfl, HB3.out⟩
    · go_wp2_with fail
      refine (implEnc_long s _ (by omega) (by unfold maxLen; omega)).mono ?_
      rintro e w2 ⟨rfl, rfl⟩
      go_wp2_with fail
      refine (implFmt_any 10 _ (by omega) (by omega) (HT.out.keep HB1.out)).mono ?_
      rintro e w3 ⟨rfl, hb3⟩
      have HB3 := Lib.hid (HB1.out.trans (hb3.mono HB1.out.size))
      have h10 := itoa_ten
      clear hb3 HB1
      go_wp2
      go_ret
      exact ⟨rfl, HB3.out⟩
end Go.Proofs.YtgihjgjjakjccaaDoor
