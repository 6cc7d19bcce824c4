/-
  The contracts of l01Pick and DrawSplitFields: some text of at most 1000 bytes.
-/
import Derived.Test.YtgihjgjjakjccaaDoorDrawText
import Derived.Test.YtgihjgjjakjccaaDoorOneStr
import Derived.Test.YtgihjgjjakjccaaDoorCurC
namespace Go.Proofs.YtgihjgjjakjccaaDoor
open Go.RowKit

/-- m short texts can be read from offset 0 of block b on. -/
def TextsAt (w : World) (b m : Nat) : Prop := ∀ j, j < m → ∃ v : ByteArray, v.size ≤ 20 ∧ w.cell? ⟨b, j, none⟩ = some (.string v)

set_option maxHeartbeats 400000 in
theorem pick_any (g n b m : Nat) (w : World) (hm : 0 < m) (hm2 : m ≤ 1000) (hb : b ≠ g) (hl : b < w.heap.size) (hi : TextsAt w b m) (hc : Cur 54 w g n) :
    Calls Tryd.prog 30 #[.pointer (some ⟨g, 0, none⟩), .slice (some ⟨b, 0, none⟩) m m] w (DrawnS 54 g n 20 w) := by
  have HI := Lib.hid hi
  clear hi
  go_enter Tryd.func30, Tryd.ntmps30
  go_wp2_with fail
  refine (below_any g n _ _ (by omega) (by omega) hc).mono ?_
  rintro e w1 ⟨x, rfl, ⟨hx0, hx1⟩, hcur, hch⟩
  obtain ⟨j, rfl⟩ : ∃ j : Nat, x = (j : Int) := ⟨x.toNat, by omega⟩
  obtain ⟨v, hR, hv⟩ := HI.out j (by omega)
  have HR := Lib.hid hR
  clear hR
  have hv' : w1.cell? ⟨b, j, none⟩ = some (.string v) := (hch.cell (p := ⟨b, j, none⟩) hl hb).trans hv
  have HC := Lib.hid (And.intro hcur hch)
  clear hv hcur hch HI
  go_wp2
  go_ret
  exact ⟨_, rfl, HR.out, HC.out.1, HC.out.2⟩

theorem one_string_char (x : Int) (h0 : 0 ≤ x) (h1 : x < 94) (W : World) : (convert 22 9 (.slice (some ⟨W.heap.size, 0, none⟩) 1 1)).run Tryd.prog (W.alloc (.cells #[.int .u8 (33 + x)] 5)) =
    .ok (.string ⟨#[UInt8.ofNat (33 + x).toNat]⟩) (W.alloc (.cells #[.int .u8 (33 + x)] 5)) := by
  have e : (33 : Int) + x = ((UInt8.ofNat (33 + x).toNat).toNat : Int) := by simp; omega
  have := one_string W (UInt8.ofNat (33 + x).toNat)
  rw [← e] at this
  exact this

set_option maxRecDepth 100000 in
set_option maxHeartbeats 3000000 in
theorem drawSplit_any (A : Option Addr) (n cap : Nat) (w : World) (hc : CodeW w A n) :
    Calls Tryd.prog 15 #[.slice A n cap] w fun e w' => ∃ s : ByteArray, e = .returned (.string s) ∧ s.size ≤ 1000 ∧ Below w.heap.size w w' := by
  go_enter Tryd.func15, Tryd.ntmps15
  go_wp2_with fail
  refine (new_any A n cap _ hc).mono ?_
  rintro e w1 ⟨rfl, hcur1, hb1⟩
  have hsz1 := hb1.size
  go_wp2_with fail
  refine (below_any _ n _ _ (by omega) (by omega) hcur1).mono ?_
  rintro e w2 ⟨x0, rfl, ⟨hx00, hx01⟩, hcur2, hch2⟩
  have hb2 := Chg.below hb1 hch2 hsz1 (Nat.le_refl _)
  clear hcur1 hch2 hb1
  go_wp2_with fail
  refine (once_any _ n _ _ (by omega) (by omega) hcur2).mono ?_
  rintro e w3 ⟨q, rfl, hcur3, hch3⟩
  have hb3 := Chg.below hb2 hch3 hb2.size (Nat.le_refl _)
  have H3 := Lib.hid (And.intro hcur3 hb3)
  clear hcur2 hch3 hb2 hcur3 hb3 hc hsz1
  cases q
  · go_wp2
    have hM0 : (0 : Int) ≤ x0 := by omega
    have hM1 : (x0 : Int) ≤ 41 := by omega
    go_loopw [5, 6, 7] (fun v iv _ wr => ∃ (i : Nat) (s : ByteArray), i ≤ 41 ∧ iv = .int .i64 i ∧ v = .string s ∧ s.size ≤ 8 * i ∧ Cur 54 wr w.heap.size n ∧ Below w.heap.size w wr)
      (fun _ iv _ _ => 42 - (intOf iv).toNat)
    case atStart => exact ⟨0, ⟨#[]⟩, by omega, rfl, rfl, by decide, H3.out.1, H3.out.2⟩
    case round =>
      obtain ⟨i, s, hi41, rfl, rfl, hs, hcur_, hb_⟩ := hrel
      have HC := Lib.hid (And.intro hcur_ hb_)
      clear hcur_ hb_ H3
      by_cases hlt : (i : Int) < x0
      · by_cases hi0 : 0 < i
        · go_wp2_with fail
          refine (below_any _ n _ _ (by omega) (by omega) HC.out.1).mono ?_
          rintro e wa ⟨y, rfl, ⟨hy0, hy1⟩, hcur_, hch_⟩
          have hb_ := Chg.below HC.out.2 hch_ HC.out.2.size (Nat.le_refl _)
          have HC3 := Lib.hid (And.intro hcur_ hb_)
          clear hcur_ hch_ hb_ HC
          go_wp2_with fail
          refine (below_any _ n _ _ (by omega) (by omega) HC3.out.1).mono ?_
          rintro e wb ⟨z, rfl, ⟨hz0, hz1⟩, hcur_, hch_⟩
          have hb_ := Chg.below HC3.out.2 hch_ HC3.out.2.size (Nat.le_refl _)
          have HC4 := Lib.hid (And.intro hcur_ hb_)
          clear hcur_ hch_ hb_ HC3
          have hyz : 0 ≤ y * z ∧ y * z ≤ 2 := by
            rcases (show y = 0 ∨ y = 1 from by omega) with h | h <;> subst h <;> omega
          obtain ⟨hyz0, hyz1⟩ := hyz
          go_wp2_with fail
          obtain ⟨mm, hmm⟩ : ∃ mm : Nat, (1 : Int) + y * z = (mm : Int) := ⟨(1 + y * z).toNat, by omega⟩
          rw [hmm]
          refine (long_any mm 32 _ (by omega)).mono ?_
          rintro e wc ⟨rfl, hbc⟩
          have HI := Lib.hid (And.intro (HC4.out.1.keep hbc) (HC4.out.2.trans (hbc.mono HC4.out.2.size)))
          have hsz2 : (ByteArray.mk (List.replicate mm (32 : UInt8)).toArray).size ≤ 3 := by show (List.replicate mm (32 : UInt8)).toArray.size ≤ _; simp; omega
          obtain ⟨sp, hsp⟩ : ∃ sp : ByteArray, sp = ⟨(List.replicate mm (32 : UInt8)).toArray⟩ := ⟨_, rfl⟩
          rw [← hsp] at hsz2 ⊢
          clear hmm hbc HC4 hsp
          go_wp2
          obtain ⟨wo, rfl⟩ : ∃ wo : World, wo = wc := ⟨_, rfl⟩
          go_loopw [5, 7] (fun v kv wi => ∃ (k : Nat) (s1 : ByteArray), k ≤ 5 ∧ kv = .int .i64 k ∧ v = .string s1 ∧ s1.size ≤ 8 * i + 3 + k ∧ Cur 54 wi w.heap.size n ∧ Below w.heap.size w wi)
            (fun _ kv _ => 6 - (intOf kv).toNat)
          case atStart => exact ⟨0, _, by omega, rfl, rfl, by rw [ByteArray.size_append]; omega, HI.out.1, HI.out.2⟩
          case round =>
            obtain ⟨k, s1, hk5, rfl, rfl, hs1, hci, hbi⟩ := hrel
            have HJ := Lib.hid (And.intro hci hbi)
            clear hci hbi HI
            go_wp2_with fail
            refine (below_any _ n _ _ (by omega) (by omega) HJ.out.1).mono ?_
            rintro e wa ⟨y, rfl, ⟨hy0, hy1⟩, hcur_, hch_⟩
            have hb_ := Chg.below HJ.out.2 hch_ HJ.out.2.size (Nat.le_refl _)
            have HK := Lib.hid (And.intro hcur_ hb_)
            clear hcur_ hch_ hb_ HJ
            by_cases hky : (k : Int) ≤ y
            · go_wp2_with fail
              refine (below_any _ n _ _ (by omega) (by omega) HK.out.1).mono ?_
              rintro e wb ⟨z, rfl, ⟨hz0, hz1⟩, hcur_, hch_⟩
              have hb_ := Chg.below HK.out.2 hch_ HK.out.2.size (Nat.le_refl _)
              have HM := Lib.hid (And.intro hcur_ hb_)
              clear hcur_ hch_ hb_ HK
              have hcv := one_string_char z hz0 hz1
              go_wp2
              go_roundw
              case rel => exact ⟨k + 1, _, by omega, by go_num, rfl, by rw [ByteArray.size_append]; show _ + 1 ≤ _; omega, HM.out.1.keep ((Below.refl _ _).alloc (Nat.le_refl _) _), HM.out.2.alloc HM.out.2.size _⟩
              case measure => simp [intOf]; omega
            · go_wp2
              go_roundw
              case rel => exact ⟨i + 1, s1, by omega, by go_num, rfl, by omega, HK.out.1, HK.out.2⟩
              case measure => simp [intOf]; omega
        · go_wp2_with fail
          refine (once_any _ n _ _ (by omega) (by omega) HC.out.1).mono ?_
          rintro e wa ⟨q, rfl, hcur_, hch_⟩
          have hb_ := Chg.below HC.out.2 hch_ HC.out.2.size (Nat.le_refl _)
          have HC2 := Lib.hid (And.intro hcur_ hb_)
          clear hcur_ hch_ hb_ HC
          cases q
          · go_wp2
            have HI := HC2
            clear HC2
            obtain ⟨wo, rfl⟩ : ∃ wo : World, wo = wa := ⟨_, rfl⟩
            go_loopw [5, 7] (fun v kv wi => ∃ (k : Nat) (s1 : ByteArray), k ≤ 5 ∧ kv = .int .i64 k ∧ v = .string s1 ∧ s1.size ≤ 8 * i + 3 + k ∧ Cur 54 wi w.heap.size n ∧ Below w.heap.size w wi)
              (fun _ kv _ => 6 - (intOf kv).toNat)
            case atStart => exact ⟨0, _, by omega, rfl, rfl, by omega, HI.out.1, HI.out.2⟩
            case round =>
              obtain ⟨k, s1, hk5, rfl, rfl, hs1, hci, hbi⟩ := hrel
              have HJ := Lib.hid (And.intro hci hbi)
              clear hci hbi HI
              go_wp2_with fail
              refine (below_any _ n _ _ (by omega) (by omega) HJ.out.1).mono ?_
              rintro e wa ⟨y, rfl, ⟨hy0, hy1⟩, hcur_, hch_⟩
              have hb_ := Chg.below HJ.out.2 hch_ HJ.out.2.size (Nat.le_refl _)
              have HK := Lib.hid (And.intro hcur_ hb_)
              clear hcur_ hch_ hb_ HJ
              by_cases hky : (k : Int) ≤ y
              · go_wp2_with fail
                refine (below_any _ n _ _ (by omega) (by omega) HK.out.1).mono ?_
                rintro e wb ⟨z, rfl, ⟨hz0, hz1⟩, hcur_, hch_⟩
                have hb_ := Chg.below HK.out.2 hch_ HK.out.2.size (Nat.le_refl _)
                have HM := Lib.hid (And.intro hcur_ hb_)
                clear hcur_ hch_ hb_ HK
                have hcv := one_string_char z hz0 hz1
                go_wp2
                go_roundw
                case rel => exact ⟨k + 1, _, by omega, by go_num, rfl, by rw [ByteArray.size_append]; show _ + 1 ≤ _; omega, HM.out.1.keep ((Below.refl _ _).alloc (Nat.le_refl _) _), HM.out.2.alloc HM.out.2.size _⟩
                case measure => simp [intOf]; omega
              · go_wp2
                go_roundw
                case rel => exact ⟨i + 1, s1, by omega, by go_num, rfl, by omega, HK.out.1, HK.out.2⟩
                case measure => simp [intOf]; omega
          · have HC := HC2
            clear HC2
            go_wp2_with fail
            refine (below_any _ n _ _ (by omega) (by omega) HC.out.1).mono ?_
            rintro e wa ⟨y, rfl, ⟨hy0, hy1⟩, hcur_, hch_⟩
            have hb_ := Chg.below HC.out.2 hch_ HC.out.2.size (Nat.le_refl _)
            have HC3 := Lib.hid (And.intro hcur_ hb_)
            clear hcur_ hch_ hb_ HC
            go_wp2_with fail
            refine (below_any _ n _ _ (by omega) (by omega) HC3.out.1).mono ?_
            rintro e wb ⟨z, rfl, ⟨hz0, hz1⟩, hcur_, hch_⟩
            have hb_ := Chg.below HC3.out.2 hch_ HC3.out.2.size (Nat.le_refl _)
            have HC4 := Lib.hid (And.intro hcur_ hb_)
            clear hcur_ hch_ hb_ HC3
            have hyz : 0 ≤ y * z ∧ y * z ≤ 2 := by
              rcases (show y = 0 ∨ y = 1 from by omega) with h | h <;> subst h <;> omega
            obtain ⟨hyz0, hyz1⟩ := hyz
            go_wp2_with fail
            obtain ⟨mm, hmm⟩ : ∃ mm : Nat, (1 : Int) + y * z = (mm : Int) := ⟨(1 + y * z).toNat, by omega⟩
            rw [hmm]
            refine (long_any mm 32 _ (by omega)).mono ?_
            rintro e wc ⟨rfl, hbc⟩
            have HI := Lib.hid (And.intro (HC4.out.1.keep hbc) (HC4.out.2.trans (hbc.mono HC4.out.2.size)))
            have hsz2 : (ByteArray.mk (List.replicate mm (32 : UInt8)).toArray).size ≤ 3 := by show (List.replicate mm (32 : UInt8)).toArray.size ≤ _; simp; omega
            obtain ⟨sp, hsp⟩ : ∃ sp : ByteArray, sp = ⟨(List.replicate mm (32 : UInt8)).toArray⟩ := ⟨_, rfl⟩
            rw [← hsp] at hsz2 ⊢
            clear hmm hbc HC4 hsp
            go_wp2
            obtain ⟨wo, rfl⟩ : ∃ wo : World, wo = wc := ⟨_, rfl⟩
            go_loopw [5, 7] (fun v kv wi => ∃ (k : Nat) (s1 : ByteArray), k ≤ 5 ∧ kv = .int .i64 k ∧ v = .string s1 ∧ s1.size ≤ 8 * i + 3 + k ∧ Cur 54 wi w.heap.size n ∧ Below w.heap.size w wi)
              (fun _ kv _ => 6 - (intOf kv).toNat)
            case atStart => exact ⟨0, _, by omega, rfl, rfl, by rw [ByteArray.size_append]; omega, HI.out.1, HI.out.2⟩
            case round =>
              obtain ⟨k, s1, hk5, rfl, rfl, hs1, hci, hbi⟩ := hrel
              have HJ := Lib.hid (And.intro hci hbi)
              clear hci hbi HI
              go_wp2_with fail
              refine (below_any _ n _ _ (by omega) (by omega) HJ.out.1).mono ?_
              rintro e wa ⟨y, rfl, ⟨hy0, hy1⟩, hcur_, hch_⟩
              have hb_ := Chg.below HJ.out.2 hch_ HJ.out.2.size (Nat.le_refl _)
              have HK := Lib.hid (And.intro hcur_ hb_)
              clear hcur_ hch_ hb_ HJ
              by_cases hky : (k : Int) ≤ y
              · go_wp2_with fail
                refine (below_any _ n _ _ (by omega) (by omega) HK.out.1).mono ?_
                rintro e wb ⟨z, rfl, ⟨hz0, hz1⟩, hcur_, hch_⟩
                have hb_ := Chg.below HK.out.2 hch_ HK.out.2.size (Nat.le_refl _)
                have HM := Lib.hid (And.intro hcur_ hb_)
                clear hcur_ hch_ hb_ HK
                have hcv := one_string_char z hz0 hz1
                go_wp2
                go_roundw
                case rel => exact ⟨k + 1, _, by omega, by go_num, rfl, by rw [ByteArray.size_append]; show _ + 1 ≤ _; omega, HM.out.1.keep ((Below.refl _ _).alloc (Nat.le_refl _) _), HM.out.2.alloc HM.out.2.size _⟩
                case measure => simp [intOf]; omega
              · go_wp2
                go_roundw
                case rel => exact ⟨i + 1, s1, by omega, by go_num, rfl, by omega, HK.out.1, HK.out.2⟩
                case measure => simp [intOf]; omega
      · go_wp2_with fail
        refine (below_any _ n _ _ (by omega) (by omega) HC.out.1).mono ?_
        rintro e wa ⟨y, rfl, ⟨hy0, hy1⟩, hcur_, hch_⟩
        have hb_ := Chg.below HC.out.2 hch_ HC.out.2.size (Nat.le_refl _)
        have HD := Lib.hid (And.intro hcur_ hb_)
        clear hcur_ hch_ hb_ HC
        rcases (show y = 0 ∨ y = 1 ∨ 2 ≤ y from by omega) with h | h | h
        · have e0 : (y == 0) = true := by simp [h]
          go_wp2_with fail
          have hlt := HD.out.1.lt
          refine (pick_any _ n wa.heap.size 6 _ (by omega) (by omega) (by omega) (by simp) ?_ (HD.out.1.keep ((Below.refl _ _).alloc (Nat.le_refl _) _))).mono ?_
          · intro j hj
            rw [World.cell?_alloc_at _ _ _ _ rfl]
            match j, hj with
            | 0, _ | 1, _ | 2, _ | 3, _ | 4, _ | 5, _ => exact ⟨_, by decide, rfl⟩
          rintro e wb ⟨z, rfl, hz, hcur_, hch_⟩
          have HE := Lib.hid (Chg.below (HD.out.2.alloc HD.out.2.size _) hch_ (by have := HD.out.2.size; simp; omega) (Nat.le_refl _))
          clear hcur_ hch_ HD
          go_wp2
          go_ret
          exact ⟨_, rfl, by rw [ByteArray.size_append]; omega, HE.out⟩
        · have e0 : (y == 0) = false := by simp [h]
          have e1 : (y == 1) = true := by simp [h]
          by_cases h6 : s.size < 600
          · go_wp2_with fail
            refine (below_any _ n _ _ (by omega) (by omega) HD.out.1).mono ?_
            rintro e wb ⟨z, rfl, ⟨hz0, hz1⟩, hcur_, hch_⟩
            have hb_ := Lib.hid (Chg.below HD.out.2 hch_ HD.out.2.size (Nat.le_refl _))
            clear hcur_ hch_ HD
            go_wp2_with fail
            obtain ⟨mm, hmm⟩ : ∃ mm : Nat, (600 : Int) - (s.size : Int) + z = (mm : Int) := ⟨(600 - (s.size : Int) + z).toNat, by omega⟩
            rw [hmm]
            refine (long_any mm 32 _ (by omega)).mono ?_
            rintro e wc ⟨rfl, hbc⟩
            have HE := Lib.hid (hb_.out.trans (hbc.mono hb_.out.size))
            have hsz2 : (ByteArray.mk (List.replicate mm (32 : UInt8)).toArray).size ≤ 601 := by show (List.replicate mm (32 : UInt8)).toArray.size ≤ _; simp; omega
            have hmm2 := Lib.hid hmm
            obtain ⟨sp, hsp⟩ : ∃ sp : ByteArray, sp = ⟨(List.replicate mm (32 : UInt8)).toArray⟩ := ⟨_, rfl⟩
            rw [← hsp] at hsz2 ⊢
            clear hmm hbc hb_ hsp
            go_wp2
            go_ret
            exact ⟨_, rfl, by rw [ByteArray.size_append]; omega, HE.out⟩
          · exfalso
            omega
        · have e0 : (y == 0) = false := by simp; omega
          have e1 : (y == 1) = false := by simp; omega
          go_wp2
          go_ret
          exact ⟨_, rfl, by omega, HD.out.2⟩
  · go_wp2_with fail
    refine (below_any _ n _ _ (by omega) (by omega) H3.out.1).mono ?_
    rintro e w4 ⟨x1, rfl, ⟨hx10, hx11⟩, hcur4, hch4⟩
    have hb4 := Chg.below H3.out.2 hch4 H3.out.2.size (Nat.le_refl _)
    have H4 := Lib.hid (And.intro hcur4 hb4)
    clear hcur4 hch4 hb4 H3
    have H3 := H4
    clear H4
    go_wp2
    have hM0 : (0 : Int) ≤ 40 + x1 := by omega
    have hM1 : (40 + x1 : Int) ≤ 41 := by omega
    go_loopw [5, 6, 7] (fun v iv _ wr => ∃ (i : Nat) (s : ByteArray), i ≤ 41 ∧ iv = .int .i64 i ∧ v = .string s ∧ s.size ≤ 8 * i ∧ Cur 54 wr w.heap.size n ∧ Below w.heap.size w wr)
      (fun _ iv _ _ => 42 - (intOf iv).toNat)
    case atStart => exact ⟨0, ⟨#[]⟩, by omega, rfl, rfl, by decide, H3.out.1, H3.out.2⟩
    case round =>
      obtain ⟨i, s, hi41, rfl, rfl, hs, hcur_, hb_⟩ := hrel
      have HC := Lib.hid (And.intro hcur_ hb_)
      clear hcur_ hb_ H3
      by_cases hlt : (i : Int) < 40 + x1
      · by_cases hi0 : 0 < i
        · go_wp2_with fail
          refine (below_any _ n _ _ (by omega) (by omega) HC.out.1).mono ?_
          rintro e wa ⟨y, rfl, ⟨hy0, hy1⟩, hcur_, hch_⟩
          have hb_ := Chg.below HC.out.2 hch_ HC.out.2.size (Nat.le_refl _)
          have HC3 := Lib.hid (And.intro hcur_ hb_)
          clear hcur_ hch_ hb_ HC
          go_wp2_with fail
          refine (below_any _ n _ _ (by omega) (by omega) HC3.out.1).mono ?_
          rintro e wb ⟨z, rfl, ⟨hz0, hz1⟩, hcur_, hch_⟩
          have hb_ := Chg.below HC3.out.2 hch_ HC3.out.2.size (Nat.le_refl _)
          have HC4 := Lib.hid (And.intro hcur_ hb_)
          clear hcur_ hch_ hb_ HC3
          have hyz : 0 ≤ y * z ∧ y * z ≤ 2 := by
            rcases (show y = 0 ∨ y = 1 from by omega) with h | h <;> subst h <;> omega
          obtain ⟨hyz0, hyz1⟩ := hyz
          go_wp2_with fail
          obtain ⟨mm, hmm⟩ : ∃ mm : Nat, (1 : Int) + y * z = (mm : Int) := ⟨(1 + y * z).toNat, by omega⟩
          rw [hmm]
          refine (long_any mm 32 _ (by omega)).mono ?_
          rintro e wc ⟨rfl, hbc⟩
          have HI := Lib.hid (And.intro (HC4.out.1.keep hbc) (HC4.out.2.trans (hbc.mono HC4.out.2.size)))
          have hsz2 : (ByteArray.mk (List.replicate mm (32 : UInt8)).toArray).size ≤ 3 := by show (List.replicate mm (32 : UInt8)).toArray.size ≤ _; simp; omega
          obtain ⟨sp, hsp⟩ : ∃ sp : ByteArray, sp = ⟨(List.replicate mm (32 : UInt8)).toArray⟩ := ⟨_, rfl⟩
          rw [← hsp] at hsz2 ⊢
          clear hmm hbc HC4 hsp
          go_wp2
          obtain ⟨wo, rfl⟩ : ∃ wo : World, wo = wc := ⟨_, rfl⟩
          go_loopw [5, 7] (fun v kv wi => ∃ (k : Nat) (s1 : ByteArray), k ≤ 5 ∧ kv = .int .i64 k ∧ v = .string s1 ∧ s1.size ≤ 8 * i + 3 + k ∧ Cur 54 wi w.heap.size n ∧ Below w.heap.size w wi)
            (fun _ kv _ => 6 - (intOf kv).toNat)
          case atStart => exact ⟨0, _, by omega, rfl, rfl, by rw [ByteArray.size_append]; omega, HI.out.1, HI.out.2⟩
          case round =>
            obtain ⟨k, s1, hk5, rfl, rfl, hs1, hci, hbi⟩ := hrel
            have HJ := Lib.hid (And.intro hci hbi)
            clear hci hbi HI
            go_wp2_with fail
            refine (below_any _ n _ _ (by omega) (by omega) HJ.out.1).mono ?_
            rintro e wa ⟨y, rfl, ⟨hy0, hy1⟩, hcur_, hch_⟩
            have hb_ := Chg.below HJ.out.2 hch_ HJ.out.2.size (Nat.le_refl _)
            have HK := Lib.hid (And.intro hcur_ hb_)
            clear hcur_ hch_ hb_ HJ
            by_cases hky : (k : Int) ≤ y
            · go_wp2_with fail
              refine (below_any _ n _ _ (by omega) (by omega) HK.out.1).mono ?_
              rintro e wb ⟨z, rfl, ⟨hz0, hz1⟩, hcur_, hch_⟩
              have hb_ := Chg.below HK.out.2 hch_ HK.out.2.size (Nat.le_refl _)
              have HM := Lib.hid (And.intro hcur_ hb_)
              clear hcur_ hch_ hb_ HK
              have hcv := one_string_char z hz0 hz1
              go_wp2
              go_roundw
              case rel => exact ⟨k + 1, _, by omega, by go_num, rfl, by rw [ByteArray.size_append]; show _ + 1 ≤ _; omega, HM.out.1.keep ((Below.refl _ _).alloc (Nat.le_refl _) _), HM.out.2.alloc HM.out.2.size _⟩
              case measure => simp [intOf]; omega
            · go_wp2
              go_roundw
              case rel => exact ⟨i + 1, s1, by omega, by go_num, rfl, by omega, HK.out.1, HK.out.2⟩
              case measure => simp [intOf]; omega
        · go_wp2_with fail
          refine (once_any _ n _ _ (by omega) (by omega) HC.out.1).mono ?_
          rintro e wa ⟨q, rfl, hcur_, hch_⟩
          have hb_ := Chg.below HC.out.2 hch_ HC.out.2.size (Nat.le_refl _)
          have HC2 := Lib.hid (And.intro hcur_ hb_)
          clear hcur_ hch_ hb_ HC
          cases q
          · go_wp2
            have HI := HC2
            clear HC2
            obtain ⟨wo, rfl⟩ : ∃ wo : World, wo = wa := ⟨_, rfl⟩
            go_loopw [5, 7] (fun v kv wi => ∃ (k : Nat) (s1 : ByteArray), k ≤ 5 ∧ kv = .int .i64 k ∧ v = .string s1 ∧ s1.size ≤ 8 * i + 3 + k ∧ Cur 54 wi w.heap.size n ∧ Below w.heap.size w wi)
              (fun _ kv _ => 6 - (intOf kv).toNat)
            case atStart => exact ⟨0, _, by omega, rfl, rfl, by omega, HI.out.1, HI.out.2⟩
            case round =>
              obtain ⟨k, s1, hk5, rfl, rfl, hs1, hci, hbi⟩ := hrel
              have HJ := Lib.hid (And.intro hci hbi)
              clear hci hbi HI
              go_wp2_with fail
              refine (below_any _ n _ _ (by omega) (by omega) HJ.out.1).mono ?_
              rintro e wa ⟨y, rfl, ⟨hy0, hy1⟩, hcur_, hch_⟩
              have hb_ := Chg.below HJ.out.2 hch_ HJ.out.2.size (Nat.le_refl _)
              have HK := Lib.hid (And.intro hcur_ hb_)
              clear hcur_ hch_ hb_ HJ
              by_cases hky : (k : Int) ≤ y
              · go_wp2_with fail
                refine (below_any _ n _ _ (by omega) (by omega) HK.out.1).mono ?_
                rintro e wb ⟨z, rfl, ⟨hz0, hz1⟩, hcur_, hch_⟩
                have hb_ := Chg.below HK.out.2 hch_ HK.out.2.size (Nat.le_refl _)
                have HM := Lib.hid (And.intro hcur_ hb_)
                clear hcur_ hch_ hb_ HK
                have hcv := one_string_char z hz0 hz1
                go_wp2
                go_roundw
                case rel => exact ⟨k + 1, _, by omega, by go_num, rfl, by rw [ByteArray.size_append]; show _ + 1 ≤ _; omega, HM.out.1.keep ((Below.refl _ _).alloc (Nat.le_refl _) _), HM.out.2.alloc HM.out.2.size _⟩
                case measure => simp [intOf]; omega
              · go_wp2
                go_roundw
                case rel => exact ⟨i + 1, s1, by omega, by go_num, rfl, by omega, HK.out.1, HK.out.2⟩
                case measure => simp [intOf]; omega
          · have HC := HC2
            clear HC2
            go_wp2_with fail
            refine (below_any _ n _ _ (by omega) (by omega) HC.out.1).mono ?_
            rintro e wa ⟨y, rfl, ⟨hy0, hy1⟩, hcur_, hch_⟩
            have hb_ := Chg.below HC.out.2 hch_ HC.out.2.size (Nat.le_refl _)
            have HC3 := Lib.hid (And.intro hcur_ hb_)
            clear hcur_ hch_ hb_ HC
            go_wp2_with fail
            refine (below_any _ n _ _ (by omega) (by omega) HC3.out.1).mono ?_
            rintro e wb ⟨z, rfl, ⟨hz0, hz1⟩, hcur_, hch_⟩
            have hb_ := Chg.below HC3.out.2 hch_ HC3.out.2.size (Nat.le_refl _)
            have HC4 := Lib.hid (And.intro hcur_ hb_)
            clear hcur_ hch_ hb_ HC3
            have hyz : 0 ≤ y * z ∧ y * z ≤ 2 := by
              rcases (show y = 0 ∨ y = 1 from by omega) with h | h <;> subst h <;> omega
            obtain ⟨hyz0, hyz1⟩ := hyz
            go_wp2_with fail
            obtain ⟨mm, hmm⟩ : ∃ mm : Nat, (1 : Int) + y * z = (mm : Int) := ⟨(1 + y * z).toNat, by omega⟩
            rw [hmm]
            refine (long_any mm 32 _ (by omega)).mono ?_
            rintro e wc ⟨rfl, hbc⟩
            have HI := Lib.hid (And.intro (HC4.out.1.keep hbc) (HC4.out.2.trans (hbc.mono HC4.out.2.size)))
            have hsz2 : (ByteArray.mk (List.replicate mm (32 : UInt8)).toArray).size ≤ 3 := by show (List.replicate mm (32 : UInt8)).toArray.size ≤ _; simp; omega
            obtain ⟨sp, hsp⟩ : ∃ sp : ByteArray, sp = ⟨(List.replicate mm (32 : UInt8)).toArray⟩ := ⟨_, rfl⟩
            rw [← hsp] at hsz2 ⊢
            clear hmm hbc HC4 hsp
            go_wp2
            obtain ⟨wo, rfl⟩ : ∃ wo : World, wo = wc := ⟨_, rfl⟩
            go_loopw [5, 7] (fun v kv wi => ∃ (k : Nat) (s1 : ByteArray), k ≤ 5 ∧ kv = .int .i64 k ∧ v = .string s1 ∧ s1.size ≤ 8 * i + 3 + k ∧ Cur 54 wi w.heap.size n ∧ Below w.heap.size w wi)
              (fun _ kv _ => 6 - (intOf kv).toNat)
            case atStart => exact ⟨0, _, by omega, rfl, rfl, by rw [ByteArray.size_append]; omega, HI.out.1, HI.out.2⟩
            case round =>
              obtain ⟨k, s1, hk5, rfl, rfl, hs1, hci, hbi⟩ := hrel
              have HJ := Lib.hid (And.intro hci hbi)
              clear hci hbi HI
              go_wp2_with fail
              refine (below_any _ n _ _ (by omega) (by omega) HJ.out.1).mono ?_
              rintro e wa ⟨y, rfl, ⟨hy0, hy1⟩, hcur_, hch_⟩
              have hb_ := Chg.below HJ.out.2 hch_ HJ.out.2.size (Nat.le_refl _)
              have HK := Lib.hid (And.intro hcur_ hb_)
              clear hcur_ hch_ hb_ HJ
              by_cases hky : (k : Int) ≤ y
              · go_wp2_with fail
                refine (below_any _ n _ _ (by omega) (by omega) HK.out.1).mono ?_
                rintro e wb ⟨z, rfl, ⟨hz0, hz1⟩, hcur_, hch_⟩
                have hb_ := Chg.below HK.out.2 hch_ HK.out.2.size (Nat.le_refl _)
                have HM := Lib.hid (And.intro hcur_ hb_)
                clear hcur_ hch_ hb_ HK
                have hcv := one_string_char z hz0 hz1
                go_wp2
                go_roundw
                case rel => exact ⟨k + 1, _, by omega, by go_num, rfl, by rw [ByteArray.size_append]; show _ + 1 ≤ _; omega, HM.out.1.keep ((Below.refl _ _).alloc (Nat.le_refl _) _), HM.out.2.alloc HM.out.2.size _⟩
                case measure => simp [intOf]; omega
              · go_wp2
                go_roundw
                case rel => exact ⟨i + 1, s1, by omega, by go_num, rfl, by omega, HK.out.1, HK.out.2⟩
                case measure => simp [intOf]; omega
      · go_wp2_with fail
        refine (below_any _ n _ _ (by omega) (by omega) HC.out.1).mono ?_
        rintro e wa ⟨y, rfl, ⟨hy0, hy1⟩, hcur_, hch_⟩
        have hb_ := Chg.below HC.out.2 hch_ HC.out.2.size (Nat.le_refl _)
        have HD := Lib.hid (And.intro hcur_ hb_)
        clear hcur_ hch_ hb_ HC
        rcases (show y = 0 ∨ y = 1 ∨ 2 ≤ y from by omega) with h | h | h
        · have e0 : (y == 0) = true := by simp [h]
          go_wp2_with fail
          have hlt := HD.out.1.lt
          refine (pick_any _ n wa.heap.size 6 _ (by omega) (by omega) (by omega) (by simp) ?_ (HD.out.1.keep ((Below.refl _ _).alloc (Nat.le_refl _) _))).mono ?_
          · intro j hj
            rw [World.cell?_alloc_at _ _ _ _ rfl]
            match j, hj with
            | 0, _ | 1, _ | 2, _ | 3, _ | 4, _ | 5, _ => exact ⟨_, by decide, rfl⟩
          rintro e wb ⟨z, rfl, hz, hcur_, hch_⟩
          have HE := Lib.hid (Chg.below (HD.out.2.alloc HD.out.2.size _) hch_ (by have := HD.out.2.size; simp; omega) (Nat.le_refl _))
          clear hcur_ hch_ HD
          go_wp2
          go_ret
          exact ⟨_, rfl, by rw [ByteArray.size_append]; omega, HE.out⟩
        · have e0 : (y == 0) = false := by simp [h]
          have e1 : (y == 1) = true := by simp [h]
          by_cases h6 : s.size < 600
          · go_wp2_with fail
            refine (below_any _ n _ _ (by omega) (by omega) HD.out.1).mono ?_
            rintro e wb ⟨z, rfl, ⟨hz0, hz1⟩, hcur_, hch_⟩
            have hb_ := Lib.hid (Chg.below HD.out.2 hch_ HD.out.2.size (Nat.le_refl _))
            clear hcur_ hch_ HD
            go_wp2_with fail
            obtain ⟨mm, hmm⟩ : ∃ mm : Nat, (600 : Int) - (s.size : Int) + z = (mm : Int) := ⟨(600 - (s.size : Int) + z).toNat, by omega⟩
            rw [hmm]
            refine (long_any mm 32 _ (by omega)).mono ?_
            rintro e wc ⟨rfl, hbc⟩
            have HE := Lib.hid (hb_.out.trans (hbc.mono hb_.out.size))
            have hsz2 : (ByteArray.mk (List.replicate mm (32 : UInt8)).toArray).size ≤ 601 := by show (List.replicate mm (32 : UInt8)).toArray.size ≤ _; simp; omega
            have hmm2 := Lib.hid hmm
            obtain ⟨sp, hsp⟩ : ∃ sp : ByteArray, sp = ⟨(List.replicate mm (32 : UInt8)).toArray⟩ := ⟨_, rfl⟩
            rw [← hsp] at hsz2 ⊢
            clear hmm hbc hb_ hsp
            go_wp2
            go_ret
            exact ⟨_, rfl, by rw [ByteArray.size_append]; omega, HE.out⟩
          · exfalso
            omega
        · have e0 : (y == 0) = false := by simp; omega
          have e1 : (y == 1) = false := by simp; omega
          go_wp2
          go_ret
          exact ⟨_, rfl, by omega, HD.out.2⟩
end Go.Proofs.YtgihjgjjakjccaaDoor
