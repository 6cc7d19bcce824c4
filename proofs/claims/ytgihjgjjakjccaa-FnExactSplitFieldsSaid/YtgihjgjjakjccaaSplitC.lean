/-
  The walk of the law FnExactSplitFields.
-/
import Derived.Test.YtgihjgjjakjccaaSplitB
namespace Go.Proofs.Ytgihjgjjakjccaa
open Go.RowKit

set_option maxHeartbeats 1000000 in
theorem exactSplitFields_walk (s : ByteArray) (hm : s.size ≤ maxLen) (w : World) :
    Calls Try.prog 6 #[.string s] w fun e w' => e = .returned (.bool true) ∧ Below w.heap.size w w' := by
  unfold maxLen at hm
  by_cases h2 : s.size ≤ 1048576
  · go_enter Try.func6, Try.ntmps6
    go_wp2_with fail
    refine (specSplit_any s _ h2).mono ?_
    rintro e w1 ⟨v1, L, ok, rfl, hf, ho1, hb1⟩
    have hl := hf.len
    have HF := Lib.hid hf
    have HO1 := Lib.hid ho1
    have HB1 := Lib.hid hb1
    clear hf ho1 hb1
    go_wp2_with fail
    refine (implSplit_any s _ h2).mono ?_
    rintro e w2 ⟨v2, L2, ok2, rfl, hf2, ho2, hb2⟩
    obtain ⟨rfl, rfl⟩ := HF.out.uniq hf2
    have HO1' := Lib.hid (HO1.out.below hb2)
    have HO2 := Lib.hid ho2
    have HB2 := Lib.hid (HB1.out.trans (hb2.mono HB1.out.size))
    have HS1 := HB1.out.size
    have HS2 := hb2.size
    -- the row of the first answer lies below the second's
    have hr1 := Lib.hid (fun j (hj : v1.ownBlock = some j) => (HO1.out.lt j hj))
    have hr2 := Lib.hid (fun j (hj : v2.ownBlock = some j) => (ho2.lt j hj))
    clear hf2 ho2 hb2
    go_wp2_with fail
    refine (eqS_any _ _ v2 v1 L _ HO2.out HO1'.out (by omega)).mono ?_
    rintro e w3 ⟨rfl, hb3⟩
    have HO1a := Lib.hid (HO1'.out.below hb3)
    have HO2a := Lib.hid (HO2.out.below hb3)
    have HB3 := Lib.hid (HB2.out.trans (hb3.mono HB2.out.size))
    have HS3 := hb3.size
    clear hb3
    go_wp2_with fail
    refine (markS_any _ v2 L _ HO2a.out (by omega) 1 (by omega) (by omega)).mono ?_
    rintro e w4 ⟨rfl, ho4, hg4⟩
    have HO4 := Lib.hid ho4
    have HO1b := Lib.hid (show OwnsS w4 w.heap.size v1 L from HO1a.out.kept hg4 (by
      cases h1 : v1.ownBlock with
      | none => exact .inl rfl
      | some j =>
        refine .inr (fun e => ?_)
        have hlt1 := hr1.out j h1
        have hlt2 := hr2.out j e.symm
        omega))
    have HB4 := Lib.hid (HB3.out.grown hg4 HB3.out.size (fun j hj => by have := hr2.out j hj; omega))
    have HS4 := hg4.size
    clear ho4 hg4
    go_wp2_with fail
    refine (heldS_any _ v2 L.length _ 1 HO4.out (by omega) (by omega) (by omega)).mono ?_
    rintro e w5 ⟨rfl, hb5⟩
    have HO4a := Lib.hid (HO4.out.below hb5)
    have HO1c := Lib.hid (HO1b.out.below hb5)
    have HB5 := Lib.hid (HB4.out.trans (hb5.mono HB4.out.size))
    clear hb5
    have HS5 := HB5.out.size
    go_wp2_with fail
    refine (implSplit_any s _ h2).mono ?_
    rintro e w6 ⟨v3, L3, ok3, rfl, hf3, ho6, hb6⟩
    obtain ⟨rfl, rfl⟩ := HF.out.uniq hf3
    have HO4b := Lib.hid (HO4a.out.below hb6)
    have HO1d := Lib.hid (HO1c.out.below hb6)
    have HO6 := Lib.hid ho6
    have HB6 := Lib.hid (HB5.out.trans (hb6.mono HB5.out.size))
    clear hf3 ho6 hb6
    go_wp2_with fail
    refine (eqS_any _ _ v3 v1 L _ HO6.out HO1d.out (by omega)).mono ?_
    rintro e w7 ⟨rfl, hb7⟩
    have HO4c := Lib.hid (HO4b.out.below hb7)
    have HB7 := Lib.hid (HB6.out.trans (hb7.mono HB6.out.size))
    clear hb7
    go_wp2_with fail
    refine (heldS_any _ v2 L.length _ 1 HO4c.out (by omega) (by omega) (by omega)).mono ?_
    rintro e w8 ⟨rfl, hb8⟩
    have HB8 := Lib.hid (HB7.out.trans (hb8.mono HB7.out.size))
    clear hb8
    go_wp2
    go_ret
    exact ⟨rfl, HB8.out⟩
  · go_enter Try.func6, Try.ntmps6
    go_wp2_with fail
    go_ret
    exact ⟨rfl, Below.refl _ _⟩
end Go.Proofs.Ytgihjgjjakjccaa
