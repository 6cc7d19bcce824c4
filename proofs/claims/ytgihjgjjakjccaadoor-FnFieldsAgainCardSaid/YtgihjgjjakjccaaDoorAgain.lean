/-
  The walk of the law FnFieldsAgain.
-/
import Derived.Test.YtgihjgjjakjccaaDoorJoinMath
import Derived.Test.YtgihjgjjakjccaaDoorSplitB
import Derived.Test.YtgihjgjjakjccaaDoorDrawSplit
import Derived.Test.YtgihjgjjakjccaaDoorSame
import Derived.Test.YtgihjgjjakjccaaDoorFmtB
namespace Go.Proofs.YtgihjgjjakjccaaDoor
open Go.RowKit

theorem itoa_m3 : Lib.itoa (-3) = [45, 51] := by
  unfold Lib.itoa
  rw [if_pos (by omega), show (-3 : Int).natAbs = 3 from rfl, Lib.decDigits_one (by omega)]
  rfl

set_option maxRecDepth 100000 in
set_option maxHeartbeats 2000000 in
theorem fieldsAgain_walk (a0 : Option Addr) (len0 cap0 : Nat) (z0 : List Int) (w : World) (w0 : IsRow .u8 w a0 len0 cap0 z0) (hL : laidMetH Tryd.prog Rows.fnFieldsAgainRow.laid w) :
    Calls Tryd.prog 5 #[.slice a0 len0 cap0] w fun e w' => e = .returned (.bool true) ∧ Below w.heap.size w w' := by
  have hT : PowTab w := powTab_of (laidMet.tail (laidMet.tail hL))
  have HT := Lib.hid hT
  have hc := w0.codeW
  clear hL hT w0
  go_enter Tryd.func5, Tryd.ntmps5
  go_wp2_with fail
  refine (big_any a0 len0 cap0 _).mono ?_
  rintro e w' ⟨rfl, rfl⟩
  by_cases hbig : 1048576 < (len0 : Int)
  · go_wp2_with fail
    go_ret
    exact ⟨rfl, Below.refl _ _⟩
  · go_wp2_with fail
    refine (drawSplit_any a0 len0 cap0 _ hc).mono ?_
    rintro e w1 ⟨s, rfl, hs, hb1⟩
    have HB1 := Lib.hid hb1
    clear hb1 hc
    go_wp2_with fail
    refine (implSplit_any s _ (by omega)).mono ?_
    rintro e w2 ⟨v, L, ok, rfl, hf, ho, hb2⟩
    have hl := hf.len
    have HF := Lib.hid hf
    have HO := Lib.hid ho
    have HB2 := Lib.hid (HB1.out.trans (hb2.mono HB1.out.size))
    clear hf ho hb2 HB1
    go_wp2_with fail
    refine (specSplit_any s _ (by omega)).mono ?_
    rintro e w3 ⟨v', L', ok', rfl, hf', _, hb3⟩
    obtain ⟨rfl, rfl⟩ := HF.out.uniq hf'
    have HO3 := Lib.hid (HO.out.below hb3)
    have HB3 := Lib.hid (HB2.out.trans (hb3.mono HB2.out.size))
    clear hf' hb3 HB2 HO
    cases ok
    · obtain rfl : L = [] := by rcases HF.out with ⟨h, _⟩ | ⟨_, h, _⟩; · cases h
                                · exact h
      obtain ⟨A, c, hv, _⟩ := HO3.out.shape
      subst hv
      have h3 := itoa_m3
      go_wp2_with fail
      refine (implFmt_any (-3) _ (by omega) (by omega) (HT.out.keep HB3.out)).mono ?_
      rintro e w4 ⟨rfl, hb4⟩
      have HB4 := Lib.hid (HB3.out.trans (hb4.mono HB3.out.size))
      clear hb4 HB3
      go_wp2
      go_ret
      exact ⟨rfl, HB4.out⟩
    · obtain ⟨A, c, hv, hcell⟩ := HO3.out.shape
      have HV := Lib.hid hcell
      subst hv
      clear hcell
      go_wp2
      go_loop [8, 9] (fun tv kv => ∃ (k : Nat) (t : ByteArray), k ≤ L.length ∧ kv = .int .i64 k ∧ tv = .string t ∧ t.size ≤ 601 * k ∧ t.data.toList = joinF ((L.take k).map fun x => x.data.toList)) (fun _ kv => L.length - (intOf kv).toNat)
      case atStart => exact ⟨0, ⟨#[]⟩, by omega, rfl, rfl, by decide, rfl⟩
      case round =>
        obtain ⟨k, t, hk, rfl, rfl, hts, hj⟩ := hrel
        have HJ := Lib.hid hj
        clear hj
        by_cases hlt : k < L.length
        · obtain ⟨g, rfl, c1, _⟩ := HV.out k hlt
          rw [List.getElem?_eq_getElem hlt, Option.getD_some] at c1
          have hxs := fld_size HF.out L[k] (List.getElem_mem hlt)
          obtain ⟨x, hx⟩ : ∃ x, x = L[k] := ⟨_, rfl⟩
          rw [← hx] at c1 hxs
          have HX := Lib.hid hx
          clear hx HV
          go_wp2
          go_round
          case rel =>
            refine ⟨k + 1, _, by omega, by go_num, rfl, ?_, ?_⟩
            · rw [ByteArray.size_append, ByteArray.size_append]
              show t.size + x.size + 1 ≤ _
              omega
            · have e : L.take (k + 1) = L.take k ++ [x] := by rw [HX.out, List.take_succ_eq_append_getElem hlt]
              rw [e]
              unfold joinF at HJ ⊢
              rw [List.map_append, List.flatMap_append, ← HJ.out]
              simp
          case measure => simp [intOf]; omega
        · obtain rfl : k = L.length := by omega
          have hj := HJ.out
          rw [List.take_length] at hj
          have HJ2 := Lib.hid hj
          clear hj HJ HV
          go_wp2_with fail
          refine (implSplit_any t _ (by omega)).mono ?_
          rintro e w4 ⟨v2, L2, ok2, rfl, hf2, ho2, hb4⟩
          have HF2 := Lib.hid hf2
          have HO2 := Lib.hid ho2
          have HO4 := Lib.hid (HO3.out.below hb4)
          have HB4 := Lib.hid (HB3.out.trans (hb4.mono HB3.out.size))
          clear hf2 ho2 hb4 HB3 HO3
          by_cases ht6 : 600 < t.size
          · go_wp2
            go_ret
            exact ⟨rfl, HB4.out⟩
          · obtain ⟨rfl, rfl⟩ := HF2.out.uniq (again HF.out HJ2.out (by omega))
            go_wp2_with fail
            refine (same_any _ _ _ _ L2 _ HO4.out HO2.out (by omega)).mono ?_
            rintro e w5 ⟨rfl, hb5⟩
            have HB5 := Lib.hid (HB4.out.trans (hb5.mono HB4.out.size))
            clear hb5 HB4
            go_wp2
            go_ret
            exact ⟨rfl, HB5.out⟩
end Go.Proofs.YtgihjgjjakjccaaDoor
