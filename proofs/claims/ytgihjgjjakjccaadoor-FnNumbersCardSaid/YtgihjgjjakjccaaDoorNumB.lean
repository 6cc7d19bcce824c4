/-
  The contract of spec.ParseUint; the walk of the law FnExactParseUint.
-/
import Derived.Test.YtgihjgjjakjccaaDoorNumA
namespace Go.Proofs.YtgihjgjjakjccaaDoor
open Go.RowKit

theorem specParse_long (s : ByteArray) (w : World) (hs : 10 < s.size) (hm : s.size ≤ 1048576) :
    Calls Tryd.prog 20 #[.string s] w (ParsedPost s.data.toList w) := by
  go_enter Tryd.func20, Tryd.ntmps20
  go_wp2
  go_ret2
  exact ⟨0, false, rfl, .inr ⟨rfl, rfl, fun n hn => by have := hn.len; simp at this; omega⟩, Below.refl _ _⟩

set_option maxRecDepth 100000 in
set_option maxHeartbeats 800000 in
theorem specParse_short (s : ByteArray) (w : World) (hs : s.size ≤ 10) :
    Calls Tryd.prog 20 #[.string s] w (ParsedPost s.data.toList w) := by
  go_enter Tryd.func20, Tryd.ntmps20
  go_wp2
  go_loop [4, 5] (fun v i => ∃ k m : Nat, k ≤ s.size ∧ i = .int .i64 k ∧ v = .int .i64 m ∧ m < 100000000000000000 ∧ Lib.decFrom 0 (s.data.toList.take k) = some m) (fun _ i => s.size - (intOf i).toNat)
  case atStart => exact ⟨0, 0, Nat.zero_le _, rfl, rfl, by omega, rfl⟩
  case round =>
    obtain ⟨k, m, hk, rfl, rfl, hm, hd⟩ := hrel
    have HD := Lib.hid hd
    clear hd
    by_cases hlt : k < s.size
    · have hg : s.data.toList[k]? = some s[k] := by rw [List.getElem?_eq_getElem (by simpa using hlt)]; rfl
      have HG := Lib.hid hg
      clear hg
      have hmm : (m : Int) ≤ 10000000000 := by
        have h1 := Lib.decFrom_lt _ _ _ HD.out
        have h2 : (s.data.toList.take k).length ≤ 10 := by rw [List.length_take]; omega
        have h3 : 10 ^ (s.data.toList.take k).length ≤ 10 ^ 10 := Nat.pow_le_pow_right (by omega) h2
        have h4 : (10 : Nat) ^ 10 = 10000000000 := by decide
        omega
      go_wp2
      all_goals
        first
          | (go_ret2
             refine ⟨0, false, rfl, .inr ⟨rfl, rfl, fun n hn => ?_⟩, Below.refl _ _⟩
             obtain ⟨d, hd⟩ := Lib.digit_of_decFrom _ _ _ hn.dec k _ HG.out
             have := Lib.digitVal_eq hd
             omega)
          | (go_round
             have hx := s[k].toNat_lt
             have hdv : Lib.digitVal s[k] = some (s[k].toNat - 48) := by unfold Lib.digitVal; rw [if_pos (by omega)]
             have hn := Lib.decFrom_take _ _ _ _ _ _ HD.out HG.out hdv
             case rel => exact ⟨k + 1, m * 10 + (s[k].toNat - 48), by omega, by go_num, by congr 1; omega, Lib.decFrom_take_lt hn (by omega), hn⟩
             case measure => simp [intOf]; omega)
    · obtain rfl : k = s.size := by omega
      have hd := HD.out
      rw [List.take_of_length_le (by simp)] at hd
      have hno : ∀ n, IsNum s.data.toList n → n = m := fun n hn => by have := hn.dec.symm.trans hd; injection this with h; have := hn.1; omega
      have HN := Lib.hid hno
      clear hno hd
      by_cases h2 : 1000000000 < (m : Int)
      · go_wp2
        go_ret2
        exact ⟨0, false, rfl, .inr ⟨rfl, rfl, fun n hn => by have := HN.out n hn; have := hn.2.1; omega⟩, Below.refl _ _⟩
      · by_cases hq : Lib.itoa m = s.data.toList
        · have HQ := Lib.hid hq
          have e1 : (Lib.itoa m == s.toList) = true := by rw [same_text]; simpa using hq
          clear hq
          go_wp2_with fail
          refine (specFmt_any m _ (by omega) (by omega)).mono ?_
          rintro e w2 ⟨rfl, hb2⟩
          have HB2 := Lib.hid hb2
          clear hb2
          go_wp2
          go_ret2
          exact ⟨m, true, rfl, .inl ⟨rfl, by omega, by omega, HQ.out⟩, HB2.out⟩
        · have HQ := Lib.hid hq
          have e1 : (Lib.itoa m == s.toList) = false := by rw [same_text]; simpa using hq
          clear hq
          go_wp2_with fail
          refine (specFmt_any m _ (by omega) (by omega)).mono ?_
          rintro e w2 ⟨rfl, hb2⟩
          have HB2 := Lib.hid hb2
          clear hb2
          go_wp2
          go_ret2
          exact ⟨0, false, rfl, .inr ⟨rfl, rfl, fun n hn => by have h := HN.out n hn; subst h; exact HQ.out hn.2.2⟩, HB2.out⟩

theorem specParse_any (s : ByteArray) (w : World) (hm : s.size ≤ 1048576) : Calls Tryd.prog 20 #[.string s] w (ParsedPost s.data.toList w) := by
  by_cases h : s.size ≤ 10
  · exact specParse_short s w h
  · exact specParse_long s w (by omega) hm

theorem tSyn : (Tryd.prog.globals[1]?).map (·.type) = some 47 := by kernel_rfl
theorem tRan : (Tryd.prog.globals[2]?).map (·.type) = some 47 := by kernel_rfl
theorem starErr : "*" ++ "errors.errorString" = "*errors.errorString" := by decide
theorem rowErr (u : TypeId) (h : Tryd.prog.typeName? 3 u = some "*errors.errorString") : u = 85 :=
  typeName_ptr_named (nm := "errors.errorString") (by rw [starErr]; kernel_rfl) (by kernel_rfl) (by decide) u (by rw [starErr]; exact h)
theorem cellsErr : Tryd.prog.cellsOf 87 = 1 := by kernel_rfl
theorem cellsStr : Tryd.prog.cellsOf 9 = 1 := by kernel_rfl
theorem errs_of {W : World} {rest : List (String × DataW Unit)} (h : laidMet Tryd.prog (("strconv.ErrRange", Rows.laid_strconv_ErrRange) :: ("strconv.ErrSyntax", Rows.laid_strconv_ErrSyntax) :: rest) W) : Errs W := by
  obtain ⟨a, s, h1, _⟩ := laid_sentinel h gRan tRan Tryd.underlying47 rowErr Tryd.underlying85 Tryd.underlying87 rfl rfl Tryd.underlying9 cellsErr cellsStr
  obtain ⟨b, t, h2, _⟩ := laid_sentinel h.tail gSyn tSyn Tryd.underlying47 rowErr Tryd.underlying85 Tryd.underlying87 rfl rfl Tryd.underlying9 cellsErr cellsStr
  exact ⟨⟨_, _, h2⟩, ⟨_, _, h1⟩⟩

set_option maxHeartbeats 400000 in
theorem exactParseUint_walk (s : ByteArray) (hm : s.size ≤ maxLen) (w : World) (hL : laidMetH Tryd.prog Rows.fnExactParseUintRow.laid w) :
    Calls Tryd.prog 7 #[.string s] w fun e w' => e = .returned (.bool true) ∧ Below w.heap.size w w' := by
  have hT : PowTab w := powTab_of (laidMet.tail (laidMet.tail hL))
  have hE : Errs w := errs_of (laidMet.tail (laidMet.tail (laidMet.tail hL)))
  have HT := Lib.hid hT
  have HE := Lib.hid hE
  unfold maxLen at hm
  clear hL hT hE
  by_cases h2 : s.size ≤ 1048576
  · go_enter Tryd.func7, Tryd.ntmps7
    go_wp2_with fail
    refine (specParse_any s _ h2).mono ?_
    rintro e w1 ⟨x, ok, rfl, hp, hb1⟩
    have HB1 := Lib.hid hb1
    have HP := Lib.hid hp
    clear hb1 hp
    go_wp2_with fail
    refine (implParse_any s _ h2 (HT.out.keep HB1.out) (HE.out.keep HB1.out)).mono ?_
    rintro e w2 ⟨y, ok2, rfl, hp2, hb2⟩
    obtain ⟨rfl, rfl⟩ := HP.out.uniq hp2
    have HB2 := Lib.hid hb2
    clear hb2 hp2
    go_wp2
    go_ret
    exact ⟨rfl, HB1.out.trans (HB2.out.mono HB1.out.size)⟩
  · go_enter Tryd.func7, Tryd.ntmps7
    go_wp2_with fail
    go_ret
    exact ⟨rfl, Below.refl _ _⟩
end Go.Proofs.YtgihjgjjakjccaaDoor
