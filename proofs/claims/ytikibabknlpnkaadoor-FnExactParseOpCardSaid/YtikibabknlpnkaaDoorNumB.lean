/-
  The contract of spec.ParseUint; the walk of the law FnExactParseUint.
-/
import Derived.Test.YtikibabknlpnkaaDoorNumA
namespace Go.Proofs.YtikibabknlpnkaaDoor
open Go.RowKit
set_option linter.unusedSimpArgs false

theorem specParse_long (s : ByteArray) (w : World) (hs : 10 < s.size) (hm : s.size ≤ 1048576) :
    Calls Tryd.prog 25 #[.string s] w (ParsedPost s.data.toList w) := by
  go_enter Tryd.func25, Tryd.ntmps25
  go_wp2
  go_ret2
  exact ⟨0, false, rfl, .inr ⟨rfl, rfl, fun n hn => by have := hn.len; simp at this; omega⟩, Below.refl _ _⟩

set_option maxRecDepth 100000 in
set_option maxHeartbeats 800000 in
theorem specParse_short (s : ByteArray) (w : World) (hs : s.size ≤ 10) :
    Calls Tryd.prog 25 #[.string s] w (ParsedPost s.data.toList w) := by
  go_enter Tryd.func25, Tryd.ntmps25
  go_wp2
  go_loop [4, 5] (fun v i => ∃ k m : Nat, k ≤ s.size ∧ i = .int .i64 k ∧ v = .int .i64 m ∧ m < 100000000000000000 ∧ Lib.decFrom 0 (s.data.toList.take k) = some m) (fun _ i => s.size - (intOf i).toNat)
  case atStart => exact ⟨0, 0, Nat.zero_le _, rfl, rfl, by omega, rfl⟩
  case round =>
    obtain ⟨k, m, hk, rfl, rfl, hm, hd⟩ := hrel
    have HD := Lib.hid hd
    clear hd
    by_cases hlt : k < s.size
    · have hg : s.data.toList[k]? = some s[k] := by rw [List.getElem?_eq_getElem (by simpa using hlt)]; rfl
      have HG := Lib.hid hg
      clear hg
      have hmm : (m : Int) ≤ 10000000000 := by
        have h1 := Lib.decFrom_lt _ _ _ HD.out
        have h2 : (s.data.toList.take k).length ≤ 10 := by rw [List.length_take]; omega
        have h3 : 10 ^ (s.data.toList.take k).length ≤ 10 ^ 10 := Nat.pow_le_pow_right (by omega) h2
        have h4 : (10 : Nat) ^ 10 = 10000000000 := by decide
        omega
      go_wp2
      all_goals
        first
          | (go_ret2
             refine ⟨0, false, rfl, .inr ⟨rfl, rfl, fun n hn => ?_⟩, Below.refl _ _⟩
             obtain ⟨d, hd⟩ := Lib.digit_of_decFrom _ _ _ hn.dec k _ HG.out
             have := Lib.digitVal_eq hd
             omega)
          | (go_round
             have hx := s[k].toNat_lt
             have hdv : Lib.digitVal s[k] = some (s[k].toNat - 48) := by unfold Lib.digitVal; rw [if_pos (by omega)]
             have hn := Lib.decFrom_take _ _ _ _ _ _ HD.out HG.out hdv
             case rel => exact ⟨k + 1, m * 10 + (s[k].toNat - 48), by omega, by go_num, by congr 1; omega, Lib.decFrom_take_lt hn (by omega), hn⟩
             case measure => simp [intOf]; omega)
    · obtain rfl : k = s.size := by omega
      have hd := HD.out
      rw [List.take_of_length_le (by simp)] at hd
      have hno : ∀ n, IsNum s.data.toList n → n = m := fun n hn => by have := hn.dec.symm.trans hd; injection this with h; have := hn.1; omega
      have HN := Lib.hid hno
      clear hno hd
      by_cases h2 : 1000000000 < (m : Int)
      · go_wp2
        go_ret2
        exact ⟨0, false, rfl, .inr ⟨rfl, rfl, fun n hn => by have := HN.out n hn; have := hn.2.1; omega⟩, Below.refl _ _⟩
      · by_cases hq : Lib.itoa m = s.data.toList
        · have HQ := Lib.hid hq
          have e1 : (Lib.itoa m == s.toList) = true := by rw [same_text]; simpa using hq
          clear hq
          go_wp2_with fail
          refine (specFmt_any m _ (by omega) (by omega)).mono ?_
          rintro e w2 ⟨rfl, hb2⟩
          have HB2 := Lib.hid hb2
          clear hb2
          go_wp2
          go_ret2
          exact ⟨m, true, rfl, .inl ⟨rfl, by omega, by omega, HQ.out⟩, HB2.out⟩
        · have HQ := Lib.hid hq
          have e1 : (Lib.itoa m == s.toList) = false := by rw [same_text]; simpa using hq
          clear hq
          go_wp2_with fail
          refine (specFmt_any m _ (by omega) (by omega)).mono ?_
          rintro e w2 ⟨rfl, hb2⟩
          have HB2 := Lib.hid hb2
          clear hb2
          go_wp2
          go_ret2
          exact ⟨0, false, rfl, .inr ⟨rfl, rfl, fun n hn => by have h := HN.out n hn; subst h; exact HQ.out hn.2.2⟩, HB2.out⟩

theorem specParse_any (s : ByteArray) (w : World) (hm : s.size ≤ 1048576) : Calls Tryd.prog 25 #[.string s] w (ParsedPost s.data.toList w) := by
  by_cases h : s.size ≤ 10
  · exact specParse_short s w h
  · exact specParse_long s w (by omega) hm

theorem tSyn : (Tryd.prog.globals[2]?).map (·.type) = some 60 := by kernel_rfl
theorem tRan : (Tryd.prog.globals[3]?).map (·.type) = some 60 := by kernel_rfl
theorem starErr : "*" ++ "errors.errorString" = "*errors.errorString" := by decide
theorem rowErr (u : TypeId) (h : Tryd.prog.typeName? 3 u = some "*errors.errorString") : u = 96 :=
  typeName_ptr_named (nm := "errors.errorString") (by rw [starErr]; kernel_rfl) (by kernel_rfl) (by decide) u (by rw [starErr]; exact h)
theorem cellsErr : Tryd.prog.cellsOf 98 = 1 := by kernel_rfl
theorem cellsStr : Tryd.prog.cellsOf 9 = 1 := by kernel_rfl
theorem errs_of {W : World} {rest : List (String × DataW Unit)} (h : laidMet Tryd.prog (("strconv.ErrRange", Rows.laid_strconv_ErrRange) :: ("strconv.ErrSyntax", Rows.laid_strconv_ErrSyntax) :: rest) W) : Errs W := by
  obtain ⟨a, s, h1, _⟩ := laid_sentinel h gRan tRan Tryd.underlying60 rowErr Tryd.underlying96 Tryd.underlying98 rfl rfl Tryd.underlying9 cellsErr cellsStr
  obtain ⟨b, t, h2, _⟩ := laid_sentinel h.tail gSyn tSyn Tryd.underlying60 rowErr Tryd.underlying96 Tryd.underlying98 rfl rfl Tryd.underlying9 cellsErr cellsStr
  exact ⟨⟨_, _, h2⟩, ⟨_, _, h1⟩⟩

end Go.Proofs.YtikibabknlpnkaaDoor
