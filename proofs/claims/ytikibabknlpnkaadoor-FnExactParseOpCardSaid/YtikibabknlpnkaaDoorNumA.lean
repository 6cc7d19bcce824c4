/-
  The contract of impl.ParseUint.
-/
import Derived.Test.YtikibabknlpnkaaDoorFmtB
import Derived.Test.YtikibabknlpnkaaDoorNumMath
namespace Go.Proofs.YtikibabknlpnkaaDoor
open Go.RowKit

/-- What the walks are told of the two errors of Go's library. -/
structure Errs (W : World) : Prop where
  syn : ∃ tp p, W.var? Tryd.prog "strconv.ErrSyntax" = some #[.iface tp p]
  ran : ∃ tp p, W.var? Tryd.prog "strconv.ErrRange" = some #[.iface tp p]
theorem gSyn : Tryd.prog.globalNamed "strconv.ErrSyntax" = some 2 := by kernel_rfl
theorem gRan : Tryd.prog.globalNamed "strconv.ErrRange" = some 3 := by kernel_rfl
theorem var_lt {W : World} {n : String} {g : Nat} {cs : Array Value} (hg : Tryd.prog.globalNamed n = some g) (h : W.var? Tryd.prog n = some cs) : g < W.heap.size := by
  unfold World.var? at h
  simp only [hg, Option.bind_some] at h
  rcases Nat.lt_or_ge g W.heap.size with hh | hh
  · exact hh
  · rw [Array.getElem?_eq_none hh] at h; cases h
theorem Errs.keep {W W' : World} (h : Errs W) (hb : Below W.heap.size W W') : Errs W' := by
  obtain ⟨⟨t1, p1, h1⟩, ⟨t2, p2, h2⟩⟩ := h
  exact ⟨⟨t1, p1, var?_below hb gSyn (var_lt gSyn h1) h1⟩, ⟨t2, p2, var?_below hb gRan (var_lt gRan h2) h2⟩⟩
/-- The test of a text against the numeral of v. -/
theorem same_text (v : Int) (s : ByteArray) : (Lib.itoa v == s.toList) = decide (Lib.itoa v = s.data.toList) := by
  rw [Lib.toList_data, Bool.eq_iff_iff]
  simp

set_option maxHeartbeats 400000 in
theorem implParse_any (s : ByteArray) (w : World) (hs : s.size ≤ 1048576) (ht : PowTab w) (he : Errs w) :
    Calls Tryd.prog 35 #[.string s] w (ParsedPost s.data.toList w) := by
  have HT := Lib.hid ht
  have HE := Lib.hid he
  clear ht he
  cases hA : Lib.atoiAll s.data.toList with
  | ok v =>
    have hno : ∀ n, IsNum s.data.toList n → n = v := fun n hn => by have := hn.atoi.symm.trans hA; injection this
    have HN := Lib.hid hno
    clear hno
    go_enter Tryd.func35, Tryd.ntmps35
    go_wp2_with fail
    refine (Tryd.strconv_Atoi_ok s (by omega) v hA _).mono ?_
    rintro e w1 ⟨rfl, hw⟩
    have hb : Below w.heap.size w w1 := by
      rcases hw with rfl | ⟨t, rfl⟩
      · exact Below.refl _ _
      · exact Lib.bytesWorld_below _ _ _
    have HB := Lib.hid hb
    have HA := Lib.hid hA
    clear hb hw hA
    by_cases h1 : v < 0
    · go_wp2
      go_ret2
      exact ⟨0, false, rfl, .inr ⟨rfl, rfl, fun n hn => by have := HN.out n hn; have := hn.1; omega⟩, HB.out⟩
    · by_cases h2 : 1000000000 < v
      · go_wp2
        go_ret2
        exact ⟨0, false, rfl, .inr ⟨rfl, rfl, fun n hn => by have := HN.out n hn; have := hn.2.1; omega⟩, HB.out⟩
      · by_cases hq : Lib.itoa v = s.data.toList
        · have HQ := Lib.hid hq
          have e1 : (Lib.itoa v == s.toList) = true := by rw [same_text]; simpa using hq
          clear hq
          go_wp2_with fail
          refine (implFmt_any v _ (by omega) (by omega) (HT.out.keep HB.out)).mono ?_
          rintro e w2 ⟨rfl, hb2⟩
          have HB2 := Lib.hid hb2
          clear hb2
          go_wp2
          go_ret2
          exact ⟨v, true, rfl, .inl ⟨rfl, by omega, by omega, HQ.out⟩, HB.out.trans (HB2.out.mono HB.out.size)⟩
        · have HQ := Lib.hid hq
          have e1 : (Lib.itoa v == s.toList) = false := by rw [same_text]; simpa using hq
          clear hq
          go_wp2_with fail
          refine (implFmt_any v _ (by omega) (by omega) (HT.out.keep HB.out)).mono ?_
          rintro e w2 ⟨rfl, hb2⟩
          have HB2 := Lib.hid hb2
          clear hb2
          go_wp2
          go_ret2
          exact ⟨0, false, rfl, .inr ⟨rfl, rfl, fun n hn => by have h := HN.out n hn; subst h; exact HQ.out hn.2.2⟩, HB.out.trans (HB2.out.mono HB.out.size)⟩
  | «syntax» =>
    obtain ⟨tp, p, hv⟩ := HE.out.syn
    have hno : ∀ n, ¬ IsNum s.data.toList n := fun n hn => by have := hn.atoi.symm.trans hA; cases this
    have HN := Lib.hid hno
    clear hno
    go_enter Tryd.func35, Tryd.ntmps35
    go_wp2_with fail
    refine (Tryd.strconv_Atoi_syntax_var s (by omega) hA tp p _ hv).mono ?_
    rintro e w1 ⟨N, rfl, hN, hcell, hb⟩
    have HB := Lib.hid hb
    clear hb hA hv hcell
    go_wp2
    go_ret2
    exact ⟨0, false, rfl, .inr ⟨rfl, rfl, HN.out⟩, HB.out⟩
  | range =>
    obtain ⟨tp, p, hv⟩ := HE.out.ran
    have hno : ∀ n, ¬ IsNum s.data.toList n := fun n hn => by have := hn.atoi.symm.trans hA; cases this
    have HN := Lib.hid hno
    clear hno
    go_enter Tryd.func35, Tryd.ntmps35
    go_wp2_with fail
    refine (Tryd.strconv_Atoi_range_var s (by omega) hA tp p _ hv).mono ?_
    rintro e w1 ⟨N, rfl, hN, hcell, hb⟩
    have HB := Lib.hid hb
    clear hb hA hv hcell
    go_wp2
    go_ret2
    exact ⟨0, false, rfl, .inr ⟨rfl, rfl, HN.out⟩, HB.out⟩
end Go.Proofs.YtikibabknlpnkaaDoor
