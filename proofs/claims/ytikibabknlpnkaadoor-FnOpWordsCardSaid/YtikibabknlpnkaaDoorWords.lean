/-
  The walk of the law FnOpWords.
-/
import Derived.Test.YtikibabknlpnkaaDoorDrawOp
import Derived.Laws.StructEq
namespace Go.Proofs.YtikibabknlpnkaaDoor
open Go.RowKit
set_option linter.unusedVariables false
set_option linter.unusedSimpArgs false

/-- No word of an operator ends in "0x". -/
theorem no_op_0x {l : List UInt8} (o : DOp) : ¬ IsOp o (l ++ [48, 120]) := by
  obtain ⟨k, a, b⟩ := o
  intro h
  have hm : (120 : UInt8) ∈ l ++ [48, 120] := by simp
  have hl : 2 ≤ (l ++ [48, 120]).length := by simp
  have hd : ∀ n : Int, 0 ≤ n → (120 : UInt8) ∉ Lib.itoa n := fun n h0 hx => by have := (itoa_digit h0 hx).2; simp at this
  rcases h.cases with ⟨rfl, h0, h1, rfl, e⟩ | ⟨rfl, rfl, rfl, e⟩ | ⟨rfl, h0, h1, rfl, e⟩ | ⟨rfl, h0, h1, h2, h3, e⟩ | ⟨i, c, _, rfl, rfl, rfl, hc, e⟩
  · rw [e] at hm; exact hd a h0 hm
  · rw [e] at hl; simp at hl
  · rw [e] at hm
    rcases List.mem_cons.1 hm with h | h
    · simp at h
    · exact hd a h0 h
  · rw [e] at hm
    rcases List.mem_cons.1 hm with h | h
    · simp at h
    rcases List.mem_append.1 h with h | h
    · exact hd a h0 h
    simp only [List.mem_cons, List.not_mem_nil, or_false] at h
    rcases h with h | h
    · simp at h
    · have h4 := congrArg UInt8.toNat h
      obtain ⟨m, rfl⟩ : ∃ m : Nat, b = m := ⟨b.toNat, by omega⟩
      have : m ≤ 3 := by omega
      match m, this with
      | 0, _ | 1, _ | 2, _ | 3, _ => simp at h4
  · rw [e] at hl; simp at hl
theorem no_op_nil (o : DOp) : ¬ IsOp o [] := by
  obtain ⟨k, a, b⟩ := o
  intro h
  rcases h.cases with ⟨rfl, h0, h1, rfl, e⟩ | ⟨rfl, rfl, rfl, e⟩ | ⟨rfl, h0, h1, rfl, e⟩ | ⟨rfl, h0, h1, h2, h3, e⟩ | ⟨i, c, _, rfl, rfl, rfl, hc, e⟩
  · have := itoa_pos h0; rw [← e] at this; simp at this
  · cases e
  · cases e
  · cases e
  · cases e
theorem parsed_none {l : List UInt8} {o : DOp} {ok : Bool} (h : ∀ o, ¬ IsOp o l) (hp : ParsedOp l o ok) : o = (0, 0, 0) ∧ ok = false := by
  rcases hp with ⟨_, hp⟩ | ⟨h1, h2, _⟩
  · exact absurd hp (h _)
  · exact ⟨h2, h1⟩
theorem parsed_back {o o' : DOp} {s : ByteArray} {ok : Bool} (hs : opTextS o = s) (hd : opB 30 o = true) (hp : ParsedOp s.data.toList o' ok) (hq : ∃ q, Cand s.data.toList q) : o' = o ∧ ok = true := by
  have hi : IsOp o s.data.toList := ⟨hd, by rw [← hs, opTextS_ok hd]; rfl⟩
  rcases hp with ⟨h1, hp⟩ | ⟨_, _, hp⟩
  · obtain ⟨q, hq⟩ := hq
    exact ⟨(hq _ hp).symm.trans (hq _ hi), h1⟩
  · exact absurd hi (hp _)
theorem opTextS_small (o : DOp) : (opTextS o).size ≤ 100 := by
  obtain ⟨k, a, b⟩ := o
  unfold opTextS
  split
  · rename_i h
    rw [tx_size]
    have hl : ∀ n : Int, 0 ≤ n → n ≤ 30 → (Lib.itoa n).length ≤ 10 := fun n h0 h1 => IsNum.len ⟨h0, by omega, rfl⟩
    rcases (show IsOp (k, a, b) (opTextL (k, a, b)) from ⟨h, rfl⟩).cases with ⟨rfl, h0, h1, rfl, e⟩ | ⟨rfl, rfl, rfl, e⟩ | ⟨rfl, h0, h1, rfl, e⟩ | ⟨rfl, h0, h1, h2, h3, e⟩ | ⟨i, c, _, rfl, rfl, rfl, hc, e⟩
    all_goals rw [e]
    · have := hl a h0 (by omega); omega
    · simp
    · have := hl a h0 (by omega); simp; omega
    · have := hl a h0 (by omega); simp; omega
    · simp
  · simp
theorem laid_words {W : World} (h : laidMetH Tryd.prog Rows.fnOpWordsRow.laid W) (hS : W.ShapedOpen Tryd.prog) : Laid W :=
  ⟨powTab_of (laidMet.tail (laidMet.tail h)), errs_of (laidMet.tail (laidMet.tail (laidMet.tail h))), maxL_of hS⟩
theorem triple {k a b k' a' b' : Int} (h : (k', a', b') = (k, a, b)) : k' = k ∧ a' = a ∧ b' = b := by
  obtain ⟨h1, h2⟩ := Prod.mk.inj h
  exact ⟨h1, Prod.mk.inj h2⟩

set_option maxHeartbeats 3200000 in
theorem opWords_walk (a0 : Option Addr) (len0 cap0 : Nat) (z0 : List Int) (w : World) (w0 : IsRow .u8 w a0 len0 cap0 z0) (hL : laidMetH Tryd.prog Rows.fnOpWordsRow.laid w) (hS : w.ShapedOpen Tryd.prog) :
    Calls Tryd.prog 3 #[.slice a0 len0 cap0] w fun e w' => e = .returned (.bool true) ∧ Below w.heap.size w w' := by
  have HT := Lib.hid (laid_words hL hS)
  have hc := w0.codeW
  clear hL hS w0
  go_enter Tryd.func3, Tryd.ntmps3
  go_wp2_with fail
  refine (big_any a0 len0 cap0 _).mono ?_
  rintro e w' ⟨rfl, rfl⟩
  by_cases hbig : 1048576 < (len0 : Int)
  · go_wp2_with fail
    go_ret
    exact ⟨rfl, Below.refl _ _⟩
  · go_wp2_with fail
    refine (drawOpText_any a0 len0 cap0 _ hc).mono ?_
    rintro e w1 ⟨k, a, b, rfl, hf, hb⟩
    clear hc hf
    obtain ⟨s, hs⟩ : ∃ s, opTextS (k, a, b) = s := ⟨_, rfl⟩
    obtain ⟨d, hd⟩ : ∃ d, opB 30 (k, a, b) = d := ⟨_, rfl⟩
    have hz : s.size ≤ 100 := by rw [← hs]; exact opTextS_small _
    have HZ := Lib.hid (And.intro hs hd)
    have HB := Lib.hid hb
    clear hb hs hd
    have ho : (w1.alloc (.cells #[.int .i64 k, .int .i64 a, .int .i64 b] 25)).heap[w1.heap.size]? = some (.cells #[.int .i64 k, .int .i64 a, .int .i64 b] 25) := heap_alloc_new w1 _
    have HO := Lib.hid ho
    clear ho
    go_wp2_with fail
    refine (specText_at (k, a, b) _ HZ.out.1 HZ.out.2).mono ?_
    rintro e w2 ⟨rfl, hb⟩
    replace HO := Lib.hid (keepB hb HO.out)
    obtain ⟨_, hb⟩ := box1 hb
    replace HB := Lib.hid (bThen HB.out hb)
    have c0 := box_cell HO.out 0 _ rfl
    have c1 := box_cell HO.out 1 _ rfl
    have c2 := box_cell HO.out 2 _ rfl
    clear hb
    go_wp2_with fail
    refine (implText_at (k, a, b) _ HZ.out.1 HZ.out.2 (HT.out.pow.keep HB.out)).mono ?_
    rintro e w3 ⟨rfl, hb⟩
    replace HO := Lib.hid (keepB hb HO.out)
    replace HB := Lib.hid (bThen HB.out hb)
    clear hb c0 c1 c2
    go_wp2_with fail
    refine (implParseOp_any s _ (by omega) (HT.out.keep HB.out)).mono ?_
    rintro e w4 ⟨k1, a1, b1, ok, rfl, hp, hq, hb⟩
    have HP := Lib.hid (And.intro hp hq)
    replace HO := Lib.hid (keepB hb HO.out)
    replace HB := Lib.hid (bThen HB.out hb)
    clear hb hp hq
    cases d with
    | false =>
      have hs0 : s = ⟨#[]⟩ := by rw [← HZ.out.1, opTextS_no HZ.out.2]; rfl
      subst hs0
      obtain ⟨he, rfl⟩ := parsed_none no_op_nil HP.out.1
      obtain ⟨rfl, rfl, rfl⟩ := triple he
      clear HP HZ he
      go_wp2
      go_ret
      exact ⟨rfl, by first | exact HB.out | exact bAlloc HB.out HB.out.size _ | exact bAlloc HB.out (Nat.le_refl _) _⟩
    | true =>
      obtain ⟨he, rfl⟩ := parsed_back HZ.out.1 HZ.out.2 HP.out.1 HP.out.2
      obtain ⟨rfl, rfl, rfl⟩ := triple he
      have ho : (w4.alloc (.cells #[.int .i64 k1, .int .i64 a1, .int .i64 b1] 25)).heap[w4.heap.size]? = some (.cells #[.int .i64 k1, .int .i64 a1, .int .i64 b1] 25) := heap_alloc_new w4 _
      have HO2 := Lib.hid ho
      replace HO := Lib.hid (keepB (W := w4) (w1 := w4.alloc (.cells #[.int .i64 k1, .int .i64 a1, .int .i64 b1] 25)) (by (repeat' (first | assumption | exact Below.refl _ _ | refine bDrewN ?_ _ | refine Below.drew ?_ | refine bAlloc ?_ (Nat.le_refl _) _ | refine bSet ?_ (by first | exact Nat.le_refl _ | omega | (simp <;> omega)) _))) HO.out)
      replace HB := Lib.hid (bThen HB.out (show Below w4.heap.size w4 (w4.alloc (.cells #[.int .i64 k1, .int .i64 a1, .int .i64 b1] 25)) by (repeat' (first | assumption | exact Below.refl _ _ | refine bDrewN ?_ _ | refine Below.drew ?_ | refine bAlloc ?_ (Nat.le_refl _) _ | refine bSet ?_ (by first | exact Nat.le_refl _ | omega | (simp <;> omega)) _))))
      have hsz : (s ++ ByteArray.mk #[48, 120]).size ≤ 1048576 := by
        rw [ByteArray.size_append]
        show s.size + 2 ≤ _
        omega
      clear ho HP HZ he
      go_wp2_with fail
      refine (implParseOp_any (s ++ ByteArray.mk #[48, 120]) _ hsz (HT.out.keep HB.out)).mono ?_
      rintro e w5 ⟨k2, a2, b2, ok, rfl, hp, hq, hb⟩
      have hd : (s ++ ByteArray.mk #[48, 120]).data.toList = s.data.toList ++ [48, 120] := by simp
      rw [hd] at hp
      obtain ⟨he, rfl⟩ := parsed_none no_op_0x hp
      obtain ⟨rfl, rfl, rfl⟩ := triple he
      replace HO := Lib.hid (keepB hb HO.out)
      replace HO2 := Lib.hid (keepB hb HO2.out)
      replace HB := Lib.hid (bThen HB.out hb)
      have c0 := box_cell HO.out 0 _ rfl
      have c1 := box_cell HO.out 1 _ rfl
      have c2 := box_cell HO.out 2 _ rfl
      have d0 := box_cell HO2.out 0 _ rfl
      have d1 := box_cell HO2.out 1 _ rfl
      have d2 := box_cell HO2.out 2 _ rfl
      have l1 := World.block_lt_of_cell? _ _ c0
      have l2 := World.block_lt_of_cell? _ _ d0
      clear hb hp hq hd he hsz
      go_wp2
      go_ret
      exact ⟨rfl, by first | exact HB.out | exact bAlloc HB.out HB.out.size _ | exact bAlloc HB.out (Nat.le_refl _) _⟩
end Go.Proofs.YtikibabknlpnkaaDoor
