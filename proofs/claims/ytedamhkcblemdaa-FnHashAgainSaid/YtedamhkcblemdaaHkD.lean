/-
  Equal nets are the same.
-/
import Derived.Test.YtedamhkcblemdaaHcP
import Derived.Test.YtedamhkcblemdaaOwnB
import Derived.Test.YtedamhkcblemdaaAtAll
import Derived.Deep.RegionHeld3
import Derived.Laws.StructEq
namespace Go.Proofs.Ytedamhkcblemdaa
open Go.RowKit
set_option linter.unusedVariables false
set_option linter.unusedSimpArgs false

set_option maxHeartbeats 3200000 in
theorem sameI_rd (L : List Int) (a b : Value) {B T B' T' : Nat} (w : World) (ha : rdIntS B T w [a] L) (hT : T ≤ w.heap.size) (hb : rdIntS B' T' w [b] L) (hT' : T' ≤ w.heap.size) :
    Calls Try.prog 23 #[a, b] w fun e w' => e = .returned (.bool true) ∧ Below w.heap.size w w' := by
  obtain ⟨A, c, rfl, lm, -⟩ := slice_of ha
  obtain ⟨A', c', rfl, -, -⟩ := slice_of hb
  have HA := Lib.hid ha
  have HA' := Lib.hid hb
  clear ha hb
  go_enter Try.func23, Try.ntmps23
  go_wp2
  go_loopw [5] (fun i wr => ∃ k : Nat, k ≤ L.length ∧ i = .int .i64 k ∧ Below w.heap.size w wr) (fun i _ => L.length - (intOf i).toNat)
  case atStart => exact ⟨0, Nat.zero_le _, rfl, Below.refl _ _⟩
  case round =>
    obtain ⟨k, hk, rfl, hbel⟩ := hrel
    obtain ⟨w3, rfl⟩ : ∃ w3, w3 = wr := ⟨_, rfl⟩
    have HB := Lib.hid hbel
    by_cases hlt : k < L.length
    · obtain ⟨x, hx⟩ : ∃ x, L[k]? = some x := ⟨_, List.getElem?_eq_getElem hlt⟩
      obtain ⟨g, q, rfl, -, c1, -⟩ := at_Int HA.out hx
      obtain ⟨g', q', rfl, -, c2, -⟩ := at_Int HA'.out hx
      replace c1 := keep hbel c1
      replace c2 := keep hbel c2
      have tk : (k : Int) < (L.length : Int) := by omega
      clear hx hbel
      go_wp2
      go_quiet (fail)
      go_wp2
      go_roundw
      case rel => exact ⟨k + 1, by omega, by go_num, HB.out.trans ⟨rfl, rfl, rfl, Nat.le_refl _, fun _ _ => rfl⟩⟩
      case measure => simp [intOf]; omega
    · obtain rfl : k = L.length := by omega
      clear hbel
      go_wp2
      go_ret
      exact ⟨rfl, HB.out⟩

set_option maxHeartbeats 3200000 in
theorem sameA_rd (L : List DAnd) (a b : Value) {B T B' T' : Nat} (w : World) (ha : rdAndS B T w [a] L) (hT : T ≤ w.heap.size) (hb : rdAndS B' T' w [b] L) (hT' : T' ≤ w.heap.size) :
    Calls Try.prog 77 #[a, b] w fun e w' => e = .returned (.bool true) ∧ Below w.heap.size w w' := by
  obtain ⟨A, c, rfl, lm, -⟩ := slice_of ha
  obtain ⟨A', c', rfl, -, -⟩ := slice_of hb
  have HA := Lib.hid ha
  have HA' := Lib.hid hb
  clear ha hb
  go_enter Try.func77, Try.ntmps77
  go_wp2
  go_loopw [5] (fun i wr => ∃ k : Nat, k ≤ L.length ∧ i = .int .i64 k ∧ Below w.heap.size w wr) (fun i _ => L.length - (intOf i).toNat)
  case atStart => exact ⟨0, Nat.zero_le _, rfl, Below.refl _ _⟩
  case round =>
    obtain ⟨k, hk, rfl, hbel⟩ := hrel
    obtain ⟨w3, rfl⟩ : ∃ w3, w3 = wr := ⟨_, rfl⟩
    have HB := Lib.hid hbel
    by_cases hlt : k < L.length
    · obtain ⟨x, hx⟩ : ∃ x, L[k]? = some x := ⟨_, List.getElem?_eq_getElem hlt⟩
      obtain ⟨g, q, rfl, -, c1, -, c2, -⟩ := at_And HA.out hx
      obtain ⟨g', q', rfl, -, e1, -, e2, -⟩ := at_And HA'.out hx
      obtain ⟨x0, x1⟩ := x
      dsimp only at c1 c2 e1 e2
      replace c1 := keep hbel c1
      replace c2 := keep hbel c2
      replace e1 := keep hbel e1
      replace e2 := keep hbel e2
      have tk : (k : Int) < (L.length : Int) := by omega
      clear hx hbel
      go_wp2
      go_quiet (fail)
      go_wp2
      go_roundw
      case rel => exact ⟨k + 1, by omega, by go_num, HB.out.trans ⟨rfl, rfl, rfl, Nat.le_refl _, fun _ _ => rfl⟩⟩
      case measure => simp [intOf]; omega
    · obtain rfl : k = L.length := by omega
      clear hbel
      go_wp2
      go_ret
      exact ⟨rfl, HB.out⟩
set_option maxRecDepth 100000 in
set_option maxHeartbeats 3200000 in
theorem sameS_rd (L : List DSeq) (a b : Value) {B T B' T' : Nat} (w : World) (ha : rdSeqS B T w [a] L) (hT : T ≤ w.heap.size) (hb : rdSeqS B' T' w [b] L) (hT' : T' ≤ w.heap.size) :
    Calls Try.prog 76 #[a, b] w fun e w' => e = .returned (.bool true) ∧ Below w.heap.size w w' := by
  obtain ⟨A, c, rfl, lm, -⟩ := slice_of ha
  obtain ⟨A', c', rfl, -, -⟩ := slice_of hb
  have HA := Lib.hid ha
  have HA' := Lib.hid hb
  clear ha hb
  go_enter Try.func76, Try.ntmps76
  go_wp2
  go_loopw [5] (fun i wr => ∃ k : Nat, k ≤ L.length ∧ i = .int .i64 k ∧ Below w.heap.size w wr) (fun i _ => L.length - (intOf i).toNat)
  case atStart => exact ⟨0, Nat.zero_le _, rfl, Below.refl _ _⟩
  case round =>
    obtain ⟨k, hk, rfl, hbel⟩ := hrel
    obtain ⟨w3, rfl⟩ : ∃ w3, w3 = wr := ⟨_, rfl⟩
    have HB := Lib.hid hbel
    by_cases hlt : k < L.length
    · obtain ⟨x, hx⟩ : ∃ x, L[k]? = some x := ⟨_, List.getElem?_eq_getElem hlt⟩
      obtain ⟨g, q, sA, sc, rfl, -, c0, -, c1, -, c2, hsr⟩ := at_Seq (good_SeqS.below HA.out hT hbel) hx
      obtain ⟨g', q', sA', sc', rfl, -, e0, -, e1, -, e2, hsr'⟩ := at_Seq (good_SeqS.below HA'.out hT' hbel) hx
      obtain ⟨x0, x1, I⟩ := x
      dsimp only at c0 c1 c2 e0 e1 e2 hsr hsr'
      have HSR := Lib.hid hsr
      have HSR' := Lib.hid hsr'
      have hTW := Nat.le_trans hT hbel.size
      have hTW' := Nat.le_trans hT' hbel.size
      have tk : (k : Int) < (L.length : Int) := by omega
      clear hx hbel hsr hsr'
      go_wp2_with fail
      have hS0 : (fun w' => Below w3.heap.size w3 w' ∧ w'.cell? ⟨g, q + k * 3, none⟩ = some (.int .i64 x0) ∧ w'.cell? ⟨g, q + k * 3 + 1, none⟩ = some (.int .i64 x1) ∧ w'.cell? ⟨g, q + k * 3 + 2, none⟩ = some (.slice sA I.length sc) ∧ w'.cell? ⟨g', q' + k * 3, none⟩ = some (.int .i64 x0) ∧ w'.cell? ⟨g', q' + k * 3 + 1, none⟩ = some (.int .i64 x1) ∧ w'.cell? ⟨g', q' + k * 3 + 2, none⟩ = some (.slice sA' I.length sc')) w3 := ⟨Below.refl _ _, c0, c1, c2, e0, e1, e2⟩
      have hS : ∀ {w0 w' : World}, (fun w' => Below w3.heap.size w3 w' ∧ w'.cell? ⟨g, q + k * 3, none⟩ = some (.int .i64 x0) ∧ w'.cell? ⟨g, q + k * 3 + 1, none⟩ = some (.int .i64 x1) ∧ w'.cell? ⟨g, q + k * 3 + 2, none⟩ = some (.slice sA I.length sc) ∧ w'.cell? ⟨g', q' + k * 3, none⟩ = some (.int .i64 x0) ∧ w'.cell? ⟨g', q' + k * 3 + 1, none⟩ = some (.int .i64 x1) ∧ w'.cell? ⟨g', q' + k * 3 + 2, none⟩ = some (.slice sA' I.length sc')) w0 → Below w0.heap.size w0 w' → (fun w' => Below w3.heap.size w3 w' ∧ w'.cell? ⟨g, q + k * 3, none⟩ = some (.int .i64 x0) ∧ w'.cell? ⟨g, q + k * 3 + 1, none⟩ = some (.int .i64 x1) ∧ w'.cell? ⟨g, q + k * 3 + 2, none⟩ = some (.slice sA I.length sc) ∧ w'.cell? ⟨g', q' + k * 3, none⟩ = some (.int .i64 x0) ∧ w'.cell? ⟨g', q' + k * 3 + 1, none⟩ = some (.int .i64 x1) ∧ w'.cell? ⟨g', q' + k * 3 + 2, none⟩ = some (.slice sA' I.length sc')) w' := fun h hb => ⟨bThen h.1 hb, keep hb h.2.1, keep hb h.2.2.1, keep hb h.2.2.2.1, keep hb h.2.2.2.2.1, keep hb h.2.2.2.2.2.1, keep hb h.2.2.2.2.2.2⟩
      dsimp only at hS0 hS
      refine wp_region_noPanic ?_
      refine wp_region_kept 35 38 (fun w' => Below w3.heap.size w3 w' ∧ w'.cell? ⟨g, q + k * 3, none⟩ = some (.int .i64 x0) ∧ w'.cell? ⟨g, q + k * 3 + 1, none⟩ = some (.int .i64 x1) ∧ w'.cell? ⟨g, q + k * 3 + 2, none⟩ = some (.slice sA I.length sc) ∧ w'.cell? ⟨g', q' + k * 3, none⟩ = some (.int .i64 x0) ∧ w'.cell? ⟨g', q' + k * 3 + 1, none⟩ = some (.int .i64 x1) ∧ w'.cell? ⟨g', q' + k * 3 + 2, none⟩ = some (.slice sA' I.length sc')) (by kernel_rfl) rfl (hS hS0 (Below.drew (Below.refl _ _))) (fun hK0 => ?_)
      refine Kept.take (v := ?vs0) 0 (by kernel_rfl) rfl (by kernel_rfl) (fun _ _ _ h => h) (Or.inl ⟨by rfl, ?hys0⟩) hK0 ?rests0
      case hys0 =>
        intro w0 hSw
        (try dsimp only at hSw)
        go_simp
        all_goals (with_reducible rfl)
      (try simp only [Act.put, List.setIfInBounds_toArray, List.set_cons_zero, List.set_cons_succ])
      refine Kept.take (v := ?vs1) 1 (by kernel_rfl) rfl (by kernel_rfl) (fun _ _ _ h => h) (Or.inl ⟨by rfl, ?hys1⟩) hK0 ?rests1
      case hys1 =>
        intro w0 hSw
        (try dsimp only at hSw)
        go_simp
        all_goals (with_reducible rfl)
      (try simp only [Act.put, List.setIfInBounds_toArray, List.set_cons_zero, List.set_cons_succ])
      refine Kept.take (v := ?vs2) 2 (by kernel_rfl) rfl (by kernel_rfl) (fun _ _ _ h => h) (Or.inl ⟨by rfl, ?hys2⟩) hK0 ?rests2
      case hys2 =>
        intro w0 hSw
        (try dsimp only at hSw)
        go_simp
        all_goals (with_reducible rfl)
      (try simp only [Act.put, List.setIfInBounds_toArray, List.set_cons_zero, List.set_cons_succ])
      refine Kept.take (v := ?vs3) 3 (by kernel_rfl) rfl (by kernel_rfl) (fun _ _ _ h => h) (Or.inl ⟨by rfl, ?hys3⟩) hK0 ?rests3
      case hys3 =>
        intro w0 hSw
        (try dsimp only at hSw)
        go_simp
        all_goals (with_reducible rfl)
      (try simp only [Act.put, List.setIfInBounds_toArray, List.set_cons_zero, List.set_cons_succ])
      refine Kept.take (v := ?vs4) 4 (by kernel_rfl) rfl (by kernel_rfl) (fun _ _ _ h => h) (Or.inl ⟨by rfl, ?hys4⟩) hK0 ?rests4
      case hys4 =>
        intro w0 hSw
        (try dsimp only at hSw)
        go_simp
        all_goals (with_reducible rfl)
      (try simp only [Act.put, List.setIfInBounds_toArray, List.set_cons_zero, List.set_cons_succ])
      refine Kept.take (v := ?vs5) 5 (by kernel_rfl) rfl (by kernel_rfl) (fun _ _ _ h => h) (Or.inl ⟨by rfl, ?hys5⟩) hK0 ?rests5
      case hys5 =>
        intro w0 hSw
        (try dsimp only at hSw)
        go_simp
        all_goals (with_reducible rfl)
      (try simp only [Act.put, List.setIfInBounds_toArray, List.set_cons_zero, List.set_cons_succ])
      refine Kept.take (v := ?vs6) 6 (by kernel_rfl) rfl (by kernel_rfl) (fun _ _ _ h => h) (Or.inl ⟨by rfl, ?hys6⟩) hK0 ?rests6
      case hys6 =>
        intro w0 hSw
        (try dsimp only at hSw)
        go_simp
        all_goals (with_reducible rfl)
      (try simp only [Act.put, List.setIfInBounds_toArray, List.set_cons_zero, List.set_cons_succ])
      refine Kept.take (v := ?vs7) 7 (by kernel_rfl) rfl (by kernel_rfl) (fun _ _ _ h => h) (Or.inl ⟨by rfl, ?hys7⟩) hK0 ?rests7
      case hys7 =>
        intro w0 hSw
        (try dsimp only at hSw)
        go_simp
        all_goals (with_reducible rfl)
      (try simp only [Act.put, List.setIfInBounds_toArray, List.set_cons_zero, List.set_cons_succ])
      refine Kept.take (v := ?vs8) 8 (by kernel_rfl) rfl (by kernel_rfl) (fun _ _ _ h => h) (Or.inl ⟨by rfl, ?hys8⟩) hK0 ?rests8
      case hys8 =>
        intro w0 hSw
        (try dsimp only at hSw)
        go_simp
        all_goals (with_reducible rfl)
      (try simp only [Act.put, List.setIfInBounds_toArray, List.set_cons_zero, List.set_cons_succ])
      refine Kept.take (v := ?vs9) 9 (by kernel_rfl) rfl (by kernel_rfl) (fun _ _ _ h => h) (Or.inl ⟨by rfl, ?hys9⟩) hK0 ?rests9
      case hys9 =>
        intro w0 hSw
        (try dsimp only at hSw)
        go_simp
        all_goals (with_reducible rfl)
      (try simp only [Act.put, List.setIfInBounds_toArray, List.set_cons_zero, List.set_cons_succ])
      refine Kept.take (v := ?vs10) 10 (by kernel_rfl) rfl (by kernel_rfl) (fun _ _ _ h => h) (Or.inl ⟨by rfl, ?hys10⟩) hK0 ?rests10
      case hys10 =>
        intro w0 hSw
        (try dsimp only at hSw)
        go_simp
        all_goals (with_reducible rfl)
      (try simp only [Act.put, List.setIfInBounds_toArray, List.set_cons_zero, List.set_cons_succ])
      refine Kept.take (v := ?vs11) 11 (by kernel_rfl) rfl (by kernel_rfl) (fun _ _ _ h => h) (Or.inl ⟨by rfl, ?hys11⟩) hK0 ?rests11
      case hys11 =>
        intro w0 hSw
        (try dsimp only at hSw)
        go_simp
        all_goals (with_reducible rfl)
      (try simp only [Act.put, List.setIfInBounds_toArray, List.set_cons_zero, List.set_cons_succ])
      refine Kept.take (v := ?vs12) 12 (by kernel_rfl) rfl (by kernel_rfl) (fun _ _ _ h => h) (Or.inl ⟨by rfl, ?hys12⟩) hK0 ?rests12
      case hys12 =>
        intro w0 hSw
        (try dsimp only at hSw)
        go_simp
        all_goals (with_reducible rfl)
      (try simp only [Act.put, List.setIfInBounds_toArray, List.set_cons_zero, List.set_cons_succ])
      refine Kept.take (v := ?vs13) 13 (by kernel_rfl) rfl (by kernel_rfl) (fun _ _ _ h => h) (Or.inl ⟨by rfl, ?hys13⟩) hK0 ?rests13
      case hys13 =>
        intro w0 hSw
        (try dsimp only at hSw)
        go_simp
        all_goals (with_reducible rfl)
      (try simp only [Act.put, List.setIfInBounds_toArray, List.set_cons_zero, List.set_cons_succ])
      refine Kept.take (v := ?vs14) 14 (by kernel_rfl) rfl (by kernel_rfl) (fun _ _ _ h => h) (Or.inl ⟨by rfl, ?hys14⟩) hK0 ?rests14
      case hys14 =>
        intro w0 hSw
        (try dsimp only at hSw)
        go_simp
        all_goals (with_reducible rfl)
      (try simp only [Act.put, List.setIfInBounds_toArray, List.set_cons_zero, List.set_cons_succ])
      refine Kept.take (v := ?vs15) 15 (by kernel_rfl) rfl (by kernel_rfl) (fun _ _ _ h => h) (Or.inl ⟨by rfl, ?hys15⟩) hK0 ?rests15
      case hys15 =>
        intro w0 hSw
        (try dsimp only at hSw)
        go_simp
        all_goals (with_reducible rfl)
      (try simp only [Act.put, List.setIfInBounds_toArray, List.set_cons_zero, List.set_cons_succ])
      refine Kept.take (v := ?vs16) 16 (by kernel_rfl) rfl (by kernel_rfl) (fun _ _ _ h => h) (Or.inl ⟨by rfl, ?hys16⟩) hK0 ?rests16
      case hys16 =>
        intro w0 hSw
        (try dsimp only at hSw)
        go_simp
        all_goals (with_reducible rfl)
      (try simp only [Act.put, List.setIfInBounds_toArray, List.set_cons_zero, List.set_cons_succ])
      refine Kept.take (v := ?vs17) 17 (by kernel_rfl) rfl (by kernel_rfl) (fun _ _ _ h => h) (Or.inl ⟨by rfl, ?hys17⟩) hK0 ?rests17
      case hys17 =>
        intro w0 hSw
        (try dsimp only at hSw)
        go_simp
        all_goals (with_reducible rfl)
      (try simp only [Act.put, List.setIfInBounds_toArray, List.set_cons_zero, List.set_cons_succ])
      refine Kept.take (v := ?vs18) 18 (by kernel_rfl) rfl (by kernel_rfl) (fun _ _ _ h => h) (Or.inl ⟨by rfl, ?hys18⟩) hK0 ?rests18
      case hys18 =>
        intro w0 hSw
        (try dsimp only at hSw)
        go_simp
        all_goals (with_reducible rfl)
      (try simp only [Act.put, List.setIfInBounds_toArray, List.set_cons_zero, List.set_cons_succ])
      refine Kept.take (v := ?vs19) 19 (by kernel_rfl) rfl (by kernel_rfl) (fun _ _ _ h => h) (Or.inl ⟨by rfl, ?hys19⟩) hK0 ?rests19
      case hys19 =>
        intro w0 hSw
        (try dsimp only at hSw)
        go_simp
        all_goals (with_reducible rfl)
      (try simp only [Act.put, List.setIfInBounds_toArray, List.set_cons_zero, List.set_cons_succ])
      refine Kept.take (v := ?vs20) 20 (by kernel_rfl) rfl (by kernel_rfl) (fun _ _ _ h => h) (Or.inl ⟨by rfl, ?hys20⟩) hK0 ?rests20
      case hys20 =>
        intro w0 hSw
        (try dsimp only at hSw)
        go_simp
        all_goals (with_reducible rfl)
      (try simp only [Act.put, List.setIfInBounds_toArray, List.set_cons_zero, List.set_cons_succ])
      refine Kept.take (v := ?vs21) 21 (by kernel_rfl) rfl (by kernel_rfl) (fun _ _ _ h => h) (Or.inl ⟨by rfl, ?hys21⟩) hK0 ?rests21
      case hys21 =>
        intro w0 hSw
        (try dsimp only at hSw)
        go_simp
        all_goals (with_reducible rfl)
      (try simp only [Act.put, List.setIfInBounds_toArray, List.set_cons_zero, List.set_cons_succ])
      refine Kept.take (v := ?vs22) 22 (by kernel_rfl) rfl (by kernel_rfl) (fun _ _ _ h => h) (Or.inl ⟨by rfl, ?hys22⟩) hK0 ?rests22
      case hys22 =>
        intro w0 hSw
        (try dsimp only at hSw)
        go_simp
        all_goals (with_reducible rfl)
      (try simp only [Act.put, List.setIfInBounds_toArray, List.set_cons_zero, List.set_cons_succ])
      refine Kept.take (v := ?vs23) 23 (by kernel_rfl) rfl (by kernel_rfl) (fun _ _ _ h => h) (Or.inl ⟨by rfl, ?hys23⟩) hK0 ?rests23
      case hys23 =>
        intro w0 hSw
        (try dsimp only at hSw)
        go_simp
        all_goals (with_reducible rfl)
      (try simp only [Act.put, List.setIfInBounds_toArray, List.set_cons_zero, List.set_cons_succ])
      refine Kept.take (v := ?vs24) 24 (by kernel_rfl) rfl (by kernel_rfl) (fun _ _ _ h => h) (Or.inl ⟨by rfl, ?hys24⟩) hK0 ?rests24
      case hys24 =>
        intro w0 hSw
        (try dsimp only at hSw)
        go_simp
        all_goals (with_reducible rfl)
      (try simp only [Act.put, List.setIfInBounds_toArray, List.set_cons_zero, List.set_cons_succ])
      refine Kept.take (v := ?vs25) 25 (by kernel_rfl) rfl (by kernel_rfl) (fun _ _ _ h => h) (Or.inl ⟨by rfl, ?hys25⟩) hK0 ?rests25
      case hys25 =>
        intro w0 hSw
        (try dsimp only at hSw)
        go_simp
        all_goals (with_reducible rfl)
      (try simp only [Act.put, List.setIfInBounds_toArray, List.set_cons_zero, List.set_cons_succ])
      refine Kept.take (v := ?vs26) 26 (by kernel_rfl) rfl (by kernel_rfl) (fun _ _ _ h => h) (Or.inl ⟨by rfl, ?hys26⟩) hK0 ?rests26
      case hys26 =>
        intro w0 hSw
        (try dsimp only at hSw)
        go_simp
        all_goals (with_reducible rfl)
      (try simp only [Act.put, List.setIfInBounds_toArray, List.set_cons_zero, List.set_cons_succ])
      refine Kept.take (v := ?vs27) 27 (by kernel_rfl) rfl (by kernel_rfl) (fun _ _ _ h => h) (Or.inl ⟨by rfl, ?hys27⟩) hK0 ?rests27
      case hys27 =>
        intro w0 hSw
        (try dsimp only at hSw)
        go_simp
        all_goals (with_reducible rfl)
      (try simp only [Act.put, List.setIfInBounds_toArray, List.set_cons_zero, List.set_cons_succ])
      refine Kept.take (v := ?vs28) 28 (by kernel_rfl) rfl (by kernel_rfl) (fun _ _ _ h => h) (Or.inl ⟨by rfl, ?hys28⟩) hK0 ?rests28
      case hys28 =>
        intro w0 hSw
        (try dsimp only at hSw)
        go_simp
        all_goals (with_reducible rfl)
      (try simp only [Act.put, List.setIfInBounds_toArray, List.set_cons_zero, List.set_cons_succ])
      refine Kept.take (v := ?vs29) 29 (by kernel_rfl) rfl (by kernel_rfl) (fun _ _ _ h => h) (Or.inl ⟨by rfl, ?hys29⟩) hK0 ?rests29
      case hys29 =>
        intro w0 hSw
        (try dsimp only at hSw)
        go_simp
        all_goals (with_reducible rfl)
      (try simp only [Act.put, List.setIfInBounds_toArray, List.set_cons_zero, List.set_cons_succ])
      refine Kept.take (v := ?vs30) 30 (by kernel_rfl) rfl (by kernel_rfl) (fun _ _ _ h => h) (Or.inl ⟨by rfl, ?hys30⟩) hK0 ?rests30
      case hys30 =>
        intro w0 hSw
        (try dsimp only at hSw)
        go_simp
        all_goals (with_reducible rfl)
      (try simp only [Act.put, List.setIfInBounds_toArray, List.set_cons_zero, List.set_cons_succ])
      refine Kept.take (v := ?vs31) 31 (by kernel_rfl) rfl (by kernel_rfl) (fun _ _ _ h => h) (Or.inl ⟨by rfl, ?hys31⟩) hK0 ?rests31
      case hys31 =>
        intro w0 hSw
        (try dsimp only at hSw)
        go_simp
        all_goals (with_reducible rfl)
      (try simp only [Act.put, List.setIfInBounds_toArray, List.set_cons_zero, List.set_cons_succ])
      refine Kept.take (v := ?vs32) 32 (by kernel_rfl) rfl (by kernel_rfl) (fun _ _ _ h => h) (Or.inl ⟨by rfl, ?hys32⟩) hK0 ?rests32
      case hys32 =>
        intro w0 hSw
        (try dsimp only at hSw)
        go_simp
        all_goals (with_reducible rfl)
      (try simp only [Act.put, List.setIfInBounds_toArray, List.set_cons_zero, List.set_cons_succ])
      refine Kept.take (v := ?vs33) 33 (by kernel_rfl) rfl (by kernel_rfl) (fun _ _ _ h => h) (Or.inl ⟨by rfl, ?hys33⟩) hK0 ?rests33
      case hys33 =>
        intro w0 hSw
        (try dsimp only at hSw)
        go_simp
        all_goals (with_reducible rfl)
      (try simp only [Act.put, List.setIfInBounds_toArray, List.set_cons_zero, List.set_cons_succ])
      refine Kept.take (v := ?vs34) 34 (by kernel_rfl) rfl (by kernel_rfl) (fun _ _ _ h => h) (Or.inl ⟨by rfl, ?hys34⟩) hK0 ?rests34
      case hys34 =>
        intro w0 hSw
        (try dsimp only at hSw)
        go_simp
        all_goals (with_reducible rfl)
      (try simp only [Act.put, List.setIfInBounds_toArray, List.set_cons_zero, List.set_cons_succ])
      refine Kept.tail (by rfl) (by kernel_rfl) ?_
      simp only [List.drop_succ_cons, List.drop_zero]
      go_wp2_with fail
      refine (sameI_rd I _ _ _ (good_IntS.below HSR.out hTW hK0.1) (Nat.le_trans hTW hK0.1.size) (good_IntS.below HSR'.out hTW' hK0.1) (Nat.le_trans hTW' hK0.1.size)).mono ?_
      rintro e w4 ⟨rfl, hb4⟩
      have HB4 := Lib.hid (bThen HB.out (bThen hK0.1 hb4))
      clear hK0 hS hS0 c0 c1 c2 e0 e1 e2 hb4
      go_wp2
      refine NoPanic.normal ?_
      go_wp2
      go_roundw
      case rel => exact ⟨k + 1, by omega, by go_num, HB4.out⟩
      case measure => simp [intOf]; omega
    · obtain rfl : k = L.length := by omega
      clear hbel
      go_wp2
      go_ret
      exact ⟨rfl, HB.out⟩

set_option maxRecDepth 100000 in
set_option maxHeartbeats 6400000 in
theorem sameNet_rd (n : DNet) (us vs : List Value) (w : World) (h : rdNet 0 w.heap.size w us n) (h2 : rdNet 0 w.heap.size w vs n) :
    Calls Try.prog 30 #[.agg us.toArray, .agg vs.toArray] w fun e w' => e = .returned (.bool true) ∧ Below w.heap.size w w' := by
  obtain ⟨mu0, mu1, mu2, mu3, rfl, mh0, mh1, mh2, mh3⟩ := h
  obtain ⟨me0, -⟩ := mh0
  injection me0 with me0
  subst me0
  obtain ⟨mA1, mc1, me1, mm1, -⟩ := slice_of mh1
  subst me1
  have mR1 := Lib.hid mh1
  clear mh1
  obtain ⟨mA2, mc2, me2, mm2, -⟩ := slice_of mh2
  subst me2
  have mR2 := Lib.hid mh2
  clear mh2
  obtain ⟨mA3, mc3, me3, mm3, -⟩ := slice_of mh3
  subst me3
  have mR3 := Lib.hid mh3
  clear mh3
  obtain ⟨pu0, pu1, pu2, pu3, rfl, ph0, ph1, ph2, ph3⟩ := h2
  obtain ⟨pe0, -⟩ := ph0
  injection pe0 with pe0
  subst pe0
  obtain ⟨pA1, pc1, pe1, pm1, -⟩ := slice_of ph1
  subst pe1
  have pR1 := Lib.hid ph1
  clear ph1
  obtain ⟨pA2, pc2, pe2, pm2, -⟩ := slice_of ph2
  subst pe2
  have pR2 := Lib.hid ph2
  clear ph2
  obtain ⟨pA3, pc3, pe3, pm3, -⟩ := slice_of ph3
  subst pe3
  have pR3 := Lib.hid ph3
  clear ph3
  go_enter Try.func30, Try.ntmps30
  go_wp2_with fail
  obtain ⟨W0, hV⟩ : ∃ W0, W0 = ((w.alloc (.cells #[.int .i64 n.1, .slice mA1 (n.2.1).length mc1, .slice mA2 (n.2.2.1).length mc2, .slice mA3 (n.2.2.2).length mc3] 36)).alloc (.cells #[.int .i64 n.1, .slice pA1 (n.2.1).length pc1, .slice pA2 (n.2.2.1).length pc2, .slice pA3 (n.2.2.2).length pc3] 36)) := ⟨_, rfl⟩
  rw [← hV]
  have gN := eqbox2 hV
  have d0 : W0.cell? ⟨w.heap.size, 0, none⟩ = some (.int .i64 n.1) := box_cell gN.1 0 _ rfl
  have d1 : W0.cell? ⟨w.heap.size, 1, none⟩ = some (.slice mA1 (n.2.1).length mc1) := box_cell gN.1 1 _ rfl
  have d2 : W0.cell? ⟨w.heap.size, 2, none⟩ = some (.slice mA2 (n.2.2.1).length mc2) := box_cell gN.1 2 _ rfl
  have d3 : W0.cell? ⟨w.heap.size, 3, none⟩ = some (.slice mA3 (n.2.2.2).length mc3) := box_cell gN.1 3 _ rfl
  have c0 : W0.cell? ⟨w.heap.size + 1, 0, none⟩ = some (.int .i64 n.1) := box_cell gN.2.1 0 _ rfl
  have c1 : W0.cell? ⟨w.heap.size + 1, 1, none⟩ = some (.slice pA1 (n.2.1).length pc1) := box_cell gN.2.1 1 _ rfl
  have c2 : W0.cell? ⟨w.heap.size + 1, 2, none⟩ = some (.slice pA2 (n.2.2.1).length pc2) := box_cell gN.2.1 2 _ rfl
  have c3 : W0.cell? ⟨w.heap.size + 1, 3, none⟩ = some (.slice pA3 (n.2.2.2).length pc3) := box_cell gN.2.1 3 _ rfl
  have sW0 : W0.heap.size = w.heap.size + 2 := by rw [hV]; simp
  have HW0 := Lib.hid gN.2.2
  clear hV gN
  refine (sameS_rd n.2.1 _ _ _ (good_SeqS.below mR1.out (Nat.le_refl _) HW0.out) HW0.out.size (good_SeqS.below pR1.out (Nat.le_refl _) HW0.out) HW0.out.size).mono ?_
  rintro e w1 ⟨rfl, hb⟩
  replace d2 := keep hb d2
  replace d3 := keep hb d3
  replace c2 := keep hb c2
  replace c3 := keep hb c3
  have HB := Lib.hid (bThen HW0.out hb)
  clear hb d0 d1 c0 c1
  go_wp2_with fail
  refine (sameA_rd n.2.2.1 _ _ _ (good_AndS.below mR2.out (Nat.le_refl _) HB.out) HB.out.size (good_AndS.below pR2.out (Nat.le_refl _) HB.out) HB.out.size).mono ?_
  rintro e w2 ⟨rfl, hb⟩
  replace d3 := keep hb d3
  replace c3 := keep hb c3
  replace HB := Lib.hid (bThen HB.out hb)
  clear hb d2 c2
  go_wp2_with fail
  refine (sameI_rd n.2.2.2 _ _ _ (good_IntS.below mR3.out (Nat.le_refl _) HB.out) HB.out.size (good_IntS.below pR3.out (Nat.le_refl _) HB.out) HB.out.size).mono ?_
  rintro e w3 ⟨rfl, hb⟩
  replace HB := Lib.hid (bThen HB.out hb)
  clear hb d3 c3
  go_wp2
  go_ret
  exact ⟨rfl, HB.out⟩
end Go.Proofs.Ytedamhkcblemdaa
