/-
  The sample net, made by both.
-/
import Derived.Test.YtnobdbppechccaaLay
import Derived.Test.YtnobdbppechccaaDoN
namespace Go.Proofs.Ytnobdbppechccaa
open Go.RowKit
set_option linter.unusedVariables false
set_option linter.unusedSimpArgs false

def sampleN : DNet := (2, [(0, 1, [9])], [(2, 6)], [8, 7])
theorem own_sampleN (gi gq ga go : Nat) (W : World) (h_i : W.heap[gi]? = some (.cells #[.int .i64 9] 3 (0, 0))) (h_q : W.heap[gq]? = some (.cells #[.int .i64 0, .int .i64 1, .slice (some ⟨gi, 0, none⟩) 1 1] 70 (0, 0)))
    (h_a : W.heap[ga]? = some (.cells #[.int .i64 2, .int .i64 6] 38 (0, 0))) (h_o : W.heap[go]? = some (.cells #[.int .i64 8, .int .i64 7] 3 (0, 0))) :
    owNet [gq, gi, ga, go] W [.int .i64 2, .slice (some ⟨gq, 0, none⟩) 1 1, .slice (some ⟨ga, 0, none⟩) 1 1, .slice (some ⟨go, 0, none⟩) 2 2] sampleN := by
  have e_i : owIntS [gi] W [.slice (some ⟨gi, 0, none⟩) 1 1] [9] := own_flat1 [9] h_i (by decide) (by decide) (by decide)
  have e_o : owIntS [go] W [.slice (some ⟨go, 0, none⟩) 2 2] [8, 7] := own_flat1 [8, 7] h_o (by decide) (by decide) (by decide)
  have e_a : owAndS [ga] W [.slice (some ⟨ga, 0, none⟩) 1 1] [(2, 6)] := own_flat2 [(2, 6)] h_a (by decide) (by decide) (by decide)
  have e_q : owSeqS [gq, gi] W [.slice (some ⟨gq, 0, none⟩) 1 1] [(0, 1, [9])] :=
    owS_rows fV3 3 fV3_len [((.int .i64 0 : Value), (.int .i64 1 : Value), (.slice (some ⟨gi, 0, none⟩) 1 1 : Value))] [(0, 1, [9])] (fun _ => [gi]) h_q rfl (by decide) (by
      intro j hj hj'
      match j, hj with
      | 0, _ => exact ⟨[], [], [gi], _, _, _, rfl, rfl, ⟨rfl, rfl, (show Fit 0 from Few.fit (by decide))⟩, ⟨rfl, rfl, (show Fit 1 from Few.fit (by decide))⟩, e_i⟩)
  exact ⟨[], [gq, gi], [ga], [go], _, _, _, _, rfl, rfl, ⟨rfl, rfl, (show Fit 2 from Few.fit (by decide))⟩, e_q, e_a, e_o⟩
set_option maxRecDepth 100000 in
set_option maxHeartbeats 3200000 in
theorem implSampleN_at (w : World) {x : DNet} (hx : sampleN = x) : Calls Try.prog 41 #[] w fun e w' => ∃ (vs : List Value) (bs : List Nat), e = .returned (.agg vs.toArray) ∧ owNet bs w' vs x ∧ bs.Nodup ∧ (∀ b ∈ bs, w.heap.size ≤ b ∧ b < w'.heap.size) ∧ Below w.heap.size w w' := by
  subst hx
  go_enter Try.func41, Try.ntmps41
  go_wp2
  ((try simp only [Exit.inBlock, Exit.then]); refine bodyPost_ret (v := (.agg #[.int .i64 2, .slice (some ⟨w.heap.size + 2, 0, none⟩) 1 1, .slice (some ⟨w.heap.size + 3, 0, none⟩) 1 1, .slice (some ⟨w.heap.size + 4, 0, none⟩) 2 2])) (by rw [results_cell1 rfl]; go_simp) rfl ?_)
  refine ⟨_, [w.heap.size + 2, w.heap.size + 1, w.heap.size + 3, w.heap.size + 4], rfl, own_sampleN (w.heap.size + 1) (w.heap.size + 2) (w.heap.size + 3) (w.heap.size + 4) _ (allocL_at ([Obj.cells #[.int .i64 2, .slice (some ⟨w.heap.size + 2, 0, none⟩) 1 1, .slice (some ⟨w.heap.size + 3, 0, none⟩) 1 1, .slice (some ⟨w.heap.size + 4, 0, none⟩) 2 2] 28, Obj.cells #[.int .i64 9] 3, Obj.cells #[.int .i64 0, .int .i64 1, .slice (some ⟨w.heap.size + 1, 0, none⟩) 1 1] 70, Obj.cells #[.int .i64 2, .int .i64 6] 38, Obj.cells #[.int .i64 8, .int .i64 7] 3]) w 1 _ rfl) (allocL_at ([Obj.cells #[.int .i64 2, .slice (some ⟨w.heap.size + 2, 0, none⟩) 1 1, .slice (some ⟨w.heap.size + 3, 0, none⟩) 1 1, .slice (some ⟨w.heap.size + 4, 0, none⟩) 2 2] 28, Obj.cells #[.int .i64 9] 3, Obj.cells #[.int .i64 0, .int .i64 1, .slice (some ⟨w.heap.size + 1, 0, none⟩) 1 1] 70, Obj.cells #[.int .i64 2, .int .i64 6] 38, Obj.cells #[.int .i64 8, .int .i64 7] 3]) w 2 _ rfl) (allocL_at ([Obj.cells #[.int .i64 2, .slice (some ⟨w.heap.size + 2, 0, none⟩) 1 1, .slice (some ⟨w.heap.size + 3, 0, none⟩) 1 1, .slice (some ⟨w.heap.size + 4, 0, none⟩) 2 2] 28, Obj.cells #[.int .i64 9] 3, Obj.cells #[.int .i64 0, .int .i64 1, .slice (some ⟨w.heap.size + 1, 0, none⟩) 1 1] 70, Obj.cells #[.int .i64 2, .int .i64 6] 38, Obj.cells #[.int .i64 8, .int .i64 7] 3]) w 3 _ rfl) (allocL_at ([Obj.cells #[.int .i64 2, .slice (some ⟨w.heap.size + 2, 0, none⟩) 1 1, .slice (some ⟨w.heap.size + 3, 0, none⟩) 1 1, .slice (some ⟨w.heap.size + 4, 0, none⟩) 2 2] 28, Obj.cells #[.int .i64 9] 3, Obj.cells #[.int .i64 0, .int .i64 1, .slice (some ⟨w.heap.size + 1, 0, none⟩) 1 1] 70, Obj.cells #[.int .i64 2, .int .i64 6] 38, Obj.cells #[.int .i64 8, .int .i64 7] 3]) w 4 _ rfl), by simp, fun b hb => ?_, allocL_below ([Obj.cells #[.int .i64 2, .slice (some ⟨w.heap.size + 2, 0, none⟩) 1 1, .slice (some ⟨w.heap.size + 3, 0, none⟩) 1 1, .slice (some ⟨w.heap.size + 4, 0, none⟩) 2 2] 28, Obj.cells #[.int .i64 9] 3, Obj.cells #[.int .i64 0, .int .i64 1, .slice (some ⟨w.heap.size + 1, 0, none⟩) 1 1] 70, Obj.cells #[.int .i64 2, .int .i64 6] 38, Obj.cells #[.int .i64 8, .int .i64 7] 3]) w⟩
  have hz := allocL_size ([Obj.cells #[.int .i64 2, .slice (some ⟨w.heap.size + 2, 0, none⟩) 1 1, .slice (some ⟨w.heap.size + 3, 0, none⟩) 1 1, .slice (some ⟨w.heap.size + 4, 0, none⟩) 2 2] 28, Obj.cells #[.int .i64 9] 3, Obj.cells #[.int .i64 0, .int .i64 1, .slice (some ⟨w.heap.size + 1, 0, none⟩) 1 1] 70, Obj.cells #[.int .i64 2, .int .i64 6] 38, Obj.cells #[.int .i64 8, .int .i64 7] 3]) w
  simp only [List.length_cons, List.length_nil] at hz
  refine ⟨by simp at hb; omega, ?_⟩
  exact Nat.lt_of_lt_of_eq (by simp at hb; omega : b < w.heap.size + 5) hz.symm
set_option maxRecDepth 100000 in
set_option maxHeartbeats 3200000 in
theorem specSampleN_at (w : World) {x : DNet} (hx : sampleN = x) : Calls Try.prog 40 #[] w fun e w' => ∃ (vs : List Value) (bs : List Nat), e = .returned (.agg vs.toArray) ∧ owNet bs w' vs x ∧ bs.Nodup ∧ (∀ b ∈ bs, w.heap.size ≤ b ∧ b < w'.heap.size) ∧ Below w.heap.size w w' := by
  subst hx
  go_enter Try.func40, Try.ntmps40
  go_wp2
  ((try simp only [Exit.inBlock, Exit.then]); refine bodyPost_ret (v := (.agg #[.int .i64 2, .slice (some ⟨w.heap.size + 2, 0, none⟩) 1 1, .slice (some ⟨w.heap.size + 3, 0, none⟩) 1 1, .slice (some ⟨w.heap.size + 4, 0, none⟩) 2 2])) (by rw [results_cell1 rfl]; go_simp) rfl ?_)
  refine ⟨_, [w.heap.size + 2, w.heap.size + 1, w.heap.size + 3, w.heap.size + 4], rfl, own_sampleN (w.heap.size + 1) (w.heap.size + 2) (w.heap.size + 3) (w.heap.size + 4) _ (allocL_at ([Obj.cells #[.int .i64 2, .slice (some ⟨w.heap.size + 2, 0, none⟩) 1 1, .slice (some ⟨w.heap.size + 3, 0, none⟩) 1 1, .slice (some ⟨w.heap.size + 4, 0, none⟩) 2 2] 28, Obj.cells #[.int .i64 9] 3, Obj.cells #[.int .i64 0, .int .i64 1, .slice (some ⟨w.heap.size + 1, 0, none⟩) 1 1] 70, Obj.cells #[.int .i64 2, .int .i64 6] 38, Obj.cells #[.int .i64 8, .int .i64 7] 3]) w 1 _ rfl) (allocL_at ([Obj.cells #[.int .i64 2, .slice (some ⟨w.heap.size + 2, 0, none⟩) 1 1, .slice (some ⟨w.heap.size + 3, 0, none⟩) 1 1, .slice (some ⟨w.heap.size + 4, 0, none⟩) 2 2] 28, Obj.cells #[.int .i64 9] 3, Obj.cells #[.int .i64 0, .int .i64 1, .slice (some ⟨w.heap.size + 1, 0, none⟩) 1 1] 70, Obj.cells #[.int .i64 2, .int .i64 6] 38, Obj.cells #[.int .i64 8, .int .i64 7] 3]) w 2 _ rfl) (allocL_at ([Obj.cells #[.int .i64 2, .slice (some ⟨w.heap.size + 2, 0, none⟩) 1 1, .slice (some ⟨w.heap.size + 3, 0, none⟩) 1 1, .slice (some ⟨w.heap.size + 4, 0, none⟩) 2 2] 28, Obj.cells #[.int .i64 9] 3, Obj.cells #[.int .i64 0, .int .i64 1, .slice (some ⟨w.heap.size + 1, 0, none⟩) 1 1] 70, Obj.cells #[.int .i64 2, .int .i64 6] 38, Obj.cells #[.int .i64 8, .int .i64 7] 3]) w 3 _ rfl) (allocL_at ([Obj.cells #[.int .i64 2, .slice (some ⟨w.heap.size + 2, 0, none⟩) 1 1, .slice (some ⟨w.heap.size + 3, 0, none⟩) 1 1, .slice (some ⟨w.heap.size + 4, 0, none⟩) 2 2] 28, Obj.cells #[.int .i64 9] 3, Obj.cells #[.int .i64 0, .int .i64 1, .slice (some ⟨w.heap.size + 1, 0, none⟩) 1 1] 70, Obj.cells #[.int .i64 2, .int .i64 6] 38, Obj.cells #[.int .i64 8, .int .i64 7] 3]) w 4 _ rfl), by simp, fun b hb => ?_, allocL_below ([Obj.cells #[.int .i64 2, .slice (some ⟨w.heap.size + 2, 0, none⟩) 1 1, .slice (some ⟨w.heap.size + 3, 0, none⟩) 1 1, .slice (some ⟨w.heap.size + 4, 0, none⟩) 2 2] 28, Obj.cells #[.int .i64 9] 3, Obj.cells #[.int .i64 0, .int .i64 1, .slice (some ⟨w.heap.size + 1, 0, none⟩) 1 1] 70, Obj.cells #[.int .i64 2, .int .i64 6] 38, Obj.cells #[.int .i64 8, .int .i64 7] 3]) w⟩
  have hz := allocL_size ([Obj.cells #[.int .i64 2, .slice (some ⟨w.heap.size + 2, 0, none⟩) 1 1, .slice (some ⟨w.heap.size + 3, 0, none⟩) 1 1, .slice (some ⟨w.heap.size + 4, 0, none⟩) 2 2] 28, Obj.cells #[.int .i64 9] 3, Obj.cells #[.int .i64 0, .int .i64 1, .slice (some ⟨w.heap.size + 1, 0, none⟩) 1 1] 70, Obj.cells #[.int .i64 2, .int .i64 6] 38, Obj.cells #[.int .i64 8, .int .i64 7] 3]) w
  simp only [List.length_cons, List.length_nil] at hz
  refine ⟨by simp at hb; omega, ?_⟩
  exact Nat.lt_of_lt_of_eq (by simp at hb; omega : b < w.heap.size + 5) hz.symm
end Go.Proofs.Ytnobdbppechccaa
