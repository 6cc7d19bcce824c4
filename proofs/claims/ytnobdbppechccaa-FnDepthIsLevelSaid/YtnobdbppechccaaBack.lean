/-
  slices.Backward over a slice of AND nodes: the iterator's contract.
-/
import Derived.Test.YtnobdbppechccaaAtAll
import Derived.Test.YtnobdbppechccaaNetM
import Derived.RangeFuncNested
import Derived.RangeFuncBound
import Derived.RangeFuncCalls
import Derived.RangeFuncLeaves
import Derived.Shelf.Abstract
import Derived.Shelf.RegionOpen
import Derived.OwnWalkIn
import Derived.TacticsInMore
import Derived.LoopNIn
import Derived.LoopIn
namespace Go.Proofs.Ytnobdbppechccaa
open Go.RowKit
set_option linter.unusedVariables false
set_option linter.unusedSimpArgs false

attribute [local go_sem] Oper.semAt_some

/-- The rounds of A elements: the last element first. -/
abbrev Rnd (A : Nat) : Type := { j : Nat // j < A }
def rnds (A : Nat) : List (Rnd A) := (List.finRange A).map fun j => ⟨j.1, j.2⟩
theorem rnds_len (A : Nat) : (rnds A).length = A := by simp [rnds]
theorem rnds_at {A k : Nat} (hk : k < A) : (rnds A)[k]? = some ⟨k, hk⟩ := by
  unfold rnds
  rw [List.getElem?_map, List.getElem?_eq_getElem (by simp; exact hk)]
  simp
theorem rnds_step {A k : Nat} (hk : k < A) : (rnds A).take (k + 1) = (rnds A).take k ++ [⟨k, hk⟩] := by
  rw [List.take_add_one, rnds_at hk]; rfl
/-- What a round is handed. -/
def backV (L : List DAnd) (x : Rnd L.length) : Array Value := #[.int .i64 ((L.length : Int) - 1 - x.1), .agg #[.int .i64 (L.getD (L.length - 1 - x.1) (0, 0)).1, .int .i64 (L.getD (L.length - 1 - x.1) (0, 0)).2]]
/-- What the rounds keep: what lay below n, and the block b. -/
def KeepB (n b : Nat) (W W' : World) : Prop := Below n W W' ∧ W'.heap[b]? = W.heap[b]?
theorem keepB_t {n b : Nat} {X Y Z : World} (h : KeepB n b X Y) (k : KeepB n b Y Z) : KeepB n b X Z := ⟨h.1.trans k.1, k.2.trans h.2⟩
theorem keepB_b {n b : Nat} {w : World} (hn : n ≤ w.heap.size) (hb : b < w.heap.size) (W : World) (l : Nat) (o o' : Obj) (hl : w.heap.size ≤ l) (h : W.heap[l]? = some o) (h1 : o.isCells = false) (h2 : o.isWalk = false) : KeepB n b W (W.putObj l o') :=
  ⟨belowK_b hn W l o o' hl h h1 h2, World.putObj_heap_other (by omega)⟩
theorem KeepB.cell {n b : Nat} {W W' : World} (h : KeepB n b W W') {v : Value} {i : Nat} (hc : W.cell? ⟨b, i, none⟩ = some v) : W'.cell? ⟨b, i, none⟩ = some v := (World.cell?_of_block (w := W) (w' := W') (a := ⟨b, i, none⟩) h.2).trans hc
set_option maxHeartbeats 1000000 in
theorem backward_at (A : Option Addr) (len cap : Nat) (w : World) :
    Calls Try.prog 72 #[.slice A len cap] w fun e w' => e = .returned (.func (.func 83) #[] #[.pointer (some ⟨w.heap.size, 0, none⟩)]) ∧ w' = w.alloc (.cells #[.slice A len cap] 25) := by
  go_enter Try.func72, Try.ntmps72
  go_wp2
  go_ret
  exact ⟨rfl, rfl⟩
set_option maxRecDepth 100000 in
set_option maxHeartbeats 4000000 in
theorem back1_in (F : Fence) (n : Nat) (h8 : F.fn 83) (hro : F.round = none) (hn : 1 ≤ n) (l Bs n0 : Nat) (A : Option Addr) (cap : Nat) (L : List DAnd) (hl : L.length ≤ 1000) (J Jx : List (Rnd L.length) → World → Prop)
    (hY : ∀ pre x W, J pre W → pre.length < L.length → YieldAt F (n - 1) Try.prog l (backV L x) W fun e W' =>
      (e = .returned (.bool true) ∧ J (pre ++ [x]) W' ∧ KeepB n0 Bs W W') ∨ (e = .returned (.bool false) ∧ Jx (pre ++ [x]) W'))
    (W : World) (hBs : W.cell? ⟨Bs, 0, none⟩ = some (.slice A L.length cap)) (hr : rdAndS 0 n0 W [.slice A L.length cap] L) (h0 : J [] W) :
    CallsIn F n Try.prog 83 #[.func (.yield l) #[] #[], .pointer (some ⟨Bs, 0, none⟩)] W fun e W' => (∃ v, e = .returned v) ∧
      ((∃ ys, ys = rnds L.length ∧ J ys W') ∨ (∃ pre, True ∧ Jx pre W')) := by
  have HR := Lib.hid hr
  have HY := Lib.hid hY
  clear hr hY
  refine callsIn_of_wp Try.func83 rfl h8 ?_ hro
  simp only [Try.ntmps83, List.size_toArray, List.length_cons, List.length_nil, Nat.reduceAdd, Nat.reduceSub, Array.replicate_succ, Array.replicate_zero, List.push_toArray, List.append_toArray, List.nil_append, List.cons_append]
  gi_wp2
  gi_loopw [3] (fun v wr => ∃ k : Nat, k ≤ L.length ∧ v = .int .i64 ((L.length : Int) - 1 - k) ∧ J ((rnds L.length).take k) wr ∧ KeepB n0 Bs W wr)
    (fun v _ => (intOf v + 1).toNat)
  case atStart => exact ⟨0, Nat.zero_le _, by simp, h0, Below.refl _ _, rfl⟩
  case round =>
    obtain ⟨k, hk, rfl, hJs, hnx⟩ := hrel
    have hb := hnx.cell hBs
    by_cases hlt : k < L.length
    · obtain ⟨fn, tmps, assign, body, hy, hR⟩ := HY.out _ ⟨k, hlt⟩ wr hJs (by rw [List.length_take, rnds_len]; omega)
      obtain ⟨i, hi⟩ : ∃ i, L.length - 1 - k = i := ⟨_, rfl⟩
      have hil : i < L.length := by omega
      have hie : ((L.length : Int) - 1 - k) = (i : Int) := by omega
      have hd : L.getD (L.length - 1 - k) (0, 0) = L[i] := by rw [hi, List.getD_eq_getElem?_getD, List.getElem?_eq_getElem hil]; rfl
      obtain ⟨b, q, rfl, hb1, x0, -, x1, -⟩ := at_And (good_AndS _ _ _ _ _ _ _ _ HR.out (Nat.le_refl _) (Nat.le_refl _) (fun b _ hb => hnx.1.block b hb)) (List.getElem?_eq_getElem hil)
      obtain ⟨x, hx⟩ : ∃ x, L[i].1 = x := ⟨_, rfl⟩
      obtain ⟨y, hyy⟩ : ∃ y, L[i].2 = y := ⟨_, rfl⟩
      rw [hx] at x0
      rw [hyy] at x1
      unfold backV at hy
      dsimp only at hy
      rw [hd, hx, hyy, hie] at hy
      rw [hie]
      have ti : (i : Int) < (L.length : Int) := by omega
      have HK := Lib.hid hnx
      have HI := Lib.hid hi
      clear hnx hJs hd hx hyy hi hie hb1
      gi_wp2
      refine hR.mono ?_
      rintro e W3 (⟨rfl, hJ3, hk3⟩ | ⟨rfl, hJx3⟩)
      · have HJ := Lib.hid (show J ((rnds L.length).take (k + 1)) W3 by rw [rnds_step hlt]; exact hJ3)
        have HK3 := Lib.hid (keepB_t HK.out hk3)
        clear hJ3 hk3 x0 x1 hb
        gi_wp2
        go_roundw
        case rel => exact ⟨k + 1, by omega, by have := HI.out; go_num, HJ.out, HK3.out⟩
        case measure => simp [intOf] <;> omega
      · clear x0 x1 hb
        gi_wp2
        refine bodyPost_ret (results_none rfl _ _ _) rfl ?_
        exact ⟨⟨_, rfl⟩, .inr ⟨_, trivial, hJx3⟩⟩
    · obtain rfl : k = L.length := by omega
      have HJ := Lib.hid (show J (rnds L.length) wr by rw [← List.take_length (l := rnds L.length), rnds_len]; exact hJs)
      clear hJs hnx hb
      gi_wp2
      go_end0
      exact ⟨⟨_, rfl⟩, .inl ⟨_, rfl, HJ.out⟩⟩
theorem back_stops (F : Fence) (n : Nat) (h8 : F.fn 83) (hro : F.round = none) (hn : 1 ≤ n) (Bs n0 : Nat) (A : Option Addr) (cap : Nat) (L : List DAnd) (hl : L.length ≤ 1000)
    (w : World) (hB : Bs < w.heap.size) (hn0 : n0 ≤ w.heap.size) (hc : w.cell? ⟨Bs, 0, none⟩ = some (.slice A L.length cap)) (hr : rdAndS 0 n0 w [.slice A L.length cap] L) :
    SeqStopsK F n Try.prog 83 #[.pointer (some ⟨Bs, 0, none⟩)] (backV L) (KeepB n0 Bs) (fun ys => ys = rnds L.length) (fun _ => True) L.length w := fun l J Jx W hW _ _ hY h0 =>
  back1_in F n h8 hro hn l Bs n0 A cap L hl J Jx hY W ((hW.cell (p := ⟨Bs, 0, none⟩) hB).trans hc) (good_AndS _ _ _ _ _ _ _ _ hr (Nat.le_refl _) (Nat.le_refl _) (fun b _ hb => hW.block b (Nat.lt_of_lt_of_le hb hn0))) h0
end Go.Proofs.Ytnobdbppechccaa
