/-
  The program's covers: the table of a cover.
-/
import Derived.Test.YtjibjnkabfmgaaaIBit
namespace Go.Proofs.Ytjibjnkabfmgaaa
open Go.RowKit
set_option linter.unusedVariables false
set_option linter.unusedSimpArgs false

theorem tab_take (N : Nat) (L : List (Int × Int)) (k : Nat) (hk : k < L.length) : tabN N (L.take k) ||| cubN N L[k] = tabN N (L.take (k + 1)) := by
  rw [List.take_add_one, List.getElem?_eq_getElem hk, Option.toList_some, tab_snoc]
theorem coverB_mem {n : Int} {L : List (Int × Int)} (h : coverB n L = true) (k : Nat) (hk : k < L.length) : ∃ N X Y : Nat, n = N ∧ L[k] = ((X : Int), (Y : Int)) ∧ N ≤ 4 ∧ X < 2 ^ N ∧ Y < 2 ^ N ∧ andNot Y X = 0 := by
  unfold coverB at h
  rw [Bool.and_eq_true, List.all_eq_true] at h
  obtain ⟨N, X, Y, e1, e2, e3, h1, h2, h3, h4⟩ := cubeB_out (h.2 L[k] (List.getElem_mem hk))
  exact ⟨N, X, Y, e1, Prod.ext e2 e3, h1, h2, h3, h4⟩

set_option maxHeartbeats 6400000 in
theorem implCover_any (n : Int) (A : Option Addr) (c : Nat) (L : List (Int × Int)) (w : World) (hL : RowP w A L.length L) (hW : Wide L) :
    Calls Try.prog 16 #[.int .i64 n, .slice A L.length c] w fun e w' => e = .returned (coverT n L) ∧ Below w.heap.size w w' := by
  unfold coverT
  cases hc : coverB n L
  · go_enter Try.func16, Try.ntmps16
    go_wp2_with fail
    refine (implCovOk_at n A c L _ (hL.below (bAlloc (Below.refl _ _) (Nat.le_refl _) _)) hW hc).mono ?_
    rintro e w1 ⟨rfl, hb⟩
    have g := box1 hb
    have r0 : w1.cell? ⟨w.heap.size, 0, none⟩ = some (.int .i64 0) := box_cell g.1 0 _ rfl
    have r1 : w1.cell? ⟨w.heap.size, 1, none⟩ = some (.int .i64 0) := box_cell g.1 1 _ rfl
    have y0 : w1.frozen? ⟨w.heap.size, 0, none⟩ = false := frozen_of_row w1 _ 0 _ _ g.1
    have y1 : w1.frozen? ⟨w.heap.size, 1, none⟩ = false := frozen_of_row w1 _ 1 _ _ g.1
    have HB := Lib.hid g.2
    clear hb g
    go_wp2
    ((try simp only [Exit.inBlock, Exit.then]); refine bodyPost_ret (v := (.agg #[.int .i64 0, .int .i64 0])) (by rw [results_cell1 rfl]; go_simp) rfl ?_)
    have hB := HB.out
    exact ⟨rfl, by (repeat' (first | assumption | exact Below.refl _ _ | refine bDrewN ?_ _ | refine Below.drew ?_ | refine bAlloc ?_ (Nat.le_refl _) _ | refine bSet ?_ (by first | exact Nat.le_refl _ | omega | (simp <;> omega)) _))⟩
  · have HC := Lib.hid hc
    obtain ⟨N, rfl, hN, hl, hS⟩ := small_of hc
    replace hc := HC.out
    have h16 := pow16 N hN
    go_enter Try.func16, Try.ntmps16
    go_wp2_with fail
    refine (implCovOk_at N A c L _ (hL.below (bAlloc (Below.refl _ _) (Nat.le_refl _) _)) hW hc).mono ?_
    rintro e w1 ⟨rfl, hb⟩
    have g := box1 hb
    have HB := Lib.hid g.2
    have HG := Lib.hid g.1
    have hL1 := hL.below g.2
    have hg1 : w.heap.size < w1.heap.size := (Array.getElem?_eq_some_iff.1 g.1).1
    clear hb g
    go_wp2
    go_loopw [7, 17] (fun _ v wr => ∃ k : Nat, k ≤ L.length ∧ v = .int .i64 k ∧ wr.heap[w.heap.size]? = some (.cells #[.int .i64 0, .int .i64 0] 25 (0, 0)) ∧
      wr.heap[w1.heap.size]? = some (.cells #[.int .i64 N, .int .i64 (tabN N (L.take k) : Nat)] 25 (0, 0)) ∧ Below w.heap.size w wr) (fun _ v _ => L.length - (intOf v).toNat)
    case atStart =>
      refine ⟨0, Nat.zero_le _, rfl, ?_, ?_, bThen HB.out (bAlloc (Below.refl _ _) (Nat.le_refl _) _)⟩
      · exact (heap_alloc_old _ _ hg1).trans HG.out
      · rw [show tabN N (L.take 0) = 0 by rw [List.take_zero]; exact tab_nil N]
        exact heap_alloc_new w1 _
    case round =>
      obtain ⟨k, hk, rfl, hr, ho, hb⟩ := hrel
      have HR := Lib.hid hr
      have HO := Lib.hid ho
      have HBB := Lib.hid hb
      have hsz := hb.size
      by_cases hlt : k < L.length
      · obtain ⟨b, o, rfl, hbl, x0, x1⟩ := (hL.below hb).2.2 k hlt
        obtain ⟨N', X, Y, hn, hxy, hN', hX, hY, hv⟩ := coverB_mem HC.out k hlt
        obtain rfl : N = N' := by omega
        have hst := tab_take N L k hlt
        rw [hxy] at x0 x1 hst
        obtain ⟨z, hz⟩ : ∃ z, cubN N ((X : Int), (Y : Int)) = z := ⟨_, rfl⟩
        obtain ⟨t, ht⟩ : ∃ t, tabN N (L.take k) = t := ⟨_, rfl⟩
        obtain ⟨t', ht'⟩ : ∃ t', tabN N (L.take (k + 1)) = t' := ⟨_, rfl⟩
        have hz1 : z ≤ 65535 := by rw [← hz]; exact cubN_le N _ hN
        have htl : t ≤ 65535 := by rw [← ht]; exact tabN_le N _ hN
        rw [hz, ht, ht'] at hst
        rw [ht] at HO
        have ev : bits .or .i64 (t : Int) (z : Int) = (t' : Int) := by rw [i64_or _ _ (by omega) (by omega), hst]
        have HZ := Lib.hid (And.intro hz (And.intro ht ht'))
        clear hr ho hb hst hz ht ht' hxy hL1
        go_wp2
        obtain ⟨V, hV⟩ : ∃ V, V = wr.alloc (.cells #[.int .i64 X, .int .i64 Y] 32) := ⟨_, rfl⟩
        rw [← hV]
        have g := eqbox1 hV
        have d0 : V.cell? ⟨wr.heap.size, 0, none⟩ = some (.int .i64 X) := box_cell g.1 0 _ rfl
        have d1 : V.cell? ⟨wr.heap.size, 1, none⟩ = some (.int .i64 Y) := box_cell g.1 1 _ rfl
        have ho := rowB g.2 HO.out
        have hr := rowB g.2 HR.out
        have z1 : V.cell? ⟨w1.heap.size, 1, none⟩ = some (.int .i64 (t : Nat)) := box_cell ho 1 _ rfl
        have f1 : V.frozen? ⟨w1.heap.size, 1, none⟩ = false := frozen_of_row V _ 1 _ _ ho
        have s1 : w1.heap.size < wr.heap.size := (Array.getElem?_eq_some_iff.1 HO.out).1
        have HV := Lib.hid (And.intro ho (And.intro hr (bThen HBB.out g.2)))
        have s2 : w1.heap.size < V.heap.size := World.block_lt_of_cell? _ _ z1
        clear hV g ho hr HO HR x0 x1
        go_region_law (first | (go_simp; go_at_call 43; refine (implBits_at N X Y _ hN hX hY hv HZ.out.1).mono ?_; rintro e w2 ⟨rfl, hb⟩; have q1 : w2.cell? ⟨w1.heap.size, 1, none⟩ = some (.int .i64 (t : Nat)) := (hb.cell (p := ⟨w1.heap.size, 1, none⟩) s2).trans z1; have q2 : w2.frozen? ⟨w1.heap.size, 1, none⟩ = false := (hb.frozen (p := ⟨w1.heap.size, 1, none⟩) s2).trans f1))
        all_goals have hb2 : Below V.heap.size V w2 := (Below.refl V.heap.size V).drew.trans hb
        all_goals clear hb
        all_goals go_wp2
        all_goals go_roundw
        all_goals first
          | exact ⟨k + 1, by omega, by go_num, (Below.heap_setCell _ _ _ w.heap.size (by simp; omega)).trans (rowB hb2 HV.out.2.1), (by rw [HZ.out.2.2]; exact heap_setCell_same _ _ 1 _ _ _ (rowB hb2 HV.out.1)), bSet (bThen HV.out.2.2 hb2) (by simp; omega) _⟩
          | (simp [intOf]; omega)
      · obtain rfl : k = L.length := by omega
        rw [List.take_length] at HO
        have c0 : wr.cell? ⟨w1.heap.size, 0, none⟩ = some (.int .i64 N) := box_cell HO.out 0 _ rfl
        have c1 : wr.cell? ⟨w1.heap.size, 1, none⟩ = some (.int .i64 (tabN N L : Nat)) := box_cell HO.out 1 _ rfl
        have r0 : wr.cell? ⟨w.heap.size, 0, none⟩ = some (.int .i64 0) := box_cell HR.out 0 _ rfl
        have r1 : wr.cell? ⟨w.heap.size, 1, none⟩ = some (.int .i64 0) := box_cell HR.out 1 _ rfl
        have y0 : wr.frozen? ⟨w.heap.size, 0, none⟩ = false := frozen_of_row wr _ 0 _ _ HR.out
        have y1 : wr.frozen? ⟨w.heap.size, 1, none⟩ = false := frozen_of_row wr _ 1 _ _ HR.out
        clear hr ho hb hL1
        go_wp2
        ((try simp only [Exit.inBlock, Exit.then]); refine bodyPost_ret (v := (.agg #[.int .i64 N, .int .i64 (tabN N L : Nat)])) (by rw [results_cell1 rfl]; go_simp) rfl ?_)
        have hB := HBB.out
        exact ⟨rfl, by (repeat' (first | assumption | exact Below.refl _ _ | refine bDrewN ?_ _ | refine Below.drew ?_ | refine bAlloc ?_ (Nat.le_refl _) _ | refine bSet ?_ (by first | exact Nat.le_refl _ | omega | (simp <;> omega)) _))⟩
end Go.Proofs.Ytjibjnkabfmgaaa
