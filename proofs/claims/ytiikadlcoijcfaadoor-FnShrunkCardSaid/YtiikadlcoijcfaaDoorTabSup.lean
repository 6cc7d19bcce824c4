/-
  Truth tables: the inputs on which a table depends.
-/
import Derived.Test.YtiikadlcoijcfaaDoorTabDep
import Derived.Test.YtiikadlcoijcfaaDoorIntS
namespace Go.Proofs.YtiikadlcoijcfaaDoor
open Go.RowKit
set_option linter.unusedVariables false
set_option linter.unusedSimpArgs false

/-- The inputs below m on which the table depends. -/
def supI (n b : Int) (m : Nat) : List Int := ((List.range m).filter fun k : Nat => depB n b k).map fun k : Nat => (k : Int)
theorem supI_zero (n b : Int) : supI n b 0 = [] := rfl
theorem supI_yes (n b : Int) (m : Nat) (h : depB n b m = true) : supI n b (m + 1) = supI n b m ++ [(m : Int)] := by
  unfold supI; rw [List.range_succ, List.filter_append, List.map_append]; simp [h]
theorem supI_no (n b : Int) (m : Nat) (h : depB n b m = false) : supI n b (m + 1) = supI n b m := by
  unfold supI; rw [List.range_succ, List.filter_append, List.map_append]; simp [h]
theorem supI_len (n b : Int) (m : Nat) : (supI n b m).length ≤ m := by
  unfold supI; rw [List.length_map]; exact Nat.le_trans (List.length_filter_le _ _) (by simp)
theorem supI_past (n b : Int) (m : Nat) (h : n ≤ m) : ∀ j, supI n b (m + j) = supI n b m
  | 0 => rfl
  | j + 1 => by
    rw [← Nat.add_assoc, supI_no n b (m + j) (dep_no (by omega)), supI_past n b m h j]
theorem supI_four (n b : Int) (h0 : 0 ≤ n) (h4 : n ≤ 4) : supI n b 4 = supI n b n.toNat := by
  have := supI_past n b n.toNat (by omega) (4 - n.toNat)
  rwa [show n.toNat + (4 - n.toNat) = 4 by omega] at this
theorem supI_bad (n b : Int) (h : okB n b = false) : ∀ m, supI n b m = []
  | 0 => rfl
  | m + 1 => by rw [supI_no n b m (dep_no (by rw [h]; simp)), supI_bad n b h m]
theorem infoI : (Tryd.prog.info? 3).map (fun i => (i.zero, i.size, i.bytes)) = some (some (.int .i64 0), 1, 8) := by kernel_rfl
/-- The support's post. -/
def SupPost (n b : Int) (w : World) (e : Ending) (w' : World) : Prop := ∃ v, e = .returned v ∧ OwnsI w' w.heap.size v (supI n b 4) ∧ Below w.heap.size w w'
theorem OwnsI.mono {w : World} {B B' : Nat} {v : Value} {L : List Int} (h : OwnsI w B v L) (hB : B' ≤ B) : OwnsI w B' v L := by
  obtain ⟨h1, h2⟩ := h
  refine ⟨h1, ?_⟩
  rcases h2 with h2 | ⟨g, cap, cur, e1, e2, e3⟩
  · exact .inl h2
  · exact .inr ⟨g, cap, cur, e1, Nat.le_trans hB e2, e3⟩
theorem implDep_at (n b k : Int) {d : Bool} (w : World) (hI : InB w) (hd : depB n b k = d) :
    Calls Tryd.prog 14 #[.agg #[.int .i64 n, .int .i64 b], .int .i64 k] w fun e w' => e = .returned (.bool d) ∧ Below w.heap.size w w' := by
  subst hd; exact implDep_any n b k w hI
theorem specDep_at (n b k : Int) {d : Bool} (w : World) (hd : depB n b k = d) :
    Calls Tryd.prog 27 #[.agg #[.int .i64 n, .int .i64 b], .int .i64 k] w fun e w' => e = .returned (.bool d) ∧ Below w.heap.size w w' := by
  subst hd; exact specDep_any n b k w

set_option maxHeartbeats 3200000 in
theorem implSup_any (n b : Int) (w : World) (hI : InB w) :
    Calls Tryd.prog 22 #[T n b] w (SupPost n b w) := by
  obtain ⟨i0, hi, hz0, hz1, hz2⟩ := info_parts infoI
  unfold T
  go_enter Tryd.func22, Tryd.ntmps22
  go_wp2
  obtain ⟨W, hW⟩ : ∃ W, W = (w.alloc (.cells #[.int .i64 n, .int .i64 b] 25)) := ⟨_, rfl⟩
  rw [← hW]
  have g := eqbox1 hW
  have c0 : W.cell? ⟨w.heap.size, 0, none⟩ = some (.int .i64 n) := box_cell g.1 0 _ rfl
  have c1 : W.cell? ⟨w.heap.size, 1, none⟩ = some (.int .i64 b) := box_cell g.1 1 _ rfl
  have HW := Lib.hid g.2
  have hJ : InB W := hI.keep g.2
  have hsz := g.2.size
  clear hW g hI
  go_loopw [3, 4, 5] (fun v _ i wr => ∃ m : Nat, m ≤ 4 ∧ i = .int .i64 m ∧ OwnsI wr W.heap.size v (supI n b m) ∧ Below W.heap.size W wr) (fun _ _ i _ => 4 - (intOf i).toNat)
  case atStart => exact ⟨0, by omega, rfl, own_nilI _ _, Below.refl _ _⟩
  case round =>
    obtain ⟨m, hm, rfl, hown, hb⟩ := hrel
    have hl := supI_len n b m
    have HO := Lib.hid hown
    have HB := Lib.hid hb
    have d0 := keep hb c0
    have d1 := keep hb c1
    have hJr := hJ.keep hb
    have hsr := hb.size
    clear hown hb c0 c1 hJ
    by_cases hlt : m < 4
    · cases hd : depB n b m
      · go_wp2_with fail
        refine (implDep_at n b m _ hJr hd).mono ?_
        rintro e w1 ⟨rfl, hb1⟩
        have R := Lib.hid (And.intro (HO.out.below hb1) (bThen HB.out hb1))
        clear hb1
        go_wp2
        go_roundw
        case rel => exact ⟨m + 1, by omega, by go_num, by rw [supI_no n b m hd]; exact R.out.1, R.out.2⟩
        case measure => simp [intOf]; omega
      · go_wp2_with fail
        refine (implDep_at n b m _ hJr hd).mono ?_
        rintro e w1 ⟨rfl, hb1⟩
        have O1 := Lib.hid (HO.out.below hb1)
        have B1 := Lib.hid (bThen HB.out hb1)
        have hs1 := B1.out.size
        clear hb1
        go_wp2_with (refine wpList_append_lies _ rfl _ _ 35 (by rfl) W.heap.size 3 i0 _ 1 8 Tryd.underlying35 hi hz0 hz1 hz2 rfl (by omega) u3 (supI n b m).length _ (by rfl) (O1.out.alloc _) ⟨w1.heap.size, 0, none⟩ 1 1 [.int .i64 (m)] (by rfl) (by rfl) (World.news_of_block (heap_alloc_new w1 _)) (by simp [Value.oneCell']) (by omega) (by unfold maxLen; omega) (by omega) (by simp; omega) (w1.heap.size + 1) (by simp) ?_; intro gg cap w2 hown2 hgrow2 hat2 hlt2)
        have R := own_addI O1.out hs1 B1.out (bAlloc (Below.refl _ _) (Nat.le_refl _) _) hgrow2 hown2
        go_roundw
        case rel => exact ⟨m + 1, by omega, by go_num, by rw [supI_yes n b m hd]; exact R.1, R.2⟩
        case measure => simp [intOf]; omega
    · obtain rfl : m = 4 := by omega
      go_wp2
      go_ret
      exact ⟨_, rfl, HO.out.mono hsz, bThen HW.out HB.out⟩

set_option maxHeartbeats 3200000 in
theorem specSup_any (n b : Int) (w : World) :
    Calls Tryd.prog 28 #[T n b] w (SupPost n b w) := by
  obtain ⟨i0, hi, hz0, hz1, hz2⟩ := info_parts infoI
  unfold T
  cases hok : okB n b
  · go_enter Tryd.func28, Tryd.ntmps28
    go_wp2_with fail
    refine (specOk_at n b _ hok).mono ?_
    rintro e w1 ⟨rfl, hb⟩
    have g := (hb.block (w.heap.size + 1) (by simp)).trans (heap_alloc2_new w _ _)
    have hB : Below w.heap.size w w1 := bTrans (by (repeat' (first | assumption | exact Below.refl _ _ | refine bDrewN ?_ _ | refine Below.drew ?_ | refine bAlloc ?_ (Nat.le_refl _) _ | refine bSet ?_ (by first | exact Nat.le_refl _ | omega | (simp <;> omega)) _))) (by simp <;> omega) hb
    have hO : OwnsI w1 w.heap.size (.slice (some ⟨w.heap.size + 1, 0, none⟩) 0 0) (supI n b 4) := by
      rw [supI_bad n b hok 4]
      have h0 := own_newI (w.alloc (.cells #[.int .i64 n, .int .i64 b] 25)) w.heap.size (by simp)
      exact (by simpa using h0 : OwnsI _ _ (.slice (some ⟨w.heap.size + 1, 0, none⟩) 0 0) []).below hb
    have R := Lib.hid (And.intro hO hB)
    clear hO hB hb g
    go_wp2
    go_ret
    exact ⟨_, rfl, R.out.1, R.out.2⟩
  · have h4 := supI_four n b (by unfold okB at hok; have := of_decide_eq_true hok; omega) (by unfold okB at hok; have := of_decide_eq_true hok; omega)
    obtain ⟨N, B, rfl, rfl, hN, hB1, hB2⟩ := okB_out hok
    rw [Int.toNat_natCast] at h4
    go_enter Tryd.func28, Tryd.ntmps28
    go_wp2_with fail
    refine (specOk_at N B _ hok).mono ?_
    rintro e w1 ⟨rfl, hb⟩
    have g := box2 hb
    have c0 : w1.cell? ⟨w.heap.size, 0, none⟩ = some (.int .i64 N) := box_cell g.1 0 _ rfl
    have c1 : w1.cell? ⟨w.heap.size, 1, none⟩ = some (.int .i64 B) := box_cell g.1 1 _ rfl
    have hO : OwnsI w1 (w.heap.size + 1) (.slice (some ⟨w.heap.size + 1, 0, none⟩) 0 0) [] := by
      have h0 := own_newI (w.alloc (.cells #[.int .i64 N, .int .i64 B] 25)) (w.heap.size + 1) (by simp)
      exact (by simpa using h0 : OwnsI _ _ (.slice (some ⟨w.heap.size + 1, 0, none⟩) 0 0) []).below hb
    have HW := Lib.hid g.2.2
    have hB1' : Below (w.heap.size + 1) (w.alloc (.cells #[.int .i64 N, .int .i64 B] 25)) w1 := by
      have := bTrans (B := w.heap.size + 1) (a := w.alloc (.cells #[.int .i64 N, .int .i64 B] 25)) (bAlloc (Below.refl _ _) (by simp) _) (by simp) hb
      exact this
    obtain ⟨W, hW⟩ : ∃ W, W = w.alloc (.cells #[.int .i64 N, .int .i64 B] 25) := ⟨_, rfl⟩
    have hWs : W.heap.size = w.heap.size + 1 := by rw [hW]; simp
    have gW := eqbox1 hW
    have d0 : W.cell? ⟨w.heap.size, 0, none⟩ = some (.int .i64 N) := box_cell gW.1 0 _ rfl
    have d1 : W.cell? ⟨w.heap.size, 1, none⟩ = some (.int .i64 B) := box_cell gW.1 1 _ rfl
    rw [← hW, ← hWs] at hB1'
    rw [← hWs] at hO
    have HO0 := Lib.hid hO
    have HB0 := Lib.hid hB1'
    have HWW := Lib.hid gW.2
    have hsz := gW.2.size
    clear hb g hO hB1' hW gW
    go_wp2
    go_loopw [3, 4] (fun v i wr => ∃ m : Nat, m ≤ N ∧ i = .int .i64 m ∧ OwnsI wr W.heap.size v (supI N B m) ∧ Below W.heap.size W wr) (fun _ i _ => N - (intOf i).toNat)
    case atStart => exact ⟨0, by omega, rfl, by rw [← hWs]; exact HO0.out, HB0.out⟩
    case round =>
      obtain ⟨m, hm, rfl, hown, hb⟩ := hrel
      have hl := supI_len N B m
      have HO := Lib.hid hown
      have HB := Lib.hid hb
      have e0 := keep hb d0
      have e1 := keep hb d1
      have hsr := hb.size
      clear hown hb c0 c1 d0 d1 hWs HO0 HB0
      by_cases hlt : m < N
      · cases hd : depB N B m
        · go_wp2_with fail
          refine (specDep_at N B m _ hd).mono ?_
          rintro e w2 ⟨rfl, hb1⟩
          have R := Lib.hid (And.intro (HO.out.below hb1) (bThen HB.out hb1))
          clear hb1
          go_wp2
          go_roundw
          case rel => exact ⟨m + 1, by omega, by go_num, by rw [supI_no N B m hd]; exact R.out.1, R.out.2⟩
          case measure => simp [intOf]; omega
        · go_wp2_with fail
          refine (specDep_at N B m _ hd).mono ?_
          rintro e w3 ⟨rfl, hb1⟩
          have O1 := Lib.hid (HO.out.below hb1)
          have B1 := Lib.hid (bThen HB.out hb1)
          have hs1 := B1.out.size
          clear hb1
          go_wp2_with (refine wpList_append_lies _ rfl _ _ 35 (by rfl) W.heap.size 3 i0 _ 1 8 Tryd.underlying35 hi hz0 hz1 hz2 rfl (by omega) u3 (supI N B m).length _ (by rfl) (O1.out.alloc _) ⟨w3.heap.size, 0, none⟩ 1 1 [.int .i64 (m)] (by rfl) (by rfl) (World.news_of_block (heap_alloc_new w3 _)) (by simp [Value.oneCell']) (by omega) (by unfold maxLen; omega) (by omega) (by simp; omega) (w3.heap.size + 1) (by simp) ?_; intro gg cap w2 hown2 hgrow2 hat2 hlt2)
          have R := own_addI O1.out hs1 B1.out (bAlloc (Below.refl _ _) (Nat.le_refl _) _) hgrow2 hown2
          go_roundw
          case rel => exact ⟨m + 1, by omega, by go_num, by rw [supI_yes N B m hd]; exact R.1, R.2⟩
          case measure => simp [intOf]; omega
      · obtain rfl : m = N := by omega
        go_wp2
        go_ret
        exact ⟨_, rfl, by rw [h4]; exact HO.out.mono hsz, bThen HWW.out HB.out⟩
end Go.Proofs.YtiikadlcoijcfaaDoor
