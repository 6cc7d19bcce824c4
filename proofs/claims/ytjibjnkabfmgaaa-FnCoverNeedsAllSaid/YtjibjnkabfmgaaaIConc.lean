/-
  slices.Grow of nil; slices.Concat of two slices; a list without one of its elements.
-/
import Derived.Test.YtjibjnkabfmgaaaIPri
import Derived.Lib.AppendZeros
import Derived.Maps.AppendAt
namespace Go.Proofs.Ytjibjnkabfmgaaa
open Go.RowKit
set_option linter.unusedVariables false
set_option linter.unusedSimpArgs false

theorem ownR_app {α : Type} {f : α → List Value} {k T : Nat} {w wr w1 : World} {B : Nat} {v v' : Value} {L M : List α} (hown : OwnsR f k T wr B v L) (hsz : B ≤ wr.heap.size) (hbel : Below B w wr) (hgrow : wr.grownBy w1 v.ownBlock)
    (hown' : w1.ownsRow B T k v' (L.length + M.length) (L.flatMap f ++ M.flatMap f)) : OwnsR f k T w1 B v' (L ++ M) ∧ Below B w w1 := by
  refine ⟨?_, hbel.grown hgrow hsz (fun j hj => (hown.lt j hj).1)⟩
  unfold OwnsR
  rw [List.length_append, List.flatMap_append]
  exact hown'

set_option maxHeartbeats 3200000 in
theorem implGrow_any (m : Nat) (w : World) (hm : m ≤ 512) :
    Calls Try.prog 63 #[.slice none 0 0, .int .i64 m] w fun e w' => ∃ v, e = .returned v ∧ OwnsCube w' w.heap.size v [] ∧ Below w.heap.size w w' := by
  obtain ⟨i0, hi, hz0, hz1, hz2⟩ := info_parts infoCube
  have t0 : ¬ (m : Int) < 0 := by omega
  by_cases h : m = 0
  · subst h
    go_enter Try.func63, Try.ntmps63
    go_wp2
    go_ret
    exact ⟨_, rfl, ownR_nil _ _ _ _ _, Below.refl _ _⟩
  · have t1 : 0 < (m : Int) := by omega
    have hr := fun W : World => Lib.run_append_nil_zeros (P := Try.prog) W 28 3 28 32 i0 _ .i64 .i64 Try.underlying28 Try.underlying3 hi hz0 m (by omega) (by omega) (by omega) (by rw [hz2]; omega)
    go_enter Try.func63, Try.ntmps63
    go_wp2_with (at_builtin; refine Lib.wpList_append_run _ rfl _ _ _ _ rfl _ _ rfl rfl _ _ (hr _) ?_)
    go_wp2
    go_ret
    refine ⟨_, rfl, ?_, bAlloc (Below.refl _ _).drew (Nat.le_refl _) _⟩
    refine World.ownsRow_made w.drew _ _ (Nat.le_refl _) (grownCap_le_maxLen _ _ _ _ (by unfold maxLen; omega)) ?_
    have hge := grownCap_ge w m 0 32
    rw [Array.size_append, size_zeroCells, size_zeroCells]
    show m * 2 + (grownCap w m 0 32 - m) * 2 = grownCap w m 0 32 * 2
    omega

/-- The lengths of the first i of two. -/
def sum2 (a b i : Nat) : Nat := if i = 0 then 0 else if i = 1 then a else a + b
/-- The first i of two, joined. -/
def cat2 (P Q : List (Int × Int)) (i : Nat) : List (Int × Int) := if i = 0 then [] else if i = 1 then P else P ++ Q
theorem cat2_len (P Q : List (Int × Int)) (i : Nat) : (cat2 P Q i).length ≤ P.length + Q.length := by
  unfold cat2
  split
  · simp
  · split
    · omega
    · simp

set_option maxHeartbeats 6400000 in
theorem implConcat_any (gs : Nat) (a1 a2 : Addr) (c1 c2 : Nat) (P Q : List (Int × Int)) (w : World) (s0 : w.cell? ⟨gs, 0, none⟩ = some (.slice (some a1) P.length c1)) (s1 : w.cell? ⟨gs, 1, none⟩ = some (.slice (some a2) Q.length c2))
    (hP : ∀ j u, (P.flatMap fP)[j]? = some u → w.cell? (a1.add j) = some u) (hQ : ∀ j u, (Q.flatMap fP)[j]? = some u → w.cell? (a2.add j) = some u) (hl : P.length + Q.length ≤ 512) :
    Calls Try.prog 58 #[.slice (some ⟨gs, 0, none⟩) 2 2] w fun e w' => ∃ v, e = .returned v ∧ OwnsCube w' w.heap.size v (P ++ Q) ∧ Below w.heap.size w w' := by
  obtain ⟨i0, hi, hz0, hz1, hz2⟩ := info_parts infoCube
  have HP := Lib.hid hP
  have HQ := Lib.hid hQ
  have hP1 : (P.flatMap fP).length = P.length * 2 := flat_len fP 2 fP_len _
  have hQ1 : (Q.flatMap fP).length = Q.length * 2 := flat_len fP 2 fP_len _
  clear hP hQ
  go_enter Try.func58, Try.ntmps58
  go_wp2
  go_loopw [3, 11] (fun z v wr => ∃ i : Nat, i ≤ 2 ∧ v = .int .i64 i ∧ z = .int .i64 (sum2 P.length Q.length i : Nat) ∧ w = wr) (fun _ v _ => 2 - (intOf v).toNat)
  case atStart => exact ⟨0, by omega, rfl, rfl, rfl⟩
  case round =>
    obtain ⟨i, hi2, rfl, rfl, rfl⟩ := hrel
    have q1 : wrap64 (P.length : Int) = (P.length : Int) := w64_nat _ (by omega)
    have q2 : wrap64 ((P.length : Int) + (Q.length : Int)) = (P.length : Int) + (Q.length : Int) := by rw [← Int.natCast_add]; exact w64_nat _ (by omega)
    rcases (by omega : i = 0 ∨ i = 1 ∨ i = 2) with rfl | rfl | rfl
    · have t0 : ¬ (P.length : Int) < 0 := by omega
      rw [show sum2 P.length Q.length 0 = 0 from rfl]
      go_wp2
      go_roundw
      case rel => exact ⟨1, by omega, rfl, rfl, trivial⟩
      case measure => simp [intOf]
    · have t0 : ¬ (P.length : Int) + (Q.length : Int) < 0 := by omega
      rw [show sum2 P.length Q.length 1 = P.length from rfl]
      go_wp2
      go_roundw
      case rel => exact ⟨2, by omega, rfl, by go_num, trivial⟩
      case measure => simp [intOf]
    · rw [show sum2 P.length Q.length 2 = P.length + Q.length from rfl]
      go_wp2_with fail
      refine (implGrow_any (P.length + Q.length) _ hl).mono ?_
      rintro e w1 ⟨v, rfl, ho, hb⟩
      have HO := Lib.hid ho
      have HB := Lib.hid hb
      have r0 := keep hb s0
      have r1 := keep hb s1
      clear ho
      go_wp2
      go_loopw [6, 27] (fun z v wq => ∃ i : Nat, i ≤ 2 ∧ v = .int .i64 i ∧ OwnsCube wq w.heap.size z (cat2 P Q i) ∧ Below w.heap.size w wq) (fun _ v _ => 2 - (intOf v).toNat)
      case atStart => exact ⟨0, by omega, rfl, HO.out, HB.out⟩
      case round =>
        obtain ⟨i, hi3, rfl, ho, hb⟩ := hrel
        rcases (by omega : i = 0 ∨ i = 1 ∨ i = 2) with rfl | rfl | rfl
        · have hc := fun j u hu => keep hb ((HP).out j u hu)
          have z0 := keep hb s0
          have HO3 := Lib.hid ho
          have HB3 := Lib.hid hb
          have hsz : w.heap.size ≤ wr.heap.size := hb.size
          clear ho hb r0 r1
          go_wp2_with (refine wpList_append_own_at _ (by rfl) _ _ 28 (by rfl) w.heap.size 32 i0 _ 2 16 Try.underlying28 hi hz0 hz1 hz2 rfl (by omega) u6 0 [] (by rfl) HO3.out a1 P.length c1 (P.flatMap fP) (by rfl) hP1 hc (fP_one _) (by unfold maxLen; omega) (by omega) hsz ?_; intro v2 w2 hown2 hgrow2 hnil2 hat2)
          have RR := Lib.hid (ownR_app (L := []) (M := P) HO3.out hsz HB3.out hgrow2 hown2)
          clear hown2 hgrow2 hnil2 hat2
          go_wp2
          go_roundw
          case rel => exact ⟨1, by omega, rfl, by simpa [cat2] using RR.out.1, RR.out.2⟩
          case measure => simp [intOf]
        · have hc := fun j u hu => keep hb ((HQ).out j u hu)
          have z0 := keep hb s1
          have HO3 := Lib.hid ho
          have HB3 := Lib.hid hb
          have hsz : w.heap.size ≤ wr.heap.size := hb.size
          clear ho hb r0 r1
          go_wp2_with (refine wpList_append_own_at _ (by rfl) _ _ 28 (by rfl) w.heap.size 32 i0 _ 2 16 Try.underlying28 hi hz0 hz1 hz2 rfl (by omega) u6 (P).length ((P).flatMap fP) (by rfl) HO3.out a2 Q.length c2 (Q.flatMap fP) (by rfl) hQ1 hc (fP_one _) (by unfold maxLen; omega) (by omega) hsz ?_; intro v2 w2 hown2 hgrow2 hnil2 hat2)
          have RR := Lib.hid (ownR_app (M := Q) HO3.out hsz HB3.out hgrow2 hown2)
          clear hown2 hgrow2 hnil2 hat2
          go_wp2
          go_roundw
          case rel => exact ⟨2, by omega, rfl, RR.out.1, RR.out.2⟩
          case measure => simp [intOf]
        · have HO3 := Lib.hid ho
          have HB3 := Lib.hid hb
          clear ho hb
          go_wp2
          go_ret
          exact ⟨_, rfl, HO3.out, HB3.out⟩
theorem implConcat_at (gs : Nat) (a1 a2 : Addr) (c1 c2 n1 n2 : Nat) (P Q : List (Int × Int)) (w : World) (e1 : P.length = n1) (e2 : Q.length = n2) (s0 : w.cell? ⟨gs, 0, none⟩ = some (.slice (some a1) n1 c1)) (s1 : w.cell? ⟨gs, 1, none⟩ = some (.slice (some a2) n2 c2))
    (hP : ∀ j u, (P.flatMap fP)[j]? = some u → w.cell? (a1.add j) = some u) (hQ : ∀ j u, (Q.flatMap fP)[j]? = some u → w.cell? (a2.add j) = some u) (hl : P.length + Q.length ≤ 512) :
    Calls Try.prog 58 #[.slice (some ⟨gs, 0, none⟩) 2 2] w fun e w' => ∃ v, e = .returned v ∧ OwnsCube w' w.heap.size v (P ++ Q) ∧ Below w.heap.size w w' := by
  subst e1 e2; exact implConcat_any gs a1 a2 c1 c2 P Q w s0 s1 hP hQ hl

theorem ownedAt {w : World} {B : Nat} {v : Value} {L : List (Int × Int)} (h : OwnsCube w B v L) (hl : 0 < L.length) :
    ∃ g c, v = .slice (some ⟨g, 0, none⟩) L.length c ∧ B ≤ g ∧ g < w.heap.size ∧ L.length ≤ c ∧ c ≤ maxLen := by
  rcases h.2 with ⟨hv, h0⟩ | ⟨g, cap, cur, hv, hbg, hg, hnc, hcm, _⟩
  · omega
  · exact ⟨g, cap, hv, hbg, (Array.getElem?_eq_some_iff.1 hg).1, hnc, hcm⟩

set_option maxHeartbeats 6400000 in
theorem implWithout_any (B : Nat) (v : Value) (L : List (Int × Int)) (m : Nat) (w : World) (hO : OwnsCube w B v L) (hm : m < L.length) (hl : L.length ≤ 512) :
    Calls Try.prog 39 #[v, .int .i64 m] w fun e w' => ∃ v', e = .returned v' ∧ OwnsCube w' w.heap.size v' (L.eraseIdx m) ∧ Below w.heap.size w w' := by
  obtain ⟨g, c2, rfl, hbg, hgW, hnc, hcm⟩ := ownedAt hO (by omega)
  obtain ⟨hn1, hn2⟩ := cells_cut hO m hm
  unfold maxLen at hcm
  have e2 : L.eraseIdx m = L.take m ++ L.drop (m + 1) := List.eraseIdx_eq_take_drop_succ L m
  rw [e2]
  have hlt : (L.take m).length = m := by rw [List.length_take]; omega
  have hld : (L.drop (m + 1)).length = L.length - (m + 1) := List.length_drop
  have hq1 : m ≤ c2 := by omega
  have hq2 : m + 1 ≤ L.length := by omega
  have hq3 : m + 1 ≤ c2 := by omega
  obtain ⟨p, hp⟩ : ∃ p, m + 1 = p := ⟨_, rfl⟩
  have hwr : IntKind.i64.wrap ((m : Int) + 1) = (p : Int) := by
    rw [IntKind.wrap_i64]; omega
  rw [hp] at hn2 hq2 hq3 hld ⊢
  obtain ⟨P, hP⟩ : ∃ P, L.take m = P := ⟨_, rfl⟩
  obtain ⟨Q, hQ⟩ : ∃ Q, L.drop p = Q := ⟨_, rfl⟩
  rw [hP] at hn1 hlt ⊢
  rw [hQ] at hn2 hld ⊢
  have hPQ : P.length + Q.length ≤ 512 := by omega
  have HPP := Lib.hid hp
  have H1 := Lib.hid hn1
  have H2 := Lib.hid hn2
  clear hp hn1 hn2 hP hQ e2 hO
  by_cases hcc : c2 = p
  · have hQ0 : Q = [] := List.eq_nil_of_length_eq_zero (by omega)
    have hld0 : Q.length = 0 := by rw [hQ0]; rfl
    have HQ0 := Lib.hid hQ0
    replace hcc := hcc.symm
    subst hcc
    clear hQ0
    go_enter Try.func39, Try.ntmps39
    go_wp2
    go_region_law (first | (go_simp; go_at_call 58; refine (implConcat_at w.heap.size ⟨g, 0, none⟩ ⟨g, 0, none⟩ p 0 m 0 P Q (w.alloc (.cells #[.slice (some ⟨g, 0, none⟩) m p, .slice (some ⟨g, 0, none⟩) 0 0] 28)).drew hlt hld0 (box_cell (heap_alloc_new w _) 0 _ rfl) (box_cell (heap_alloc_new w _) 1 _ rfl) (fun j u hu => keep (bAlloc (Below.refl _ _) (Nat.le_refl _) _).drew (H1.out j u hu)) (fun j u hu => by have h0 := HQ0.out; rw [h0] at hu; simp at hu) hPQ).mono ?_; rintro e w2 ⟨v, rfl, ho, hb⟩))
    all_goals
      have hs : w.heap.size ≤ w2.heap.size := Nat.le_trans (by simp) hb.size
      have R := Lib.hid (And.intro (OwnsR.mono ho (by simp : w.heap.size ≤ _)) (bTrans (B := w.heap.size) (bAlloc (Below.refl _ _) (Nat.le_refl _) _).drew (by simp) hb))
      clear ho hb
      go_wp2
      go_ret
      exact ⟨_, rfl, R.out.1, R.out.2⟩
  · go_enter Try.func39, Try.ntmps39
    go_wp2
    go_region_law (first | (go_simp; go_at_call 58; refine (implConcat_at w.heap.size ⟨g, 0, none⟩ ⟨g, p * 2, none⟩ c2 (c2 - p) m (L.length - p) P Q (w.alloc (.cells #[.slice (some ⟨g, 0, none⟩) m c2, .slice (some ⟨g, p * 2, none⟩) (L.length - p) (c2 - p)] 28)).drew hlt hld (box_cell (heap_alloc_new w _) 0 _ rfl) (box_cell (heap_alloc_new w _) 1 _ rfl) (fun j u hu => keep (bAlloc (Below.refl _ _) (Nat.le_refl _) _).drew (H1.out j u hu)) (fun j u hu => keep (bAlloc (Below.refl _ _) (Nat.le_refl _) _).drew (H2.out j u hu)) hPQ).mono ?_; rintro e w2 ⟨v, rfl, ho, hb⟩))
    all_goals
      have hs : w.heap.size ≤ w2.heap.size := Nat.le_trans (by simp) hb.size
      have R := Lib.hid (And.intro (OwnsR.mono ho (by simp : w.heap.size ≤ _)) (bTrans (B := w.heap.size) (bAlloc (Below.refl _ _) (Nat.le_refl _) _).drew (by simp) hb))
      clear ho hb
      go_wp2
      go_ret
      exact ⟨_, rfl, R.out.1, R.out.2⟩
end Go.Proofs.Ytjibjnkabfmgaaa
