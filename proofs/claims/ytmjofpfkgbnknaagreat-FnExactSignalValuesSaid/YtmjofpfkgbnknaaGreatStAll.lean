/-
  StMath, IStart, SStart as one text.
-/
import Derived.Test.YtmjofpfkgbnknaaGreatWsMath
import Derived.Test.YtmjofpfkgbnknaaGreatWsAll
import Derived.Test.YtmjofpfkgbnknaaGreatRgAll
import Derived.Test.YtmjofpfkgbnknaaGreatGrow
import Derived.Test.YtmjofpfkgbnknaaGreatIFirst
import Derived.Test.YtmjofpfkgbnknaaGreatCpAll
import Derived.Test.YtmjofpfkgbnknaaGreatIFlat
import Derived.Deep.RegionHeld3
import Derived.Test.YtmjofpfkgbnknaaGreatSwAll
/- StMath: The state in which a flat module begins: the plain part; slices of ints that are written. -/
namespace Go.Proofs.YtmjofpfkgbnknaaGreat
open Go.RowKit
set_option linter.unusedVariables false
set_option linter.unusedSimpArgs false

def startV (m : DModule) : List Int := m.1.map fun s => cutI s.2.2 s.2.1.toNat
def startO (m : DModule) : DWordState := if flatB m then (startV m, List.replicate (4 * m.2.2.2.length) 0) else ([], [])
def startK (m : DModule) (k : Nat) : List Int := (startV m).take k ++ List.replicate (m.1.length - k) 0
theorem startK_zero (m : DModule) : startK m 0 = List.replicate m.1.length 0 := by simp [startK]
theorem startK_len (m : DModule) {k : Nat} (h : k ≤ m.1.length) : (startK m k).length = m.1.length := by simp [startK, startV]; omega
theorem startK_end (m : DModule) : startK m m.1.length = startV m := by
  unfold startK
  rw [Nat.sub_self, List.take_of_length_le (by simp [startV])]; simp
theorem startK_step {m : DModule} {k W : Nat} {x : DSignal} {r : Int} (h : m.1[k]? = some x) (hw : x.2.1 = (W : Int)) (hr : cutI x.2.2 W = r) : (startK m k).set k r = startK m (k + 1) := by
  have hk := (List.getElem?_eq_some_iff.1 h).1
  have hv : (startV m)[k]? = some r := by unfold startV; rw [List.getElem?_map, h]; simp [hw, hr]
  unfold startK
  rw [List.take_add_one, hv, List.set_append_right _ _ (by rw [List.length_take]; omega)]
  have e : k - ((startV m).take k).length = 0 := by rw [List.length_take]; simp [startV]; omega
  have e2 : m.1.length - k = (m.1.length - (k + 1)) + 1 := by omega
  rw [e, e2, List.replicate_succ, List.set_cons_zero]
  simp
theorem ownI_set {w : World} {B g n c : Nat} {L : List Int} (h : OwnsI w B (.slice (some ⟨g, 0, none⟩) n c) L) (hn : L.length = n) {k : Nat} (hk : k < n) (x : Int) : OwnsI (w.setCell ⟨g, k, none⟩ (.int .i64 x)) B (.slice (some ⟨g, 0, none⟩) n c) (L.set k x) := by
  unfold OwnsI at h ⊢
  subst hn
  have h1 := (h.stored k (vI x)).1
  rw [List.length_set, List.map_set]
  exact h1
theorem ownI_cell {w : World} {B g n c : Nat} {L : List Int} (h : OwnsI w B (.slice (some ⟨g, 0, none⟩) n c) L) {k : Nat} (hn : L.length = n) (hk : k < n) : w.cell? ⟨g, k, none⟩ = some (.int .i64 (L.getD k 0)) ∧ w.frozen? ⟨g, k, none⟩ = false := by
  obtain ⟨A, c', hv, hsh⟩ := h.shape
  injection hv with e1 e2 e3
  obtain ⟨g', hg, h1, h2⟩ := hsh k (by omega)
  rw [← e1] at hg; injection hg with hg; injection hg with hg; subst hg
  exact ⟨h1, h2⟩
theorem ownI_far {w : World} {B g k : Nat} {v u : Value} {L : List Int} (h : OwnsI w B v L) (hne : v.ownBlock ≠ some g) : OwnsI (w.setCell ⟨g, k, none⟩ u) B v L := by
  unfold OwnsI at h ⊢
  exact row_far h hne
/-- As an owned datum. -/
theorem ownI_ow {w : World} {B : Nat} {v : Value} {L : List Int} (h : OwnsI w B v L) (hf : ∀ x ∈ L, Fit x) : owIntS (blkL v) w [v] L := by
  have hA := h.shape
  rcases h.2 with ⟨rfl, h0⟩ | ⟨g, cap, cur, rfl, e2, e3, e4, e5, e6⟩
  · have : L = [] := List.eq_nil_of_length_eq_zero h0
    subst this
    exact ⟨none, 0, rfl, by simp, .inl ⟨rfl, rfl⟩⟩
  · obtain ⟨A, c, hv, hsh⟩ := hA
    injection hv with h1 h2 h3
    refine ⟨_, _, rfl, by omega, .inr ⟨g, 0, fun _ => [], rfl, by simp [blkL_at], (Array.getElem?_eq_some_iff.1 e3).1, fun j hj => ?_⟩⟩
    obtain ⟨g', hg, hc, hz⟩ := hsh j hj
    rw [← h1] at hg
    injection hg with hg
    injection hg with hg
    subst hg
    refine ⟨[.int .i64 L[j]], rfl, fun i u hu => ?_, rfl, rfl, hf _ (List.getElem_mem hj)⟩
    match i, hu with
    | 0, hu =>
      injection hu with hu
      subst hu
      rw [Nat.zero_add, Nat.mul_one, Nat.add_zero]
      refine ⟨?_, hz⟩
      rw [hc, List.getD_eq_getElem?_getD, List.getElem?_eq_getElem hj]
      rfl
theorem startV_fit {m : DModule} (h : FlatP m) : ∀ x ∈ startV m, 0 ≤ x ∧ x ≤ 15 := by
  intro x hx
  unfold startV at hx
  obtain ⟨s, hs, rfl⟩ := List.mem_map.1 hx
  obtain ⟨k, hk, e⟩ := List.getElem_of_mem hs
  obtain ⟨W, hW, h1, h4⟩ := h.wid k s (by rw [List.getElem?_eq_getElem hk, e])
  have a := cutI_lo s.2.2 s.2.1.toNat
  have b := cutI_hi s.2.2 s.2.1.toNat
  have e2 : s.2.1.toNat = W := by rw [hW]; rfl
  have h16 := pow16 W h4
  rw [e2] at a b ⊢
  omega
def Gives (R : Ow DWordState) (x : DWordState) (w : World) (e : Ending) (w' : World) : Prop := ∃ (vs : List Value) (bs : List Nat), e = .returned (.agg vs.toArray) ∧ R bs w' vs x ∧ bs.Nodup ∧ (∀ b ∈ bs, w.heap.size ≤ b ∧ b < w'.heap.size) ∧ Below w.heap.size w w'
end Go.Proofs.YtmjofpfkgbnknaaGreat
/- IStart: FlatStart: the program. -/
namespace Go.Proofs.YtmjofpfkgbnknaaGreat
open Go.RowKit
set_option linter.unusedVariables false
set_option linter.unusedSimpArgs false

set_option maxRecDepth 100000 in
set_option maxHeartbeats 12800000 in
theorem implStart_at (m : DModule) (us : List Value) (w : World) (h : rdModule 0 w.heap.size w us m) (hP : FlatP m) :
    Calls Tryz.prog 84 #[.agg us.toArray] w (Gives owWordState (startV m, List.replicate (4 * m.2.2.2.length) 0) w) := by
  obtain ⟨i0, hi, hz0, hz1, hz2⟩ := info_parts infoI
  have HP := Lib.hid hP
  have l0 := hP.mod.l0
  have l3 := hP.mod.l3
  clear hP
  obtain ⟨mu0, mu1, mu2, mu3, rfl, mh0, mh1, mh2, mh3⟩ := h
  obtain ⟨mA0, mc0, me0, mm0, -⟩ := slice_of mh0
  subst me0
  have mR0 := Lib.hid mh0
  clear mh0
  obtain ⟨mA1, mc1, me1, mm1, -⟩ := slice_of mh1
  subst me1
  have mR1 := Lib.hid mh1
  clear mh1
  obtain ⟨mA2, mc2, me2, mm2, -⟩ := slice_of mh2
  subst me2
  have mR2 := Lib.hid mh2
  clear mh2
  obtain ⟨mA3, mc3, me3, mm3, -⟩ := slice_of mh3
  subst me3
  have mR3 := Lib.hid mh3
  clear mh3
  go_enter Tryz.func84, Tryz.ntmps84
  go_wp2_with fail
  obtain ⟨W0, hV⟩ : ∃ W0, W0 = (w.alloc (.cells #[.slice mA0 (m.1).length mc0, .slice mA1 (m.2.1).length mc1, .slice mA2 (m.2.2.1).length mc2, .slice mA3 (m.2.2.2).length mc3] 31)).alloc (.cells #[.slice none 0 0, .slice none 0 0] 56) := ⟨_, rfl⟩
  rw [← hV]
  have gN := eqbox2 hV
  have d0 : W0.cell? ⟨w.heap.size, 0, none⟩ = some (.slice mA0 (m.1).length mc0) := box_cell gN.1 0 _ rfl
  have d3 : W0.cell? ⟨w.heap.size, 3, none⟩ = some (.slice mA3 (m.2.2.2).length mc3) := box_cell gN.1 3 _ rfl
  have HRV := Lib.hid gN.2.1
  have HW0 := Lib.hid gN.2.2
  have sW0 : W0.heap.size = w.heap.size + 2 := by rw [hV]; simp
  have e4 : IntKind.i64.wrap (4 * (m.2.2.2.length : Int)) = ((4 * m.2.2.2.length : Nat) : Int) := by rw [wrap64_int _ (by omega) (by omega)]; omega
  obtain ⟨n2, hn2⟩ : ∃ n2, 4 * m.2.2.2.length = n2 := ⟨_, rfl⟩
  rw [hn2] at e4 ⊢
  have hn2' : n2 ≤ 8 := by omega
  have HN2 := Lib.hid hn2
  clear hn2
  have hS0 : (fun w' => Below W0.heap.size W0 w' ∧ w'.cell? ⟨w.heap.size, 0, none⟩ = some (.slice mA0 (m.1).length mc0) ∧ w'.cell? ⟨w.heap.size, 3, none⟩ = some (.slice mA3 (m.2.2.2).length mc3)) W0 := ⟨Below.refl _ _, d0, d3⟩
  have hS : ∀ {w0 w' : World}, (fun w' => Below W0.heap.size W0 w' ∧ w'.cell? ⟨w.heap.size, 0, none⟩ = some (.slice mA0 (m.1).length mc0) ∧ w'.cell? ⟨w.heap.size, 3, none⟩ = some (.slice mA3 (m.2.2.2).length mc3)) w0 → Below w0.heap.size w0 w' → (fun w' => Below W0.heap.size W0 w' ∧ w'.cell? ⟨w.heap.size, 0, none⟩ = some (.slice mA0 (m.1).length mc0) ∧ w'.cell? ⟨w.heap.size, 3, none⟩ = some (.slice mA3 (m.2.2.2).length mc3)) w' := fun h hb => ⟨bThen h.1 hb, keep hb h.2.1, keep hb h.2.2⟩
  dsimp only at hS0 hS
  clear hV gN
  refine wp_region_noPanic ?_
  refine wp_region_kept 11 12 (fun w' => Below W0.heap.size W0 w' ∧ w'.cell? ⟨w.heap.size, 0, none⟩ = some (.slice mA0 (m.1).length mc0) ∧ w'.cell? ⟨w.heap.size, 3, none⟩ = some (.slice mA3 (m.2.2.2).length mc3)) (by kernel_rfl) rfl (hS hS0 (Below.drew (Below.refl _ _))) (fun hK0 => ?_)
  refine Kept.take (v := ?vr0) 0 (by kernel_rfl) rfl (by kernel_rfl) (fun _ _ _ h => h) (Or.inl ⟨by rfl, ?hyr0⟩) hK0 ?restr0
  case hyr0 =>
    intro w0 hSw
    (try dsimp only at hSw)
    go_simp
    all_goals (with_reducible rfl)
  (try simp only [Act.put, List.setIfInBounds_toArray, List.set_cons_zero, List.set_cons_succ])
  refine Kept.take (v := ?vr1) 1 (by kernel_rfl) rfl (by kernel_rfl) (fun _ _ _ h => h) (Or.inl ⟨by rfl, ?hyr1⟩) hK0 ?restr1
  case hyr1 =>
    intro w0 hSw
    (try dsimp only at hSw)
    go_simp
    all_goals (with_reducible rfl)
  (try simp only [Act.put, List.setIfInBounds_toArray, List.set_cons_zero, List.set_cons_succ])
  refine Kept.take (v := ?vr2) 2 (by kernel_rfl) rfl (by kernel_rfl) (fun _ _ _ h => h) (Or.inl ⟨by rfl, ?hyr2⟩) hK0 ?restr2
  case hyr2 =>
    intro w0 hSw
    (try dsimp only at hSw)
    go_simp
    all_goals (with_reducible rfl)
  (try simp only [Act.put, List.setIfInBounds_toArray, List.set_cons_zero, List.set_cons_succ])
  refine Kept.take (v := ?vr4) 4 (by kernel_rfl) rfl (by kernel_rfl) (fun _ _ _ h => h) (Or.inl ⟨by rfl, ?hyr4⟩) hK0 ?restr4
  case hyr4 =>
    intro w0 hSw
    (try dsimp only at hSw)
    go_simp
    all_goals (with_reducible rfl)
  (try simp only [Act.put, List.setIfInBounds_toArray, List.set_cons_zero, List.set_cons_succ])
  refine Kept.take (v := ?vr5) 5 (by kernel_rfl) rfl (by kernel_rfl) (fun _ _ _ h => h) (Or.inl ⟨by rfl, ?hyr5⟩) hK0 ?restr5
  case hyr5 =>
    intro w0 hSw
    (try dsimp only at hSw)
    go_simp
    all_goals (with_reducible rfl)
  (try simp only [Act.put, List.setIfInBounds_toArray, List.set_cons_zero, List.set_cons_succ])
  refine Kept.take (v := ?vr6) 6 (by kernel_rfl) rfl (by kernel_rfl) (fun _ _ _ h => h) (Or.inl ⟨by rfl, ?hyr6⟩) hK0 ?restr6
  case hyr6 =>
    intro w0 hSw
    (try dsimp only at hSw)
    go_simp
    all_goals (with_reducible rfl)
  (try simp only [Act.put, List.setIfInBounds_toArray, List.set_cons_zero, List.set_cons_succ])
  refine Kept.take (v := ?vr7) 7 (by kernel_rfl) rfl (by kernel_rfl) (fun _ _ _ h => h) (Or.inl ⟨by rfl, ?hyr7⟩) hK0 ?restr7
  case hyr7 =>
    intro w0 hSw
    (try dsimp only at hSw)
    go_simp
    all_goals (with_reducible rfl)
  (try simp only [Act.put, List.setIfInBounds_toArray, List.set_cons_zero, List.set_cons_succ])
  refine Kept.rg (sz := 35) (g := 1) [(3, 9), (8, 14), (9, 15), (10, 3)] [3, 8, 10] (fun k vals w' => match k with
      | 3 => ∃ g, vals 3 = .slice (some ⟨g, 0, none⟩) (m.1.length) (m.1.length) ∧ OwnsI w' W0.heap.size (vals 3) (List.replicate (m.1.length) 0)
      | 8 => ∃ g, vals 8 = .slice (some ⟨g, 0, none⟩) (n2) (n2) ∧ OwnsI w' W0.heap.size (vals 8) (List.replicate (n2) 0)
      | 9 => vals 9 = .agg #[vals 3, vals 8]
      | 10 => ∃ g, vals 10 = .pointer (some ⟨g, 0, none⟩) ∧ w'.heap[g]? = some (.cells #[.slice none 0 0, .slice none 0 0] 56 (0, 0)) ∧ W0.heap.size ≤ g
      | _ => True) (by kernel_rfl) (by kernel_rfl) hK0 (fun _ _ _ h => h) ?hSR ?hloc ?hstep ?hend
  case hSR =>
    intro k hk vals w1 w2 h hb
    simp only [List.map_cons, List.map_nil, List.mem_cons, List.not_mem_nil, or_false] at hk
    rcases hk with rfl | rfl | rfl | rfl
    · obtain ⟨g, e, ho⟩ := h; exact ⟨g, e, ho.below hb⟩
    · obtain ⟨g, e, ho⟩ := h; exact ⟨g, e, ho.below hb⟩
    · exact h
    · obtain ⟨g, e, ho, hB⟩ := h; exact ⟨g, e, rowB' hb ho, hB⟩
  case hloc =>
    intro k j hk hj hne hw vals v w1 h
    simp only [List.map_cons, List.map_nil, List.mem_cons, List.not_mem_nil, or_false] at hk hj
    rcases hk with rfl | rfl | rfl | rfl <;> rcases hj with rfl | rfl | rfl | rfl <;> first | exact absurd rfl hne | exact h | exact absurd (hw.symm.trans (by kernel_rfl : _ = true)) (by decide)
  case hstep =>
    intro k t o hm ho vals wA hSA hpre
    simp only [List.mem_cons, List.not_mem_nil, or_false, Prod.mk.injEq] at hm
    rcases hm with ⟨rfl, rfl⟩ | ⟨rfl, rfl⟩ | ⟨rfl, rfl⟩ | ⟨rfl, rfl⟩
    · have ho' := Option.some.inj ho
      subst ho'
      refine RgStep.make rfl (.tmp 8) (.tmp 8) 49 rfl 3 i0 (.int .i64 0) 1 Tryz.underlying49 hi hz0 hz1 (m.1.length) (by kernel_rfl) (by kernel_rfl) (by rw [hz2]; omega) (by unfold maxLen; omega) (fun w' hb => hS hSA hb) (fun w' hown => ?_)
      have hBA : W0.heap.size ≤ wA.heap.size := by have := hSA.1.size; omega
      have h := own_makeI hown
      exact ⟨_, rfl, h.lower hBA⟩
    · have ho' := Option.some.inj ho
      subst ho'
      refine RgStep.make rfl (.tmp 13) (.tmp 13) 49 rfl 3 i0 (.int .i64 0) 1 Tryz.underlying49 hi hz0 hz1 (n2) (by kernel_rfl) (by kernel_rfl) (by rw [hz2]; omega) (by unfold maxLen; omega) (fun w' hb => hS hSA hb) (fun w' hown => ?_)
      have hBA : W0.heap.size ≤ wA.heap.size := by have := hSA.1.size; omega
      have h := own_makeI hown
      exact ⟨_, rfl, h.lower hBA⟩
    · have ho' := Option.some.inj ho
      subst ho'
      obtain ⟨g3, e3, -⟩ := hpre 3 (by kernel_rfl) (by decide)
      obtain ⟨g8, e8, -⟩ := hpre 8 (by kernel_rfl) (by decide)
      unfold RgStep
      rw [if_pos (by rfl)]
      intro K hK
      have hK' := hK (.agg #[vals 3, vals 8]) wA hSA (Below.refl _ _) (by
        show upd vals 9 _ 9 = .agg #[upd vals 9 _ 3, upd vals 9 _ 8]
        rw [upd_self, upd_ne _ _ (by decide), upd_ne _ _ (by decide)]) (fun h => absurd h (by decide))
      clear hK hpre
      simp only [fillA, Act.put, List.setIfInBounds_toArray, List.set_cons_zero, List.set_cons_succ] at hK' ⊢
      rw [e3, e8] at hK' ⊢
      go_simp
      all_goals exact hK'
    · have ho' := Option.some.inj ho
      subst ho'
      unfold RgStep
      rw [if_pos (by rfl)]
      intro K hK
      have hBA : W0.heap.size ≤ wA.heap.size := by have := hSA.1.size; omega
      have hK' := hK (.pointer (some ⟨wA.heap.size, 0, none⟩)) (wA.alloc (.cells #[.slice none 0 0, .slice none 0 0] 56)) (hS hSA (bAlloc (Below.refl _ _) (Nat.le_refl _) _)) (bAlloc (Below.refl _ _) (Nat.le_refl _) _) ⟨_, rfl, heap_alloc_new _ _, hBA⟩ (fun _ b hb => by
        have hb' : b = wA.heap.size := by simpa [topB] using hb
        subst hb'
        simp)
      clear hK hpre
      simp only [fillA, Act.put, List.setIfInBounds_toArray, List.set_cons_zero, List.set_cons_succ] at hK' ⊢
      go_simp
      all_goals exact hK'
  case hend =>
    intro vals wB hSB hR hap
    obtain ⟨g3, e3, o3⟩ := hR 3 (by decide)
    obtain ⟨g8, e8, o8⟩ := hR 8 (by decide)
    have e9 : vals 9 = .agg #[vals 3, vals 8] := hR 9 (by decide)
    obtain ⟨F, e10, hF, hFB⟩ := hR 10 (by decide)
    have a38 := hap 3 8 (by decide) (by decide) (by decide)
    have a310 := hap 3 10 (by decide) (by decide) (by decide)
    have a810 := hap 8 10 (by decide) (by decide) (by decide)
    rw [e3, e8] at a38 e9
    rw [e3, e10] at a310
    rw [e8, e10] at a810
    rw [e3] at o3
    rw [e8] at o8
    have n38 : g3 ≠ g8 := fun e => a38 g3 (by simp [topB]) (by simp [topB, e])
    have n3F : g3 ≠ F := fun e => a310 g3 (by simp [topB]) (by simp [topB, e])
    have n8F : g8 ≠ F := fun e => a810 g8 (by simp [topB]) (by simp [topB, e])
    simp only [fillA, Act.put, List.setIfInBounds_toArray, List.set_cons_zero, List.set_cons_succ]
    rw [e3, e8, e9, e10]
    generalize vals 0 = v0
    clear hap a38 a310 a810 hR e3 e8 e9 e10
    have f0 := box_cell hF 0 _ rfl
    have f1 := box_cell hF 1 _ rfl
    have z0 := frozen_of_row _ _ 0 _ _ hF
    have z1 := frozen_of_row _ _ 1 _ _ hF
    refine Kept.tail (by rfl) (by kernel_rfl) ?_
    simp only [List.drop_succ_cons, List.drop_zero]
    go_wp2
    refine NoPanic.normal ?_
    obtain ⟨W1, hW1⟩ : ∃ W1, W1 = (wB.setCell ⟨F, 0, none⟩ (.slice (some ⟨g3, 0, none⟩) m.1.length m.1.length)).setCell ⟨F, 1, none⟩ (.slice (some ⟨g8, 0, none⟩) n2 n2) := ⟨_, rfl⟩
    rw [← hW1]
    have F0 : W1.cell? ⟨F, 0, none⟩ = some (.slice (some ⟨g3, 0, none⟩) m.1.length m.1.length) := by rw [hW1]; exact set_far (set_same f0) (by decide)
    have F1 : W1.cell? ⟨F, 1, none⟩ = some (.slice (some ⟨g8, 0, none⟩) n2 n2) := by rw [hW1]; exact set_same (set_far f1 (by decide))
    have p3 : OwnsI W1 W0.heap.size (.slice (some ⟨g3, 0, none⟩) m.1.length m.1.length) (startK m 0) := by
      rw [hW1, startK_zero]
      exact ownI_far (ownI_far o3 (by intro e; injection e with e; exact n3F e)) (by intro e; injection e with e; exact n3F e)
    have p8 : OwnsI W1 W0.heap.size (.slice (some ⟨g8, 0, none⟩) n2 n2) (List.replicate n2 0) := by
      rw [hW1]
      exact ownI_far (ownI_far o8 (by intro e; injection e with e; exact n8F e)) (by intro e; injection e with e; exact n8F e)
    have HB1 := Lib.hid (show Below W0.heap.size W0 W1 by rw [hW1]; exact bSet (bSet hSB.1 hFB _) hFB _)
    have P3 := Lib.hid p3
    have P8 := Lib.hid p8
    have g3B : W0.heap.size ≤ g3 := (o3.lt g3 rfl).1
    have g8B : W0.heap.size ≤ g8 := (o8.lt g8 rfl).1
    clear hW1 p3 p8 o3 o8 hSB hF f0 f1 z0 z1 hS hS0 e4
    have c0 := keep HB1.out d0
    have c3 := keep HB1.out d3
    clear d0 d3
    have lt0 : w.heap.size < W1.heap.size := World.block_lt_of_cell? _ _ c0
    go_wp2
    clear c3
    go_loopw [19] (fun v wr => ∃ k : Nat, k ≤ m.1.length ∧ v = .int .i64 (k : Int) ∧ OwnsI wr W0.heap.size (.slice (some ⟨g3, 0, none⟩) m.1.length m.1.length) (startK m k) ∧ OwnsI wr W0.heap.size (.slice (some ⟨g8, 0, none⟩) n2 n2) (List.replicate n2 0) ∧ wr.cell? ⟨F, 0, none⟩ = some (.slice (some ⟨g3, 0, none⟩) m.1.length m.1.length) ∧ wr.cell? ⟨F, 1, none⟩ = some (.slice (some ⟨g8, 0, none⟩) n2 n2) ∧ Below W0.heap.size W0 wr) (fun v _ => m.1.length - (intOf v).toNat)
    case atStart => exact ⟨0, Nat.zero_le _, rfl, P3.out, P8.out, F0, F1, HB1.out⟩
    case round =>
      obtain ⟨k, hk, rfl, p3, p8, F0, F1, hb⟩ := hrel
      obtain ⟨w2, rfl⟩ : ∃ w2, w2 = wr := ⟨_, rfl⟩
      clear P3 P8 HB1 lt0 c0
      have P3 := Lib.hid p3
      have P8 := Lib.hid p8
      have HB2 := Lib.hid hb
      have HBW := Lib.hid (bThen HW0.out hb)
      have Flt : F < w2.heap.size := World.block_lt_of_cell? _ _ F0
      clear p3 p8 hb
      by_cases hlt : k < m.1.length
      · obtain ⟨x, hx⟩ : ∃ x, m.1[k]? = some x := ⟨_, List.getElem?_eq_getElem hlt⟩
        obtain ⟨W, hxW, hW⟩ := HP.out.wid k x hx
        obtain ⟨r, hr⟩ : ∃ r, cutI x.2.2 W = r := ⟨_, rfl⟩
        have HX := Lib.hid (startK_step hx hxW hr)
        have HRR := Lib.hid hr
        have HW4 := Lib.hid hW
        obtain ⟨xb, xq, rfl, xb1, x0, -, x1, -, x2, -⟩ := at_Signal (good_SignalS.below mR0.out (Nat.le_refl _) HBW.out) hx
        have xb2 := Nat.lt_of_lt_of_le xb1 HBW.out.size
        rw [hxW] at x1
        obtain ⟨i, hi'⟩ : ∃ i : Int, x.2.2 = i := ⟨_, rfl⟩
        rw [hi'] at x2
        have HI := Lib.hid hi'
        obtain ⟨kd, hkd⟩ : ∃ kd : Int, x.1 = kd := ⟨_, rfl⟩
        rw [hkd] at x0
        clear hx hxW hr hW hi' hkd xb1
        go_wp2_with fail
        obtain ⟨V, hV⟩ : ∃ V, V = w2.alloc (.cells #[.int .i64 kd, .int .i64 (W : Int), .int .i64 i] 97) := ⟨_, rfl⟩
        rw [← hV]
        have gN := eqbox1 hV
        have y1 : V.cell? ⟨w2.heap.size, 1, none⟩ = some (.int .i64 (W : Int)) := box_cell gN.1 1 _ rfl
        have y2 : V.cell? ⟨w2.heap.size, 2, none⟩ = some (.int .i64 i) := box_cell gN.1 2 _ rfl
        replace F0 := keep gN.2 F0
        replace F1 := keep gN.2 F1
        have HV := Lib.hid gN.2
        have hS0 : (fun w' => Below V.heap.size V w' ∧ w'.cell? ⟨F, 0, none⟩ = some (.slice (some ⟨g3, 0, none⟩) m.1.length m.1.length) ∧ w'.cell? ⟨w2.heap.size, 1, none⟩ = some (.int .i64 (W : Int)) ∧ w'.cell? ⟨w2.heap.size, 2, none⟩ = some (.int .i64 i)) V := ⟨Below.refl _ _, F0, y1, y2⟩
        have hS : ∀ {w0 w' : World}, (fun w' => Below V.heap.size V w' ∧ w'.cell? ⟨F, 0, none⟩ = some (.slice (some ⟨g3, 0, none⟩) m.1.length m.1.length) ∧ w'.cell? ⟨w2.heap.size, 1, none⟩ = some (.int .i64 (W : Int)) ∧ w'.cell? ⟨w2.heap.size, 2, none⟩ = some (.int .i64 i)) w0 → Below w0.heap.size w0 w' → (fun w' => Below V.heap.size V w' ∧ w'.cell? ⟨F, 0, none⟩ = some (.slice (some ⟨g3, 0, none⟩) m.1.length m.1.length) ∧ w'.cell? ⟨w2.heap.size, 1, none⟩ = some (.int .i64 (W : Int)) ∧ w'.cell? ⟨w2.heap.size, 2, none⟩ = some (.int .i64 i)) w' := fun h hb => ⟨bThen h.1 hb, keep hb h.2.1, keep hb h.2.2.1, keep hb h.2.2.2⟩
        dsimp only at hS0 hS
        clear hV gN x0 x1 x2
        refine wp_region_noPanic ?_
        refine wp_region_kept 8 10 (fun w' => Below V.heap.size V w' ∧ w'.cell? ⟨F, 0, none⟩ = some (.slice (some ⟨g3, 0, none⟩) m.1.length m.1.length) ∧ w'.cell? ⟨w2.heap.size, 1, none⟩ = some (.int .i64 (W : Int)) ∧ w'.cell? ⟨w2.heap.size, 2, none⟩ = some (.int .i64 i)) (by kernel_rfl) rfl (hS hS0 (Below.drew (Below.refl _ _))) (fun hK0 => ?_)
        refine Kept.take (v := ?vs0) 0 (by kernel_rfl) rfl (by kernel_rfl) (fun _ _ _ h => h) (Or.inl ⟨by rfl, ?hys0⟩) hK0 ?rests0
        case hys0 =>
          intro w0 hSw
          (try dsimp only at hSw)
          go_simp
          all_goals (with_reducible rfl)
        (try simp only [Act.put, List.setIfInBounds_toArray, List.set_cons_zero, List.set_cons_succ])
        refine Kept.take (v := ?vs1) 1 (by kernel_rfl) rfl (by kernel_rfl) (fun _ _ _ h => h) (Or.inl ⟨by rfl, ?hys1⟩) hK0 ?rests1
        case hys1 =>
          intro w0 hSw
          (try dsimp only at hSw)
          go_simp
          all_goals (with_reducible rfl)
        (try simp only [Act.put, List.setIfInBounds_toArray, List.set_cons_zero, List.set_cons_succ])
        refine Kept.take (v := ?vs2) 2 (by kernel_rfl) rfl (by kernel_rfl) (fun _ _ _ h => h) (Or.inl ⟨by rfl, ?hys2⟩) hK0 ?rests2
        case hys2 =>
          intro w0 hSw
          (try dsimp only at hSw)
          go_simp
          all_goals (with_reducible rfl)
        (try simp only [Act.put, List.setIfInBounds_toArray, List.set_cons_zero, List.set_cons_succ])
        refine Kept.take (v := ?vs3) 3 (by kernel_rfl) rfl (by kernel_rfl) (fun _ _ _ h => h) (Or.inl ⟨by rfl, ?hys3⟩) hK0 ?rests3
        case hys3 =>
          intro w0 hSw
          (try dsimp only at hSw)
          go_simp
          all_goals (with_reducible rfl)
        (try simp only [Act.put, List.setIfInBounds_toArray, List.set_cons_zero, List.set_cons_succ])
        refine Kept.take (v := ?vs4) 4 (by kernel_rfl) rfl (by kernel_rfl) (fun _ _ _ h => h) (Or.inl ⟨by rfl, ?hys4⟩) hK0 ?rests4
        case hys4 =>
          intro w0 hSw
          (try dsimp only at hSw)
          go_simp
          all_goals (with_reducible rfl)
        (try simp only [Act.put, List.setIfInBounds_toArray, List.set_cons_zero, List.set_cons_succ])
        refine Kept.take (v := ?vs5) 5 (by kernel_rfl) rfl (by kernel_rfl) (fun _ _ _ h => h) (Or.inl ⟨by rfl, ?hys5⟩) hK0 ?rests5
        case hys5 =>
          intro w0 hSw
          (try dsimp only at hSw)
          go_simp
          all_goals (with_reducible rfl)
        (try simp only [Act.put, List.setIfInBounds_toArray, List.set_cons_zero, List.set_cons_succ])
        refine Kept.take (v := ?vs6) 6 (by kernel_rfl) rfl (by kernel_rfl) (fun _ _ _ h => h) (Or.inl ⟨by rfl, ?hys6⟩) hK0 ?rests6
        case hys6 =>
          intro w0 hSw
          (try dsimp only at hSw)
          go_simp
          all_goals (with_reducible rfl)
        (try simp only [Act.put, List.setIfInBounds_toArray, List.set_cons_zero, List.set_cons_succ])
        refine Kept.one 7 (by kernel_rfl) rfl (fun K hK => ?_)
        go_simp
        go_at_call 115
        refine (implCut_at (r := r) i W HW4.out.2 _ (by rw [← HI.out]; exact HRR.out)).mono ?_
        rintro e w4 ⟨rfl, rfl⟩
        go_simp
        refine hK.out _ _ (hK0) (fun hK1 => ?_)
        clear hK K hK0
        (try simp only [Act.put, List.setIfInBounds_toArray, List.set_cons_zero, List.set_cons_succ])
        refine Kept.tail (by rfl) (by kernel_rfl) ?_
        simp only [List.drop_succ_cons, List.drop_zero]
        have HB3 := Lib.hid hK1.1
        have Q3 := P3.out.below (bThen HV.out HB3.out)
        have gf := ownI_cell Q3 (startK_len m hk) hlt
        have u0 := gf.1
        have u1 := gf.2
        have HQ3 := Lib.hid Q3
        have HQ8 := Lib.hid (P8.out.below (bThen HV.out HB3.out))
        have G0 := hK1.2.1
        have G1 := keep HB3.out F1
        have tl : (k : Int) < (m.1.length : Int) := by omega
        clear gf Q3 hK1 hS hS0 y1 y2 F0 F1
        go_wp2
        refine NoPanic.normal ?_
        go_wp2
        go_roundw
        case rel =>
          have h3 := ownI_set HQ3.out (startK_len m hk) hlt r
          rw [HX.out] at h3
          have h8 := ownI_far (g := g3) (k := k) (u := .int .i64 r) HQ8.out (by intro e; injection e with e; exact n38 e.symm)
          have k0 := (World.cell?_setCell_other _ ⟨g3, k, none⟩ ⟨F, 0, none⟩ (.int .i64 r) (by intro e; injection e with e; exact n3F e)).trans G0
          have k1 := (World.cell?_setCell_other _ ⟨g3, k, none⟩ ⟨F, 1, none⟩ (.int .i64 r) (by intro e; injection e with e; exact n3F e)).trans G1
          have kb := bSet (p := ⟨g3, k, none⟩) (bThen HB2.out (bThen HV.out HB3.out)) g3B (.int .i64 r)
          exact ⟨k + 1, by omega, by go_num, h3, h8, k0, k1, kb⟩
        case measure => simp [intOf]; omega
      · obtain rfl : k = m.1.length := by omega
        rw [startK_end] at P3
        have row := rowB' HB2.out HRV.out
        have r0 := box_cell row 0 _ rfl
        have r1 := box_cell row 1 _ rfl
        have z0 := frozen_of_row _ _ 0 _ _ row
        have z1 := frozen_of_row _ _ 1 _ _ row
        have rlt : w.heap.size + 1 < w2.heap.size := World.block_lt_of_cell? _ _ r0
        clear row
        go_wp2
        ((try simp only [Exit.inBlock, Exit.then]); refine bodyPost_ret (v := (.agg #[.slice (some ⟨g3, 0, none⟩) m.1.length m.1.length, .slice (some ⟨g8, 0, none⟩) n2 n2])) (by rw [results_cell1 rfl]; go_simp) rfl ?_)
        have hf := startV_fit HP.out
        have hne3 : g3 ≠ w.heap.size + 1 := by omega
        have hne8 : g8 ≠ w.heap.size + 1 := by omega
        have q3 := ownI_far (k := 1) (u := .slice (some ⟨g8, 0, none⟩) n2 n2) (ownI_far (k := 0) (u := .slice (some ⟨g3, 0, none⟩) m.1.length m.1.length) P3.out (g := w.heap.size + 1) (by intro e; injection e with e; exact hne3 e)) (by intro e; injection e with e; exact hne3 e)
        have q8 := ownI_far (k := 1) (u := .slice (some ⟨g8, 0, none⟩) n2 n2) (ownI_far (k := 0) (u := .slice (some ⟨g3, 0, none⟩) m.1.length m.1.length) P8.out (g := w.heap.size + 1) (by intro e; injection e with e; exact hne8 e)) (by intro e; injection e with e; exact hne8 e)
        have t3 := q3.lt g3 rfl
        have t8 := q8.lt g8 rfl
        rw [HN2.out]
        refine ⟨[.slice (some ⟨g3, 0, none⟩) m.1.length m.1.length, .slice (some ⟨g8, 0, none⟩) n2 n2], [g3] ++ [g8], rfl, ⟨[g3], [g8], _, _, rfl, rfl, ?_, ?_⟩, by simpa using n38, ?_, bSet (bSet HBW.out (by dsimp only; omega) _) (by dsimp only; omega) _⟩
        · have h := ownI_ow q3 (fun x hx => by have := hf x hx; unfold Fit; omega)
          simpa [blkL_at, startV] using h
        · have h := ownI_ow q8 (fun x hx => by have := List.eq_of_mem_replicate hx; subst this; unfold Fit; omega)
          simpa [blkL_at] using h
        · intro b hb
          simp only [List.cons_append, List.nil_append, List.mem_cons, List.not_mem_nil, or_false] at hb
          rcases hb with rfl | rfl
          · exact ⟨by omega, t3.2⟩
          · exact ⟨by omega, t8.2⟩

theorem start_no {m : DModule} (h : flatB m = false) : startO m = ([], []) := by unfold startO; rw [h]; rfl
theorem start_yes {m : DModule} (h : flatB m = true) : startO m = (startV m, List.replicate (4 * m.2.2.2.length) 0) := by unfold startO; rw [if_pos h]
theorem ow_zero (w : World) : owWordState [] w [.slice none 0 0, .slice none 0 0] ([], []) :=
  ⟨[], [], _, _, rfl, rfl, ⟨none, 0, rfl, by simp, .inl ⟨rfl, rfl⟩⟩, ⟨none, 0, rfl, by simp, .inl ⟨rfl, rfl⟩⟩⟩
end Go.Proofs.YtmjofpfkgbnknaaGreat
/- SStart: FlatStart: the reference. -/
namespace Go.Proofs.YtmjofpfkgbnknaaGreat
open Go.RowKit
set_option linter.unusedVariables false
set_option linter.unusedSimpArgs false

theorem mask_succ {W M : Nat} (h : M = 2 ^ W - 1) : M + 1 = 2 ^ W := by have := pow1 W; omega
set_option maxRecDepth 100000 in
set_option maxHeartbeats 12800000 in
theorem specFlatStart_at (m : DModule) (us : List Value) (w : World) (h : rdModule 0 w.heap.size w us m) {x : DWordState} (hx : startO m = x) :
    Calls Tryz.prog 83 #[.agg us.toArray] w (Gives owWordState x w) := by
  obtain ⟨i0, hi, hz0, hz1, hz2⟩ := info_parts infoI
  have HM := Lib.hid h
  obtain ⟨f, hf⟩ : ∃ f, flatB m = f := ⟨_, rfl⟩
  have HF := Lib.hid hf
  have HX0 := Lib.hid hx
  clear hf hx
  obtain ⟨mu0, mu1, mu2, mu3, rfl, mh0, mh1, mh2, mh3⟩ := h
  obtain ⟨mA0, mc0, me0, mm0, -⟩ := slice_of mh0
  subst me0
  have mR0 := Lib.hid mh0
  clear mh0
  obtain ⟨mA1, mc1, me1, mm1, -⟩ := slice_of mh1
  subst me1
  have mR1 := Lib.hid mh1
  clear mh1
  obtain ⟨mA2, mc2, me2, mm2, -⟩ := slice_of mh2
  subst me2
  have mR2 := Lib.hid mh2
  clear mh2
  obtain ⟨mA3, mc3, me3, mm3, -⟩ := slice_of mh3
  subst me3
  have mR3 := Lib.hid mh3
  clear mh3
  go_enter Tryz.func83, Tryz.ntmps83
  go_wp2_with fail
  obtain ⟨Wb, hV⟩ : ∃ W0, W0 = (w.alloc (.cells #[.slice mA0 (m.1).length mc0, .slice mA1 (m.2.1).length mc1, .slice mA2 (m.2.2.1).length mc2, .slice mA3 (m.2.2.2).length mc3] 31)).alloc (.cells #[.slice none 0 0, .slice none 0 0] 56) := ⟨_, rfl⟩
  rw [← hV]
  have gN := eqbox2 hV
  have d0 : Wb.cell? ⟨w.heap.size, 0, none⟩ = some (.slice mA0 (m.1).length mc0) := box_cell gN.1 0 _ rfl
  have d1 : Wb.cell? ⟨w.heap.size, 1, none⟩ = some (.slice mA1 (m.2.1).length mc1) := box_cell gN.1 1 _ rfl
  have d2 : Wb.cell? ⟨w.heap.size, 2, none⟩ = some (.slice mA2 (m.2.2.1).length mc2) := box_cell gN.1 2 _ rfl
  have d3 : Wb.cell? ⟨w.heap.size, 3, none⟩ = some (.slice mA3 (m.2.2.2).length mc3) := box_cell gN.1 3 _ rfl
  have HRVb := Lib.hid gN.2.1
  have HWb := Lib.hid gN.2.2
  have sWb : Wb.heap.size = w.heap.size + 2 := by rw [hV]; simp
  clear hV gN
  refine (specFlat_at m _ _ (rdUp good_Module HM.out HWb.out) (Nat.le_refl _) HF.out).mono ?_
  rintro e W0 ⟨rfl, hb⟩
  replace d0 := keep hb d0
  replace d1 := keep hb d1
  replace d2 := keep hb d2
  replace d3 := keep hb d3
  have HW0 := Lib.hid (bThen HWb.out hb)
  have row := rowB' hb HRVb.out
  have sW0 : w.heap.size + 2 ≤ W0.heap.size := by have := hb.size; omega
  clear hb d1 d2
  cases f with
  | false =>
    have r0 := box_cell row 0 _ rfl
    have r1 := box_cell row 1 _ rfl
    have z0 := frozen_of_row _ _ 0 _ _ row
    have z1 := frozen_of_row _ _ 1 _ _ row
    have HE := Lib.hid ((start_no HF.out).symm.trans HX0.out)
    clear row
    go_wp2
    ((try simp only [Exit.inBlock, Exit.then]); refine bodyPost_ret (v := (.agg #[.slice none 0 0, .slice none 0 0])) (by rw [results_cell1 rfl]; go_simp) rfl ?_)
    rw [← HE.out]
    exact ⟨[.slice none 0 0, .slice none 0 0], [], rfl, ow_zero _, by simp, fun b hb => (by cases hb), bSet (bSet HW0.out (by dsimp only; omega) _) (by dsimp only; omega) _⟩
  | true =>
    have HE := Lib.hid ((start_yes HF.out).symm.trans HX0.out)
    have hP := flatP_of HF.out
    have HP := Lib.hid hP
    have l0 := hP.mod.l0
    have l3 := hP.mod.l3
    have HRV := Lib.hid row
    have e4 : IntKind.i64.wrap (4 * (m.2.2.2.length : Int)) = ((4 * m.2.2.2.length : Nat) : Int) := by rw [wrap64_int _ (by omega) (by omega)]; omega
    obtain ⟨n2, hn2⟩ : ∃ n2, 4 * m.2.2.2.length = n2 := ⟨_, rfl⟩
    rw [hn2] at e4
    have hn2' : n2 ≤ 8 := by omega
    have HN2 := Lib.hid hn2
    clear hn2 hP row
    have hS0 : (fun w' => Below W0.heap.size W0 w' ∧ w'.cell? ⟨w.heap.size, 0, none⟩ = some (.slice mA0 (m.1).length mc0) ∧ w'.cell? ⟨w.heap.size, 3, none⟩ = some (.slice mA3 (m.2.2.2).length mc3)) W0 := ⟨Below.refl _ _, d0, d3⟩
    have hS : ∀ {w0 w' : World}, (fun w' => Below W0.heap.size W0 w' ∧ w'.cell? ⟨w.heap.size, 0, none⟩ = some (.slice mA0 (m.1).length mc0) ∧ w'.cell? ⟨w.heap.size, 3, none⟩ = some (.slice mA3 (m.2.2.2).length mc3)) w0 → Below w0.heap.size w0 w' → (fun w' => Below W0.heap.size W0 w' ∧ w'.cell? ⟨w.heap.size, 0, none⟩ = some (.slice mA0 (m.1).length mc0) ∧ w'.cell? ⟨w.heap.size, 3, none⟩ = some (.slice mA3 (m.2.2.2).length mc3)) w' := fun h hb => ⟨bThen h.1 hb, keep hb h.2.1, keep hb h.2.2⟩
    dsimp only at hS0 hS
    go_wp2_with fail
    refine wp_region_noPanic ?_
    refine wp_region_kept 11 12 (fun w' => Below W0.heap.size W0 w' ∧ w'.cell? ⟨w.heap.size, 0, none⟩ = some (.slice mA0 (m.1).length mc0) ∧ w'.cell? ⟨w.heap.size, 3, none⟩ = some (.slice mA3 (m.2.2.2).length mc3)) (by kernel_rfl) rfl (hS hS0 (Below.drew (Below.refl _ _))) (fun hK0 => ?_)
    refine Kept.take (v := ?vr0) 0 (by kernel_rfl) rfl (by kernel_rfl) (fun _ _ _ h => h) (Or.inl ⟨by rfl, ?hyr0⟩) hK0 ?restr0
    case hyr0 =>
      intro w0 hSw
      (try dsimp only at hSw)
      go_simp
      all_goals (with_reducible rfl)
    (try simp only [Act.put, List.setIfInBounds_toArray, List.set_cons_zero, List.set_cons_succ])
    refine Kept.take (v := ?vr1) 1 (by kernel_rfl) rfl (by kernel_rfl) (fun _ _ _ h => h) (Or.inl ⟨by rfl, ?hyr1⟩) hK0 ?restr1
    case hyr1 =>
      intro w0 hSw
      (try dsimp only at hSw)
      go_simp
      all_goals (with_reducible rfl)
    (try simp only [Act.put, List.setIfInBounds_toArray, List.set_cons_zero, List.set_cons_succ])
    refine Kept.take (v := ?vr2) 2 (by kernel_rfl) rfl (by kernel_rfl) (fun _ _ _ h => h) (Or.inl ⟨by rfl, ?hyr2⟩) hK0 ?restr2
    case hyr2 =>
      intro w0 hSw
      (try dsimp only at hSw)
      go_simp
      all_goals (with_reducible rfl)
    (try simp only [Act.put, List.setIfInBounds_toArray, List.set_cons_zero, List.set_cons_succ])
    refine Kept.take (v := ?vr4) 4 (by kernel_rfl) rfl (by kernel_rfl) (fun _ _ _ h => h) (Or.inl ⟨by rfl, ?hyr4⟩) hK0 ?restr4
    case hyr4 =>
      intro w0 hSw
      (try dsimp only at hSw)
      go_simp
      all_goals (with_reducible rfl)
    (try simp only [Act.put, List.setIfInBounds_toArray, List.set_cons_zero, List.set_cons_succ])
    refine Kept.take (v := ?vr5) 5 (by kernel_rfl) rfl (by kernel_rfl) (fun _ _ _ h => h) (Or.inl ⟨by rfl, ?hyr5⟩) hK0 ?restr5
    case hyr5 =>
      intro w0 hSw
      (try dsimp only at hSw)
      go_simp
      all_goals (with_reducible rfl)
    (try simp only [Act.put, List.setIfInBounds_toArray, List.set_cons_zero, List.set_cons_succ])
    refine Kept.take (v := ?vr6) 6 (by kernel_rfl) rfl (by kernel_rfl) (fun _ _ _ h => h) (Or.inl ⟨by rfl, ?hyr6⟩) hK0 ?restr6
    case hyr6 =>
      intro w0 hSw
      (try dsimp only at hSw)
      go_simp
      all_goals (with_reducible rfl)
    (try simp only [Act.put, List.setIfInBounds_toArray, List.set_cons_zero, List.set_cons_succ])
    refine Kept.take (v := ?vr7) 7 (by kernel_rfl) rfl (by kernel_rfl) (fun _ _ _ h => h) (Or.inl ⟨by rfl, ?hyr7⟩) hK0 ?restr7
    case hyr7 =>
      intro w0 hSw
      (try dsimp only at hSw)
      go_simp
      all_goals (with_reducible rfl)
    (try simp only [Act.put, List.setIfInBounds_toArray, List.set_cons_zero, List.set_cons_succ])
    refine Kept.rg (sz := 46) (g := 1) [(3, 12), (8, 17), (9, 18), (10, 3)] [3, 8, 10] (fun k vals w' => match k with
        | 3 => ∃ g, vals 3 = .slice (some ⟨g, 0, none⟩) (m.1.length) (m.1.length) ∧ OwnsI w' W0.heap.size (vals 3) (List.replicate (m.1.length) 0)
        | 8 => ∃ g, vals 8 = .slice (some ⟨g, 0, none⟩) (n2) (n2) ∧ OwnsI w' W0.heap.size (vals 8) (List.replicate (n2) 0)
        | 9 => vals 9 = .agg #[vals 3, vals 8]
        | 10 => ∃ g, vals 10 = .pointer (some ⟨g, 0, none⟩) ∧ w'.heap[g]? = some (.cells #[.slice none 0 0, .slice none 0 0] 56 (0, 0)) ∧ W0.heap.size ≤ g
        | _ => True) (by kernel_rfl) (by kernel_rfl) hK0 (fun _ _ _ h => h) ?hSR ?hloc ?hstep ?hend
    case hSR =>
      intro k hk vals w1 w2 h hb
      simp only [List.map_cons, List.map_nil, List.mem_cons, List.not_mem_nil, or_false] at hk
      rcases hk with rfl | rfl | rfl | rfl
      · obtain ⟨g, e, ho⟩ := h; exact ⟨g, e, ho.below hb⟩
      · obtain ⟨g, e, ho⟩ := h; exact ⟨g, e, ho.below hb⟩
      · exact h
      · obtain ⟨g, e, ho, hB⟩ := h; exact ⟨g, e, rowB' hb ho, hB⟩
    case hloc =>
      intro k j hk hj hne hw vals v w1 h
      simp only [List.map_cons, List.map_nil, List.mem_cons, List.not_mem_nil, or_false] at hk hj
      rcases hk with rfl | rfl | rfl | rfl <;> rcases hj with rfl | rfl | rfl | rfl <;> first | exact absurd rfl hne | exact h | exact absurd (hw.symm.trans (by kernel_rfl : _ = true)) (by decide)
    case hstep =>
      intro k t o hm ho vals wA hSA hpre
      simp only [List.mem_cons, List.not_mem_nil, or_false, Prod.mk.injEq] at hm
      rcases hm with ⟨rfl, rfl⟩ | ⟨rfl, rfl⟩ | ⟨rfl, rfl⟩ | ⟨rfl, rfl⟩
      · have ho' := Option.some.inj ho
        subst ho'
        refine RgStep.make rfl (.tmp 11) (.tmp 11) 49 rfl 3 i0 (.int .i64 0) 1 Tryz.underlying49 hi hz0 hz1 (m.1.length) (by kernel_rfl) (by kernel_rfl) (by rw [hz2]; omega) (by unfold maxLen; omega) (fun w' hb => hS hSA hb) (fun w' hown => ?_)
        have hBA : W0.heap.size ≤ wA.heap.size := by have := hSA.1.size; omega
        have h := own_makeI hown
        exact ⟨_, rfl, h.lower hBA⟩
      · have ho' := Option.some.inj ho
        subst ho'
        refine RgStep.make rfl (.tmp 16) (.tmp 16) 49 rfl 3 i0 (.int .i64 0) 1 Tryz.underlying49 hi hz0 hz1 (n2) (by kernel_rfl) (by kernel_rfl) (by rw [hz2]; omega) (by unfold maxLen; omega) (fun w' hb => hS hSA hb) (fun w' hown => ?_)
        have hBA : W0.heap.size ≤ wA.heap.size := by have := hSA.1.size; omega
        have h := own_makeI hown
        exact ⟨_, rfl, h.lower hBA⟩
      · have ho' := Option.some.inj ho
        subst ho'
        obtain ⟨g3, e3, -⟩ := hpre 3 (by kernel_rfl) (by decide)
        obtain ⟨g8, e8, -⟩ := hpre 8 (by kernel_rfl) (by decide)
        unfold RgStep
        rw [if_pos (by rfl)]
        intro K hK
        have hK' := hK (.agg #[vals 3, vals 8]) wA hSA (Below.refl _ _) (by
          show upd vals 9 _ 9 = .agg #[upd vals 9 _ 3, upd vals 9 _ 8]
          rw [upd_self, upd_ne _ _ (by decide), upd_ne _ _ (by decide)]) (fun h => absurd h (by decide))
        clear hK hpre
        simp only [fillA, Act.put, List.setIfInBounds_toArray, List.set_cons_zero, List.set_cons_succ] at hK' ⊢
        rw [e3, e8] at hK' ⊢
        go_simp
        all_goals exact hK'
      · have ho' := Option.some.inj ho
        subst ho'
        unfold RgStep
        rw [if_pos (by rfl)]
        intro K hK
        have hBA : W0.heap.size ≤ wA.heap.size := by have := hSA.1.size; omega
        have hK' := hK (.pointer (some ⟨wA.heap.size, 0, none⟩)) (wA.alloc (.cells #[.slice none 0 0, .slice none 0 0] 56)) (hS hSA (bAlloc (Below.refl _ _) (Nat.le_refl _) _)) (bAlloc (Below.refl _ _) (Nat.le_refl _) _) ⟨_, rfl, heap_alloc_new _ _, hBA⟩ (fun _ b hb => by
          have hb' : b = wA.heap.size := by simpa [topB] using hb
          subst hb'
          simp)
        clear hK hpre
        simp only [fillA, Act.put, List.setIfInBounds_toArray, List.set_cons_zero, List.set_cons_succ] at hK' ⊢
        go_simp
        all_goals exact hK'
    case hend =>
      intro vals wB hSB hR hap
      obtain ⟨g3, e3, o3⟩ := hR 3 (by decide)
      obtain ⟨g8, e8, o8⟩ := hR 8 (by decide)
      have e9 : vals 9 = .agg #[vals 3, vals 8] := hR 9 (by decide)
      obtain ⟨F, e10, hF, hFB⟩ := hR 10 (by decide)
      have a38 := hap 3 8 (by decide) (by decide) (by decide)
      have a310 := hap 3 10 (by decide) (by decide) (by decide)
      have a810 := hap 8 10 (by decide) (by decide) (by decide)
      rw [e3, e8] at a38 e9
      rw [e3, e10] at a310
      rw [e8, e10] at a810
      rw [e3] at o3
      rw [e8] at o8
      have n38 : g3 ≠ g8 := fun e => a38 g3 (by simp [topB]) (by simp [topB, e])
      have n3F : g3 ≠ F := fun e => a310 g3 (by simp [topB]) (by simp [topB, e])
      have n8F : g8 ≠ F := fun e => a810 g8 (by simp [topB]) (by simp [topB, e])
      simp only [fillA, Act.put, List.setIfInBounds_toArray, List.set_cons_zero, List.set_cons_succ]
      rw [e3, e8, e9, e10]
      generalize vals 0 = v0
      clear hap a38 a310 a810 hR e3 e8 e9 e10
      have f0 := box_cell hF 0 _ rfl
      have f1 := box_cell hF 1 _ rfl
      have z0 := frozen_of_row _ _ 0 _ _ hF
      have z1 := frozen_of_row _ _ 1 _ _ hF
      refine Kept.tail (by rfl) (by kernel_rfl) ?_
      simp only [List.drop_succ_cons, List.drop_zero]
      go_wp2
      refine NoPanic.normal ?_
      obtain ⟨W1, hW1⟩ : ∃ W1, W1 = (wB.setCell ⟨F, 0, none⟩ (.slice (some ⟨g3, 0, none⟩) m.1.length m.1.length)).setCell ⟨F, 1, none⟩ (.slice (some ⟨g8, 0, none⟩) n2 n2) := ⟨_, rfl⟩
      rw [← hW1]
      have F0 : W1.cell? ⟨F, 0, none⟩ = some (.slice (some ⟨g3, 0, none⟩) m.1.length m.1.length) := by rw [hW1]; exact set_far (set_same f0) (by decide)
      have F1 : W1.cell? ⟨F, 1, none⟩ = some (.slice (some ⟨g8, 0, none⟩) n2 n2) := by rw [hW1]; exact set_same (set_far f1 (by decide))
      have p3 : OwnsI W1 W0.heap.size (.slice (some ⟨g3, 0, none⟩) m.1.length m.1.length) (startK m 0) := by
        rw [hW1, startK_zero]
        exact ownI_far (ownI_far o3 (by intro e; injection e with e; exact n3F e)) (by intro e; injection e with e; exact n3F e)
      have p8 : OwnsI W1 W0.heap.size (.slice (some ⟨g8, 0, none⟩) n2 n2) (List.replicate n2 0) := by
        rw [hW1]
        exact ownI_far (ownI_far o8 (by intro e; injection e with e; exact n8F e)) (by intro e; injection e with e; exact n8F e)
      have HB1 := Lib.hid (show Below W0.heap.size W0 W1 by rw [hW1]; exact bSet (bSet hSB.1 hFB _) hFB _)
      have P3 := Lib.hid p3
      have P8 := Lib.hid p8
      have g3B : W0.heap.size ≤ g3 := (o3.lt g3 rfl).1
      have g8B : W0.heap.size ≤ g8 := (o8.lt g8 rfl).1
      clear hW1 p3 p8 o3 o8 hSB hF f0 f1 z0 z1 hS hS0 e4
      have c0 := keep HB1.out d0
      have c3 := keep HB1.out d3
      clear d0 d3
      have lt0 : w.heap.size < W1.heap.size := World.block_lt_of_cell? _ _ c0
      go_wp2
      skip
      go_loopw [4] (fun v wr => ∃ k : Nat, k ≤ m.1.length ∧ v = .int .i64 (k : Int) ∧ OwnsI wr W0.heap.size (.slice (some ⟨g3, 0, none⟩) m.1.length m.1.length) (startK m k) ∧ OwnsI wr W0.heap.size (.slice (some ⟨g8, 0, none⟩) n2 n2) (List.replicate n2 0) ∧ wr.cell? ⟨F, 0, none⟩ = some (.slice (some ⟨g3, 0, none⟩) m.1.length m.1.length) ∧ wr.cell? ⟨F, 1, none⟩ = some (.slice (some ⟨g8, 0, none⟩) n2 n2) ∧ wr.cell? ⟨w.heap.size, 0, none⟩ = some (.slice mA0 (m.1).length mc0) ∧ Below W0.heap.size W0 wr) (fun v _ => m.1.length - (intOf v).toNat)
      case atStart => exact ⟨0, Nat.zero_le _, rfl, P3.out, P8.out, F0, F1, c0, HB1.out⟩
      case round =>
        obtain ⟨k, hk, rfl, p3, p8, F0, F1, c0, hb⟩ := hrel
        obtain ⟨w2, rfl⟩ : ∃ w2, w2 = wr := ⟨_, rfl⟩
        clear P3 P8 HB1 lt0
        have P3 := Lib.hid p3
        have P8 := Lib.hid p8
        have HB2 := Lib.hid hb
        have HBW := Lib.hid (bThen HW0.out hb)
        have Flt : F < w2.heap.size := World.block_lt_of_cell? _ _ F0
        have lt0 : w.heap.size < w2.heap.size := World.block_lt_of_cell? _ _ c0
        clear p3 p8 hb
        by_cases hlt : k < m.1.length
        · obtain ⟨x, hx⟩ : ∃ x, m.1[k]? = some x := ⟨_, List.getElem?_eq_getElem hlt⟩
          obtain ⟨W, hxW, hW⟩ := HP.out.wid k x hx
          obtain ⟨r, hr⟩ : ∃ r, cutI x.2.2 W = r := ⟨_, rfl⟩
          have HX := Lib.hid (startK_step hx hxW hr)
          obtain ⟨M, hM, hM15, hm1, hm2⟩ := mask_go W hW.2
          have hp1 := pow1 W
          obtain ⟨i, hi'⟩ : ∃ i : Int, x.2.2 = i := ⟨_, rfl⟩
          have hev := and_mask x.2.2 W M hW.2 (mask_succ hM)
          rw [hr, hi'] at hev
          have HEV := Lib.hid (show bits .and .i64 i (IntKind.i64.wrap (IntKind.i64.wrap ((2 : Int) ^ min W 64) - 1)) = r by rw [hm2]; exact hev)
          obtain ⟨xb, xq, rfl, xb1, x0, -, x1, -, x2, -⟩ := at_Signal (good_SignalS.below mR0.out (Nat.le_refl _) HBW.out) hx
          have xb2 := Nat.lt_of_lt_of_le xb1 HBW.out.size
          rw [hxW] at x1
          rw [hi'] at x2
          clear hx hxW hr hW hi' xb1 x0 hM hM15 hm1 hm2 hev hp1
          have hS0 : (fun w' => Below w2.heap.size w2 w' ∧ w'.cell? ⟨F, 0, none⟩ = some (.slice (some ⟨g3, 0, none⟩) m.1.length m.1.length) ∧ w'.cell? ⟨w.heap.size, 0, none⟩ = some (.slice (some ⟨xb, xq, none⟩) (m.1).length mc0) ∧ w'.cell? ⟨xb, xq + k * 3 + 1, none⟩ = some (.int .i64 (W : Int)) ∧ w'.cell? ⟨xb, xq + k * 3 + 2, none⟩ = some (.int .i64 i)) w2 := ⟨Below.refl _ _, F0, c0, x1, x2⟩
          have hS : ∀ {w0 w' : World}, (fun w' => Below w2.heap.size w2 w' ∧ w'.cell? ⟨F, 0, none⟩ = some (.slice (some ⟨g3, 0, none⟩) m.1.length m.1.length) ∧ w'.cell? ⟨w.heap.size, 0, none⟩ = some (.slice (some ⟨xb, xq, none⟩) (m.1).length mc0) ∧ w'.cell? ⟨xb, xq + k * 3 + 1, none⟩ = some (.int .i64 (W : Int)) ∧ w'.cell? ⟨xb, xq + k * 3 + 2, none⟩ = some (.int .i64 i)) w0 → Below w0.heap.size w0 w' → (fun w' => Below w2.heap.size w2 w' ∧ w'.cell? ⟨F, 0, none⟩ = some (.slice (some ⟨g3, 0, none⟩) m.1.length m.1.length) ∧ w'.cell? ⟨w.heap.size, 0, none⟩ = some (.slice (some ⟨xb, xq, none⟩) (m.1).length mc0) ∧ w'.cell? ⟨xb, xq + k * 3 + 1, none⟩ = some (.int .i64 (W : Int)) ∧ w'.cell? ⟨xb, xq + k * 3 + 2, none⟩ = some (.int .i64 i)) w' := fun h hb => ⟨bThen h.1 hb, keep hb h.2.1, keep hb h.2.2.1, keep hb h.2.2.2.1, keep hb h.2.2.2.2⟩
          dsimp only at hS0 hS
          go_wp2_with fail
          refine wp_region_noPanic ?_
          refine wp_region_kept 18 20 (fun w' => Below w2.heap.size w2 w' ∧ w'.cell? ⟨F, 0, none⟩ = some (.slice (some ⟨g3, 0, none⟩) m.1.length m.1.length) ∧ w'.cell? ⟨w.heap.size, 0, none⟩ = some (.slice (some ⟨xb, xq, none⟩) (m.1).length mc0) ∧ w'.cell? ⟨xb, xq + k * 3 + 1, none⟩ = some (.int .i64 (W : Int)) ∧ w'.cell? ⟨xb, xq + k * 3 + 2, none⟩ = some (.int .i64 i)) (by kernel_rfl) rfl (hS hS0 (Below.drew (Below.refl _ _))) (fun hK0 => ?_)
          refine Kept.take (v := ?vs0) 0 (by kernel_rfl) rfl (by kernel_rfl) (fun _ _ _ h => h) (Or.inl ⟨by rfl, ?hys0⟩) hK0 ?rests0
          case hys0 =>
            intro w0 hSw
            (try dsimp only at hSw)
            go_simp
            all_goals (with_reducible rfl)
          (try simp only [Act.put, List.setIfInBounds_toArray, List.set_cons_zero, List.set_cons_succ])
          refine Kept.take (v := ?vs1) 1 (by kernel_rfl) rfl (by kernel_rfl) (fun _ _ _ h => h) (Or.inl ⟨by rfl, ?hys1⟩) hK0 ?rests1
          case hys1 =>
            intro w0 hSw
            (try dsimp only at hSw)
            go_simp
            all_goals (with_reducible rfl)
          (try simp only [Act.put, List.setIfInBounds_toArray, List.set_cons_zero, List.set_cons_succ])
          refine Kept.take (v := ?vs2) 2 (by kernel_rfl) rfl (by kernel_rfl) (fun _ _ _ h => h) (Or.inl ⟨by rfl, ?hys2⟩) hK0 ?rests2
          case hys2 =>
            intro w0 hSw
            (try dsimp only at hSw)
            go_simp
            all_goals (with_reducible rfl)
          (try simp only [Act.put, List.setIfInBounds_toArray, List.set_cons_zero, List.set_cons_succ])
          refine Kept.take (v := ?vs3) 3 (by kernel_rfl) rfl (by kernel_rfl) (fun _ _ _ h => h) (Or.inl ⟨by rfl, ?hys3⟩) hK0 ?rests3
          case hys3 =>
            intro w0 hSw
            (try dsimp only at hSw)
            go_simp
            all_goals (with_reducible rfl)
          (try simp only [Act.put, List.setIfInBounds_toArray, List.set_cons_zero, List.set_cons_succ])
          refine Kept.take (v := ?vs4) 4 (by kernel_rfl) rfl (by kernel_rfl) (fun _ _ _ h => h) (Or.inl ⟨by rfl, ?hys4⟩) hK0 ?rests4
          case hys4 =>
            intro w0 hSw
            (try dsimp only at hSw)
            go_simp
            all_goals (with_reducible rfl)
          (try simp only [Act.put, List.setIfInBounds_toArray, List.set_cons_zero, List.set_cons_succ])
          refine Kept.take (v := ?vs5) 5 (by kernel_rfl) rfl (by kernel_rfl) (fun _ _ _ h => h) (Or.inl ⟨by rfl, ?hys5⟩) hK0 ?rests5
          case hys5 =>
            intro w0 hSw
            (try dsimp only at hSw)
            go_simp
            all_goals (with_reducible rfl)
          (try simp only [Act.put, List.setIfInBounds_toArray, List.set_cons_zero, List.set_cons_succ])
          refine Kept.take (v := ?vs6) 6 (by kernel_rfl) rfl (by kernel_rfl) (fun _ _ _ h => h) (Or.inl ⟨by rfl, ?hys6⟩) hK0 ?rests6
          case hys6 =>
            intro w0 hSw
            (try dsimp only at hSw)
            go_simp
            all_goals (with_reducible rfl)
          (try simp only [Act.put, List.setIfInBounds_toArray, List.set_cons_zero, List.set_cons_succ])
          refine Kept.take (v := ?vs7) 7 (by kernel_rfl) rfl (by kernel_rfl) (fun _ _ _ h => h) (Or.inl ⟨by rfl, ?hys7⟩) hK0 ?rests7
          case hys7 =>
            intro w0 hSw
            (try dsimp only at hSw)
            go_simp
            all_goals (with_reducible rfl)
          (try simp only [Act.put, List.setIfInBounds_toArray, List.set_cons_zero, List.set_cons_succ])
          refine Kept.take (v := ?vs8) 8 (by kernel_rfl) rfl (by kernel_rfl) (fun _ _ _ h => h) (Or.inl ⟨by rfl, ?hys8⟩) hK0 ?rests8
          case hys8 =>
            intro w0 hSw
            (try dsimp only at hSw)
            go_simp
            all_goals (with_reducible rfl)
          (try simp only [Act.put, List.setIfInBounds_toArray, List.set_cons_zero, List.set_cons_succ])
          refine Kept.take (v := ?vs9) 9 (by kernel_rfl) rfl (by kernel_rfl) (fun _ _ _ h => h) (Or.inl ⟨by rfl, ?hys9⟩) hK0 ?rests9
          case hys9 =>
            intro w0 hSw
            (try dsimp only at hSw)
            go_simp
            all_goals (with_reducible rfl)
          (try simp only [Act.put, List.setIfInBounds_toArray, List.set_cons_zero, List.set_cons_succ])
          refine Kept.take (v := ?vs10) 10 (by kernel_rfl) rfl (by kernel_rfl) (fun _ _ _ h => h) (Or.inl ⟨by rfl, ?hys10⟩) hK0 ?rests10
          case hys10 =>
            intro w0 hSw
            (try dsimp only at hSw)
            go_simp
            all_goals (with_reducible rfl)
          (try simp only [Act.put, List.setIfInBounds_toArray, List.set_cons_zero, List.set_cons_succ])
          refine Kept.take (v := ?vs11) 11 (by kernel_rfl) rfl (by kernel_rfl) (fun _ _ _ h => h) (Or.inl ⟨by rfl, ?hys11⟩) hK0 ?rests11
          case hys11 =>
            intro w0 hSw
            (try dsimp only at hSw)
            go_simp
            all_goals (with_reducible rfl)
          (try simp only [Act.put, List.setIfInBounds_toArray, List.set_cons_zero, List.set_cons_succ])
          refine Kept.take (v := ?vs12) 12 (by kernel_rfl) rfl (by kernel_rfl) (fun _ _ _ h => h) (Or.inl ⟨by rfl, ?hys12⟩) hK0 ?rests12
          case hys12 =>
            intro w0 hSw
            (try dsimp only at hSw)
            go_simp
            all_goals (with_reducible rfl)
          (try simp only [Act.put, List.setIfInBounds_toArray, List.set_cons_zero, List.set_cons_succ])
          refine Kept.take (v := ?vs13) 13 (by kernel_rfl) rfl (by kernel_rfl) (fun _ _ _ h => h) (Or.inl ⟨by rfl, ?hys13⟩) hK0 ?rests13
          case hys13 =>
            intro w0 hSw
            (try dsimp only at hSw)
            go_simp
            all_goals (with_reducible rfl)
          (try simp only [Act.put, List.setIfInBounds_toArray, List.set_cons_zero, List.set_cons_succ])
          refine Kept.take (v := ?vs14) 14 (by kernel_rfl) rfl (by kernel_rfl) (fun _ _ _ h => h) (Or.inl ⟨by rfl, ?hys14⟩) hK0 ?rests14
          case hys14 =>
            intro w0 hSw
            (try dsimp only at hSw)
            go_simp
            all_goals (with_reducible rfl)
          (try simp only [Act.put, List.setIfInBounds_toArray, List.set_cons_zero, List.set_cons_succ])
          refine Kept.take (v := ?vs15) 15 (by kernel_rfl) rfl (by kernel_rfl) (fun _ _ _ h => h) (Or.inl ⟨by rfl, ?hys15⟩) hK0 ?rests15
          case hys15 =>
            intro w0 hSw
            (try dsimp only at hSw)
            go_simp
            all_goals (with_reducible rfl)
          (try simp only [Act.put, List.setIfInBounds_toArray, List.set_cons_zero, List.set_cons_succ])
          refine Kept.take (v := ?vs16) 16 (by kernel_rfl) rfl (by kernel_rfl) (fun _ _ _ h => h) (Or.inl ⟨by rfl, ?hys16⟩) hK0 ?rests16
          case hys16 =>
            intro w0 hSw
            (try dsimp only at hSw)
            go_simp
            all_goals (with_reducible rfl)
          (try simp only [Act.put, List.setIfInBounds_toArray, List.set_cons_zero, List.set_cons_succ])
          refine Kept.take (v := ?vs17) 17 (by kernel_rfl) rfl (by kernel_rfl) (fun _ _ _ h => h) (Or.inl ⟨by rfl, ?hys17⟩) hK0 ?rests17
          case hys17 =>
            intro w0 hSw
            (try dsimp only at hSw)
            go_simp
            all_goals (with_reducible rfl)
          (try simp only [Act.put, List.setIfInBounds_toArray, List.set_cons_zero, List.set_cons_succ])
          refine Kept.tail (by rfl) (by kernel_rfl) ?_
          simp only [List.drop_succ_cons, List.drop_zero]
          have HB3 := Lib.hid hK0.1
          have Q3 := P3.out.below HB3.out
          have gf := ownI_cell Q3 (startK_len m hk) hlt
          have u0 := gf.1
          have u1 := gf.2
          have HQ3 := Lib.hid Q3
          have HQ8 := Lib.hid (P8.out.below HB3.out)
          have G0 := hK0.2.1
          have C0 := hK0.2.2.1
          have G1 := keep HB3.out F1
          have tl : (k : Int) < (m.1.length : Int) := by omega
          clear gf Q3 hK0 hS hS0 x1 x2 F0 F1 c0
          simp only [HEV.out]
          go_wp2
          refine NoPanic.normal ?_
          go_wp2
          go_roundw
          case rel =>
            have h3 := ownI_set HQ3.out (startK_len m hk) hlt r
            rw [HX.out] at h3
            have h8 := ownI_far (g := g3) (k := k) (u := .int .i64 r) HQ8.out (by intro e; injection e with e; exact n38 e.symm)
            have k0 := (World.cell?_setCell_other _ ⟨g3, k, none⟩ ⟨F, 0, none⟩ (.int .i64 r) (by intro e; injection e with e; exact n3F e)).trans G0
            have k1 := (World.cell?_setCell_other _ ⟨g3, k, none⟩ ⟨F, 1, none⟩ (.int .i64 r) (by intro e; injection e with e; exact n3F e)).trans G1
            have k2 := (World.cell?_setCell_other _ ⟨g3, k, none⟩ ⟨w.heap.size, 0, none⟩ (.int .i64 r) (by intro e; injection e with e; omega)).trans C0
            have kb := bSet (p := ⟨g3, k, none⟩) (bThen HB2.out HB3.out) g3B (.int .i64 r)
            exact ⟨k + 1, by omega, by go_num, h3, h8, k0, k1, k2, kb⟩
          case measure => simp [intOf]; omega
        · obtain rfl : k = m.1.length := by omega
          rw [startK_end] at P3
          have row := rowB' HB2.out HRV.out
          have r0 := box_cell row 0 _ rfl
          have r1 := box_cell row 1 _ rfl
          have z0 := frozen_of_row _ _ 0 _ _ row
          have z1 := frozen_of_row _ _ 1 _ _ row
          have rlt : w.heap.size + 1 < w2.heap.size := World.block_lt_of_cell? _ _ r0
          clear row
          go_wp2
          ((try simp only [Exit.inBlock, Exit.then]); refine bodyPost_ret (v := (.agg #[.slice (some ⟨g3, 0, none⟩) m.1.length m.1.length, .slice (some ⟨g8, 0, none⟩) n2 n2])) (by rw [results_cell1 rfl]; go_simp) rfl ?_)
          have hf := startV_fit HP.out
          have hne3 : g3 ≠ w.heap.size + 1 := by omega
          have hne8 : g8 ≠ w.heap.size + 1 := by omega
          have q3 := ownI_far (k := 1) (u := .slice (some ⟨g8, 0, none⟩) n2 n2) (ownI_far (k := 0) (u := .slice (some ⟨g3, 0, none⟩) m.1.length m.1.length) P3.out (g := w.heap.size + 1) (by intro e; injection e with e; exact hne3 e)) (by intro e; injection e with e; exact hne3 e)
          have q8 := ownI_far (k := 1) (u := .slice (some ⟨g8, 0, none⟩) n2 n2) (ownI_far (k := 0) (u := .slice (some ⟨g3, 0, none⟩) m.1.length m.1.length) P8.out (g := w.heap.size + 1) (by intro e; injection e with e; exact hne8 e)) (by intro e; injection e with e; exact hne8 e)
          have t3 := q3.lt g3 rfl
          have t8 := q8.lt g8 rfl
          rw [← HE.out, HN2.out]
          refine ⟨[.slice (some ⟨g3, 0, none⟩) m.1.length m.1.length, .slice (some ⟨g8, 0, none⟩) n2 n2], [g3] ++ [g8], rfl, ⟨[g3], [g8], _, _, rfl, rfl, ?_, ?_⟩, by simpa using n38, ?_, bSet (bSet HBW.out (by dsimp only; omega) _) (by dsimp only; omega) _⟩
          · have h := ownI_ow q3 (fun x hx => by have := hf x hx; unfold Fit; omega)
            simpa [blkL_at, startV] using h
          · have h := ownI_ow q8 (fun x hx => by have := List.eq_of_mem_replicate hx; subst this; unfold Fit; omega)
            simpa [blkL_at] using h
          · intro b hb
            simp only [List.cons_append, List.nil_append, List.mem_cons, List.not_mem_nil, or_false] at hb
            rcases hb with rfl | rfl
            · exact ⟨by omega, t3.2⟩
            · exact ⟨by omega, t8.2⟩
end Go.Proofs.YtmjofpfkgbnknaaGreat
