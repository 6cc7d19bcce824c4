/-
  Slices of ints that the call itself owns; the contracts of eqIntS, markIntS and heldIntS.
-/
import Derived.Test.YtmjofpfkgbnknaaGreatQui
import Derived.Deep.RegionLaw
import Derived.Deep.AppendLies
namespace Go.Proofs.YtmjofpfkgbnknaaGreat
open Go.RowKit
set_option linter.unusedSimpArgs false

theorem ownI_below {w w' : World} {B e size n : Nat} {v : Value} {xs : List Value} (h : w.ownsRow B e size v n xs) (hb : Below w.heap.size w w') : w'.ownsRow B e size v n xs :=
  h.kept (row := none) ⟨hb.os, hb.tape, hb.output, hb.size, fun k hk _ => hb.block k hk⟩ (by cases v.ownBlock <;> simp)
/-- An int. -/
def vI (x : Int) : Value := .int .i64 x
/-- The slice value v owns the ints L. -/
def OwnsI (w : World) (B : Nat) (v : Value) (L : List Int) : Prop := w.ownsRow B 3 1 v L.length (L.map vI)
theorem OwnsI.below {w w' : World} {B : Nat} {v : Value} {L : List Int} (h : OwnsI w B v L) (hb : Below w.heap.size w w') : OwnsI w' B v L := ownI_below h hb
theorem OwnsI.shape {w : World} {B : Nat} {v : Value} {L : List Int} (h : OwnsI w B v L) : ∃ A c, v = .slice A L.length c ∧ ∀ j, j < L.length → ∃ g, A = some ⟨g, 0, none⟩ ∧ w.cell? ⟨g, j, none⟩ = some (.int .i64 (L.getD j 0)) ∧ w.frozen? ⟨g, j, none⟩ = false := by
  rcases h.2 with ⟨rfl, h0⟩ | ⟨g, cap, cur, rfl, _⟩
  · exact ⟨none, 0, by rw [h0], fun j hj => absurd hj (by omega)⟩
  · refine ⟨some ⟨g, 0, none⟩, cap, rfl, fun j hj => ⟨g, rfl, ?_, h.frozenAt j⟩⟩
    rw [h.cellAt j (by omega)]
    simp [List.getElem?_eq_getElem hj, vI]
theorem own_nilI (w : World) (B : Nat) : OwnsI w B (.slice none 0 0) [] := World.ownsRow_nil _ _ _ _
theorem own_newI (w : World) (B : Nat) (hB : B ≤ w.heap.size) : OwnsI (w.alloc (.cells #[] 3)) B (.slice (some ⟨w.heap.size, 0, none⟩) 0 0) [] := World.ownsRow_lit w #[] 0 hB (by unfold maxLen; omega) rfl
/-- Behind an append of one int. -/
theorem own_addI {B : Nat} {w wr a w1 : World} {v v' : Value} {L : List Int} {x : Int} (hown : OwnsI wr B v L) (hsz : B ≤ wr.heap.size) (hbel : Below B w wr) (ha : Below wr.heap.size wr a) (hgrow : a.grownBy w1 v.ownBlock)
    (hown' : w1.ownsRow B 3 1 v' (L.length + 1) (L.map vI ++ [.int .i64 x])) : OwnsI w1 B v' (L ++ [x]) ∧ Below B w w1 := by
  refine ⟨?_, (hbel.trans (ha.mono hsz)).grown hgrow (Nat.le_trans hsz ha.size) (fun j hj => (hown.lt j hj).1)⟩
  unfold OwnsI
  rw [List.length_append, List.map_append]
  exact hown'

set_option maxHeartbeats 400000 in
theorem eqI_any (B1 B2 : Nat) (a b : Value) (L : List Int) (w : World) (ha : OwnsI w B1 a L) (hb : OwnsI w B2 b L) (hl : L.length ≤ 1000000) :
    Calls Tryz.prog 24 #[a, b] w fun e w' => e = .returned (.bool true) ∧ Below w.heap.size w w' := by
  obtain ⟨A, c, rfl, hA⟩ := ha.shape
  obtain ⟨A', c', rfl, hA'⟩ := hb.shape
  clear ha hb
  have HA := Lib.hid hA
  have HA' := Lib.hid hA'
  clear hA hA'
  go_enter Tryz.func24, Tryz.ntmps24
  go_wp2
  go_loopw [5] (fun i wr => ∃ k : Nat, k ≤ L.length ∧ i = .int .i64 k ∧ Below w.heap.size w wr) (fun i _ => L.length - (intOf i).toNat)
  case atStart => exact ⟨0, Nat.zero_le _, rfl, Below.refl _ _⟩
  case round =>
    obtain ⟨k, hk, rfl, hbel⟩ := hrel
    by_cases hlt : k < L.length
    · obtain ⟨g, rfl, h1, _⟩ := HA.out k hlt
      obtain ⟨g', rfl, h2, _⟩ := HA'.out k hlt
      have c1 := (hbel.cell (p := ⟨g, k, none⟩) (World.block_lt_of_cell? w _ h1)).trans h1
      have c2 := (hbel.cell (p := ⟨g', k, none⟩) (World.block_lt_of_cell? w _ h2)).trans h2
      have HB := Lib.hid hbel
      generalize L.getD k 0 = x at c1 c2
      clear h1 h2 HA HA' hbel
      go_wp2
      go_quiet (fail)
      go_wp2
      go_roundw
      case rel => exact ⟨k + 1, by omega, by go_num, HB.out.trans ⟨rfl, rfl, rfl, Nat.le_refl _, fun _ _ => rfl⟩⟩
      case measure => simp [intOf]; omega
    · have HB := Lib.hid hbel
      clear hbel
      go_wp2
      go_ret
      exact ⟨rfl, HB.out⟩

/-- The marks k, k + 1, .. : n of them. -/
def marksI (k n : Nat) : List Int := (List.range n).map fun i => ((k + i : Nat) : Int)
theorem marksI_len (k n : Nat) : (marksI k n).length = n := by simp [marksI]
theorem marksI_at (k n j : Nat) (h : j < n) : (marksI k n).getD j 0 = ((k + j : Nat) : Int) := by simp [marksI, h]

set_option maxHeartbeats 800000 in
theorem markI_any (B : Nat) (a : Value) (L : List Int) (w : World) (ha : OwnsI w B a L) (hl : L.length ≤ 1000000) (k0 : Nat) (hk1 : 1 ≤ k0) (hk2 : k0 ≤ 1000000000) :
    Calls Tryz.prog 27 #[a, .int .i64 k0] w fun e w' => e = .returned (.int .i64 ((k0 + L.length : Nat) : Int)) ∧ OwnsI w' B a (marksI k0 L.length) ∧ w.grownBy w' a.ownBlock := by
  obtain ⟨A, c, rfl, hA⟩ := ha.shape
  clear hA
  have HA := Lib.hid ha
  clear ha
  go_enter Tryz.func27, Tryz.ntmps27
  go_wp2
  go_loopw [1, 5] (fun q i wr => ∃ k : Nat, k ≤ L.length ∧ i = .int .i64 k ∧ q = .int .i64 ((k0 + k : Nat) : Int) ∧ OwnsI wr B (.slice A L.length c) (marksI k0 k ++ L.drop k) ∧ w.grownBy wr (Value.slice A L.length c).ownBlock) (fun _ i _ => L.length - (intOf i).toNat)
  case atStart => exact ⟨0, Nat.zero_le _, rfl, rfl, by simpa [marksI] using HA.out, World.grownBy.refl _ _⟩
  case round =>
    obtain ⟨k, hk, rfl, rfl, hown, hgrow⟩ := hrel
    have hll : (marksI k0 k ++ L.drop k).length = L.length := by rw [List.length_append, marksI_len, List.length_drop]; omega
    have HO := Lib.hid hown
    have HG := Lib.hid hgrow
    have HL := Lib.hid hll
    clear hown hgrow hll HA
    by_cases hlt : k < L.length
    · obtain ⟨A2, c2, hv, hA2⟩ := HO.out.shape
      rw [HL.out] at hA2 hv
      injection hv with hv1 hv2 hv3
      subst hv1 hv3
      obtain ⟨g, rfl, c1, f1⟩ := hA2 k hlt
      have hown2 : wr.ownsRow B 3 1 (.slice (some ⟨g, 0, none⟩) L.length c) L.length ((marksI k0 k ++ L.drop k).map vI) := by have := HO.out; unfold OwnsI at this; rw [HL.out] at this; exact this
      have hst := hown2.stored k (vI ((k0 + k : Nat) : Int))
      have el : ((marksI k0 k ++ L.drop k).map vI).set k (vI ((k0 + k : Nat) : Int)) = (marksI k0 (k + 1) ++ L.drop (k + 1)).map vI := by
        rw [← List.map_set]
        congr 1
        rw [List.set_append_right _ _ (by rw [marksI_len]; omega), marksI_len, Nat.sub_self, List.drop_eq_getElem_cons hlt, List.set_cons_zero]
        simp [marksI, List.range_succ]
      have ho3 : OwnsI (wr.setCell ⟨g, k, none⟩ (.int .i64 ((k0 + k : Nat) : Int))) B (.slice (some ⟨g, 0, none⟩) L.length c) (marksI k0 (k + 1) ++ L.drop (k + 1)) := by
        have hl3 : (marksI k0 (k + 1) ++ L.drop (k + 1)).length = L.length := by rw [List.length_append, marksI_len, List.length_drop]; omega
        unfold OwnsI
        rw [hl3, ← el]
        exact hst.1
      have hg3 : w.grownBy (wr.setCell ⟨g, k, none⟩ (.int .i64 ((k0 + k : Nat) : Int))) (Value.slice (some ⟨g, 0, none⟩) L.length c).ownBlock :=
        ⟨HG.out.os, HG.out.tape, HG.out.output, Nat.le_trans HG.out.size hst.2.size, fun j hj hne =>
          (hst.2.block j (Nat.lt_of_lt_of_le hj HG.out.size) hne).trans (HG.out.block j hj hne)⟩
      have R := Lib.hid (And.intro ho3 hg3)
      clear hA2 hown2 hst el ho3 hg3 HO HG
      go_wp2
      go_roundw
      case rel => exact ⟨k + 1, by omega, by go_num, by go_num, R.out.1, R.out.2⟩
      case measure => simp [intOf]; omega
    · obtain rfl : k = L.length := by omega
      go_wp2
      go_ret
      exact ⟨rfl, by have := HO.out; rwa [List.drop_length, List.append_nil] at this, HG.out⟩

set_option maxHeartbeats 400000 in
theorem heldI_any (B : Nat) (a : Value) (n : Nat) (w : World) (k0 : Nat) (ha : OwnsI w B a (marksI k0 n)) (hl : n ≤ 1000000) (hk1 : 1 ≤ k0) (hk2 : k0 ≤ 1000000000) :
    Calls Tryz.prog 28 #[a, .int .i64 k0] w fun e w' => e = .returned (.int .i64 ((k0 + n : Nat) : Int)) ∧ Below w.heap.size w w' := by
  obtain ⟨A, c, rfl, hA⟩ := ha.shape
  rw [marksI_len] at hA ⊢
  have HA := Lib.hid hA
  clear hA ha
  go_enter Tryz.func28, Tryz.ntmps28
  go_wp2
  go_loopw [1, 5] (fun q i wr => ∃ k : Nat, k ≤ n ∧ i = .int .i64 k ∧ q = .int .i64 ((k0 + k : Nat) : Int) ∧ Below w.heap.size w wr) (fun _ i _ => n - (intOf i).toNat)
  case atStart => exact ⟨0, Nat.zero_le _, rfl, rfl, Below.refl _ _⟩
  case round =>
    obtain ⟨k, hk, rfl, rfl, hbel⟩ := hrel
    by_cases hlt : k < n
    · obtain ⟨g, rfl, h1, _⟩ := HA.out k hlt
      rw [marksI_at k0 n k hlt] at h1
      have c1 := (hbel.cell (p := ⟨g, k, none⟩) (World.block_lt_of_cell? w _ h1)).trans h1
      have HB := Lib.hid hbel
      clear h1 HA hbel
      go_wp2
      go_roundw
      case rel => exact ⟨k + 1, by omega, by go_num, by go_num, by have hB := HB.out; (repeat' (first | assumption | exact Below.refl _ _ | refine bDrewN ?_ _ | refine Below.drew ?_ | refine bAlloc ?_ (Nat.le_refl _) _ | refine bSet ?_ (by first | exact Nat.le_refl _ | omega | (simp <;> omega)) _))⟩
      case measure => simp [intOf]; omega
    · have HB := Lib.hid hbel
      obtain rfl : k = n := by omega
      clear hbel
      go_wp2
      go_ret
      exact ⟨rfl, HB.out⟩
end Go.Proofs.YtmjofpfkgbnknaaGreat
