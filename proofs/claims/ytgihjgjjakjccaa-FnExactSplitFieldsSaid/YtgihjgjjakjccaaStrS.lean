/-
  The contracts of eqStringS, markStringS and heldStringS over slices that the call itself owns.
-/
import Derived.Test.YtgihjgjjakjccaaMark
import Derived.Deep.QuietTactic
import Derived.BigQuiet
import Derived.Deep.RegionLaw
namespace Go.Proofs.Ytgihjgjjakjccaa
open Go.RowKit

/-- A row that is owned stays owned where every block that lies there stays. -/
theorem own_below {w w' : World} {B e size n : Nat} {v : Value} {xs : List Value} (h : w.ownsRow B e size v n xs) (hb : Below w.heap.size w w') : w'.ownsRow B e size v n xs :=
  h.kept (row := none) ⟨hb.os, hb.tape, hb.output, hb.size, fun k hk _ => hb.block k hk⟩ (by cases v.ownBlock <;> simp)

/-- The slice value v owns the texts L. -/
def OwnsS (w : World) (B : Nat) (v : Value) (L : List ByteArray) : Prop := w.ownsRow B 9 1 v L.length (L.map Value.string)
theorem OwnsS.below {w w' : World} {B : Nat} {v : Value} {L : List ByteArray} (h : OwnsS w B v L) (hb : Below w.heap.size w w') : OwnsS w' B v L := own_below h hb
theorem OwnsS.shape {w : World} {B : Nat} {v : Value} {L : List ByteArray} (h : OwnsS w B v L) : ∃ A c, v = .slice A L.length c ∧ ∀ j, j < L.length → ∃ g, A = some ⟨g, 0, none⟩ ∧ w.cell? ⟨g, j, none⟩ = some (.string (L[j]?.getD ⟨#[]⟩)) ∧ w.frozen? ⟨g, j, none⟩ = false := by
  rcases h.2 with ⟨rfl, h0⟩ | ⟨g, cap, cur, rfl, _⟩
  · exact ⟨none, 0, by rw [h0], fun j hj => absurd hj (by omega)⟩
  · refine ⟨some ⟨g, 0, none⟩, cap, rfl, fun j hj => ⟨g, rfl, ?_, h.frozenAt j⟩⟩
    rw [h.cellAt j (by omega)]
    simp [List.getElem?_eq_getElem hj]

set_option maxHeartbeats 400000 in
theorem eqS_any (B1 B2 : Nat) (a b : Value) (L : List ByteArray) (w : World) (ha : OwnsS w B1 a L) (hb : OwnsS w B2 b L) (hl : L.length ≤ 1000000) :
    Calls Try.prog 17 #[a, b] w fun e w' => e = .returned (.bool true) ∧ Below w.heap.size w w' := by
  obtain ⟨A, c, rfl, hA⟩ := ha.shape
  obtain ⟨A', c', rfl, hA'⟩ := hb.shape
  clear ha hb
  have HA := Lib.hid hA
  have HA' := Lib.hid hA'
  clear hA hA'
  go_enter Try.func17, Try.ntmps17
  go_wp2
  go_loopw [5] (fun i wr => ∃ k : Nat, k ≤ L.length ∧ i = .int .i64 k ∧ Below w.heap.size w wr) (fun i _ => L.length - (intOf i).toNat)
  case atStart => exact ⟨0, Nat.zero_le _, rfl, Below.refl _ _⟩
  case round =>
    obtain ⟨k, hk, rfl, hbel⟩ := hrel
    by_cases hlt : k < L.length
    · obtain ⟨g, rfl, h1, _⟩ := HA.out k hlt
      obtain ⟨g', rfl, h2, _⟩ := HA'.out k hlt
      have c1 := (hbel.cell (p := ⟨g, k, none⟩) (World.block_lt_of_cell? w _ h1)).trans h1
      have c2 := (hbel.cell (p := ⟨g', k, none⟩) (World.block_lt_of_cell? w _ h2)).trans h2
      have HB := Lib.hid hbel
      clear h1 h2 HA HA' hbel
      go_wp2
      go_quiet (fail)
      go_wp2
      go_roundw
      case rel => exact ⟨k + 1, by omega, by go_num, HB.out.trans ⟨rfl, rfl, rfl, Nat.le_refl _, fun _ _ => rfl⟩⟩
      case measure => simp [intOf]; omega
    · have HB := Lib.hid hbel
      clear hbel
      go_wp2
      go_ret
      exact ⟨rfl, HB.out⟩

/-- The marks of k, k + 1, .. : n of them. -/
def marks (k n : Nat) : List ByteArray := (List.range n).map fun i => mkT (k + i)
theorem marks_len (k n : Nat) : (marks k n).length = n := by simp [marks]
theorem marks_at (k n j : Nat) (h : j < n) : (marks k n)[j]?.getD ⟨#[]⟩ = mkT (k + j) := by simp [marks, h]

set_option maxHeartbeats 400000 in
theorem markS_any (B : Nat) (a : Value) (L : List ByteArray) (w : World) (ha : OwnsS w B a L) (hl : L.length ≤ 1000000) (k0 : Nat) (hk1 : 1 ≤ k0) (hk2 : k0 ≤ 1000000) :
    Calls Try.prog 18 #[a, .int .i64 k0] w fun e w' => e = .returned (.int .i64 ((k0 + L.length : Nat) : Int)) ∧ OwnsS w' B a (marks k0 L.length) ∧ w.grownBy w' a.ownBlock := by
  obtain ⟨A, c, rfl, hA⟩ := ha.shape
  clear hA
  have HA := Lib.hid ha
  clear ha
  go_enter Try.func18, Try.ntmps18
  go_wp2
  go_loopw [1, 5] (fun q i wr => ∃ k : Nat, k ≤ L.length ∧ i = .int .i64 k ∧ q = .int .i64 ((k0 + k : Nat) : Int) ∧ OwnsS wr B (.slice A L.length c) (marks k0 k ++ L.drop k) ∧ w.grownBy wr (Value.slice A L.length c).ownBlock) (fun _ i _ => L.length - (intOf i).toNat)
  case atStart => exact ⟨0, Nat.zero_le _, rfl, rfl, by simpa [marks] using HA.out, World.grownBy.refl _ _⟩
  case round =>
    obtain ⟨k, hk, rfl, rfl, hown, hgrow⟩ := hrel
    have hll : (marks k0 k ++ L.drop k).length = L.length := by rw [List.length_append, marks_len, List.length_drop]; omega
    have HO := Lib.hid hown
    have HG := Lib.hid hgrow
    have HL := Lib.hid hll
    clear hown hgrow hll HA
    by_cases hlt : k < L.length
    · go_wp2_with fail
      refine (markText_any (k0 + k) _ (by omega) (by omega)).mono ?_
      rintro e w1 ⟨rfl, hb⟩
      have ho1 := HO.out.below hb
      obtain ⟨A2, c2, hv, hA2⟩ := ho1.shape
      rw [HL.out] at hA2 hv
      injection hv with hv1 hv2 hv3
      subst hv1 hv3
      obtain ⟨g, rfl, c1, f1⟩ := hA2 k hlt
      have hown2 : w1.ownsRow B 9 1 (.slice (some ⟨g, 0, none⟩) L.length c) L.length ((marks k0 k ++ L.drop k).map Value.string) := by have := ho1; unfold OwnsS at this; rw [HL.out] at this; exact this
      have hst := hown2.stored k (.string (mkT (k0 + k)))
      have el : ((marks k0 k ++ L.drop k).map Value.string).set k (.string (mkT (k0 + k))) = (marks k0 (k + 1) ++ L.drop (k + 1)).map Value.string := by
        rw [← List.map_set]
        congr 1
        rw [List.set_append_right _ _ (by rw [marks_len]; omega), marks_len, Nat.sub_self, List.drop_eq_getElem_cons hlt, List.set_cons_zero]
        simp [marks, List.range_succ]
      have ho3 : OwnsS (w1.setCell ⟨g, k, none⟩ (.string (mkT (k0 + k)))) B (.slice (some ⟨g, 0, none⟩) L.length c) (marks k0 (k + 1) ++ L.drop (k + 1)) := by
        have hl3 : (marks k0 (k + 1) ++ L.drop (k + 1)).length = L.length := by rw [List.length_append, marks_len, List.length_drop]; omega
        unfold OwnsS
        rw [hl3, ← el]
        exact hst.1
      have hg3 : w.grownBy (w1.setCell ⟨g, k, none⟩ (.string (mkT (k0 + k)))) (Value.slice (some ⟨g, 0, none⟩) L.length c).ownBlock :=
        ⟨hb.os.trans HG.out.os, hb.tape.trans HG.out.tape, hb.output.trans HG.out.output, Nat.le_trans HG.out.size (Nat.le_trans hb.size hst.2.size), fun j hj hne =>
          ((hst.2.block j (Nat.lt_of_lt_of_le hj (Nat.le_trans HG.out.size hb.size)) hne).trans (hb.block j (Nat.lt_of_lt_of_le hj HG.out.size))).trans (HG.out.block j hj hne)⟩
      have R := Lib.hid (And.intro ho3 hg3)
      clear ho1 hA2 hown2 hst el ho3 hg3 hb HO HG
      go_wp2
      go_roundw
      case rel => exact ⟨k + 1, by omega, by go_num, by go_num, R.out.1, R.out.2⟩
      case measure => simp [intOf]; omega
    · obtain rfl : k = L.length := by omega
      go_wp2
      go_ret
      exact ⟨rfl, by have := HO.out; rwa [List.drop_length, List.append_nil] at this, HG.out⟩

set_option maxHeartbeats 400000 in
theorem heldS_any (B : Nat) (a : Value) (n : Nat) (w : World) (k0 : Nat) (ha : OwnsS w B a (marks k0 n)) (hl : n ≤ 1000000) (hk1 : 1 ≤ k0) (hk2 : k0 ≤ 1000000) :
    Calls Try.prog 19 #[a, .int .i64 k0] w fun e w' => e = .returned (.int .i64 ((k0 + n : Nat) : Int)) ∧ Below w.heap.size w w' := by
  obtain ⟨A, c, rfl, hA⟩ := ha.shape
  rw [marks_len] at hA ⊢
  have HA := Lib.hid hA
  clear hA ha
  go_enter Try.func19, Try.ntmps19
  go_wp2
  go_loopw [1, 5] (fun q i wr => ∃ k : Nat, k ≤ n ∧ i = .int .i64 k ∧ q = .int .i64 ((k0 + k : Nat) : Int) ∧ Below w.heap.size w wr) (fun _ i _ => n - (intOf i).toNat)
  case atStart => exact ⟨0, Nat.zero_le _, rfl, rfl, Below.refl _ _⟩
  case round =>
    obtain ⟨k, hk, rfl, rfl, hbel⟩ := hrel
    by_cases hlt : k < n
    · obtain ⟨g, rfl, h1, _⟩ := HA.out k hlt
      rw [marks_at k0 n k hlt] at h1
      have c1 := (hbel.cell (p := ⟨g, k, none⟩) (World.block_lt_of_cell? w _ h1)).trans h1
      have HB := Lib.hid hbel
      have hsz := hbel.size
      clear h1 HA hbel
      have hlt' := World.block_lt_of_cell? wr _ c1
      go_wp2
      go_region_law (go_simp; go_at_call 29; refine (markText_any (k0 + k) _ (by omega) (by omega)).mono ?_; rintro e w1 ⟨rfl, hb⟩; have c2 := (hb.cell (p := ⟨g, k, none⟩) hlt').trans c1)
      all_goals
        have HB2 : Below w.heap.size w w1 := HB.out.trans (Below.mono (w := wr) ⟨hb.os, hb.tape, hb.output, hb.size, hb.block⟩ hsz)
        clear hb
        go_wp2
        go_roundw
        case rel => exact ⟨k + 1, by omega, by go_num, by go_num, HB2⟩
        case measure => simp [intOf]; omega
    · have HB := Lib.hid hbel
      obtain rfl : k = n := by omega
      clear hbel
      go_wp2
      go_ret
      exact ⟨rfl, HB.out⟩
end Go.Proofs.Ytgihjgjjakjccaa
