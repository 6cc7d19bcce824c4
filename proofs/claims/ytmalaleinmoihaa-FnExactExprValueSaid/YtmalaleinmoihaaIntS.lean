/-
  Slices of ints that the call itself owns; the contracts of eqIntS, markIntS and heldIntS.
-/
import Derived.Test.YtmalaleinmoihaaQui
import Derived.Deep.RegionLaw
import Derived.Deep.AppendLies
namespace Go.Proofs.Ytmalaleinmoihaa
open Go.RowKit
set_option linter.unusedSimpArgs false

theorem ownI_below {w w' : World} {B e size n : Nat} {v : Value} {xs : List Value} (h : w.ownsRow B e size v n xs) (hb : Below w.heap.size w w') : w'.ownsRow B e size v n xs :=
  h.kept (row := none) ⟨hb.os, hb.tape, hb.output, hb.size, fun k hk _ => hb.block k hk⟩ (by cases v.ownBlock <;> simp)
/-- An int. -/
def vI (x : Int) : Value := .int .i64 x
/-- The slice value v owns the ints L. -/
def OwnsI (w : World) (B : Nat) (v : Value) (L : List Int) : Prop := w.ownsRow B 3 1 v L.length (L.map vI)
theorem OwnsI.below {w w' : World} {B : Nat} {v : Value} {L : List Int} (h : OwnsI w B v L) (hb : Below w.heap.size w w') : OwnsI w' B v L := ownI_below h hb
theorem OwnsI.shape {w : World} {B : Nat} {v : Value} {L : List Int} (h : OwnsI w B v L) : ∃ A c, v = .slice A L.length c ∧ ∀ j, j < L.length → ∃ g, A = some ⟨g, 0, none⟩ ∧ w.cell? ⟨g, j, none⟩ = some (.int .i64 (L.getD j 0)) ∧ w.frozen? ⟨g, j, none⟩ = false := by
  rcases h.2 with ⟨rfl, h0⟩ | ⟨g, cap, cur, rfl, _⟩
  · exact ⟨none, 0, by rw [h0], fun j hj => absurd hj (by omega)⟩
  · refine ⟨some ⟨g, 0, none⟩, cap, rfl, fun j hj => ⟨g, rfl, ?_, h.frozenAt j⟩⟩
    rw [h.cellAt j (by omega)]
    simp [List.getElem?_eq_getElem hj, vI]
theorem own_nilI (w : World) (B : Nat) : OwnsI w B (.slice none 0 0) [] := World.ownsRow_nil _ _ _ _
theorem own_newI (w : World) (B : Nat) (hB : B ≤ w.heap.size) : OwnsI (w.alloc (.cells #[] 3)) B (.slice (some ⟨w.heap.size, 0, none⟩) 0 0) [] := World.ownsRow_lit w #[] 0 hB (by unfold maxLen; omega) rfl
/-- Behind an append of one int. -/
theorem own_addI {B : Nat} {w wr a w1 : World} {v v' : Value} {L : List Int} {x : Int} (hown : OwnsI wr B v L) (hsz : B ≤ wr.heap.size) (hbel : Below B w wr) (ha : Below wr.heap.size wr a) (hgrow : a.grownBy w1 v.ownBlock)
    (hown' : w1.ownsRow B 3 1 v' (L.length + 1) (L.map vI ++ [.int .i64 x])) : OwnsI w1 B v' (L ++ [x]) ∧ Below B w w1 := by
  refine ⟨?_, (hbel.trans (ha.mono hsz)).grown hgrow (Nat.le_trans hsz ha.size) (fun j hj => (hown.lt j hj).1)⟩
  unfold OwnsI
  rw [List.length_append, List.map_append]
  exact hown'

set_option maxHeartbeats 400000 in
theorem eqI_any (B1 B2 : Nat) (a b : Value) (L : List Int) (w : World) (ha : OwnsI w B1 a L) (hb : OwnsI w B2 b L) (hl : L.length ≤ 1000000) :
    Calls Try.prog 10 #[a, b] w fun e w' => e = .returned (.bool true) ∧ Below w.heap.size w w' := by
  obtain ⟨A, c, rfl, hA⟩ := ha.shape
  obtain ⟨A', c', rfl, hA'⟩ := hb.shape
  clear ha hb
  have HA := Lib.hid hA
  have HA' := Lib.hid hA'
  clear hA hA'
  go_enter Try.func10, Try.ntmps10
  go_wp2
  go_loopw [5] (fun i wr => ∃ k : Nat, k ≤ L.length ∧ i = .int .i64 k ∧ Below w.heap.size w wr) (fun i _ => L.length - (intOf i).toNat)
  case atStart => exact ⟨0, Nat.zero_le _, rfl, Below.refl _ _⟩
  case round =>
    obtain ⟨k, hk, rfl, hbel⟩ := hrel
    by_cases hlt : k < L.length
    · obtain ⟨g, rfl, h1, _⟩ := HA.out k hlt
      obtain ⟨g', rfl, h2, _⟩ := HA'.out k hlt
      have c1 := (hbel.cell (p := ⟨g, k, none⟩) (World.block_lt_of_cell? w _ h1)).trans h1
      have c2 := (hbel.cell (p := ⟨g', k, none⟩) (World.block_lt_of_cell? w _ h2)).trans h2
      have HB := Lib.hid hbel
      generalize L.getD k 0 = x at c1 c2
      clear h1 h2 HA HA' hbel
      go_wp2
      go_quiet (fail)
      go_wp2
      go_roundw
      case rel => exact ⟨k + 1, by omega, by go_num, HB.out.trans ⟨rfl, rfl, rfl, Nat.le_refl _, fun _ _ => rfl⟩⟩
      case measure => simp [intOf]; omega
    · have HB := Lib.hid hbel
      clear hbel
      go_wp2
      go_ret
      exact ⟨rfl, HB.out⟩

/-- The marks k, k + 1, .. : n of them. -/
def marksI (k n : Nat) : List Int := (List.range n).map fun i => ((k + i : Nat) : Int)
theorem marksI_len (k n : Nat) : (marksI k n).length = n := by simp [marksI]
theorem marksI_at (k n j : Nat) (h : j < n) : (marksI k n).getD j 0 = ((k + j : Nat) : Int) := by simp [marksI, h]

end Go.Proofs.Ytmalaleinmoihaa
