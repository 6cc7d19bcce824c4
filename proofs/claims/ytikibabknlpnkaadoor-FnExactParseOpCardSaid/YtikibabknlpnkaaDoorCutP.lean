/-
  strings.CutPrefix at the prefix "s"; strings.Cut at "."; strings.Index in the signs of the operators.
-/
import Derived.Test.YtikibabknlpnkaaDoorParMath
namespace Go.Proofs.YtikibabknlpnkaaDoor
open Go.RowKit
set_option linter.unusedVariables false
set_option linter.unusedSimpArgs false

/-- The cell of internal/bytealg.MaxLen holds some int. -/
def MaxL (W : World) : Prop := ∃ m, W.cell? ⟨0, 0, none⟩ = some (.int .i64 m)
theorem MaxL.keep {W W' : World} (h : MaxL W) (hb : Below W.heap.size W W') : MaxL W' := h.imp fun _ h => Go.Proofs.YtikibabknlpnkaaDoor.keep hb h
theorem MaxL.drew {W : World} (h : MaxL W) (n : Nat) : MaxL (W.drewN n) := h.keep (bDrewN (Below.refl _ _) n)
theorem maxL_of {W : World} (h : W.ShapedOpen Tryd.prog) : MaxL W := Tryd.laysM219.s1_3 W h

theorem cutPre_hit (s : ByteArray) (t : List UInt8) (w : World) (h : s.data.toList = 115 :: t) :
    Calls Tryd.prog 38 #[.string s, .string ⟨#[115]⟩] w fun e w' => e = .returned (.tuple #[.string (tx t), .bool true]) ∧ Below w.heap.size w w' := by
  have hv : Lib.hasPrefix s.data.toList (ByteArray.mk #[115]).data.toList = true := by rw [h]; rfl
  have hs : 1 ≤ s.size := by have := congrArg List.length h; simp at this; omega
  go_enter Tryd.func38, Tryd.ntmps38
  go_wp2_with fail
  refine (Tryd.stringslite_HasPrefix s ⟨#[115]⟩ _).mono ?_
  rw [hv]
  rintro e w1 ⟨rfl, rfl⟩
  go_wp2
  go_ret2
  exact ⟨ret_sb (bytes_eq (by rw [tx_data]; simp [h]; exact List.take_of_length_le (by have := congrArg List.length h; simp at this; omega))), by (repeat' (first | assumption | exact Below.refl _ _ | refine bDrewN ?_ _ | refine Below.drew ?_ | refine bAlloc ?_ (Nat.le_refl _) _ | refine bSet ?_ (by first | exact Nat.le_refl _ | omega | (simp <;> omega)) _))⟩
theorem cutPre_miss (s : ByteArray) (w : World) (h : ∀ t, s.data.toList ≠ 115 :: t) :
    Calls Tryd.prog 38 #[.string s, .string ⟨#[115]⟩] w fun e w' => e = .returned (.tuple #[.string s, .bool false]) ∧ Below w.heap.size w w' := by
  have hv : Lib.hasPrefix s.data.toList (ByteArray.mk #[115]).data.toList = false := by
    unfold Lib.hasPrefix
    cases hl : s.data.toList with
    | nil => rfl
    | cons c r =>
      show (([115] : List UInt8).isPrefixOf (c :: r)) = false
      by_cases hc : c = 115
      · subst hc; exact absurd hl (h r)
      · simp [List.isPrefixOf, Ne.symm hc]
  go_enter Tryd.func38, Tryd.ntmps38
  go_wp2_with fail
  refine (Tryd.stringslite_HasPrefix s ⟨#[115]⟩ _).mono ?_
  rw [hv]
  rintro e w1 ⟨rfl, rfl⟩
  go_wp2
  go_ret2
  exact ⟨rfl, by (repeat' (first | assumption | exact Below.refl _ _ | refine bDrewN ?_ _ | refine Below.drew ?_ | refine bAlloc ?_ (Nat.le_refl _) _ | refine bSet ?_ (by first | exact Nat.le_refl _ | omega | (simp <;> omega)) _))⟩
theorem scut_hit (s : ByteArray) (t : List UInt8) (w : World) (h : s.data.toList = 115 :: t) :
    Calls Tryd.prog 33 #[.string s, .string ⟨#[115]⟩] w fun e w' => e = .returned (.tuple #[.string (tx t), .bool true]) ∧ Below w.heap.size w w' := by
  go_enter Tryd.func33, Tryd.ntmps33
  go_wp2_with fail
  refine (cutPre_hit s t _ h).mono ?_
  rintro e w1 ⟨rfl, hb⟩
  have HB := Lib.hid hb
  clear hb
  go_wp2
  go_ret2
  exact ⟨rfl, HB.out⟩
theorem scut_miss (s : ByteArray) (w : World) (h : ∀ t, s.data.toList ≠ 115 :: t) :
    Calls Tryd.prog 33 #[.string s, .string ⟨#[115]⟩] w fun e w' => e = .returned (.tuple #[.string s, .bool false]) ∧ Below w.heap.size w w' := by
  go_enter Tryd.func33, Tryd.ntmps33
  go_wp2_with fail
  refine (cutPre_miss s _ h).mono ?_
  rintro e w1 ⟨rfl, hb⟩
  have HB := Lib.hid hb
  clear hb
  go_wp2
  go_ret2
  exact ⟨rfl, HB.out⟩
theorem cut_any (s : ByteArray) {u v : ByteArray} {b : Bool} (w : World) (hs : s.size ≤ 1048576) (hm : MaxL w) (hc : Lib.cut s.data.toList [46] = (u.data.toList, v.data.toList, b)) :
    Calls Tryd.prog 34 #[.string s, .string ⟨#[46]⟩] w fun e w' => e = .returned (.tuple #[.string u, .string v, .bool b]) ∧ Below w.heap.size w w' := by
  obtain ⟨m, hm⟩ := hm
  refine (Tryd.strings_Cut s ⟨#[46]⟩ m w (by omega) hm).mono ?_
  rintro e w' ⟨rfl, n, rfl⟩
  have hc' : Lib.cut s.data.toList (ByteArray.mk #[46]).data.toList = (u.data.toList, v.data.toList, b) := hc
  rw [hc']
  exact ⟨rfl, bDrewN (Below.refl _ _) n⟩
theorem signs_any (s : ByteArray) {i : Int} (w : World) (hm : MaxL w) (hi : Lib.index signL s.data.toList = i) :
    Calls Tryd.prog 36 #[.string ⟨#[126, 38, 124, 94, 43, 45, 61, 60, 63]⟩, .string s] w fun e w' => e = .returned (.int .i64 i) ∧ Below w.heap.size w w' := by
  obtain ⟨m, hm⟩ := hm
  subst hi
  refine (Tryd.strings_Index ⟨#[126, 38, 124, 94, 43, 45, 61, 60, 63]⟩ s m w (by decide) hm).mono ?_
  rintro e w' ⟨rfl, rfl⟩
  exact ⟨rfl, Below.refl _ _⟩
end Go.Proofs.YtikibabknlpnkaaDoor
