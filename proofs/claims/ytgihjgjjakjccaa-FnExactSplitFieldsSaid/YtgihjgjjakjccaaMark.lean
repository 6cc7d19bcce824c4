/-
  The contract of markText: the text 'm' and the decimal digits.
-/
import Derived.Test.YtgihjgjjakjccaaRows
import Derived.Test.YtgihjgjjakjccaaFmtMath
import Derived.WalkKit
import Derived.WalkSpells
import Derived.WalkLawsBesides
namespace Go.Proofs.Ytgihjgjjakjccaa
open Go.RowKit

/-- The mark of k. -/
def mkT (k : Nat) : ByteArray := ⟨(109 :: dgs k).toArray⟩
theorem digB_byte (q : Nat) (h : q < 10) : ((digB q).toNat : Int) = 48 + (q : Int) := digB_low q h

theorem one_string' (W : World) (b : UInt8) : (convert 22 9 (.slice (some ⟨W.heap.size, 0, none⟩) 1 1)).run Try.prog (W.alloc (.cells #[.int .u8 (b.toNat : Int)] 5)) =
    .ok (.string ⟨#[b]⟩) (W.alloc (.cells #[.int .u8 (b.toNat : Int)] 5)) :=
  run_convert_bytes_back (P := Try.prog) (W.alloc (.cells #[.int .u8 (b.toNat : Int)] 5)) 22 9 5 ⟨W.heap.size, 0, none⟩ 1 [b] Try.underlying22 Try.underlying5 Try.underlying9 (fun j hj => by
    obtain rfl : j = 0 := by simpa using hj
    rw [show (⟨W.heap.size, 0, none⟩ : Addr).add 0 = ⟨W.heap.size, 0, none⟩ from rfl, World.cell?_alloc_at _ _ _ _ rfl]
    rfl)
theorem one_string_int (W : World) (q : Nat) (h : q < 10) : (convert 22 9 (.slice (some ⟨W.heap.size, 0, none⟩) 1 1)).run Try.prog (W.alloc (.cells #[.int .u8 (48 + (q : Int))] 5)) =
    .ok (.string ⟨#[digB q]⟩) (W.alloc (.cells #[.int .u8 (48 + (q : Int))] 5)) := by
  rw [← digB_byte q h]; exact one_string' W _

set_option maxHeartbeats 400000 in
theorem markText_any (k : Nat) (w : World) (h1 : 1 ≤ k) (h2 : k ≤ 1000000000000) :
    Calls Try.prog 29 #[.int .i64 k] w fun e w' => e = .returned (.string (mkT k)) ∧ Below w.heap.size w w' := by
  have hl := dgs_len (k : Int) (by omega) (by omega)
  rw [Int.natAbs_natCast] at hl
  go_enter Try.func29, Try.ntmps29
  go_wp2
  go_loopw [0, 3] (fun v t wr => ∃ (m : Nat) (s : ByteArray), v = .int .i64 m ∧ t = .string s ∧ m ≤ k ∧ dgs k = dgs m ++ s.data.toList ∧ Below w.heap.size w wr)
    (fun v _ _ => (intOf v).natAbs)
  case atStart => exact ⟨k, ⟨#[]⟩, rfl, rfl, Nat.le_refl _, by simp, Below.refl _ _⟩
  case round =>
    obtain ⟨m, s, rfl, rfl, hp, hd, hb⟩ := hrel
    have hsz := hb.size
    have hs : s.size ≤ 21 := by have := congrArg List.length hd; rw [List.length_append] at this; simp at this; omega
    have HD := Lib.hid hd
    have HB := Lib.hid hb
    clear hd hb
    by_cases hm : m = 0
    · subst hm
      go_wp2
      go_ret
      exact ⟨congrArg (fun b => Ending.returned (.string b)) (bytes_eq (by unfold mkT; rw [HD.out]; simp [dgs_zero])), HB.out⟩
    · have hm1 : (0 : Int) < m := by omega
      have hr := dgs_round HD.out hm
      obtain ⟨q, hq9, eq⟩ : ∃ q : Nat, q < 10 ∧ m % 10 = q := ⟨_, by omega, rfl⟩
      obtain ⟨r, hr1, hr2, er⟩ : ∃ r : Nat, r < m ∧ r ≤ k ∧ m / 10 = r := ⟨_, by omega, by omega, rfl⟩
      rw [eq, er] at hr
      have HR := Lib.hid hr
      have e1 : (m : Int) % 10 = q := by omega
      have e2 : (m : Int) / 10 = r := by omega
      have hcv := fun W => one_string_int W q hq9
      clear hr eq er hm
      go_wp2
      go_roundw
      case rel => exact ⟨r, _, rfl, rfl, hr2, by have := HR.out; simpa using this, HB.out.alloc hsz _⟩
      case measure => simp [intOf]; omega
end Go.Proofs.Ytgihjgjjakjccaa
