/-
  The contract of spec.FormatInt: the decimal numeral.
-/
import Derived.Test.YtikibabknlpnkaaDoorRows
import Derived.Test.YtikibabknlpnkaaDoorFig
import Derived.Test.YtikibabknlpnkaaDoorFmtMath
import Derived.Test.YtikibabknlpnkaaDoorOneStr
import Derived.WalkKit
import Derived.WalkSpells
import Derived.WalkLawsBesides
namespace Go.Proofs.YtikibabknlpnkaaDoor
open Go.RowKit

set_option maxHeartbeats 800000 in
theorem specFmt_any (n : Int) (w : World) (h0 : -9223372036854775808 ≤ n) (h1 : n ≤ 9223372036854775807) :
    Calls Tryd.prog 19 #[.int .i64 n] w fun e w' => e = .returned (.string ⟨(Lib.itoa n).toArray⟩) ∧ Below w.heap.size w w' := by
  by_cases hn : n = 0
  · subst hn
    go_enter Tryd.func19, Tryd.ntmps19
    go_wp2
    go_ret
    exact ⟨by rw [itoa_zero]; rfl, Below.refl _ _⟩
  · have hl := dgs_len n h0 h1
    have hn0 : (n == 0) = false := by simp [hn]
    go_enter Tryd.func19, Tryd.ntmps19
    go_wp2
    go_loopw [0, 4] (fun v t wr => ∃ (m : Int) (s : ByteArray), v = .int .i64 m ∧ t = .string s ∧ (0 ≤ n → 0 ≤ m ∧ m ≤ n) ∧ (n < 0 → m ≤ 0 ∧ n ≤ m) ∧ dgs n.natAbs = dgs m.natAbs ++ s.data.toList ∧ Below w.heap.size w wr)
      (fun v _ _ => (intOf v).natAbs)
    case atStart => exact ⟨n, ⟨#[]⟩, rfl, rfl, fun _ => by omega, fun _ => by omega, by simp, Below.refl _ _⟩
    case round =>
      obtain ⟨m, s, rfl, rfl, hp, hq, hd, hb⟩ := hrel
      have hsz := hb.size
      have hs : s.size ≤ 21 := by have := congrArg List.length hd; rw [List.length_append] at this; simp at this; omega
      have HD := Lib.hid hd
      clear hd
      by_cases hm : m = 0
      · subst hm
        have HB := Lib.hid hb
        clear hb
        by_cases hneg : n < 0
        · go_wp2
          go_ret
          exact ⟨congrArg (fun b => Ending.returned (.string b)) (bytes_eq (by rw [itoa_dgs_neg n hneg, HD.out]; simp [dgs_zero])), HB.out⟩
        · go_wp2
          go_ret
          exact ⟨congrArg (fun b => Ending.returned (.string b)) (bytes_eq (by rw [itoa_dgs_pos n (by omega), HD.out]; simp [dgs_zero])), HB.out⟩
      · have hr := dgs_round HD.out (by omega : m.natAbs ≠ 0)
        have hlt : m.natAbs / 10 < m.natAbs := by omega
        have hcv := one_string
        obtain ⟨q, hq0, hq9, eq⟩ : ∃ q : Nat, 0 ≤ (q : Int) ∧ (q : Int) < 10 ∧ m.natAbs % 10 = q := ⟨_, by omega, by omega, rfl⟩
        obtain ⟨r, hr1, er⟩ : ∃ r : Nat, (r : Int) < m.natAbs ∧ m.natAbs / 10 = r := ⟨_, by omega, rfl⟩
        rw [eq, er] at hr
        have HR := Lib.hid hr
        have hx := tmod_cases m
        rw [eq, er] at hx
        clear hr eq er
        have HB := Lib.hid hb
        clear hb
        by_cases hneg : m < 0
        · obtain ⟨e1, e2⟩ := hx.2 hneg
          clear hx
          by_cases hq : q = 0
          · subst hq
            go_wp2_with fail
            refine (figure_any _ (by omega) (by omega) _).mono ?_
            rintro e w' ⟨rfl, rfl⟩
            go_wp2
            go_roundw
            case rel => exact ⟨_, _, rfl, rfl, fun _ => by omega, fun _ => by omega, by have := HR.out; simpa using this, HB.out.alloc hsz _⟩
            case measure => simp [intOf]; omega
          · go_wp2_with fail
            refine (figure_any _ (by omega) (by omega) _).mono ?_
            rintro e w' ⟨rfl, rfl⟩
            go_wp2
            go_roundw
            case rel => exact ⟨_, _, rfl, rfl, fun _ => by omega, fun _ => by omega, by have := HR.out; simpa using this, HB.out.alloc hsz _⟩
            case measure => simp [intOf]; omega
        · obtain ⟨e1, e2⟩ := hx.1 (by omega)
          have e3 : m % 10 = q := by rw [← e1, Int.tmod_eq_emod_of_nonneg (by omega)]
          have e4 : m / 10 = r := by rw [← e2, Int.tdiv_eq_ediv_of_nonneg (by omega)]
          clear hx
          go_wp2_with fail
          refine (figure_any _ (by omega) (by omega) _).mono ?_
          rintro e w' ⟨rfl, rfl⟩
          go_wp2
          go_roundw
          case rel => exact ⟨_, _, rfl, rfl, fun _ => by omega, fun _ => by omega, by have := HR.out; simpa using this, HB.out.alloc hsz _⟩
          case measure => simp [intOf]; omega
end Go.Proofs.YtikibabknlpnkaaDoor
