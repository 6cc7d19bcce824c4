/-
  Mark, StrS as one text.
-/
import Derived.Test.YtdfcbccpdflbfaaGreatDoorRows
import Derived.Test.YtdfcbccpdflbfaaGreatDoorFmtAll
import Derived.WalkKit
import Derived.WalkSpells
import Derived.WalkLawsBesides
import Derived.Test.YtdfcbccpdflbfaaGreatDoorOwnS
import Derived.Deep.QuietTactic
import Derived.BigQuiet
import Derived.Deep.RegionLaw
/- Mark: The contract of markText: the text 'm' and the decimal digits. -/
namespace Go.Proofs.YtdfcbccpdflbfaaGreatDoor
open Go.RowKit

/-- The mark of k. -/
def mkT (k : Nat) : ByteArray := ⟨(109 :: dgs k).toArray⟩
theorem digB_byte (q : Nat) (h : q < 10) : ((digB q).toNat : Int) = 48 + (q : Int) := digB_low q h

theorem one_string_int (W : World) (q : Nat) (h : q < 10) : (convert 69 9 (.slice (some ⟨W.heap.size, 0, none⟩) 1 1)).run Tryz.prog (W.alloc (.cells #[.int .u8 (48 + (q : Int))] 5)) =
    .ok (.string ⟨#[digB q]⟩) (W.alloc (.cells #[.int .u8 (48 + (q : Int))] 5)) := by
  rw [← digB_byte q h]; exact one_string W _

set_option maxHeartbeats 400000 in
theorem markText_any (k : Nat) (w : World) (h1 : 1 ≤ k) (h2 : k ≤ 1000000000000) :
    Calls Tryz.prog 26 #[.int .i64 k] w fun e w' => e = .returned (.string (mkT k)) ∧ Below w.heap.size w w' := by
  have hl := dgs_len (k : Int) (by omega) (by omega)
  rw [Int.natAbs_natCast] at hl
  go_enter Tryz.func26, Tryz.ntmps26
  go_wp2
  go_loopw [0, 3] (fun v t wr => ∃ (m : Nat) (s : ByteArray), v = .int .i64 m ∧ t = .string s ∧ m ≤ k ∧ dgs k = dgs m ++ s.data.toList ∧ Below w.heap.size w wr)
    (fun v _ _ => (intOf v).natAbs)
  case atStart => exact ⟨k, ⟨#[]⟩, rfl, rfl, Nat.le_refl _, by simp, Below.refl _ _⟩
  case round =>
    obtain ⟨m, s, rfl, rfl, hp, hd, hb⟩ := hrel
    have hsz := hb.size
    have hs : s.size ≤ 21 := by have := congrArg List.length hd; rw [List.length_append] at this; simp at this; omega
    have HD := Lib.hid hd
    have HB := Lib.hid hb
    clear hd hb
    by_cases hm : m = 0
    · subst hm
      go_wp2
      go_ret
      exact ⟨congrArg (fun b => Ending.returned (.string b)) (bytes_eq (by unfold mkT; rw [HD.out]; simp [dgs_zero])), HB.out⟩
    · have hm1 : (0 : Int) < m := by omega
      have hr := dgs_round HD.out hm
      obtain ⟨q, hq9, eq⟩ : ∃ q : Nat, q < 10 ∧ m % 10 = q := ⟨_, by omega, rfl⟩
      obtain ⟨r, hr1, hr2, er⟩ : ∃ r : Nat, r < m ∧ r ≤ k ∧ m / 10 = r := ⟨_, by omega, by omega, rfl⟩
      rw [eq, er] at hr
      have HR := Lib.hid hr
      have e1 : (m : Int) % 10 = q := by omega
      have e2 : (m : Int) / 10 = r := by omega
      have hcv := fun W => one_string_int W q hq9
      clear hr eq er hm
      go_wp2
      go_roundw
      case rel => exact ⟨r, _, rfl, rfl, hr2, by have := HR.out; simpa using this, HB.out.alloc hsz _⟩
      case measure => simp [intOf]; omega
end Go.Proofs.YtdfcbccpdflbfaaGreatDoor
/- StrS: The contracts of eqStringS, markStringS and heldStringS over slices that the call itself owns. -/
namespace Go.Proofs.YtdfcbccpdflbfaaGreatDoor
open Go.RowKit

set_option maxHeartbeats 400000 in
theorem eqS_any (B1 B2 : Nat) (a b : Value) (L : List ByteArray) (w : World) (ha : OwnsS w B1 a L) (hb : OwnsS w B2 b L) (hl : L.length ≤ 1000000) :
    Calls Tryz.prog 9 #[a, b] w fun e w' => e = .returned (.bool true) ∧ Below w.heap.size w w' := by
  obtain ⟨A, c, rfl, hA⟩ := ha.shape
  obtain ⟨A', c', rfl, hA'⟩ := hb.shape
  clear ha hb
  have HA := Lib.hid hA
  have HA' := Lib.hid hA'
  clear hA hA'
  go_enter Tryz.func9, Tryz.ntmps9
  go_wp2
  go_loopw [5] (fun i wr => ∃ k : Nat, k ≤ L.length ∧ i = .int .i64 k ∧ Below w.heap.size w wr) (fun i _ => L.length - (intOf i).toNat)
  case atStart => exact ⟨0, Nat.zero_le _, rfl, Below.refl _ _⟩
  case round =>
    obtain ⟨k, hk, rfl, hbel⟩ := hrel
    by_cases hlt : k < L.length
    · obtain ⟨g, rfl, h1, _⟩ := HA.out k hlt
      obtain ⟨g', rfl, h2, _⟩ := HA'.out k hlt
      have c1 := (hbel.cell (p := ⟨g, k, none⟩) (World.block_lt_of_cell? w _ h1)).trans h1
      have c2 := (hbel.cell (p := ⟨g', k, none⟩) (World.block_lt_of_cell? w _ h2)).trans h2
      have HB := Lib.hid hbel
      clear h1 h2 HA HA' hbel
      go_wp2
      go_quiet (fail)
      go_wp2
      go_roundw
      case rel => exact ⟨k + 1, by omega, by go_num, HB.out.trans ⟨rfl, rfl, rfl, Nat.le_refl _, fun _ _ => rfl⟩⟩
      case measure => simp [intOf]; omega
    · have HB := Lib.hid hbel
      clear hbel
      go_wp2
      go_ret
      exact ⟨rfl, HB.out⟩

/-- The marks of k, k + 1, .. : n of them. -/
def marks (k n : Nat) : List ByteArray := (List.range n).map fun i => mkT (k + i)
theorem marks_len (k n : Nat) : (marks k n).length = n := by simp [marks]
theorem marks_at (k n j : Nat) (h : j < n) : (marks k n)[j]?.getD ⟨#[]⟩ = mkT (k + j) := by simp [marks, h]

set_option maxHeartbeats 400000 in
theorem markS_any (B : Nat) (a : Value) (L : List ByteArray) (w : World) (ha : OwnsS w B a L) (hl : L.length ≤ 1000000) (k0 : Nat) (hk1 : 1 ≤ k0) (hk2 : k0 ≤ 1000000) :
    Calls Tryz.prog 12 #[a, .int .i64 k0] w fun e w' => e = .returned (.int .i64 ((k0 + L.length : Nat) : Int)) ∧ OwnsS w' B a (marks k0 L.length) ∧ w.grownBy w' a.ownBlock := by
  obtain ⟨A, c, rfl, hA⟩ := ha.shape
  clear hA
  have HA := Lib.hid ha
  clear ha
  go_enter Tryz.func12, Tryz.ntmps12
  go_wp2
  go_loopw [1, 5] (fun q i wr => ∃ k : Nat, k ≤ L.length ∧ i = .int .i64 k ∧ q = .int .i64 ((k0 + k : Nat) : Int) ∧ OwnsS wr B (.slice A L.length c) (marks k0 k ++ L.drop k) ∧ w.grownBy wr (Value.slice A L.length c).ownBlock) (fun _ i _ => L.length - (intOf i).toNat)
  case atStart => exact ⟨0, Nat.zero_le _, rfl, rfl, by simpa [marks] using HA.out, World.grownBy.refl _ _⟩
  case round =>
    obtain ⟨k, hk, rfl, rfl, hown, hgrow⟩ := hrel
    have hll : (marks k0 k ++ L.drop k).length = L.length := by rw [List.length_append, marks_len, List.length_drop]; omega
    have HO := Lib.hid hown
    have HG := Lib.hid hgrow
    have HL := Lib.hid hll
    clear hown hgrow hll HA
    by_cases hlt : k < L.length
    · go_wp2_with fail
      refine (markText_any (k0 + k) _ (by omega) (by omega)).mono ?_
      rintro e w1 ⟨rfl, hb⟩
      have ho1 := HO.out.below hb
      obtain ⟨A2, c2, hv, hA2⟩ := ho1.shape
      rw [HL.out] at hA2 hv
      injection hv with hv1 hv2 hv3
      subst hv1 hv3
      obtain ⟨g, rfl, c1, f1⟩ := hA2 k hlt
      have hown2 : w1.ownsRow B 9 1 (.slice (some ⟨g, 0, none⟩) L.length c) L.length ((marks k0 k ++ L.drop k).map Value.string) := by have := ho1; unfold OwnsS at this; rw [HL.out] at this; exact this
      have hst := hown2.stored k (.string (mkT (k0 + k)))
      have el : ((marks k0 k ++ L.drop k).map Value.string).set k (.string (mkT (k0 + k))) = (marks k0 (k + 1) ++ L.drop (k + 1)).map Value.string := by
        rw [← List.map_set]
        congr 1
        rw [List.set_append_right _ _ (by rw [marks_len]; omega), marks_len, Nat.sub_self, List.drop_eq_getElem_cons hlt, List.set_cons_zero]
        simp [marks, List.range_succ]
      have ho3 : OwnsS (w1.setCell ⟨g, k, none⟩ (.string (mkT (k0 + k)))) B (.slice (some ⟨g, 0, none⟩) L.length c) (marks k0 (k + 1) ++ L.drop (k + 1)) := by
        have hl3 : (marks k0 (k + 1) ++ L.drop (k + 1)).length = L.length := by rw [List.length_append, marks_len, List.length_drop]; omega
        unfold OwnsS
        rw [hl3, ← el]
        exact hst.1
      have hg3 : w.grownBy (w1.setCell ⟨g, k, none⟩ (.string (mkT (k0 + k)))) (Value.slice (some ⟨g, 0, none⟩) L.length c).ownBlock :=
        ⟨hb.os.trans HG.out.os, hb.tape.trans HG.out.tape, hb.output.trans HG.out.output, Nat.le_trans HG.out.size (Nat.le_trans hb.size hst.2.size), fun j hj hne =>
          ((hst.2.block j (Nat.lt_of_lt_of_le hj (Nat.le_trans HG.out.size hb.size)) hne).trans (hb.block j (Nat.lt_of_lt_of_le hj HG.out.size))).trans (HG.out.block j hj hne)⟩
      have R := Lib.hid (And.intro ho3 hg3)
      clear ho1 hA2 hown2 hst el ho3 hg3 hb HO HG
      go_wp2
      go_roundw
      case rel => exact ⟨k + 1, by omega, by go_num, by go_num, R.out.1, R.out.2⟩
      case measure => simp [intOf]; omega
    · obtain rfl : k = L.length := by omega
      go_wp2
      go_ret
      exact ⟨rfl, by have := HO.out; rwa [List.drop_length, List.append_nil] at this, HG.out⟩

set_option maxHeartbeats 400000 in
theorem heldS_any (B : Nat) (a : Value) (n : Nat) (w : World) (k0 : Nat) (ha : OwnsS w B a (marks k0 n)) (hl : n ≤ 1000000) (hk1 : 1 ≤ k0) (hk2 : k0 ≤ 1000000) :
    Calls Tryz.prog 13 #[a, .int .i64 k0] w fun e w' => e = .returned (.int .i64 ((k0 + n : Nat) : Int)) ∧ Below w.heap.size w w' := by
  obtain ⟨A, c, rfl, hA⟩ := ha.shape
  rw [marks_len] at hA ⊢
  have HA := Lib.hid hA
  clear hA ha
  go_enter Tryz.func13, Tryz.ntmps13
  go_wp2
  go_loopw [1, 5] (fun q i wr => ∃ k : Nat, k ≤ n ∧ i = .int .i64 k ∧ q = .int .i64 ((k0 + k : Nat) : Int) ∧ Below w.heap.size w wr) (fun _ i _ => n - (intOf i).toNat)
  case atStart => exact ⟨0, Nat.zero_le _, rfl, rfl, Below.refl _ _⟩
  case round =>
    obtain ⟨k, hk, rfl, rfl, hbel⟩ := hrel
    by_cases hlt : k < n
    · obtain ⟨g, rfl, h1, _⟩ := HA.out k hlt
      rw [marks_at k0 n k hlt] at h1
      have c1 := (hbel.cell (p := ⟨g, k, none⟩) (World.block_lt_of_cell? w _ h1)).trans h1
      have HB := Lib.hid hbel
      have hsz := hbel.size
      clear h1 HA hbel
      have hlt' := World.block_lt_of_cell? wr _ c1
      go_wp2
      go_region_law (go_simp; go_at_call 26; refine (markText_any (k0 + k) _ (by omega) (by omega)).mono ?_; rintro e w1 ⟨rfl, hb⟩; have c2 := (hb.cell (p := ⟨g, k, none⟩) hlt').trans c1)
      all_goals
        have HB2 : Below w.heap.size w w1 := HB.out.trans (Below.mono (w := wr) ⟨hb.os, hb.tape, hb.output, hb.size, hb.block⟩ hsz)
        clear hb
        go_wp2
        go_roundw
        case rel => exact ⟨k + 1, by omega, by go_num, by go_num, HB2⟩
        case measure => simp [intOf]; omega
    · have HB := Lib.hid hbel
      obtain rfl : k = n := by omega
      clear hbel
      go_wp2
      go_ret
      exact ⟨rfl, HB.out⟩
end Go.Proofs.YtdfcbccpdflbfaaGreatDoor
