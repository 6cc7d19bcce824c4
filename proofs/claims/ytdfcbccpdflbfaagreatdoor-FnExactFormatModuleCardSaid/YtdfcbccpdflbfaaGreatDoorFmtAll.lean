/-
  HexMath, Fig, FmtMath, OneStr, FmtA as one text.
-/
import Derived.Laws.AppendOwn
import Derived.Lib.Hide
import Derived.Laws.BitsAllLaws
import Derived.Below
import Derived.Lib.BufferRead
import Derived.Laws.IdiomStrings
import Derived.Test.YtdfcbccpdflbfaaGreatDoorRows
import Derived.WalkKit
import Derived.WalkSpells
import Derived.WalkLawsBesides
import Derived.Lib.ItoaNum
import Derived.Lib.ItoaLen
/- HexMath: Plain facts on hexadecimal digits: the digit of a number below 16, the text of a list of bytes. -/
namespace Go.Proofs.YtdfcbccpdflbfaaGreatDoor
open Go.RowKit

/-- The lowercase digit of a number below 16. -/
def digB (n : Nat) : UInt8 := if n < 10 then UInt8.ofNat (48 + n) else UInt8.ofNat (87 + n)
/-- The text of a list of bytes. -/
def encB (l : List UInt8) : List UInt8 := l.flatMap fun b => [digB (b.toNat / 16), digB (b.toNat % 16)]
def bv (b : UInt8) : Value := .int .u8 (b.toNat : Int)

theorem encB_nil : encB [] = [] := rfl
theorem encB_snoc (l : List UInt8) (b : UInt8) : encB (l ++ [b]) = encB l ++ [digB (b.toNat / 16), digB (b.toNat % 16)] := by simp [encB]
theorem encB_length (l : List UInt8) : (encB l).length = 2 * l.length := by
  induction l with
  | nil => rfl
  | cons a l ih => simp [encB] at ih ⊢; omega
theorem take_snoc (s : ByteArray) (k : Nat) (h : k < s.size) : s.data.toList.take (k + 1) = s.data.toList.take k ++ [s[k]] := by
  rw [List.take_succ_eq_append_getElem (by simpa using h)]; rfl
theorem digB_low (n : Nat) (h : n < 10) : ((digB n).toNat : Int) = 48 + n := by
  unfold digB; rw [if_pos h]; simp; omega
theorem digB_high (n : Nat) (h : 10 ≤ n) (h2 : n < 16) : ((digB n).toNat : Int) = 87 + n := by
  unfold digB; rw [if_neg (by omega)]; simp; omega
theorem encB_take_succ (s : ByteArray) (k : Nat) (h : k < s.size) :
    (encB (s.data.toList.take (k + 1))).map bv = (encB (s.data.toList.take k)).map bv ++ [bv (digB (s[k].toNat / 16)), bv (digB (s[k].toNat % 16))] := by
  rw [take_snoc s k h, encB_snoc, List.map_append]; rfl
theorem encB_all (s : ByteArray) (k : Nat) (h : s.size ≤ k) : encB (s.data.toList.take k) = encB s.data.toList := by
  rw [List.take_of_length_le (by simpa using h)]
/-- The sixteen digits as the code has them. -/
theorem digits_at (n : Nat) (h : n < 16) (h2 : n < (ByteArray.mk #[48, 49, 50, 51, 52, 53, 54, 55, 56, 57, 97, 98, 99, 100, 101, 102]).size) :
    (ByteArray.mk #[48, 49, 50, 51, 52, 53, 54, 55, 56, 57, 97, 98, 99, 100, 101, 102])[n] = digB n := by
  have : ∀ m : Fin 16, (ByteArray.mk #[48, 49, 50, 51, 52, 53, 54, 55, 56, 57, 97, 98, 99, 100, 101, 102])[m.val]'(m.isLt) = digB m.val := by decide
  exact this ⟨n, h⟩
theorem and15 (x : Nat) (h : x < 256) : bits .and .u8 (x : Int) 15 = (x : Int) % 16 := by
  have := u8_and_nat x 15 h (by omega)
  rw [show ((15 : Nat) : Int) = 15 from rfl] at this
  rw [this, show (15 : Nat) = 2 ^ 4 - 1 from rfl, Nat.and_two_pow_sub_one_eq_mod]
  omega
theorem oneC (l : List UInt8) : ∀ u ∈ l.map bv, u.oneCell' = true := by
  intro u hu
  obtain ⟨b, _, rfl⟩ := List.mem_map.1 hu
  rfl
/-- A round of an encoding loop: two digits more are owned, and nothing below B has changed. -/
theorem enc_rel {B e k : Nat} {s : ByteArray} {w wr a w1 : World} {v v' : Value} {news : List Value} (hlt : k < s.size) (hsz : B ≤ wr.heap.size)
    (hown : wr.ownsRow B e 1 v (2 * k) ((encB (s.data.toList.take k)).map bv)) (hbel : Below B w wr) (ha : Below wr.heap.size wr a) (hgrow : a.grownBy w1 v.ownBlock)
    (hown' : w1.ownsRow B e 1 v' (2 * k + 2) ((encB (s.data.toList.take k)).map bv ++ news)) (hnews : news = [bv (digB (s[k].toNat / 16)), bv (digB (s[k].toNat % 16))]) :
    w1.ownsRow B e 1 v' (2 * (k + 1)) ((encB (s.data.toList.take (k + 1))).map bv) ∧ Below B w w1 := by
  subst hnews
  rw [encB_take_succ s k hlt]
  refine ⟨hown', (hbel.trans (ha.mono hsz)).grown hgrow (Nat.le_trans hsz ha.size) (fun j hj => (hown.lt j hj).1)⟩
/-- A slice of bytes of the call's own, as a string. -/
theorem own_string {P : Program} {B e n : Nat} {w : World} {v : Value} {l : List UInt8} (src dst : TypeId) (hown : w.ownsRow B e 1 v n (l.map bv))
    (hs : P.underlying src = some (.slice e)) (he : P.underlying e = some (.int .u8)) (hd : P.underlying dst = some .string) :
    ∃ a c, v = .slice a n c ∧ (convert src dst (.slice a n c)).run P w = .ok (.string ⟨l.toArray⟩) w := by
  have hl : l.length = n := by have := hown.1; simpa using this
  rcases hown.2 with ⟨rfl, h0⟩ | ⟨g, cap, cur, rfl, _⟩
  · subst h0
    obtain rfl : l = [] := List.eq_nil_of_length_eq_zero hl
    exact ⟨none, 0, rfl, Lib.run_convert_nil_bytes w src dst e 0 hs he hd⟩
  · refine ⟨some ⟨g, 0, none⟩, cap, rfl, ?_⟩
    subst hl
    refine run_convert_bytes_back w src dst e ⟨g, 0, none⟩ cap l hs he hd (fun j hj => ?_)
    have := hown.cells (g := g) rfl j (bv l[j]) (by simp [List.getElem?_eq_getElem hj])
    exact this
end Go.Proofs.YtdfcbccpdflbfaaGreatDoor
/- Fig: The contract of spec.l01Figure: the digit of a number below 16. -/
namespace Go.Proofs.YtdfcbccpdflbfaaGreatDoor
open Go.RowKit

theorem figure_any (n : Int) (h0 : 0 ≤ n) (h1 : n < 16) (w : World) :
    Calls Tryz.prog 40 #[.int .i64 n] w fun e w' => e = .returned (.int .u8 ((digB n.toNat).toNat : Int)) ∧ w = w' := by
  by_cases h : n < 10
  · have e : ((digB n.toNat).toNat : Int) = 48 + n := by rw [digB_low _ (by omega)]; omega
    rw [e]
    clear e
    go_enter Tryz.func40, Tryz.ntmps40
    go_wp2
    go_ret
    exact ⟨rfl, rfl⟩
  · have e : ((digB n.toNat).toNat : Int) = 97 + n - 10 := by rw [digB_high _ (by omega) (by omega)]; omega
    rw [e]
    clear e
    go_enter Tryz.func40, Tryz.ntmps40
    go_wp2
    go_ret
    exact ⟨rfl, rfl⟩

end Go.Proofs.YtdfcbccpdflbfaaGreatDoor
/- FmtMath: Plain facts on decimal digits. -/
namespace Go.Proofs.YtdfcbccpdflbfaaGreatDoor
open Go.RowKit

/-- The decimal digits of u; none for 0. -/
def dgs (u : Nat) : List UInt8 := if u = 0 then [] else Lib.decDigits u
theorem dgs_zero : dgs 0 = [] := rfl
theorem dgs_step (u : Nat) (h : u ≠ 0) : dgs u = dgs (u / 10) ++ [digB (u % 10)] := by
  have e : digB (u % 10) = UInt8.ofNat (48 + u % 10) := by unfold digB; rw [if_pos (by omega)]
  unfold dgs
  rw [if_neg h, e]
  by_cases h10 : u < 10
  · rw [if_pos (by omega), Lib.decDigits_one h10, Nat.mod_eq_of_lt h10]; rfl
  · rw [if_neg (by omega), Lib.decDigits, dif_neg h10]
theorem itoa_dgs_pos (n : Int) (h : 0 < n) : Lib.itoa n = dgs n.natAbs := by
  unfold Lib.itoa dgs
  rw [if_neg (by omega), if_neg (by omega), show n.toNat = n.natAbs from by omega]
theorem itoa_dgs_neg (n : Int) (h : n < 0) : Lib.itoa n = 45 :: dgs n.natAbs := by
  unfold Lib.itoa dgs
  rw [if_pos h, if_neg (by omega)]
theorem itoa_zero : Lib.itoa 0 = [48] := by
  unfold Lib.itoa
  rw [if_neg (by omega), show (0 : Int).toNat = 0 from rfl, Lib.decDigits_one (by omega)]
  rfl
/-- One digit less in the number, one more in the text. -/
theorem dgs_round {u m : Nat} {s : List UInt8} (h : dgs u = dgs m ++ s) (hm : m ≠ 0) : dgs u = dgs (m / 10) ++ (digB (m % 10) :: s) := by
  rw [h, dgs_step m hm, List.append_assoc]; rfl
theorem dgs_len (n : Int) (h0 : -9223372036854775808 ≤ n) (h1 : n ≤ 9223372036854775807) : (dgs n.natAbs).length ≤ 21 := by
  rcases (show n < 0 ∨ n = 0 ∨ 0 < n from by omega) with h | h | h
  · have := Lib.itoa_length_le n h0 h1; rw [itoa_dgs_neg n h] at this; simp at this; omega
  · subst h; simp [dgs]
  · have := Lib.itoa_length_le n h0 h1; rwa [itoa_dgs_pos n h] at this
theorem tmod_cases (m : Int) : (0 ≤ m → m.tmod 10 = ((m.natAbs % 10 : Nat) : Int) ∧ m.tdiv 10 = ((m.natAbs / 10 : Nat) : Int)) ∧ (m < 0 → m.tmod 10 = -((m.natAbs % 10 : Nat) : Int) ∧ m.tdiv 10 = -((m.natAbs / 10 : Nat) : Int)) := by
  refine ⟨fun h => ?_, fun h => ?_⟩
  · rw [Int.tmod_eq_emod_of_nonneg h, Int.tdiv_eq_ediv_of_nonneg h]; omega
  · have e : m = -((m.natAbs : Nat) : Int) := by omega
    generalize m.natAbs = p at e
    subst e
    rw [Int.neg_tmod, Int.neg_tdiv, Int.tmod_eq_emod_of_nonneg (by omega), Int.tdiv_eq_ediv_of_nonneg (by omega)]; omega
theorem bytes_eq {s t : ByteArray} (h : s.data.toList = t.data.toList) : s = t := by
  cases s; cases t; simp at h; congr; 
end Go.Proofs.YtdfcbccpdflbfaaGreatDoor
/- OneStr: 'string([]byte{b})': the text of one byte. -/
namespace Go.Proofs.YtdfcbccpdflbfaaGreatDoor
open Go.RowKit

/-- 'string([]byte{b})'. -/
theorem one_string (W : World) (b : UInt8) : (convert 69 9 (.slice (some ⟨W.heap.size, 0, none⟩) 1 1)).run Tryz.prog (W.alloc (.cells #[.int .u8 (b.toNat : Int)] 5)) =
    .ok (.string ⟨#[b]⟩) (W.alloc (.cells #[.int .u8 (b.toNat : Int)] 5)) :=
  run_convert_bytes_back (P := Tryz.prog) (W.alloc (.cells #[.int .u8 (b.toNat : Int)] 5)) 69 9 5 ⟨W.heap.size, 0, none⟩ 1 [b] Tryz.underlying69 Tryz.underlying5 Tryz.underlying9 (fun j hj => by
    obtain rfl : j = 0 := by simpa using hj
    rw [show (⟨W.heap.size, 0, none⟩ : Addr).add 0 = ⟨W.heap.size, 0, none⟩ from rfl, World.cell?_alloc_at _ _ _ _ rfl]
    rfl)
end Go.Proofs.YtdfcbccpdflbfaaGreatDoor
/- FmtA: The contract of spec.FormatInt: the decimal numeral. -/
namespace Go.Proofs.YtdfcbccpdflbfaaGreatDoor
open Go.RowKit

set_option maxHeartbeats 800000 in
theorem specFmt_any (n : Int) (w : World) (h0 : -9223372036854775808 ≤ n) (h1 : n ≤ 9223372036854775807) :
    Calls Tryz.prog 19 #[.int .i64 n] w fun e w' => e = .returned (.string ⟨(Lib.itoa n).toArray⟩) ∧ Below w.heap.size w w' := by
  by_cases hn : n = 0
  · subst hn
    go_enter Tryz.func19, Tryz.ntmps19
    go_wp2
    go_ret
    exact ⟨by rw [itoa_zero]; rfl, Below.refl _ _⟩
  · have hl := dgs_len n h0 h1
    have hn0 : (n == 0) = false := by simp [hn]
    go_enter Tryz.func19, Tryz.ntmps19
    go_wp2
    go_loopw [0, 4] (fun v t wr => ∃ (m : Int) (s : ByteArray), v = .int .i64 m ∧ t = .string s ∧ (0 ≤ n → 0 ≤ m ∧ m ≤ n) ∧ (n < 0 → m ≤ 0 ∧ n ≤ m) ∧ dgs n.natAbs = dgs m.natAbs ++ s.data.toList ∧ Below w.heap.size w wr)
      (fun v _ _ => (intOf v).natAbs)
    case atStart => exact ⟨n, ⟨#[]⟩, rfl, rfl, fun _ => by omega, fun _ => by omega, by simp, Below.refl _ _⟩
    case round =>
      obtain ⟨m, s, rfl, rfl, hp, hq, hd, hb⟩ := hrel
      have hsz := hb.size
      have hs : s.size ≤ 21 := by have := congrArg List.length hd; rw [List.length_append] at this; simp at this; omega
      have HD := Lib.hid hd
      clear hd
      by_cases hm : m = 0
      · subst hm
        have HB := Lib.hid hb
        clear hb
        by_cases hneg : n < 0
        · go_wp2
          go_ret
          exact ⟨congrArg (fun b => Ending.returned (.string b)) (bytes_eq (by rw [itoa_dgs_neg n hneg, HD.out]; simp [dgs_zero])), HB.out⟩
        · go_wp2
          go_ret
          exact ⟨congrArg (fun b => Ending.returned (.string b)) (bytes_eq (by rw [itoa_dgs_pos n (by omega), HD.out]; simp [dgs_zero])), HB.out⟩
      · have hr := dgs_round HD.out (by omega : m.natAbs ≠ 0)
        have hlt : m.natAbs / 10 < m.natAbs := by omega
        have hcv := one_string
        obtain ⟨q, hq0, hq9, eq⟩ : ∃ q : Nat, 0 ≤ (q : Int) ∧ (q : Int) < 10 ∧ m.natAbs % 10 = q := ⟨_, by omega, by omega, rfl⟩
        obtain ⟨r, hr1, er⟩ : ∃ r : Nat, (r : Int) < m.natAbs ∧ m.natAbs / 10 = r := ⟨_, by omega, rfl⟩
        rw [eq, er] at hr
        have HR := Lib.hid hr
        have hx := tmod_cases m
        rw [eq, er] at hx
        clear hr eq er
        have HB := Lib.hid hb
        clear hb
        by_cases hneg : m < 0
        · obtain ⟨e1, e2⟩ := hx.2 hneg
          clear hx
          by_cases hq : q = 0
          · subst hq
            go_wp2_with fail
            refine (figure_any _ (by omega) (by omega) _).mono ?_
            rintro e w' ⟨rfl, rfl⟩
            go_wp2
            go_roundw
            case rel => exact ⟨_, _, rfl, rfl, fun _ => by omega, fun _ => by omega, by have := HR.out; simpa using this, HB.out.alloc hsz _⟩
            case measure => simp [intOf]; omega
          · go_wp2_with fail
            refine (figure_any _ (by omega) (by omega) _).mono ?_
            rintro e w' ⟨rfl, rfl⟩
            go_wp2
            go_roundw
            case rel => exact ⟨_, _, rfl, rfl, fun _ => by omega, fun _ => by omega, by have := HR.out; simpa using this, HB.out.alloc hsz _⟩
            case measure => simp [intOf]; omega
        · obtain ⟨e1, e2⟩ := hx.1 (by omega)
          have e3 : m % 10 = q := by rw [← e1, Int.tmod_eq_emod_of_nonneg (by omega)]
          have e4 : m / 10 = r := by rw [← e2, Int.tdiv_eq_ediv_of_nonneg (by omega)]
          clear hx
          go_wp2_with fail
          refine (figure_any _ (by omega) (by omega) _).mono ?_
          rintro e w' ⟨rfl, rfl⟩
          go_wp2
          go_roundw
          case rel => exact ⟨_, _, rfl, rfl, fun _ => by omega, fun _ => by omega, by have := HR.out; simpa using this, HB.out.alloc hsz _⟩
          case measure => simp [intOf]; omega
end Go.Proofs.YtdfcbccpdflbfaaGreatDoor
