/-
  Plain facts on the decoding of hexadecimal text.
-/
import Derived.Test.YtgihjgjjakjccaaDoorHexMath
import Derived.Laws.BitsLemmas
import Derived.Lib.Bytealg
namespace Go.Proofs.YtgihjgjjakjccaaDoor
open Go.RowKit

/-- The value of a digit; -1 of any other byte. -/
def valI (b : UInt8) : Int := if 48 ≤ b.toNat ∧ b.toNat ≤ 57 then (b.toNat : Int) - 48 else if 97 ≤ b.toNat ∧ b.toNat ≤ 102 then (b.toNat : Int) - 87 else -1
theorem valI_bd (b : UInt8) : -1 ≤ valI b ∧ valI b < 16 := by unfold valI; repeat' split <;> omega
theorem index_val (b : UInt8) : Lib.indexByte [48, 49, 50, 51, 52, 53, 54, 55, 56, 57, 97, 98, 99, 100, 101, 102] b = valI b := by
  have : ∀ m : Fin 256, Lib.indexByte [48, 49, 50, 51, 52, 53, 54, 55, 56, 57, 97, 98, 99, 100, 101, 102] (UInt8.ofNat m.val) = valI (UInt8.ofNat m.val) := by decide +kernel
  have h := this ⟨b.toNat, b.toNat_lt⟩
  simpa using h
/-- The byte of two digits. -/
def pairB (a b : UInt8) : UInt8 := UInt8.ofNat (16 * valI a + valI b).toNat
theorem pairB_int (a b : UInt8) (ha : 0 ≤ valI a) (hb : 0 ≤ valI b) : ((pairB a b).toNat : Int) = 16 * valI a + valI b := by
  have := valI_bd a
  have := valI_bd b
  unfold pairB
  simp
  omega
def outP : List UInt8 → List UInt8
  | a :: b :: r => pairB a b :: outP r
  | _ => []
theorem outP_snoc (a b : UInt8) : ∀ (n : Nat) (l : List UInt8), l.length = 2 * n → outP (l ++ [a, b]) = outP l ++ [pairB a b]
  | 0, l, h => by obtain rfl : l = [] := List.eq_nil_of_length_eq_zero (by simpa using h); rfl
  | n + 1, l, h => by
    match l, h with
    | c :: d :: r, h => simp only [List.cons_append, outP]; rw [outP_snoc a b n r (by simp at h; omega)]
theorem outP_length : ∀ (n : Nat) (l : List UInt8), l.length = 2 * n → (outP l).length = n
  | 0, l, h => by obtain rfl : l = [] := List.eq_nil_of_length_eq_zero (by simpa using h); rfl
  | n + 1, l, h => by
    match l, h with
    | c :: d :: r, h => simp only [outP, List.length_cons]; rw [outP_length n r (by simp at h; omega)]
/-- All bytes are digits. -/
def allHex (l : List UInt8) : Bool := l.all fun b => decide (0 ≤ valI b)
theorem allHex_snoc (l : List UInt8) (a b : UInt8) (h : allHex l = true) (ha : 0 ≤ valI a) (hb : 0 ≤ valI b) : allHex (l ++ [a, b]) = true := by
  unfold allHex at *
  simp [h, ha, hb]
theorem allHex_bad (s : ByteArray) (k : Nat) (h : k < s.size) (hv : valI s[k] < 0) : allHex s.data.toList = false := by
  unfold allHex
  rw [List.all_eq_false]
  exact ⟨s[k], by simp only [ByteArray.getElem_eq_getElem_data]; simp, by simp; omega⟩
theorem take_two (s : ByteArray) (i : Nat) (h : i + 1 < s.size) : s.data.toList.take (i + 2) = s.data.toList.take i ++ [s[i], s[i + 1]] := by
  rw [show i + 2 = (i + 1) + 1 from rfl, take_snoc s (i + 1) h, take_snoc s i (by omega), List.append_assoc]; rfl
/-- What decoding gives. -/
def decR (s : ByteArray) : ByteArray × Bool :=
  if s.size % 2 ≠ 0 ∨ 40000 < s.size then (⟨#[]⟩, false) else if allHex s.data.toList = true then (⟨(outP s.data.toList).toArray⟩, true) else (⟨#[]⟩, false)
theorem decR_no (s : ByteArray) (h : s.size % 2 ≠ 0 ∨ 40000 < s.size) : decR s = (⟨#[]⟩, false) := if_pos h
theorem decR_bad (s : ByteArray) (h : allHex s.data.toList = false) : decR s = (⟨#[]⟩, false) := by unfold decR; simp [h]
theorem decR_ok (s : ByteArray) (h1 : s.size % 2 = 0) (h2 : s.size ≤ 40000) (h : allHex s.data.toList = true) : decR s = (⟨(outP s.data.toList).toArray⟩, true) := by
  unfold decR; rw [if_neg (by omega), if_pos h]
theorem or_hex (a b : Int) (ha : 0 ≤ a) (ha2 : a < 16) (hb : 0 ≤ b) (hb2 : b < 16) : bits .or .i64 (a * 16) b = 16 * a + b := by
  rw [bits_join .i64 62 (by decide) (fun n h0 h1 => by rw [IntKind.wrap_i64]; omega) 4 (a * 16) b (by omega) (by omega) (by omega) hb (by omega) (by omega)]
  omega
/-- A round of a decoding loop. -/
theorem dec_rel {B e i : Nat} {s : ByteArray} {w wr a w1 : World} {v v' : Value} {news : List Value} (hlt : i + 1 < s.size) (hev : i % 2 = 0) (hsz : B ≤ wr.heap.size)
    (hown : wr.ownsRow B e 1 v (i / 2) ((outP (s.data.toList.take i)).map bv)) (hbel : Below B w wr) (ha : Below wr.heap.size wr a) (hgrow : a.grownBy w1 v.ownBlock)
    (hown' : w1.ownsRow B e 1 v' (i / 2 + 1) ((outP (s.data.toList.take i)).map bv ++ news)) (hnews : news = [bv (pairB s[i] s[i + 1])])
    (hall : allHex (s.data.toList.take i) = true) (h0 : 0 ≤ valI s[i]) (h1 : 0 ≤ valI s[i + 1]) :
    w1.ownsRow B e 1 v' ((i + 2) / 2) ((outP (s.data.toList.take (i + 2))).map bv) ∧ Below B w w1 ∧ allHex (s.data.toList.take (i + 2)) = true := by
  subst hnews
  rw [take_two s i hlt, outP_snoc _ _ (i / 2) _ (by rw [List.length_take]; simp; omega), List.map_append, show (i + 2) / 2 = i / 2 + 1 from by omega]
  exact ⟨hown', (hbel.trans (ha.mono hsz)).grown hgrow (Nat.le_trans hsz ha.size) (fun j hj => (hown.lt j hj).1), allHex_snoc _ _ _ hall h0 h1⟩
end Go.Proofs.YtgihjgjjakjccaaDoor
