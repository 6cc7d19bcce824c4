/-
  Plain facts on hexadecimal digits: the digit of a number below 16, the text of a list of bytes.
-/
import Derived.Laws.AppendOwn
import Derived.Lib.Hide
import Derived.Laws.BitsAllLaws
import Derived.Below
import Derived.Lib.BufferRead
import Derived.Laws.IdiomStrings
namespace Go.Proofs.YtikibabknlpnkaaDoor
open Go.RowKit

/-- The lowercase digit of a number below 16. -/
def digB (n : Nat) : UInt8 := if n < 10 then UInt8.ofNat (48 + n) else UInt8.ofNat (87 + n)
/-- The text of a list of bytes. -/
def encB (l : List UInt8) : List UInt8 := l.flatMap fun b => [digB (b.toNat / 16), digB (b.toNat % 16)]
def bv (b : UInt8) : Value := .int .u8 (b.toNat : Int)

theorem encB_nil : encB [] = [] := rfl
theorem encB_snoc (l : List UInt8) (b : UInt8) : encB (l ++ [b]) = encB l ++ [digB (b.toNat / 16), digB (b.toNat % 16)] := by simp [encB]
theorem encB_length (l : List UInt8) : (encB l).length = 2 * l.length := by
  induction l with
  | nil => rfl
  | cons a l ih => simp [encB] at ih ⊢; omega
theorem take_snoc (s : ByteArray) (k : Nat) (h : k < s.size) : s.data.toList.take (k + 1) = s.data.toList.take k ++ [s[k]] := by
  rw [List.take_succ_eq_append_getElem (by simpa using h)]; rfl
theorem digB_low (n : Nat) (h : n < 10) : ((digB n).toNat : Int) = 48 + n := by
  unfold digB; rw [if_pos h]; simp; omega
theorem digB_high (n : Nat) (h : 10 ≤ n) (h2 : n < 16) : ((digB n).toNat : Int) = 87 + n := by
  unfold digB; rw [if_neg (by omega)]; simp; omega
theorem encB_take_succ (s : ByteArray) (k : Nat) (h : k < s.size) :
    (encB (s.data.toList.take (k + 1))).map bv = (encB (s.data.toList.take k)).map bv ++ [bv (digB (s[k].toNat / 16)), bv (digB (s[k].toNat % 16))] := by
  rw [take_snoc s k h, encB_snoc, List.map_append]; rfl
theorem encB_all (s : ByteArray) (k : Nat) (h : s.size ≤ k) : encB (s.data.toList.take k) = encB s.data.toList := by
  rw [List.take_of_length_le (by simpa using h)]
/-- The sixteen digits as the code has them. -/
theorem digits_at (n : Nat) (h : n < 16) (h2 : n < (ByteArray.mk #[48, 49, 50, 51, 52, 53, 54, 55, 56, 57, 97, 98, 99, 100, 101, 102]).size) :
    (ByteArray.mk #[48, 49, 50, 51, 52, 53, 54, 55, 56, 57, 97, 98, 99, 100, 101, 102])[n] = digB n := by
  have : ∀ m : Fin 16, (ByteArray.mk #[48, 49, 50, 51, 52, 53, 54, 55, 56, 57, 97, 98, 99, 100, 101, 102])[m.val]'(m.isLt) = digB m.val := by decide
  exact this ⟨n, h⟩
theorem and15 (x : Nat) (h : x < 256) : bits .and .u8 (x : Int) 15 = (x : Int) % 16 := by
  have := u8_and_nat x 15 h (by omega)
  rw [show ((15 : Nat) : Int) = 15 from rfl] at this
  rw [this, show (15 : Nat) = 2 ^ 4 - 1 from rfl, Nat.and_two_pow_sub_one_eq_mod]
  omega
theorem oneC (l : List UInt8) : ∀ u ∈ l.map bv, u.oneCell' = true := by
  intro u hu
  obtain ⟨b, _, rfl⟩ := List.mem_map.1 hu
  rfl
/-- A round of an encoding loop: two digits more are owned, and nothing below B has changed. -/
theorem enc_rel {B e k : Nat} {s : ByteArray} {w wr a w1 : World} {v v' : Value} {news : List Value} (hlt : k < s.size) (hsz : B ≤ wr.heap.size)
    (hown : wr.ownsRow B e 1 v (2 * k) ((encB (s.data.toList.take k)).map bv)) (hbel : Below B w wr) (ha : Below wr.heap.size wr a) (hgrow : a.grownBy w1 v.ownBlock)
    (hown' : w1.ownsRow B e 1 v' (2 * k + 2) ((encB (s.data.toList.take k)).map bv ++ news)) (hnews : news = [bv (digB (s[k].toNat / 16)), bv (digB (s[k].toNat % 16))]) :
    w1.ownsRow B e 1 v' (2 * (k + 1)) ((encB (s.data.toList.take (k + 1))).map bv) ∧ Below B w w1 := by
  subst hnews
  rw [encB_take_succ s k hlt]
  refine ⟨hown', (hbel.trans (ha.mono hsz)).grown hgrow (Nat.le_trans hsz ha.size) (fun j hj => (hown.lt j hj).1)⟩
/-- A slice of bytes of the call's own, as a string. -/
theorem own_string {P : Program} {B e n : Nat} {w : World} {v : Value} {l : List UInt8} (src dst : TypeId) (hown : w.ownsRow B e 1 v n (l.map bv))
    (hs : P.underlying src = some (.slice e)) (he : P.underlying e = some (.int .u8)) (hd : P.underlying dst = some .string) :
    ∃ a c, v = .slice a n c ∧ (convert src dst (.slice a n c)).run P w = .ok (.string ⟨l.toArray⟩) w := by
  have hl : l.length = n := by have := hown.1; simpa using this
  rcases hown.2 with ⟨rfl, h0⟩ | ⟨g, cap, cur, rfl, _⟩
  · subst h0
    obtain rfl : l = [] := List.eq_nil_of_length_eq_zero hl
    exact ⟨none, 0, rfl, Lib.run_convert_nil_bytes w src dst e 0 hs he hd⟩
  · refine ⟨some ⟨g, 0, none⟩, cap, rfl, ?_⟩
    subst hl
    refine run_convert_bytes_back w src dst e ⟨g, 0, none⟩ cap l hs he hd (fun j hj => ?_)
    have := hown.cells (g := g) rfl j (bv l[j]) (by simp [List.getElem?_eq_getElem hj])
    exact this
end Go.Proofs.YtikibabknlpnkaaDoor
