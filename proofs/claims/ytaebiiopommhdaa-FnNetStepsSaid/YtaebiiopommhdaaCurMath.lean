/-
  Words for a call that changes one block: 'Chg g w w''; for the cursor of the drawing functions: 'Cur'; the low byte of a word.
-/
import Derived.Laws.BitsLemmas
import Derived.Laws.Rows
import Derived.Below
import Derived.Lib.Hide
import Derived.Deep.Draws
import Derived.OpenShut
namespace Go.Proofs.Ytaebiiopommhdaa
open Go.RowKit

theorem ret_int' {k : IntKind} {a b : Int} (h : a = b) : Ending.returned (.int k a) = .returned (.int k b) := by rw [h]

theorem and_mask (m : Nat) (c : Int) (hc : (BitVec.ofInt 64 c).toNat = 2 ^ m - 1) (hm : m < 63) (n : Int) : 0 ≤ bits .and .i64 n c ∧ bits .and .i64 n c < 2 ^ m := by
  have key : (BitVec.ofInt 64 n &&& BitVec.ofInt 64 c).toNat = (n % ((2 ^ 64 : Nat) : Int)).toNat % 2 ^ m := by
    rw [BitVec.toNat_and, BitVec.toNat_ofInt, hc, Nat.and_two_pow_sub_one_eq_mod]
  have e : bits .and .i64 n c = IntKind.i64.wrap (((n % ((2 ^ 64 : Nat) : Int)).toNat % 2 ^ m : Nat) : Int) := by
    show IntKind.i64.wrap ((BitVec.ofInt 64 n &&& BitVec.ofInt 64 c).toNat : Nat) = _
    rw [key]
  have h1 : (n % ((2 ^ 64 : Nat) : Int)).toNat % 2 ^ m < 2 ^ m := Nat.mod_lt _ (Nat.two_pow_pos m)
  have h2 : 2 ^ m ≤ 2 ^ 62 := Nat.pow_le_pow_right (by omega) (by omega)
  generalize (n % ((2 ^ 64 : Nat) : Int)).toNat % 2 ^ m = x at e h1
  rw [e, IntKind.wrap_i64]
  have h3 : ((2 : Int) ^ m) = ((2 ^ m : Nat) : Int) := by simp
  rw [h3]
  have : (2 : Nat) ^ 62 = 4611686018427387904 := by decide
  omega
theorem and255 (n : Int) : 0 ≤ bits .and .i64 n 255 ∧ bits .and .i64 n 255 < 256 := and_mask 8 255 (by decide) (by decide) n

/-- From w to w' only block g may have changed, and new blocks may have come. -/
structure Chg (g : Nat) (w w' : World) : Prop where
  os : w'.os = w.os
  tape : w'.tape = w.tape
  output : w'.output = w.output
  size : w.heap.size ≤ w'.heap.size
  block : ∀ k, k < w.heap.size → k ≠ g → w'.heap[k]? = w.heap[k]?

theorem Chg.refl (g : Nat) (w : World) : Chg g w w := ⟨rfl, rfl, rfl, Nat.le_refl _, fun _ _ _ => rfl⟩
theorem Chg.trans {g : Nat} {a b c : World} (h : Chg g a b) (k : Chg g b c) : Chg g a c :=
  ⟨k.os.trans h.os, k.tape.trans h.tape, k.output.trans h.output, Nat.le_trans h.size k.size, fun i hi hg => (k.block i (Nat.lt_of_lt_of_le hi h.size) hg).trans (h.block i hi hg)⟩
theorem Chg.drew {g : Nat} {a w : World} (h : Chg g a w) : Chg g a w.drew := ⟨h.os, h.tape, h.output, h.size, h.block⟩
theorem Chg.drewN {g : Nat} {a w : World} (h : Chg g a w) (n : Nat) : Chg g a (w.drewN n) := ⟨h.os, h.tape, h.output, h.size, h.block⟩
theorem Chg.set {g : Nat} {a w : World} (h : Chg g a w) (i : Nat) (v : Value) : Chg g a (w.setCell ⟨g, i, none⟩ v) :=
  h.trans ⟨rfl, rfl, rfl, by simp [World.setCell], fun k _ hk => heap_setCell_other w ⟨g, i, none⟩ k v hk⟩
theorem Chg.alloc {g : Nat} {a w : World} (h : Chg g a w) (o : Obj) : Chg g a (w.alloc o) :=
  h.trans ⟨rfl, rfl, rfl, by simp, fun k hk _ => Below.heap_alloc _ _ _ hk⟩
theorem Chg.below {g : Nat} {a w w' : World} {B : Nat} (h : Below B a w) (hc : Chg g w w') (hB : B ≤ w.heap.size) (hg : B ≤ g) : Below B a w' :=
  h.trans ⟨hc.os, hc.tape, hc.output, hc.size, fun k hk => hc.block k (by omega) (by omega)⟩
theorem Chg.of_below {g : Nat} {w w' : World} (h : Below w.heap.size w w') : Chg g w w' := ⟨h.os, h.tape, h.output, h.size, fun k hk _ => h.block k hk⟩
theorem Chg.cell {g : Nat} {w w' : World} (h : Chg g w w') {p : Addr} (hp : p.block < w.heap.size) (hg : p.block ≠ g) : w'.cell? p = w.cell? p :=
  World.cell?_of_block (w := w) (h.block p.block hp hg)

/-- The n bytes of a slice at A can be read in w; all lie in blocks below g. -/
def Code (w : World) (g : Nat) (A : Option Addr) (n : Nat) : Prop :=
  n ≤ maxLen ∧ ∀ j, j < n → ∃ b o, A = some ⟨b, o, none⟩ ∧ b < g ∧ ∃ x : Int, 0 ≤ x ∧ x ≤ 255 ∧ w.cell? ⟨b, o + j, none⟩ = some (.int .u8 x)
theorem Code.chg {w w' : World} {g n : Nat} {A : Option Addr} (h : Code w g A n) (hc : Chg g w w') : Code w' g A n :=
  ⟨h.1, fun j hj => by
    obtain ⟨b, o, hA, hb, x, h0, h1, hx⟩ := h.2 j hj
    exact ⟨b, o, hA, hb, x, h0, h1, (hc.cell (p := ⟨b, o + j, none⟩) (World.block_lt_of_cell? w _ hx) (Nat.ne_of_lt hb)).trans hx⟩⟩
theorem Code.under {w w' : World} {g n : Nat} {A : Option Addr} (h : Code w g A n) (hc : Below g w w') : Code w' g A n :=
  ⟨h.1, fun j hj => by
    obtain ⟨b, o, hA, hb, x, h0, h1, hx⟩ := h.2 j hj
    exact ⟨b, o, hA, hb, x, h0, h1, (hc.cell (p := ⟨b, o + j, none⟩) hb).trans hx⟩⟩

/-- The n bytes of a slice at A can be read in w. -/
def CodeW (w : World) (A : Option Addr) (n : Nat) : Prop :=
  n ≤ maxLen ∧ ∀ j, j < n → ∃ b o, A = some ⟨b, o, none⟩ ∧ b < w.heap.size ∧ ∃ x : Int, 0 ≤ x ∧ x ≤ 255 ∧ w.cell? ⟨b, o + j, none⟩ = some (.int .u8 x)
theorem CodeW.code {w w' : World} {A : Option Addr} {n : Nat} (h : CodeW w A n) (hb : Below w.heap.size w w') {g : Nat} (hg : w.heap.size ≤ g) : Code w' g A n :=
  ⟨h.1, fun j hj => by
    obtain ⟨b, o, hA, hl, x, h0, h1, hx⟩ := h.2 j hj
    exact ⟨b, o, hA, by omega, x, h0, h1, (hb.cell (p := ⟨b, o + j, none⟩) hl).trans hx⟩⟩
/-- What the walk of a law is told of a slice of integers that came in. -/
def IsRow (k : IntKind) (w : World) (a : Option Addr) (len cap : Nat) (zs : List Int) : Prop :=
  (a = none ∧ len = 0 ∧ cap = 0 ∧ zs = []) ∨
  ∃ x, a = some x ∧ len ≤ cap ∧ cap ≤ maxLen ∧ zs.length = cap ∧ (∀ i, i < zs.length → w.cell? (x.add i) = some (.int k (zs.getD i 0))) ∧ ∀ n ∈ zs, (Lit.int k n).wf = true
theorem IsRow.codeW {w : World} {a : Option Addr} {len cap : Nat} {zs : List Int} (h : IsRow .u8 w a len cap zs) : CodeW w a len := by
  rcases h with ⟨_, rfl, _, _⟩ | ⟨x, rfl, hl, hm, hz, hc, hw⟩
  · exact ⟨by unfold maxLen; omega, fun j hj => absurd hj (by omega)⟩
  · refine ⟨by omega, fun j hj => ?_⟩
    obtain ⟨b, o, rfl, hc'⟩ := ints_at hc (by omega)
    have hj' := hc' j (by omega)
    have hmem : zs.getD j 0 ∈ zs := by
      rw [List.getD_eq_getElem?_getD, List.getElem?_eq_getElem (by omega : j < zs.length)]
      exact List.getElem_mem _
    have hwf := bounds_u8 (hw _ hmem)
    exact ⟨b, o, rfl, World.block_lt_of_cell? w _ hj', _, hwf.1, by omega, hj'⟩

/-- Block g is a cursor over n bytes that can be read. T: the number of its type. -/
def Cur (T : Nat) (w : World) (g n : Nat) : Prop :=
  ∃ A cap i h, w.heap[g]? = some (.cells #[.slice A n cap, .int .i64 i, .int .i64 h] T (0, 0)) ∧ 0 ≤ i ∧ i ≤ n ∧ Code w g A n
theorem Cur.lt {T : Nat} {w : World} {g n : Nat} (h : Cur T w g n) : g < w.heap.size := by
  obtain ⟨A, cap, i, hh, hb, _⟩ := h
  rcases Nat.lt_or_ge g w.heap.size with h | h
  · exact h
  · rw [Array.getElem?_eq_none h] at hb; cases hb
/-- A cursor stays one where its block is left alone. -/
theorem Cur.keep {T : Nat} {w w' : World} {g n : Nat} (h : Cur T w g n) (hb : Below w.heap.size w w') : Cur T w' g n := by
  have hl := h.lt
  obtain ⟨A, cap, i, hh, hg, h0, h1, hc⟩ := h
  exact ⟨A, cap, i, hh, (hb.block g hl).trans hg, h0, h1, hc.chg (Chg.of_below hb)⟩
/-- .. and where all blocks up to its own are. -/
theorem Cur.under {T : Nat} {w w' : World} {g n : Nat} (h : Cur T w g n) (hb : Below (g + 1) w w') : Cur T w' g n := by
  obtain ⟨A, cap, i, hh, hg, h0, h1, hc⟩ := h
  exact ⟨A, cap, i, hh, (hb.block g (by omega)).trans hg, h0, h1, hc.under (hb.mono (by omega))⟩
/-- New blocks, and a change of a row that came later. -/
theorem chg_grown {g : Nat} {w w1 a w2 : World} {row : Option Nat} (h : Chg g w w1) (ha : Below w1.heap.size w1 a) (hg : a.grownBy w2 row) (hr : ∀ k, row = some k → w.heap.size ≤ k) : Chg g w w2 :=
  ⟨hg.os.trans (ha.os.trans h.os), hg.tape.trans (ha.tape.trans h.tape), hg.output.trans (ha.output.trans h.output), Nat.le_trans h.size (Nat.le_trans ha.size hg.size), fun k hk hne =>
    ((hg.block k (Nat.lt_of_lt_of_le hk (Nat.le_trans h.size ha.size)) (fun e => by have := hr k e.symm; omega)).trans (ha.block k (Nat.lt_of_lt_of_le hk h.size))).trans (h.block k hk hne)⟩
theorem cur_grown {T g n : Nat} {w1 a w2 : World} {row : Option Nat} (h : Cur T w1 g n) (ha : Below w1.heap.size w1 a) (hg : a.grownBy w2 row) (hr : ∀ k, row = some k → g < k) : Cur T w2 g n :=
  h.under ⟨hg.os.trans ha.os, hg.tape.trans ha.tape, hg.output.trans ha.output, Nat.le_trans ha.size hg.size, fun k hk =>
    have hl := h.lt
    (hg.block k (Nat.lt_of_lt_of_le (by omega) ha.size) (fun e => by have := hr k e.symm; omega)).trans (ha.block k (by omega))⟩

theorem Cur.mk_ {T : Nat} {w w' : World} {g n cap : Nat} {A : Option Addr} {i h : Int} (hg : w'.heap[g]? = some (.cells #[.slice A n cap, .int .i64 i, .int .i64 h] T (0, 0))) (h0 : 0 ≤ i) (h1 : i ≤ n)
    (hc : Code w g A n) (hch : Chg g w w') : Cur T w' g n := ⟨A, cap, i, h, hg, h0, h1, hc.chg hch⟩

/-- What a drawing call leaves: a number of which R holds, the cursor, all other blocks as they were. -/
def Drawn (T : Nat) (R : Int → Prop) (g n : Nat) (w : World) (e : Ending) (w' : World) : Prop :=
  ∃ x : Int, e = .returned (.int .i64 x) ∧ R x ∧ Cur T w' g n ∧ Chg g w w'
end Go.Proofs.Ytaebiiopommhdaa
