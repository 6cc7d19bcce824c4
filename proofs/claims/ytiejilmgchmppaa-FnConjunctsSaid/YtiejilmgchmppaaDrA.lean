/-
  CurMath, CurA, DrN, DrS as one text.
-/
import Derived.Laws.BitsLemmas
import Derived.Laws.Rows
import Derived.Below
import Derived.Lib.Hide
import Derived.Deep.Draws
import Derived.OpenShut
import Derived.Test.YtiejilmgchmppaaRows
import Derived.WalkKit
import Derived.WalkSpells
import Derived.WalkLawsBesides
import Derived.Deep.QuietTactic
import Derived.BigQuiet
import Derived.Test.YtiejilmgchmppaaNeA
import Derived.Test.YtiejilmgchmppaaDoN
import Derived.Test.YtiejilmgchmppaaLay
import Derived.Test.YtiejilmgchmppaaOwN
/- CurMath: Words for a call that changes one block: 'Chg g w w''; for the cursor of the drawing functions: 'Cur'; the low byte of a word. -/
namespace Go.Proofs.Ytiejilmgchmppaa
open Go.RowKit

theorem ret_int' {k : IntKind} {a b : Int} (h : a = b) : Ending.returned (.int k a) = .returned (.int k b) := by rw [h]

theorem and_mask (m : Nat) (c : Int) (hc : (BitVec.ofInt 64 c).toNat = 2 ^ m - 1) (hm : m < 63) (n : Int) : 0 ≤ bits .and .i64 n c ∧ bits .and .i64 n c < 2 ^ m := by
  have key : (BitVec.ofInt 64 n &&& BitVec.ofInt 64 c).toNat = (n % ((2 ^ 64 : Nat) : Int)).toNat % 2 ^ m := by
    rw [BitVec.toNat_and, BitVec.toNat_ofInt, hc, Nat.and_two_pow_sub_one_eq_mod]
  have e : bits .and .i64 n c = IntKind.i64.wrap (((n % ((2 ^ 64 : Nat) : Int)).toNat % 2 ^ m : Nat) : Int) := by
    show IntKind.i64.wrap ((BitVec.ofInt 64 n &&& BitVec.ofInt 64 c).toNat : Nat) = _
    rw [key]
  have h1 : (n % ((2 ^ 64 : Nat) : Int)).toNat % 2 ^ m < 2 ^ m := Nat.mod_lt _ (Nat.two_pow_pos m)
  have h2 : 2 ^ m ≤ 2 ^ 62 := Nat.pow_le_pow_right (by omega) (by omega)
  generalize (n % ((2 ^ 64 : Nat) : Int)).toNat % 2 ^ m = x at e h1
  rw [e, IntKind.wrap_i64]
  have h3 : ((2 : Int) ^ m) = ((2 ^ m : Nat) : Int) := by simp
  rw [h3]
  have : (2 : Nat) ^ 62 = 4611686018427387904 := by decide
  omega
theorem and255 (n : Int) : 0 ≤ bits .and .i64 n 255 ∧ bits .and .i64 n 255 < 256 := and_mask 8 255 (by decide) (by decide) n

/-- From w to w' only block g may have changed, and new blocks may have come. -/
structure Chg (g : Nat) (w w' : World) : Prop where
  os : w'.os = w.os
  tape : w'.tape = w.tape
  output : w'.output = w.output
  size : w.heap.size ≤ w'.heap.size
  block : ∀ k, k < w.heap.size → k ≠ g → w'.heap[k]? = w.heap[k]?

theorem Chg.refl (g : Nat) (w : World) : Chg g w w := ⟨rfl, rfl, rfl, Nat.le_refl _, fun _ _ _ => rfl⟩
theorem Chg.trans {g : Nat} {a b c : World} (h : Chg g a b) (k : Chg g b c) : Chg g a c :=
  ⟨k.os.trans h.os, k.tape.trans h.tape, k.output.trans h.output, Nat.le_trans h.size k.size, fun i hi hg => (k.block i (Nat.lt_of_lt_of_le hi h.size) hg).trans (h.block i hi hg)⟩
theorem Chg.drew {g : Nat} {a w : World} (h : Chg g a w) : Chg g a w.drew := ⟨h.os, h.tape, h.output, h.size, h.block⟩
theorem Chg.drewN {g : Nat} {a w : World} (h : Chg g a w) (n : Nat) : Chg g a (w.drewN n) := ⟨h.os, h.tape, h.output, h.size, h.block⟩
theorem Chg.set {g : Nat} {a w : World} (h : Chg g a w) (i : Nat) (v : Value) : Chg g a (w.setCell ⟨g, i, none⟩ v) :=
  h.trans ⟨rfl, rfl, rfl, by simp [World.setCell], fun k _ hk => heap_setCell_other w ⟨g, i, none⟩ k v hk⟩
theorem Chg.alloc {g : Nat} {a w : World} (h : Chg g a w) (o : Obj) : Chg g a (w.alloc o) :=
  h.trans ⟨rfl, rfl, rfl, by simp, fun k hk _ => Below.heap_alloc _ _ _ hk⟩
theorem Chg.below {g : Nat} {a w w' : World} {B : Nat} (h : Below B a w) (hc : Chg g w w') (hB : B ≤ w.heap.size) (hg : B ≤ g) : Below B a w' :=
  h.trans ⟨hc.os, hc.tape, hc.output, hc.size, fun k hk => hc.block k (by omega) (by omega)⟩
theorem Chg.of_below {g : Nat} {w w' : World} (h : Below w.heap.size w w') : Chg g w w' := ⟨h.os, h.tape, h.output, h.size, fun k hk _ => h.block k hk⟩
theorem Chg.cell {g : Nat} {w w' : World} (h : Chg g w w') {p : Addr} (hp : p.block < w.heap.size) (hg : p.block ≠ g) : w'.cell? p = w.cell? p :=
  World.cell?_of_block (w := w) (h.block p.block hp hg)

/-- The n bytes of a slice at A can be read in w; all lie in blocks below g. -/
def Code (w : World) (g : Nat) (A : Option Addr) (n : Nat) : Prop :=
  n ≤ maxLen ∧ ∀ j, j < n → ∃ b o, A = some ⟨b, o, none⟩ ∧ b < g ∧ ∃ x : Int, 0 ≤ x ∧ x ≤ 255 ∧ w.cell? ⟨b, o + j, none⟩ = some (.int .u8 x)
theorem Code.chg {w w' : World} {g n : Nat} {A : Option Addr} (h : Code w g A n) (hc : Chg g w w') : Code w' g A n :=
  ⟨h.1, fun j hj => by
    obtain ⟨b, o, hA, hb, x, h0, h1, hx⟩ := h.2 j hj
    exact ⟨b, o, hA, hb, x, h0, h1, (hc.cell (p := ⟨b, o + j, none⟩) (World.block_lt_of_cell? w _ hx) (Nat.ne_of_lt hb)).trans hx⟩⟩
theorem Code.under {w w' : World} {g n : Nat} {A : Option Addr} (h : Code w g A n) (hc : Below g w w') : Code w' g A n :=
  ⟨h.1, fun j hj => by
    obtain ⟨b, o, hA, hb, x, h0, h1, hx⟩ := h.2 j hj
    exact ⟨b, o, hA, hb, x, h0, h1, (hc.cell (p := ⟨b, o + j, none⟩) hb).trans hx⟩⟩

/-- The n bytes of a slice at A can be read in w. -/
def CodeW (w : World) (A : Option Addr) (n : Nat) : Prop :=
  n ≤ maxLen ∧ ∀ j, j < n → ∃ b o, A = some ⟨b, o, none⟩ ∧ b < w.heap.size ∧ ∃ x : Int, 0 ≤ x ∧ x ≤ 255 ∧ w.cell? ⟨b, o + j, none⟩ = some (.int .u8 x)
theorem CodeW.code {w w' : World} {A : Option Addr} {n : Nat} (h : CodeW w A n) (hb : Below w.heap.size w w') {g : Nat} (hg : w.heap.size ≤ g) : Code w' g A n :=
  ⟨h.1, fun j hj => by
    obtain ⟨b, o, hA, hl, x, h0, h1, hx⟩ := h.2 j hj
    exact ⟨b, o, hA, by omega, x, h0, h1, (hb.cell (p := ⟨b, o + j, none⟩) hl).trans hx⟩⟩
/-- What the walk of a law is told of a slice of integers that came in. -/
def IsRow (k : IntKind) (w : World) (a : Option Addr) (len cap : Nat) (zs : List Int) : Prop :=
  (a = none ∧ len = 0 ∧ cap = 0 ∧ zs = []) ∨
  ∃ x, a = some x ∧ len ≤ cap ∧ cap ≤ maxLen ∧ zs.length = cap ∧ (∀ i, i < zs.length → w.cell? (x.add i) = some (.int k (zs.getD i 0))) ∧ ∀ n ∈ zs, (Lit.int k n).wf = true
theorem IsRow.codeW {w : World} {a : Option Addr} {len cap : Nat} {zs : List Int} (h : IsRow .u8 w a len cap zs) : CodeW w a len := by
  rcases h with ⟨_, rfl, _, _⟩ | ⟨x, rfl, hl, hm, hz, hc, hw⟩
  · exact ⟨by unfold maxLen; omega, fun j hj => absurd hj (by omega)⟩
  · refine ⟨by omega, fun j hj => ?_⟩
    obtain ⟨b, o, rfl, hc'⟩ := ints_at hc (by omega)
    have hj' := hc' j (by omega)
    have hmem : zs.getD j 0 ∈ zs := by
      rw [List.getD_eq_getElem?_getD, List.getElem?_eq_getElem (by omega : j < zs.length)]
      exact List.getElem_mem _
    have hwf := bounds_u8 (hw _ hmem)
    exact ⟨b, o, rfl, World.block_lt_of_cell? w _ hj', _, hwf.1, by omega, hj'⟩

/-- Block g is a cursor over n bytes that can be read. T: the number of its type. -/
def Cur (T : Nat) (w : World) (g n : Nat) : Prop :=
  ∃ A cap i h, w.heap[g]? = some (.cells #[.slice A n cap, .int .i64 i, .int .i64 h] T (0, 0)) ∧ 0 ≤ i ∧ i ≤ n ∧ Code w g A n
theorem Cur.lt {T : Nat} {w : World} {g n : Nat} (h : Cur T w g n) : g < w.heap.size := by
  obtain ⟨A, cap, i, hh, hb, _⟩ := h
  rcases Nat.lt_or_ge g w.heap.size with h | h
  · exact h
  · rw [Array.getElem?_eq_none h] at hb; cases hb
/-- A cursor stays one where its block is left alone. -/
theorem Cur.keep {T : Nat} {w w' : World} {g n : Nat} (h : Cur T w g n) (hb : Below w.heap.size w w') : Cur T w' g n := by
  have hl := h.lt
  obtain ⟨A, cap, i, hh, hg, h0, h1, hc⟩ := h
  exact ⟨A, cap, i, hh, (hb.block g hl).trans hg, h0, h1, hc.chg (Chg.of_below hb)⟩
/-- .. and where all blocks up to its own are. -/
theorem Cur.under {T : Nat} {w w' : World} {g n : Nat} (h : Cur T w g n) (hb : Below (g + 1) w w') : Cur T w' g n := by
  obtain ⟨A, cap, i, hh, hg, h0, h1, hc⟩ := h
  exact ⟨A, cap, i, hh, (hb.block g (by omega)).trans hg, h0, h1, hc.under (hb.mono (by omega))⟩
/-- New blocks, and a change of a row that came later. -/
theorem chg_grown {g : Nat} {w w1 a w2 : World} {row : Option Nat} (h : Chg g w w1) (ha : Below w1.heap.size w1 a) (hg : a.grownBy w2 row) (hr : ∀ k, row = some k → w.heap.size ≤ k) : Chg g w w2 :=
  ⟨hg.os.trans (ha.os.trans h.os), hg.tape.trans (ha.tape.trans h.tape), hg.output.trans (ha.output.trans h.output), Nat.le_trans h.size (Nat.le_trans ha.size hg.size), fun k hk hne =>
    ((hg.block k (Nat.lt_of_lt_of_le hk (Nat.le_trans h.size ha.size)) (fun e => by have := hr k e.symm; omega)).trans (ha.block k (Nat.lt_of_lt_of_le hk h.size))).trans (h.block k hk hne)⟩
theorem cur_grown {T g n : Nat} {w1 a w2 : World} {row : Option Nat} (h : Cur T w1 g n) (ha : Below w1.heap.size w1 a) (hg : a.grownBy w2 row) (hr : ∀ k, row = some k → g < k) : Cur T w2 g n :=
  h.under ⟨hg.os.trans ha.os, hg.tape.trans ha.tape, hg.output.trans ha.output, Nat.le_trans ha.size hg.size, fun k hk =>
    have hl := h.lt
    (hg.block k (Nat.lt_of_lt_of_le (by omega) ha.size) (fun e => by have := hr k e.symm; omega)).trans (ha.block k (by omega))⟩

theorem Cur.mk_ {T : Nat} {w w' : World} {g n cap : Nat} {A : Option Addr} {i h : Int} (hg : w'.heap[g]? = some (.cells #[.slice A n cap, .int .i64 i, .int .i64 h] T (0, 0))) (h0 : 0 ≤ i) (h1 : i ≤ n)
    (hc : Code w g A n) (hch : Chg g w w') : Cur T w' g n := ⟨A, cap, i, h, hg, h0, h1, hc.chg hch⟩

/-- What a drawing call leaves: a number of which R holds, the cursor, all other blocks as they were. -/
def Drawn (T : Nat) (R : Int → Prop) (g n : Nat) (w : World) (e : Ending) (w' : World) : Prop :=
  ∃ x : Int, e = .returned (.int .i64 x) ∧ R x ∧ Cur T w' g n ∧ Chg g w w'
end Go.Proofs.Ytiejilmgchmppaa
/- CurA: The contracts of the drawing functions over a cursor. -/
namespace Go.Proofs.Ytiejilmgchmppaa
open Go.RowKit

set_option maxHeartbeats 400000 in
theorem byte_end (g n cap : Nat) (A : Option Addr) (i h : Int) (w : World) (hg : w.heap[g]? = some (.cells #[.slice A n cap, .int .i64 i, .int .i64 h] 72 (0, 0))) (hin : (n : Int) ≤ i) (hi0 : 0 ≤ i) (hin' : i ≤ n) (hc : Code w g A n) :
    Calls Try.prog 65 #[.pointer (some ⟨g, 0, none⟩)] w (Drawn 72 (fun x => 0 ≤ x ∧ x < 256) g n w) := by
  have c0 : w.cell? ⟨g, 0, none⟩ = some (.slice A n cap) := cell_of_row w g 0 _ _ _ hg
  have c1 : w.cell? ⟨g, 1, none⟩ = some (.int .i64 i) := cell_of_row w g 1 _ _ _ hg
  have c2 : w.cell? ⟨g, 2, none⟩ = some (.int .i64 h) := cell_of_row w g 2 _ _ _ hg
  have f2 : w.frozen? ⟨g, 2, none⟩ = false := frozen_of_row w g 2 _ _ hg
  have HG := Lib.hid hg
  clear hg
  go_enter Try.func65, Try.ntmps65
  go_wp2
  go_quiet (fail)
  go_wp2
  go_quiet (fail)
  go_wp2
  go_ret
  have hch : Chg g w (w.setCell ⟨g, 2, none⟩ (.int .i64 (wrap64 (wrap64 (h * 6364136223846793005) + 1442695040888963407)))) := (Chg.refl g w).set 2 _
  exact ⟨_, rfl, and255 _, Cur.mk_ (heap_setCell_same _ _ 2 _ _ _ HG.out) hi0 hin' hc ((hch.drewN _).drewN _), (hch.drewN _).drewN _⟩

set_option maxHeartbeats 800000 in
theorem byte_mid (g n cap b o j : Nat) (h x : Int) (w : World) (hg : w.heap[g]? = some (.cells #[.slice (some ⟨b, o, none⟩) n cap, .int .i64 j, .int .i64 h] 72 (0, 0))) (hin : j < n) (hb : b ≠ g)
    (hx : w.cell? ⟨b, o + j, none⟩ = some (.int .u8 x)) (hx0 : 0 ≤ x) (hx1 : x ≤ 255) (hc : Code w g (some ⟨b, o, none⟩) n) :
    Calls Try.prog 65 #[.pointer (some ⟨g, 0, none⟩)] w (Drawn 72 (fun x => 0 ≤ x ∧ x < 256) g n w) := by
  have hn := hc.1
  unfold maxLen at hn
  have c0 : w.cell? ⟨g, 0, none⟩ = some (.slice (some ⟨b, o, none⟩) n cap) := cell_of_row w g 0 _ _ _ hg
  have c1 : w.cell? ⟨g, 1, none⟩ = some (.int .i64 j) := cell_of_row w g 1 _ _ _ hg
  have c2 : w.cell? ⟨g, 2, none⟩ = some (.int .i64 h) := cell_of_row w g 2 _ _ _ hg
  have f1 : w.frozen? ⟨g, 1, none⟩ = false := frozen_of_row w g 1 _ _ hg
  have f2 : w.frozen? ⟨g, 2, none⟩ = false := frozen_of_row w g 2 _ _ hg
  have hx' : ∀ v, (w.setCell ⟨g, 2, none⟩ v).cell? ⟨b, o + j, none⟩ = some (.int .u8 x) := fun v => by
    rw [World.cell?_setCell_other w ⟨g, 2, none⟩ ⟨b, o + j, none⟩ v (by intro e; injection e; exact hb (Eq.symm (by assumption)))]; exact hx
  have HG := Lib.hid hg
  clear hg hx
  go_enter Try.func65, Try.ntmps65
  go_wp2
  go_quiet (fail)
  go_wp2
  go_quiet (fail)
  go_wp2
  go_quiet (fail)
  go_wp2
  go_ret
  refine ⟨_, rfl, and255 _, Cur.mk_ (heap_setCell_same _ _ 1 _ _ _ (heap_setCell_same _ _ 2 _ _ _ HG.out)) ?_ ?_ hc ?_, ?_⟩
  · omega
  · omega
  all_goals repeat (first | exact Chg.refl _ _ | apply Chg.drewN | apply Chg.set)

theorem byte_any (g n : Nat) (w : World) (hc : Cur 72 w g n) : Calls Try.prog 65 #[.pointer (some ⟨g, 0, none⟩)] w (Drawn 72 (fun x => 0 ≤ x ∧ x < 256) g n w) := by
  obtain ⟨A, cap, i, h, hg, h0, h1, hcode⟩ := hc
  by_cases hi : i < n
  · obtain ⟨j, rfl⟩ : ∃ j : Nat, i = (j : Int) := ⟨i.toNat, by omega⟩
    obtain ⟨b, o, rfl, hb, x, hx0, hx1, hx⟩ := hcode.2 j (by omega)
    exact byte_mid g n cap b o j h x w hg (by omega) (by omega) hx hx0 hx1 hcode
  · exact byte_end g n cap A i h w hg (by omega) h0 h1 hcode

set_option maxHeartbeats 400000 in
theorem below_any (g n : Nat) (m : Int) (w : World) (hm : 0 < m) (hm2 : m ≤ 2147483648) (hc : Cur 72 w g n) :
    Calls Try.prog 47 #[.pointer (some ⟨g, 0, none⟩), .int .i64 m] w (Drawn 72 (fun x => 0 ≤ x ∧ x < m) g n w) := by
  by_cases h : m ≤ 256
  · go_enter Try.func47, Try.ntmps47
    go_wp2_with fail
    refine (byte_any g n _ hc).mono ?_
    rintro e w1 ⟨x, rfl, hx, hcur, hch⟩
    go_wp2
    go_ret
    exact ⟨_, rfl, ⟨Int.emod_nonneg _ (by omega), Int.emod_lt_of_pos _ hm⟩, hcur, hch⟩
  · go_enter Try.func47, Try.ntmps47
    go_wp2_with fail
    refine (byte_any g n _ hc).mono ?_
    rintro e w1 ⟨x, rfl, hx, hcur1, hch1⟩
    go_wp2_with fail
    refine (byte_any g n _ hcur1).mono ?_
    rintro e w2 ⟨y, rfl, hy, hcur2, hch2⟩
    go_wp2_with fail
    refine (byte_any g n _ hcur2).mono ?_
    rintro e w3 ⟨z, rfl, hz, hcur3, hch3⟩
    go_wp2_with fail
    refine (byte_any g n _ hcur3).mono ?_
    rintro e w4 ⟨u, rfl, hu, hcur4, hch4⟩
    obtain ⟨hx0, hx1⟩ := hx
    obtain ⟨hy0, hy1⟩ := hy
    obtain ⟨hz0, hz1⟩ := hz
    obtain ⟨hu0, hu1⟩ := hu
    go_wp2
    go_ret
    exact ⟨_, rfl, ⟨Int.emod_nonneg _ (by omega), Int.emod_lt_of_pos _ hm⟩, hcur4, ((hch1.trans hch2).trans hch3).trans hch4⟩

/-- A post for a drawn truth value. -/
def DrawnB (T g n : Nat) (w : World) (e : Ending) (w' : World) : Prop := ∃ x : Bool, e = .returned (.bool x) ∧ Cur T w' g n ∧ Chg g w w'

theorem once_any (g n : Nat) (m : Int) (w : World) (hm : 0 < m) (hm2 : m ≤ 2147483648) (hc : Cur 72 w g n) :
    Calls Try.prog 22 #[.pointer (some ⟨g, 0, none⟩), .int .i64 m] w (DrawnB 72 g n w) := by
  go_enter Try.func22, Try.ntmps22
  go_wp2_with fail
  refine (below_any g n m _ hm hm2 hc).mono ?_
  rintro e w1 ⟨x, rfl, hx, hcur, hch⟩
  go_wp2
  go_ret
  exact ⟨_, rfl, hcur, hch⟩

set_option maxRecDepth 100000 in
set_option maxHeartbeats 400000 in
theorem new_any (A : Option Addr) (n cap : Nat) (w : World) (hc : CodeW w A n) :
    Calls Try.prog 21 #[.slice A n cap] w fun e w' => e = .returned (.pointer (some ⟨w.heap.size, 0, none⟩)) ∧ Cur 72 w' w.heap.size n ∧ Below w.heap.size w w' := by
  have hm := hc.1
  unfold maxLen at hm
  go_enter Try.func21, Try.ntmps21
  go_wp2
  go_loop [3, 4] (fun h i => ∃ k : Nat, k ≤ n ∧ i = .int .i64 k ∧ ∃ x : Int, h = .int .i64 x) (fun _ i => n - (intOf i).toNat)
  case atStart => exact ⟨0, Nat.zero_le _, rfl, _, rfl⟩
  case round =>
    obtain ⟨k, hk, rfl, x, rfl⟩ := hrel
    by_cases hlt : k < n
    · by_cases h4 : k < 4000
      · obtain ⟨b, o, rfl, hb, y, hy0, hy1, hy⟩ := hc.2 k hlt
        clear hc
        go_wp2
        go_round
        case rel => exact ⟨k + 1, by omega, by go_num, _, rfl⟩
        case measure => simp [intOf]; omega
      · have HC := Lib.hid hc
        clear hc
        go_wp2
        go_ret
        have hb := (Below.refl w.heap.size w).alloc (Nat.le_refl _) (.cells #[.slice A n cap, .int .i64 0, .int .i64 x] 72)
        exact ⟨rfl, ⟨A, cap, 0, x, heap_alloc_new w _, by omega, by omega, HC.out.code hb (Nat.le_refl _)⟩, hb⟩
    · have HC := Lib.hid hc
      clear hc
      go_wp2
      go_ret
      have hb := (Below.refl w.heap.size w).alloc (Nat.le_refl _) (.cells #[.slice A n cap, .int .i64 0, .int .i64 x] 72)
      exact ⟨rfl, ⟨A, cap, 0, x, heap_alloc_new w _, by omega, by omega, HC.out.code hb (Nat.le_refl _)⟩, hb⟩
end Go.Proofs.Ytiejilmgchmppaa
/- DrN: The drawing of a net: what is carried along; when a net is valid. -/
namespace Go.Proofs.Ytiejilmgchmppaa
open Go.RowKit
set_option linter.unusedVariables false
set_option linter.unusedSimpArgs false

abbrev TCur : Nat := 72
/-- A struct of four cells in block F. -/
def BoxN (w : World) (F : Nat) (v0 v1 v2 v3 : Value) : Prop := w.heap[F]? = some (.cells #[v0, v1, v2, v3] 28 (0, 0))
theorem BoxN.lt {w : World} {F : Nat} {v0 v1 v2 v3 : Value} (h : BoxN w F v0 v1 v2 v3) : F < w.heap.size := (Array.getElem?_eq_some_iff.1 h).1
theorem BoxN.cells {w : World} {F : Nat} {v0 v1 v2 v3 : Value} (h : BoxN w F v0 v1 v2 v3) : (w.cell? ⟨F, 0, none⟩ = some v0 ∧ w.cell? ⟨F, 1, none⟩ = some v1 ∧ w.cell? ⟨F, 2, none⟩ = some v2 ∧ w.cell? ⟨F, 3, none⟩ = some v3) ∧ ∀ i, w.frozen? ⟨F, i, none⟩ = false :=
  ⟨⟨box_cell h 0 _ rfl, box_cell h 1 _ rfl, box_cell h 2 _ rfl, box_cell h 3 _ rfl⟩, fun i => frozen_of_row _ _ i _ _ h⟩
theorem BoxN.at {w w' : World} {F : Nat} {v0 v1 v2 v3 : Value} (h : BoxN w F v0 v1 v2 v3) (hk : w'.heap[F]? = w.heap[F]?) : BoxN w' F v0 v1 v2 v3 := hk.trans h
theorem BoxN.val {w : World} {F : Nat} {v0 v1 v2 v3 : Value} (h : BoxN w F v0 v1 v2 v3) : w.heap[F]'h.lt = .cells #[v0, v1, v2, v3] 28 (0, 0) := by
  have h0 : w.heap[F]? = some (.cells #[v0, v1, v2, v3] 28 (0, 0)) := h
  rw [Array.getElem?_eq_getElem h.lt] at h0; injection h0
theorem BoxN.set1 {w : World} {F : Nat} {v0 v1 v2 v3 : Value} (h : BoxN w F v0 v1 v2 v3) (u : Value) : BoxN (w.setCell ⟨F, 1, none⟩ u) F v0 u v2 v3 := by
  have hlt := h.lt
  have e := h.val
  unfold BoxN
  simp [World.setCell, hlt, Array.getElem_modify_self, e]
theorem BoxN.set2 {w : World} {F : Nat} {v0 v1 v2 v3 : Value} (h : BoxN w F v0 v1 v2 v3) (u : Value) : BoxN (w.setCell ⟨F, 2, none⟩ u) F v0 v1 u v3 := by
  have hlt := h.lt
  have e := h.val
  unfold BoxN
  simp [World.setCell, hlt, Array.getElem_modify_self, e]
theorem BoxN.set3 {w : World} {F : Nat} {v0 v1 v2 v3 : Value} (h : BoxN w F v0 v1 v2 v3) (u : Value) : BoxN (w.setCell ⟨F, 3, none⟩ u) F v0 v1 v2 u := by
  have hlt := h.lt
  have e := h.val
  unfold BoxN
  simp [World.setCell, hlt, Array.getElem_modify_self, e]
/-- A net under construction in block F; the result's block E; the cursor in block G: what lay when the drawing began lies as it lay, but for the cursor. -/
structure DrNet (w0 w : World) (E F G nn : Nat) (v0 v1 v2 v3 : Value) : Prop where
  box : BoxN w F v0 v1 v2 v3
  res : BoxN w E (.int .i64 0) (.slice none 0 0) (.slice none 0 0) (.slice none 0 0)
  cur : Cur TCur w G nn
  chg : Chg G w0 w
  hE : w0.heap.size ≤ E
  hF : w0.heap.size ≤ F
  hEF : E ≠ F
  hG : G < w0.heap.size
section
variable {w0 w w' : World} {E F G nn : Nat} {v0 v1 v2 v3 : Value}
theorem DrNet.call (h : DrNet w0 w E F G nn v0 v1 v2 v3) (hc : Cur TCur w' G nn) (hch : Chg G w w') : DrNet w0 w' E F G nn v0 v1 v2 v3 :=
  ⟨h.box.at (hch.block F h.box.lt (by have := h.hF; have := h.hG; omega)), h.res.at (hch.block E h.res.lt (by have := h.hE; have := h.hG; omega)), hc, h.chg.trans hch, h.hE, h.hF, h.hEF, h.hG⟩
theorem DrNet.below (h : DrNet w0 w E F G nn v0 v1 v2 v3) (hb : Below w.heap.size w w') : DrNet w0 w' E F G nn v0 v1 v2 v3 :=
  ⟨h.box.at (hb.block F h.box.lt), h.res.at (hb.block E h.res.lt), h.cur.keep hb, h.chg.trans (Chg.of_below hb), h.hE, h.hF, h.hEF, h.hG⟩
theorem DrNet.grown {row : Option Nat} (h : DrNet w0 w E F G nn v0 v1 v2 v3) (hg : w.grownBy w' row) (hr : ∀ g, row = some g → w0.heap.size ≤ g ∧ g ≠ F ∧ g ≠ E) : DrNet w0 w' E F G nn v0 v1 v2 v3 :=
  ⟨h.box.at (hg.block F h.box.lt (fun e => (hr F e.symm).2.1 rfl)), h.res.at (hg.block E h.res.lt (fun e => (hr E e.symm).2.2 rfl)), cur_grown h.cur (Below.refl _ _) hg (fun g e => by have := (hr g e).1; have := h.hG; omega),
    chg_grown h.chg (Below.refl _ _) hg (fun g e => (hr g e).1), h.hE, h.hF, h.hEF, h.hG⟩
theorem DrNet.stored (h : DrNet w0 w E F G nn v0 v1 v2 v3) {u0 u1 u2 u3 : Value} {i : Nat} {u : Value} (hb : BoxN (w.setCell ⟨F, i, none⟩ u) F u0 u1 u2 u3) : DrNet w0 (w.setCell ⟨F, i, none⟩ u) E F G nn u0 u1 u2 u3 := by
  have hF := h.hF
  have hG := h.hG
  have hEF := h.hEF
  refine ⟨hb, h.res.at (Below.heap_setCell w _ _ E (by exact hEF)), ?_, ?_, h.hE, h.hF, h.hEF, h.hG⟩
  · exact h.cur.under ⟨rfl, rfl, rfl, by simp, fun k hk => Below.heap_setCell w _ _ k (by dsimp only; omega)⟩
  · exact ⟨h.chg.os, h.chg.tape, h.chg.output, by simpa using h.chg.size, fun k hk hne => (Below.heap_setCell w _ _ k (by dsimp only; omega)).trans (h.chg.block k hk hne)⟩
end
section
variable {α ρ : Type} {f : ρ → List Value} {k T : Nat} {P : Ow α} {B : Nat} {bs : List Nat} {w w' : World} {v : Value} {rows : List ρ} {L : List α}
theorem GrR.chg (good : P.Good) (h : GrR f k T P B bs w v rows L) {G : Nat} (hc : Chg G w w') (hG : G < B) : GrR f k T P B bs w' v rows L :=
  h.at good fun b hb => hc.block b (h.lt good hb).1 (by have := (h.lt good hb).2; omega)
theorem GrR.far (good : P.Good) (h : GrR f k T P B bs w v rows L) {F i : Nat} {u : Value} (hF : F ∉ blkL v ++ bs) : GrR f k T P B bs (w.setCell ⟨F, i, none⟩ u) v rows L :=
  h.at good fun b hb => Below.heap_setCell w _ _ b (by intro e; dsimp only at e; subst e; exact hF hb)
theorem GrR.keepG (good : P.Good) (h : GrR f k T P B bs w v rows L) {row : Option Nat} (hg : w.grownBy w' row) (hr : ∀ g, row = some g → g ∉ blkL v ++ bs) : GrR f k T P B bs w' v rows L :=
  h.at good fun b hb => hg.block b (h.lt good hb).1 (fun e => hr b e.symm hb)
end
def fAnd (x : DAnd) : List Value := [.int .i64 x.1, .int .i64 x.2]
theorem fAnd_len (x : DAnd) : (fAnd x).length = 2 := rfl
theorem owAnd_of {x y : Int} (hx : Fit x) (hy : Fit y) (w : World) : owAnd [] w (fAnd (x, y)) (x, y) := ⟨[], [], _, _, rfl, rfl, ⟨rfl, rfl, hx⟩, ⟨rfl, rfl, hy⟩⟩
theorem owInt_of' {x : Int} (hx : Fit x) (w : World) : owInt [] w (fInt x) x := ⟨rfl, rfl, hx⟩
/-- The AND nodes of a net whose first AND node has the number F0. -/
def AndsOk (F0 : Nat) (D : List DAnd) : Prop := ∀ (j : Nat) (d : DAnd), D[j]? = some d → ∃ x y : Nat, d = ((x : Int), (y : Int)) ∧ x / 2 < F0 + j ∧ y / 2 < F0 + j
theorem andsOk_nil (F0 : Nat) : AndsOk F0 [] := fun j d h => by simp at h
theorem andsOk_add {F0 : Nat} {D : List DAnd} (h : AndsOk F0 D) {x y : Nat} (hx : x / 2 < F0 + D.length) (hy : y / 2 < F0 + D.length) : AndsOk F0 (D ++ [((x : Int), (y : Int))]) := fun j d hd => by
  rw [List.getElem?_append] at hd
  split at hd
  · exact h j d hd
  · rename_i hlt
    have hj : j - D.length = 0 := by
      have := (List.getElem?_eq_some_iff.1 hd).1
      simp at this; omega
    rw [hj] at hd
    injection hd with hd
    have e : j = D.length := by omega
    exact ⟨x, y, hd.symm, by omega, by omega⟩
/-- Literals of nodes below N. -/
def LitsOk (N : Nat) (R : List Int) : Prop := ∀ r ∈ R, ∃ x : Nat, r = (x : Int) ∧ x / 2 < N
theorem litsOk_nil (N : Nat) : LitsOk N [] := fun r h => by cases h
theorem litsOk_add {N : Nat} {R : List Int} (h : LitsOk N R) {x : Nat} (hx : x / 2 < N) : LitsOk N (R ++ [(x : Int)]) := fun r hr => by
  rcases List.mem_append.1 hr with hr | hr
  · exact h r hr
  · exact ⟨x, by simpa using hr, hx⟩
/-- Sequential elements whose literals are of nodes below N. -/
def SeqsOk (N : Nat) (S : List DSeq) : Prop := ∀ s ∈ S, seqB s = true ∧ LitsOk N s.2.2
theorem seqsOk_nil (N : Nat) : SeqsOk N [] := fun r h => by cases h
theorem seqsOk_add {N : Nat} {S : List DSeq} (h : SeqsOk N S) {s : DSeq} (h1 : seqB s = true) (h2 : LitsOk N s.2.2) : SeqsOk N (S ++ [s]) := fun r hr => by
  rcases List.mem_append.1 hr with hr | hr
  · exact h r hr
  · have : r = s := by simpa using hr
    subst this; exact ⟨h1, h2⟩
theorem net_ok {I : Nat} {S : List DSeq} {D : List DAnd} {R : List Int} (hI : I ≤ 20) (hS : S.length ≤ 12) (hD : D.length ≤ 300) (hR : R.length ≤ 16) (h1 : SeqsOk (1 + I + S.length + D.length) S) (h2 : AndsOk (1 + I + S.length) D) (h3 : LitsOk (1 + I + S.length + D.length) R) :
    netB ((I : Int), S, D, R) = true := by
  have hz : sizesB ((I : Int), S, D, R) = true := decide_eq_true (by dsimp only; omega)
  have hP := sizeP_of hz
  have hf : firN ((I : Int), S, D, R) = 1 + I + S.length := by unfold firN; simp
  have hn : netN ((I : Int), S, D, R) = 1 + I + S.length + D.length := by unfold netN; rw [hf]
  have lit : ∀ (N : Nat) (r : Int), (∃ x : Nat, r = (x : Int) ∧ x / 2 < N) → litB (N : Int) r = true := fun N r ⟨x, e, h⟩ => by subst e; exact lit_yes (by omega)
  unfold netB
  rw [hz, hP.nc, hn]
  simp only [Bool.true_and, Bool.and_eq_true]
  refine ⟨List.all_eq_true.2 fun s hs => (h1 s hs).1, ?_, List.all_eq_true.2 fun r hr => lit _ _ ?_⟩
  · unfold andsB andsK
    refine List.all_eq_true.2 fun k hk => ?_
    have hkl := List.mem_range.1 hk
    obtain ⟨d, hd⟩ : ∃ d, D[k]? = some d := ⟨_, List.getElem?_eq_getElem hkl⟩
    obtain ⟨x, y, rfl, hx, hy⟩ := h2 k d hd
    show ((D[k]?).any _) = true
    rw [hd, Option.any_some]
    unfold andAt
    rw [hP.fir, hf, Bool.and_eq_true]
    have e : (((1 + I + S.length : Nat) : Int) + (k : Int)) = ((1 + I + S.length + k : Nat) : Int) := by omega
    rw [e]
    exact ⟨lit _ _ ⟨x, rfl, hx⟩, lit _ _ ⟨y, rfl, hy⟩⟩
  · unfold rootsL at hr
    rcases List.mem_append.1 hr with hr | hr
    · exact h3 r hr
    · obtain ⟨s, hs, hr⟩ := List.mem_flatMap.1 hr
      exact (h1 s hs).2 r hr
end Go.Proofs.Ytiejilmgchmppaa
/- DrS: The drawing of a net: the state of the net under construction as one structure; how an element is added. -/
namespace Go.Proofs.Ytiejilmgchmppaa
open Go.RowKit
set_option linter.unusedVariables false
set_option linter.unusedSimpArgs false

/-- None of a growing slice's blocks is among Z. -/
def Off (Z : List Nat) (v : Value) (bs : List Nat) : Prop := ∀ b ∈ blkL v ++ bs, b ∉ Z
theorem off_nil (Z : List Nat) : Off Z (.slice none 0 0) [] := fun b hb => by simp [blkL_nil] at hb
theorem Off.own {Z : List Nat} {v : Value} {bs : List Nat} (h : Off Z v bs) {g : Nat} (e : v.ownBlock = some g) : g ∉ Z := h g (List.mem_append.2 (.inl (mem_blkL.2 e)))
theorem Off.not {Z : List Nat} {v : Value} {bs : List Nat} (h : Off Z v bs) {z : Nat} (hz : z ∈ Z) : z ∉ blkL v ++ bs := fun hb => h z hb hz
theorem Off.grow {Z : List Nat} {v v' : Value} {bs cs : List Nat} {n : Nat} (h : Off Z v bs) (hat : v'.ownBlock = v.ownBlock ∨ v'.ownBlock = some n) (hz : ∀ z ∈ Z, z < n) (hc : ∀ c ∈ cs, c ∉ Z) : Off Z v' (bs ++ cs) := fun b hb hbz => by
  rcases List.mem_append.1 hb with hb | hb
  · rcases hat with e | e
    · exact h.own (by rw [← e]; exact mem_blkL.1 hb) hbz
    · have e1 := mem_blkL.1 hb
      rw [e] at e1
      injection e1 with e1
      have := hz b hbz
      omega
  · rcases List.mem_append.1 hb with hb | hb
    · exact h b (List.mem_append.2 (.inr hb)) hbz
    · exact hc b hb hbz
theorem nodup_add {a bs cs : List Nat} (h : (a ++ bs).Nodup) (hc : cs.Nodup) (hn : ∀ c ∈ cs, c ∉ a ++ bs) : (a ++ (bs ++ cs)).Nodup := by
  rw [← List.append_assoc]
  exact List.nodup_append.2 ⟨h, hc, fun x hx y hy e => hn y hy (e ▸ hx)⟩
theorem ramOk {N T I P Q R Z : Nat} (hT : T = 2 * N) (hI : I < 32) (hP : P < T) (hQ : Q < T) (hR : R < T) (hZ : Z < T) : seqB (1, (I : Int), [(P : Int), (Q : Int), (R : Int), (Z : Int)]) = true ∧ LitsOk N [(P : Int), (Q : Int), (R : Int), (Z : Int)] := by
  refine ⟨decide_eq_true (Or.inr ⟨rfl, by dsimp only; omega, by dsimp only; omega, rfl⟩), fun r hr => ?_⟩
  simp only [List.mem_cons, List.not_mem_nil, or_false] at hr
  rcases hr with rfl | rfl | rfl | rfl <;> exact ⟨_, rfl, by omega⟩
theorem flopOk {N T I X : Nat} (hT : T = 2 * N) (hI : I < 2) (hX : X < T) : seqB (0, (I : Int), [(X : Int)]) = true ∧ LitsOk N [(X : Int)] := by
  refine ⟨decide_eq_true (Or.inl ⟨rfl, by dsimp only; omega, by dsimp only; omega, rfl⟩), fun r hr => ?_⟩
  simp only [List.mem_cons, List.not_mem_nil, or_false] at hr
  subst hr
  exact ⟨_, rfl, by omega⟩
theorem owSeq_of {g : Nat} {w : World} {y I : Int} {L : List Int} {t : TypeId} (hk : Fit y) (hI : Fit I) (h : w.heap[g]? = some (.cells (L.flatMap fun x => [Value.int .i64 x]).toArray t (0, 0))) (hm : L.length ≤ 1000) (hf : ∀ x ∈ L, Few x) :
    owSeq [g] w (fV3 (.int .i64 y, .int .i64 I, .slice (some ⟨g, 0, none⟩) L.length L.length)) (y, I, L) :=
  ⟨[], [], [g], _, _, _, rfl, rfl, ⟨rfl, rfl, hk⟩, ⟨rfl, rfl, hI⟩, own_flat1 L h hm (Nat.le_refl _) hf⟩

abbrev TAnd : Nat := 53
abbrev TSeq : Nat := 56
abbrev TInt1 : Nat := 3
abbrev vNil : Value := .slice none 0 0
structure NetSt (w0 w : World) (E F G nn : Nat) (I : Int) (v1 vA v3 : Value) (rows : List V3) (S : List DSeq) (bs : List Nat) (D : List DAnd) (R : List Int) : Prop where
  dr : DrNet w0 w E F G nn (.int .i64 I) v1 vA v3
  a : GrR fAnd 2 TAnd owAnd w0.heap.size [] w vA D D
  s : GrR fV3 3 TSeq owSeq w0.heap.size bs w v1 rows S
  o : GrR fInt 1 TInt1 owInt w0.heap.size [] w v3 R R
  oA : Off [E, F] vA []
  oS : Off (E :: F :: blkL vA) v1 bs
  oO : Off (E :: F :: (blkL vA ++ (blkL v1 ++ bs))) v3 []
section
variable {w0 w w' : World} {E F G nn : Nat} {I : Int} {v1 vA v3 : Value} {rows : List V3} {S : List DSeq} {bs : List Nat} {D : List DAnd} {R : List Int}
theorem NetSt.call (h : NetSt w0 w E F G nn I v1 vA v3 rows S bs D R) (hc : Cur TCur w' G nn) (hch : Chg G w w') : NetSt w0 w' E F G nn I v1 vA v3 rows S bs D R :=
  ⟨h.dr.call hc hch, h.a.chg gow_And hch h.dr.hG, h.s.chg gow_Seq hch h.dr.hG, h.o.chg owInt_good hch h.dr.hG, h.oA, h.oS, h.oO⟩
theorem NetSt.ltA (h : NetSt w0 w E F G nn I v1 vA v3 rows S bs D R) {z : Nat} (hz : z ∈ E :: F :: blkL vA) : z < w.heap.size := by
  simp only [List.mem_cons] at hz
  rcases hz with rfl | rfl | hz
  · exact h.dr.res.lt
  · exact h.dr.box.lt
  · exact (h.a.lt gow_And (List.mem_append.2 (.inl hz))).1
theorem NetSt.ltS (h : NetSt w0 w E F G nn I v1 vA v3 rows S bs D R) {z : Nat} (hz : z ∈ E :: F :: (blkL vA ++ (blkL v1 ++ bs))) : z < w.heap.size := by
  simp only [List.mem_cons] at hz
  rcases hz with rfl | rfl | hz
  · exact h.dr.res.lt
  · exact h.dr.box.lt
  · rcases List.mem_append.1 hz with hz | hz
    · exact (h.a.lt gow_And (List.mem_append.2 (.inl hz))).1
    · exact (h.s.lt gow_Seq hz).1
theorem NetSt.fresh (h : NetSt w0 w E F G nn I v1 vA v3 rows S bs D R) {c : Nat} (hc : w.heap.size ≤ c) : c ∉ blkL v1 ++ bs ∧ c ∉ E :: F :: blkL vA ∧ w0.heap.size ≤ c :=
  ⟨fun hb => by have := (h.s.lt gow_Seq hb).1; omega, fun hb => by have := h.ltA hb; omega, by have := h.dr.chg.size; omega⟩
theorem NetSt.addS {w6 : World} {n : Nat} {v1' : Value} {r : V3} {x : DSeq} {cs : List Nat} (h : NetSt w0 w E F G nn I v1 vA vNil rows S bs D [])
    (hown : w6.ownsRow w0.heap.size TSeq 3 v1' n (rows.flatMap fV3 ++ fV3 r)) (hn : n = rows.length + 1) (hgrow : w.grownBy w6 v1.ownBlock) (hat : v1'.ownBlock = v1.ownBlock ∨ v1'.ownBlock = some w.heap.size)
    (hx : owSeq cs w (fV3 r) x) (hcn : cs.Nodup) (hc : ∀ c ∈ cs, c ∉ blkL v1 ++ bs ∧ c ∉ E :: F :: blkL vA ∧ w0.heap.size ≤ c) :
    NetSt w0 (w6.setCell ⟨F, 1, none⟩ v1') E F G nn I v1' vA vNil (rows ++ [r]) (S ++ [x]) (bs ++ cs) D [] := by
  have hr : ∀ g, v1.ownBlock = some g → w0.heap.size ≤ g ∧ g ≠ F ∧ g ≠ E := fun g e => by
    have := h.oS.own e
    simp only [List.mem_cons, not_or] at this
    exact ⟨(h.s.own.blk_lt e).2, this.2.1, this.1⟩
  have hd := h.dr.grown hgrow hr
  have oS' : Off (E :: F :: blkL vA) v1' (bs ++ cs) := h.oS.grow hat (fun z hz => h.ltA hz) (fun c hcc => (hc c hcc).2.1)
  have F1 : F ∉ blkL v1' ++ (bs ++ cs) := oS'.not (by simp)
  have F2 : F ∉ blkL vA ++ [] := h.oA.not (by simp)
  have ha : GrR fAnd 2 TAnd owAnd w0.heap.size [] w6 vA D D := h.a.keepG gow_And hgrow (fun g e hb => h.oS.own e (by simp only [List.append_nil] at hb; simp [hb]))
  have hs : GrR fV3 3 TSeq owSeq w0.heap.size (bs ++ cs) w6 v1' (rows ++ [r]) (S ++ [x]) := h.s.addV (n := n) gow_Seq (Below.refl _ _) hgrow hown hn hat hx (nodup_add h.s.nd hcn fun c hcc => (hc c hcc).1) (fun c hcc => (hc c hcc).2.2)
  exact ⟨hd.stored (hd.box.set1 v1'), ha.far gow_And F2, hs.far gow_Seq F1, GrR.nil _ _ _ _ _ _, h.oA, oS', off_nil _⟩
theorem NetSt.addO {w6 : World} {n : Nat} {v3' : Value} {x : Int} (h : NetSt w0 w E F G nn I v1 vA v3 rows S bs D R)
    (hown : w6.ownsRow w0.heap.size TInt1 1 v3' n (R.flatMap fInt ++ fInt x)) (hn : n = R.length + 1) (hgrow : w.grownBy w6 v3.ownBlock) (hat : v3'.ownBlock = v3.ownBlock ∨ v3'.ownBlock = some w.heap.size) (hx : Fit x) :
    NetSt w0 (w6.setCell ⟨F, 3, none⟩ v3') E F G nn I v1 vA v3' rows S bs D (R ++ [x]) := by
  have hr : ∀ g, v3.ownBlock = some g → w0.heap.size ≤ g ∧ g ≠ F ∧ g ≠ E := fun g e => by
    have := h.oO.own e
    simp only [List.mem_cons, not_or] at this
    exact ⟨(h.o.own.blk_lt e).2, this.2.1, this.1⟩
  have hd := h.dr.grown hgrow hr
  have oO' : Off (E :: F :: (blkL vA ++ (blkL v1 ++ bs))) v3' ([] ++ []) := h.oO.grow hat (fun z hz => h.ltS hz) (fun c hcc => by cases hcc)
  have F1 : F ∉ blkL v1 ++ bs := h.oS.not (by simp)
  have F2 : F ∉ blkL vA ++ [] := h.oA.not (by simp)
  have F3 : F ∉ blkL v3' ++ [] := oO'.not (by simp)
  have ha : GrR fAnd 2 TAnd owAnd w0.heap.size [] w6 vA D D := h.a.keepG gow_And hgrow (fun g e hb => h.oO.own e (by simp only [List.append_nil] at hb; simp [hb]))
  have hs : GrR fV3 3 TSeq owSeq w0.heap.size bs w6 v1 rows S := h.s.keepG gow_Seq hgrow (fun g e hb => h.oO.own e (by rcases List.mem_append.1 hb with hb | hb <;> simp [hb]))
  have ho : GrR fInt 1 TInt1 owInt w0.heap.size ([] ++ []) w6 v3' (R ++ [x]) (R ++ [x]) := h.o.addV (n := n) owInt_good (Below.refl _ _) hgrow hown hn hat (owInt_of' hx _) (by simpa using h.o.nd) (fun c hcc => by cases hcc)
  exact ⟨hd.stored (hd.box.set3 v3'), ha.far gow_And F2, hs.far gow_Seq F1, ho.far owInt_good F3, h.oA, h.oS, oO'⟩
/-- A drawn net: valid, and read from what has been made since. -/
def DrewNet (w : World) (G nn : Nat) (e : Ending) (w' : World) : Prop := ∃ (us : List Value) (n : DNet), e = .returned (.agg us.toArray) ∧ rdNet w.heap.size w'.heap.size w' us n ∧ netB n = true ∧ Cur TCur w' G nn ∧ Chg G w w'
/-- The result's block has been written behind a drawn net. -/
structure EndSt (w0 w w' : World) (E G nn : Nat) : Prop where
  cur : Cur TCur w' G nn
  chg : Chg G w0 w'
  same : ∀ b, b ≠ E → w'.heap[b]? = w.heap[b]?
  size : w'.heap.size = w.heap.size
  hG : G < w0.heap.size
  hE : w0.heap.size ≤ E
theorem EndSt.of (h : NetSt w0 w E F G nn I v1 vA v3 rows S bs D R) : EndSt w0 w w E G nn := ⟨h.dr.cur, h.dr.chg, fun _ _ => rfl, rfl, h.dr.hG, h.dr.hE⟩
theorem EndSt.set {i : Nat} {u : Value} (h : EndSt w0 w w' E G nn) : EndSt w0 w (w'.setCell ⟨E, i, none⟩ u) E G nn := by
  have hE := h.hE
  have hG := h.hG
  refine ⟨?_, ?_, fun b hb => (Below.heap_setCell w' _ _ b (by dsimp only; omega)).trans (h.same b hb), by rw [← h.size]; simp, hG, hE⟩
  · exact h.cur.under ⟨rfl, rfl, rfl, by simp, fun k hk => Below.heap_setCell w' _ _ k (by dsimp only; omega)⟩
  · exact ⟨h.chg.os, h.chg.tape, h.chg.output, by simpa using h.chg.size, fun k hk hne => (Below.heap_setCell w' _ _ k (by dsimp only; omega)).trans (h.chg.block k hk hne)⟩
theorem NetSt.read (h : NetSt w0 w E F G nn I v1 vA v3 rows S bs D R) (he : EndSt w0 w w' E G nn) (hI : Fit I) : rdNet w0.heap.size w'.heap.size w' [.int .i64 I, v1, vA, v3] (I, S, D, R) := by
  have ha : GrR fAnd 2 TAnd owAnd w0.heap.size [] w' vA D D := h.a.at gow_And fun b hb => he.same b (fun e => h.oA.not (z := E) (by simp) (e ▸ hb))
  have hs : GrR fV3 3 TSeq owSeq w0.heap.size bs w' v1 rows S := h.s.at gow_Seq fun b hb => he.same b (fun e => h.oS.not (z := E) (by simp) (e ▸ hb))
  have ho : GrR fInt 1 TInt1 owInt w0.heap.size [] w' v3 R R := h.o.at owInt_good fun b hb => he.same b (fun e => h.oO.not (z := E) (by simp) (e ▸ hb))
  exact ⟨_, _, _, _, rfl, ⟨rfl, hI⟩, hs.rd fV3_len rds_Seq gow_Seq, ha.rd fAnd_len rds_And gow_And, ho.rd fInt_len owInt_rds owInt_good⟩
end
end Go.Proofs.Ytiejilmgchmppaa
