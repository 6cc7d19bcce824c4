/-
  'copy' into a row, elements of k cells; zeros appended; what slices.overlaps says of two blocks.
-/
import Derived.Test.YtiejilmgchmppaaRgN
import Derived.Laws.CopyOwn
import Derived.Lib.AppendZerosOnto
import Derived.Lib.Overlaps
namespace Go.Proofs.Ytiejilmgchmppaa
open Go.RowKit
set_option linter.unusedVariables false
set_option linter.unusedSimpArgs false

theorem run_copy_rowK {P : Program} (w : World) (dT sT ty elem : TypeId) (k g o dLen dCap : Nat) (a : Addr) (sLen sCap : Nat) (cur : Array Value) (t : TypeId) (cs : List Value)
    (hu : P.underlying dT = some (.slice elem)) (hs : (P.info? elem).map (·.size) = some k)
    (hg : w.heap[g]? = some (.cells cur t (0, 0))) (hn : cs.length = Nat.min sLen dLen * k)
    (hsrc : ∀ j v, cs[j]? = some v → w.cell? (a.add j) = some v) (hfit : o + cs.length ≤ cur.size) (h1 : ∀ v ∈ cs, v.oneCell' = true) :
    (Builtin.copy_ #[dT, sT] ty #[.slice (some ⟨g, o, none⟩) dLen dCap, .slice (some a) sLen sCap]).run P w =
      .ok (goInt (Nat.min sLen dLen)) (w.setRow g (cur.toList.take o ++ cs ++ cur.toList.drop (o + cs.length)).toArray) := by
  have hl := run_loadCells_list (P := P) w a cs hsrc
  have hst := run_storeCells_at P g o t cs 0 cur w hg (by simpa using hfit) h1
  rw [hn] at hl
  cases hq : P.info? elem with
  | none => simp [hq] at hs
  | some i =>
    have hi : i.size = k := by simpa [hq] using hs
    simp only [Nat.add_zero] at hst
    simp [Builtin.copy_, run_underlying hu, Builtin.lenOf, Builtin.firstCells, sizeOf, typeInfo, hq, hi, hl, hst]
/-- Row g of w becomes L; no other block changes. -/
def RowTo (w w' : World) (g : Nat) (L : List Value) (t : TypeId) : Prop := w'.heap[g]? = some (.cells L.toArray t (0, 0)) ∧ w.grownBy w' (some g) ∧ w'.heap.size = w.heap.size
theorem rowTo_set (w : World) {g : Nat} {cur : Array Value} {t : TypeId} (L : List Value) (hg : w.heap[g]? = some (.cells cur t (0, 0))) : RowTo w (w.setRow g L.toArray) g L t :=
  ⟨setRow_heap w g cur _ t _ hg, ⟨rfl, rfl, rfl, by simp [World.setRow], fun k _ hk => setRow_other w g k _ (fun e => hk (by rw [e]))⟩, by simp [World.setRow]⟩
theorem wpList_copyK {P : Program} {w : World} {ops : Array Oper} {rest : List Oper} {o : Oper} {a : Act} {Q : Exit → Act → World → Prop} (hgd : o.guard = none) (d s : Operand) (dT sT : TypeId)
    (ho : o.op = .call { callee := .builtin .copy, args := #[d, s], argTypes := #[dT, sT] }) (elem : TypeId) (hu : P.underlying dT = some (.slice elem)) (k : Nat) (hsz : (P.info? elem).map (·.size) = some k)
    (g off dLen dCap : Nat) (ad : Addr) (sLen sCap : Nat) (hd : a.eval d = .slice (some ⟨g, off, none⟩) dLen dCap) (hs : a.eval s = .slice (some ad) sLen sCap)
    (cur : List Value) (t : TypeId) (hg : w.heap[g]? = some (.cells cur.toArray t (0, 0))) (cs : List Value) (hn : cs.length = Nat.min sLen dLen * k)
    (hsrc : ∀ j v, cs[j]? = some v → w.cell? (ad.add j) = some v) (hfit : off + cs.length ≤ cur.length) (h1 : ∀ v ∈ cs, v.oneCell' = true)
    (h : ∀ w', Hid (RowTo w w' g (splice cur off cs) t) → wpList P ops Q rest (a.put o.dst (goInt (Nat.min sLen dLen))) w') : wpList P ops Q (o :: rest) a w := by
  refine wpList_plain hgd fun K hK => ?_
  have hrun := run_copy_rowK (P := P) w dT sT o.type elem k g off dLen dCap ad sLen sCap cur.toArray t cs hu hsz hg hn hsrc (by simpa using hfit) h1
  unfold Oper.wp
  simp only [execOp, ho, resolve, invoke, builtin, Sem.run_bind, Sem.run_pure, Result.andThen_ok, List.map_toArray, List.map_cons, List.map_nil, hd, hs, hrun]
  refine hK _ _ (h _ (Lib.hid ?_))
  have := rowTo_set w (splice cur off cs) hg
  simpa [splice] using this
theorem step_copyK {P : Program} {ops : Array Oper} {o : Oper} {a : Act} {w : World} {K : Act → World → Prop} {Q : Exit → Act → World → Prop} {E : Prop} (hgd : o.guard = none) (d s : Operand) (dT sT : TypeId)
    (ho : o.op = .call { callee := .builtin .copy, args := #[d, s], argTypes := #[dT, sT] }) (elem : TypeId) (hu : P.underlying dT = some (.slice elem)) (k : Nat) (hsz : (P.info? elem).map (·.size) = some k)
    (g off dLen dCap : Nat) (ad : Addr) (sLen sCap : Nat) (hd : a.eval d = .slice (some ⟨g, off, none⟩) dLen dCap) (hs : a.eval s = .slice (some ad) sLen sCap)
    (cur : List Value) (t : TypeId) (hg : w.heap[g]? = some (.cells cur.toArray t (0, 0))) (cs : List Value) (hn : cs.length = Nat.min sLen dLen * k)
    (hsrc : ∀ j v, cs[j]? = some v → w.cell? (ad.add j) = some v) (hfit : off + cs.length ≤ cur.length) (h1 : ∀ v ∈ cs, v.oneCell' = true)
    (h : ∀ w', Hid (RowTo w w' g (splice cur off cs) t) → K (a.put o.dst (goInt (Nat.min sLen dLen))) w') :
    if Region.wanted o (yielded ops a.tmps) = true then Oper.wp P o a w K Q else E := by
  have hw : Region.wanted o (yielded ops a.tmps) = true := by simp [Region.wanted, hgd]
  rw [if_pos hw]
  have hrun := run_copy_rowK (P := P) w dT sT o.type elem k g off dLen dCap ad sLen sCap cur.toArray t cs hu hsz hg hn hsrc (by simpa using hfit) h1
  unfold Oper.wp
  simp only [execOp, ho, resolve, invoke, builtin, Sem.run_bind, Sem.run_pure, Result.andThen_ok, List.map_toArray, List.map_cons, List.map_nil, hd, hs, hrun]
  refine h _ (Lib.hid ?_)
  have := rowTo_set w (splice cur off cs) hg
  simpa [splice] using this
theorem cells_of_row {w : World} {g : Nat} {cur : Array Value} {t : TypeId} (hg : w.heap[g]? = some (.cells cur t (0, 0))) (o : Nat) (cs : List Value) (h : ∀ j v, cs[j]? = some v → cur[o + j]? = some v) : ∀ j v, cs[j]? = some v → w.cell? ((⟨g, o, none⟩ : Addr).add j) = some v := fun j v hj => by
  rw [Addr.add_lit, cell_of_row w g _ cur t _ hg]
  exact h j v hj
/-- Elements in a row moved up by one, and one laid into the gap. -/
theorem splice_ins {α : Type} {cur X Y : List α} {n k i : Nat} (hx : cur.take (n * k) = X) (hY : Y.length = k) (hi : i < n) (hc : (n + 1) * k ≤ cur.length) :
    (splice (splice cur (i * k + k) (X.drop (i * k))) (i * k) Y).take ((n + 1) * k) = X.take (i * k) ++ (Y ++ X.drop (i * k)) := by
  have hik : i * k + k ≤ n * k := by rw [← Nat.succ_mul]; exact Nat.mul_le_mul_right _ hi
  have hn1 : (n + 1) * k = n * k + k := Nat.succ_mul _ _
  generalize hI : i * k = I at *
  generalize hN : n * k = M at *
  rw [hn1] at hc ⊢
  have hXl : X.length = M := by rw [← hx, List.length_take]; omega
  have hXt : X.take I = cur.take I := by rw [← hx, List.take_take]; congr 1; omega
  unfold splice
  have e0 : (X.drop I).length = M - I := by rw [List.length_drop, hXl]
  rw [e0]
  have e1 : (cur.take (I + k)).length = I + k := by rw [List.length_take]; omega
  have e2 : (cur.take (I + k) ++ (X.drop I ++ cur.drop (I + k + (M - I)))).take I = cur.take I := by
    rw [List.take_append_of_le_length (by omega), List.take_take]; congr 1; omega
  have e3 : (cur.take (I + k) ++ (X.drop I ++ cur.drop (I + k + (M - I)))).drop (I + Y.length) = X.drop I ++ cur.drop (I + k + (M - I)) := by
    rw [hY, List.drop_append_of_le_length (by omega), List.drop_eq_nil_of_le (by omega), List.nil_append]
  rw [e2, e3, hXt]
  have e4 : (cur.take I).length = I := by rw [List.length_take]; omega
  have e5 : (cur.take I ++ (Y ++ X.drop I)).length = M + k := by rw [List.length_append, List.length_append, e4, hY, e0]; omega
  have e6 : cur.take I ++ (Y ++ (X.drop I ++ cur.drop (I + k + (M - I)))) = (cur.take I ++ (Y ++ X.drop I)) ++ cur.drop (I + k + (M - I)) := by simp [List.append_assoc]
  rw [e6, List.take_append_of_le_length (by omega), List.take_of_length_le (by omega)]
/-- A row of zeros filled: what was ahead, one element, what was behind. -/
theorem splice_grow {α : Type} {X Y Z : List α} {n k i : Nat} (hX : X.length = n * k) (hY : Y.length = k) (hi : i < n) (hZ : (n + 1 - i) * k ≤ Z.length) :
    (splice (splice (X.take (i * k) ++ Z) (i * k) Y) (i * k + k) (X.drop (i * k))).take ((n + 1) * k) = X.take (i * k) ++ (Y ++ X.drop (i * k)) := by
  have hik : i * k + k ≤ n * k := by rw [← Nat.succ_mul]; exact Nat.mul_le_mul_right _ hi
  have hn1 : (n + 1) * k = n * k + k := Nat.succ_mul _ _
  have hz : (n + 1 - i) * k = n * k + k - i * k := by rw [Nat.sub_mul, hn1]
  rw [hz] at hZ
  rw [hn1]
  generalize hI : i * k = I at *
  generalize hN : n * k = M at *
  unfold splice
  have e0 : (X.take I).length = I := by rw [List.length_take]; omega
  have e1 : (X.take I ++ Z).take I = X.take I := by rw [List.take_append_of_le_length (by omega), List.take_of_length_le (by omega)]
  have e2 : (X.drop I).length = M - I := by rw [List.length_drop, hX]
  rw [e1, e2, hY]
  have e3 : (X.take I ++ (Y ++ (X.take I ++ Z).drop (I + k))).take (I + k) = X.take I ++ Y := by
    rw [← List.append_assoc, List.take_append_of_le_length (by rw [List.length_append, e0, hY]; omega), List.take_of_length_le (by rw [List.length_append, e0, hY]; omega)]
  rw [e3]
  have e5 : (X.take I ++ Y ++ X.drop I).length = M + k := by rw [List.length_append, List.length_append, e0, hY, e2]; omega
  rw [← List.append_assoc, List.take_append_of_le_length (by omega), List.take_of_length_le (by omega), List.append_assoc]
theorem splice_len {α : Type} {cur cs : List α} {o : Nat} (h : o + cs.length ≤ cur.length) : (splice cur o cs).length = cur.length := length_splice cur o cs h
end Go.Proofs.Ytiejilmgchmppaa
