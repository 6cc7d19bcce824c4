/-
  AppG, Copy, CpS as one text.
-/
import Derived.Test.YtmjofpfkgbnknaaGreatGrow
import Derived.Maps.AppendAt
import Derived.Deep.AppendLies
import Derived.Test.YtmjofpfkgbnknaaGreatDtAll
import Derived.Test.YtmjofpfkgbnknaaGreatDoAll
import Derived.Test.YtmjofpfkgbnknaaGreatSPorts
import Derived.Lib.SliceRun
/- AppG: append of any slice, nil or not, onto a slice of the call's own; growing slices behind it. -/
namespace Go.Proofs.YtmjofpfkgbnknaaGreat
open Go.RowKit
set_option linter.unusedVariables false
set_option linter.unusedSimpArgs false

/-- What stands behind the address A, one cell after the other. -/
def NewsAt (w : World) (A : Option Addr) (m : Nat) (news : List Value) : Prop := (A = none ∧ m = 0) ∨ ∃ ad, A = some ad ∧ ∀ j u, news[j]? = some u → w.cell? (ad.add j) = some u
section
variable {P : Program} (w : World)
theorem run_append_all (base : Nat) (t ty e : TypeId) (i : TypeInfo) (z : Value) (size bytes : Nat) (ht : P.underlying t = some (.slice e)) (hi : P.info? e = some i) (hz : i.zero = some z)
    (hsize : i.size = size) (hby : i.bytes = bytes) (hzs : z.cells.size = size) (hsz : 0 < size)
    (v : Value) (n : Nat) (xs : List Value) (hown : w.ownsRow base e size v n xs)
    (A : Option Addr) (m c : Nat) (news : List Value) (hl : news.length = m * size) (hnews : NewsAt w A m news) (h1 : ∀ u ∈ news, u.oneCell' = true)
    (h63 : n + m ≤ maxLen) (hbytes : (n + m) * bytes ≤ 140737488355328) (hbase : base ≤ w.heap.size) :
    ∃ A' c' w', (Builtin.append_ #[t, t] ty #[v, .slice A m c]).run P w = .ok (.slice A' (n + m) c') w' ∧ w'.ownsRow base e size (.slice A' (n + m) c') (n + m) (xs ++ news) ∧ w.grownBy w' v.ownBlock ∧ w'.ownsRow base e size v n xs ∧
      ((Value.slice A' (n + m) c').ownBlock = v.ownBlock ∨ (Value.slice A' (n + m) c').ownBlock = some w.heap.size) := by
  rcases hnews with ⟨rfl, rfl⟩ | ⟨a, rfl, hnews⟩
  · have hn : news = [] := List.eq_nil_of_length_eq_zero (by simpa using hl)
    subst hn
    rw [List.append_nil, Nat.add_zero]
    subst hsize
    rcases hown.2 with ⟨rfl, rfl⟩ | ⟨g, cap, cur, rfl, hbg, hg, hnc, hcm, hcs, htake⟩
    · refine ⟨none, 0, w, ?_, hown, World.grownBy.refl _ _, hown, .inl rfl⟩
      simp [Builtin.append_, run_underlying ht, sizeOf, typeInfo, hi, Builtin.lenOf, Builtin.firstCells, loadCells, loadCellsFrom]
    · refine ⟨some ⟨g, 0, none⟩, cap, w, ?_, hown, World.grownBy.refl _ _, hown, .inl rfl⟩
      simp [Builtin.append_, run_underlying ht, sizeOf, typeInfo, hi, Builtin.lenOf, Builtin.firstCells, loadCells, loadCellsFrom, hnc, storeCells]
  · obtain ⟨v', w', hr, h2, h3, _, h5⟩ := run_append_own_at (P := P) w base t ty e i z size bytes ht hi hz hsize hby hzs hsz v n xs hown a m c news hl hnews h1 h63 hbytes hbase
    have hk : w'.ownsRow base e size v n xs := by
      have hown0 := hown
      rcases hown.2 with ⟨rfl, rfl⟩ | ⟨g, cap, cur, rfl, hbg, hg, hnc, hcm, hcs, htake⟩
      · have hx : xs = [] := List.eq_nil_of_length_eq_zero (by simpa using hown.1)
        subst hx
        exact World.ownsRow_nil _ _ _ _
      · subst hsize hby
        by_cases hroom : n + m ≤ cap
        · have hfit : n * i.size + news.length ≤ cur.size := by rw [hl, hcs, ← Nat.add_mul]; exact Nat.mul_le_mul_right _ hroom
          have hk := run_append_room (P := P) w t ty e i ht hi g n cap cur hg a m c news hl hnews h1 hroom hfit
          rw [hr] at hk
          injection hk with e1 e2
          subst e2
          refine ⟨hown.1, .inr ⟨g, cap, _, rfl, hbg, setRow_heap w g cur _ e _ hg, hnc, hcm, ?_, ?_⟩⟩
          · simp only [List.size_toArray, List.length_append, List.length_take, List.length_drop, Array.length_toList]
            omega
          · have hxl : (cur.toList.take (n * i.size)).length = n * i.size := by rw [htake]; exact hown.1
            rw [List.toList_toArray, List.append_assoc, List.take_append_of_le_length (by rw [hxl]; exact Nat.le_refl _), List.take_take, Nat.min_self, htake]
        · have holds : ∀ j u, xs[j]? = some u → w.cell? ((⟨g, 0, none⟩ : Addr).add j) = some u := hown.cells (g := g) rfl
          have hk := run_append_grow (P := P) w t ty e i z ht hi hz ⟨g, 0, none⟩ n cap xs hown.1 holds a m c news hl hnews (by omega) (by simp only [maxLen] at h63; omega) (growslice_fits (by omega) hbytes)
          rw [hr] at hk
          injection hk with e1 e2
          subst e2
          exact (World.ownsRow.drew hown0).alloc _
    rcases h2.2 with ⟨rfl, h0⟩ | ⟨g', cap', cur', rfl, _⟩
    · exact ⟨none, 0, w', by rw [hr, h0], by rw [h0] at h2 ⊢; exact h2, h3, hk, by rw [h0]; exact h5⟩
    · exact ⟨some ⟨g', 0, none⟩, cap', w', hr, h2, h3, hk, h5⟩
end
/-- At a step of a region that draws its order. -/
theorem step_append_all {P : Program} {ops : Array Oper} {o : Oper} {a : Act} {w : World} {K : Act → World → Prop} {Q : Exit → Act → World → Prop} {E : Prop} (hgd : o.guard = none) (s x : Operand) (t : TypeId)
    (ho : o.op = .call { callee := .builtin .append, args := #[s, x], argTypes := #[t, t] })
    (base : Nat) (e : TypeId) (i : TypeInfo) (z : Value) (size bytes : Nat) (ht : P.underlying t = some (.slice e)) (hi : P.info? e = some i) (hz : i.zero = some z)
    (hsize : i.size = size) (hby : i.bytes = bytes) (hzs : z.cells.size = size) (hsz : 0 < size)
    (v : Value) (n : Nat) (xs : List Value) (hs : a.eval s = v) (hown : w.ownsRow base e size v n xs)
    (A : Option Addr) (m c : Nat) (news : List Value) (hx : a.eval x = .slice A m c) (hl : news.length = m * size) (hnews : NewsAt w A m news) (h1 : ∀ u ∈ news, u.oneCell' = true)
    (h63 : n + m ≤ maxLen) (hbytes : (n + m) * bytes ≤ 140737488355328) (hbase : base ≤ w.heap.size)
    (h : ∀ A' c' w', w'.ownsRow base e size (.slice A' (n + m) c') (n + m) (xs ++ news) → w.grownBy w' v.ownBlock → w'.ownsRow base e size v n xs →
      ((Value.slice A' (n + m) c').ownBlock = v.ownBlock ∨ (Value.slice A' (n + m) c').ownBlock = some w.heap.size) → K (a.put o.dst (.slice A' (n + m) c')) w') :
    if Region.wanted o (yielded ops a.tmps) = true then Oper.wp P o a w K Q else E := by
  have hw : Region.wanted o (yielded ops a.tmps) = true := by simp [Region.wanted, hgd]
  rw [if_pos hw]
  obtain ⟨A', c', w', hr, h2, h3, h4, h5⟩ := run_append_all (P := P) w base t o.type e i z size bytes ht hi hz hsize hby hzs hsz v n xs hown A m c news hl hnews h1 h63 hbytes hbase
  unfold Oper.wp execOp
  simp only [ho, resolve, invoke, builtin, Sem.run_bind, Sem.run_pure, Result.andThen_ok, List.map_toArray, List.map_cons, List.map_nil, hs, hx, hr]
  exact h A' c' w' h2 h3 h4 h5
/-- In the walk. -/
theorem wpList_append_all {P : Program} {ops : Array Oper} {rest : List Oper} {o : Oper} {a : Act} {w : World} {Q : Exit → Act → World → Prop} (hgd : o.guard = none) (s x : Operand) (t : TypeId)
    (ho : o.op = .call { callee := .builtin .append, args := #[s, x], argTypes := #[t, t] })
    (base : Nat) (e : TypeId) (i : TypeInfo) (z : Value) (size bytes : Nat) (ht : P.underlying t = some (.slice e)) (hi : P.info? e = some i) (hz : i.zero = some z)
    (hsize : i.size = size) (hby : i.bytes = bytes) (hzs : z.cells.size = size) (hsz : 0 < size)
    (v : Value) (n : Nat) (xs : List Value) (hs : a.eval s = v) (hown : w.ownsRow base e size v n xs)
    (A : Option Addr) (m c : Nat) (news : List Value) (hx : a.eval x = .slice A m c) (hl : news.length = m * size) (hnews : NewsAt w A m news) (h1 : ∀ u ∈ news, u.oneCell' = true)
    (h63 : n + m ≤ maxLen) (hbytes : (n + m) * bytes ≤ 140737488355328) (hbase : base ≤ w.heap.size)
    (h : ∀ A' c' w', w'.ownsRow base e size (.slice A' (n + m) c') (n + m) (xs ++ news) → w.grownBy w' v.ownBlock → w'.ownsRow base e size v n xs →
      ((Value.slice A' (n + m) c').ownBlock = v.ownBlock ∨ (Value.slice A' (n + m) c').ownBlock = some w.heap.size) → wpList P ops Q rest (a.put o.dst (.slice A' (n + m) c')) w') :
    wpList P ops Q (o :: rest) a w := by
  refine wpList_plain hgd fun K hK => ?_
  obtain ⟨A', c', w', hr, h2, h3, h4, h5⟩ := run_append_all (P := P) w base t o.type e i z size bytes ht hi hz hsize hby hzs hsz v n xs hown A m c news hl hnews h1 h63 hbytes hbase
  unfold Oper.wp execOp
  simp only [ho, resolve, invoke, builtin, Sem.run_bind, Sem.run_pure, Result.andThen_ok, List.map_toArray, List.map_cons, List.map_nil, hs, hx, hr]
  exact hK _ _ (h A' c' w' h2 h3 h4 h5)

theorem range_flat_nil (n : Nat) : (List.range n).flatMap (fun _ => ([] : List Nat)) = [] := by
  induction n with
  | zero => rfl
  | succ n ih => rw [List.range_succ, List.flatMap_append, ih]; rfl
section
variable {α ρ : Type} {f : ρ → List Value} {k T : Nat} {P : Ow α} {B : Nat} {bs : List Nat} {w w' : World} {v : Value} {rows : List ρ} {L : List α}
/-- Behind an append of one element, whose own blocks are cs: whatever value it gave. -/
theorem GrR.addV (good : P.Good) {a w1 : World} {v' : Value} {n : Nat} {r : ρ} {x : α} {cs : List Nat} (h : GrR f k T P B bs w v rows L) (ha : Below w.heap.size w a) (hgrow : a.grownBy w1 v.ownBlock)
    (hown' : w1.ownsRow B T k v' n (rows.flatMap f ++ f r)) (hn : n = rows.length + 1) (hat : v'.ownBlock = v.ownBlock ∨ v'.ownBlock = some a.heap.size)
    (hx : P cs a (f r) x) (hcs : (blkL v ++ (bs ++ cs)).Nodup) (hlow : ∀ b ∈ cs, B ≤ b) : GrR f k T P B (bs ++ cs) w1 v' (rows ++ [r]) (L ++ [x]) := by
  rcases hown'.2 with ⟨_, h0⟩ | ⟨g, cap, cur, rfl, _⟩
  · omega
  · refine h.add good ha hgrow hown' hn ?_ hx hcs hlow
    rcases hat with hat | hat
    · exact .inl hat.symm
    · injection hat with hat; exact .inr hat
/-- A row of elements that reach nothing. -/
theorem GrR.ofRow (h : w.ownsRow B T k v rows.length (rows.flatMap f)) (hl : rows.length = L.length) (hP : ∀ j (hj : j < rows.length) (hj' : j < L.length), P [] w (f rows[j]) L[j]) : GrR f k T P B [] w v rows L := by
  refine ⟨h, hl, ⟨fun _ => [], ?_, hP⟩, ?_, fun b hb => by cases hb⟩
  · exact (range_flat_nil _).symm
  · unfold blkL; cases v.ownBlock <;> simp
end
/-- What a reading of flat elements says of the cells. -/
theorem newsAt_of {α : Type} {R : Rd α} (f : α → List Value) (k : Nat) (hf : ∀ x, (f x).length = k) (hk : 0 < k) (hR : ∀ B T w us x, R B T w us x → us = f x) {B T : Nat} {w : World} {A : Option Addr} {n c : Nat} {L : List α} (h : rdS k R B T w [.slice A n c] L) : n = L.length ∧ NewsAt w A L.length (L.flatMap f) := by
  obtain ⟨A', c', e, hm, hA⟩ := h
  injection e with e _
  injection e with e1 e2 e3
  subst e1 e2 e3
  refine ⟨rfl, ?_⟩
  cases A with
  | none =>
    refine .inl ⟨rfl, ?_⟩
    cases hL : L.length with
    | zero => rfl
    | succ n => obtain ⟨b, o, e, _⟩ := hA 0 (by omega); cases e
  | some ad =>
    refine .inr ⟨ad, rfl, fun j u hu => ?_⟩
    have hlen := flat_len f k hf L
    have hj : j < L.length * k := by rw [← hlen]; exact (List.getElem?_eq_some_iff.1 hu).1
    have hdiv : j / k < L.length := (Nat.div_lt_iff_lt_mul hk).2 hj
    have hmod := Nat.mod_lt j hk
    have e : j = (j / k) * k + j % k := by rw [Nat.mul_comm]; exact (Nat.div_add_mod j k).symm
    obtain ⟨b, o, e1, _, _, us, hl, hc, hr⟩ := hA (j / k) hdiv
    have hus := hR _ _ _ _ _ hr
    injection e1 with e1
    subst e1
    have h2 := flat_at f k hf L (j / k) (j % k) hdiv hmod
    rw [← e, hu, ← hus] at h2
    have h3 := hc (j % k) u h2.symm
    rw [Addr.add_lit]
    rw [show o + j = o + j / k * k + j % k by omega]
    exact h3
end Go.Proofs.YtmjofpfkgbnknaaGreat
/- Copy: Copies of slices of flat elements. -/
namespace Go.Proofs.YtmjofpfkgbnknaaGreat
open Go.RowKit
set_option linter.unusedVariables false
set_option linter.unusedSimpArgs false
theorem NewsAt.below {w w' : World} {A : Option Addr} {m : Nat} {news : List Value} (h : NewsAt w A m news) (hb : Below w.heap.size w w') : NewsAt w' A m news := by
  rcases h with h | ⟨ad, e, h⟩
  · exact .inl h
  · exact .inr ⟨ad, e, fun j u hu => keep hb (h j u hu)⟩
def fInt (x : Int) : List Value := [.int .i64 x]
theorem fInt_len (x : Int) : (fInt x).length = 1 := rfl
theorem fInt_one (L : List Int) : ∀ u ∈ L.flatMap fInt, u.oneCell' = true := fun u hu => by
  obtain ⟨c, _, hc⟩ := List.mem_flatMap.1 hu
  simp only [fInt, List.mem_cons, List.not_mem_nil, or_false] at hc
  subst hc; rfl
theorem usInt (B T : Nat) (w : World) (us : List Value) (x : Int) (h : rdInt B T w us x) : us = fInt x := h.1
theorem owInt_of {B T : Nat} {w : World} {us : List Value} {x : Int} (h : rdInt B T w us x) (w' : World) : owInt [] w' (fInt x) x := ⟨rfl, rfl, h.2⟩
theorem copyInt {L : List Int} {B T B' : Nat} {w w' : World} {u v : Value} (h : rdS 1 rdInt B T w [u] L) (hr : w'.ownsRow B' 3 1 v L.length (L.flatMap fInt)) : GrR fInt 1 3 owInt B' [] w' v L L := by
  obtain ⟨_, _, _, _, hA⟩ := h
  refine GrR.ofRow hr rfl fun j hj hj' => ?_
  obtain ⟨b, o, _, _, _, us, _, _, hp⟩ := hA j hj
  exact owInt_of hp w'
def fOp (x : DOp) : List Value := [.int .i64 x.1, .int .i64 x.2.1, .int .i64 x.2.2]
theorem fOp_len (x : DOp) : (fOp x).length = 3 := rfl
theorem fOp_one (L : List DOp) : ∀ u ∈ L.flatMap fOp, u.oneCell' = true := fun u hu => by
  obtain ⟨c, _, hc⟩ := List.mem_flatMap.1 hu
  simp only [fOp, List.mem_cons, List.not_mem_nil, or_false] at hc
  rcases hc with rfl | rfl | rfl <;> rfl
theorem usOp (B T : Nat) (w : World) (us : List Value) (x : DOp) (h : rdOp B T w us x) : us = fOp x := by
  obtain ⟨u0, u1, u2, rfl, ⟨h0, _⟩, ⟨h1, _⟩, ⟨h2, _⟩⟩ := h
  injection h0 with h0
  injection h1 with h1
  injection h2 with h2
  subst h0 h1 h2
  rfl
theorem owOp_of {B T : Nat} {w : World} {us : List Value} {x : DOp} (h : rdOp B T w us x) (w' : World) : owOp [] w' (fOp x) x := by
  obtain ⟨u0, u1, u2, _, ⟨_, h0⟩, ⟨_, h1⟩, ⟨_, h2⟩⟩ := h
  exact ⟨[], [], [], _, _, _, rfl, rfl, ⟨rfl, rfl, h0⟩, ⟨rfl, rfl, h1⟩, ⟨rfl, rfl, h2⟩⟩
theorem copyOp {L : List DOp} {B T B' : Nat} {w w' : World} {u v : Value} (h : rdS 3 rdOp B T w [u] L) (hr : w'.ownsRow B' 118 3 v L.length (L.flatMap fOp)) : GrR fOp 3 118 owOp B' [] w' v L L := by
  obtain ⟨_, _, _, _, hA⟩ := h
  refine GrR.ofRow hr rfl fun j hj hj' => ?_
  obtain ⟨b, o, _, _, _, us, _, _, hp⟩ := hA j hj
  exact owOp_of hp w'
def fSignal (x : DSignal) : List Value := [.int .i64 x.1, .int .i64 x.2.1, .int .i64 x.2.2]
theorem fSignal_len (x : DSignal) : (fSignal x).length = 3 := rfl
theorem fSignal_one (L : List DSignal) : ∀ u ∈ L.flatMap fSignal, u.oneCell' = true := fun u hu => by
  obtain ⟨c, _, hc⟩ := List.mem_flatMap.1 hu
  simp only [fSignal, List.mem_cons, List.not_mem_nil, or_false] at hc
  rcases hc with rfl | rfl | rfl <;> rfl
theorem usSignal (B T : Nat) (w : World) (us : List Value) (x : DSignal) (h : rdSignal B T w us x) : us = fSignal x := by
  obtain ⟨u0, u1, u2, rfl, ⟨h0, _⟩, ⟨h1, _⟩, ⟨h2, _⟩⟩ := h
  injection h0 with h0
  injection h1 with h1
  injection h2 with h2
  subst h0 h1 h2
  rfl
theorem owSignal_of {B T : Nat} {w : World} {us : List Value} {x : DSignal} (h : rdSignal B T w us x) (w' : World) : owSignal [] w' (fSignal x) x := by
  obtain ⟨u0, u1, u2, _, ⟨_, h0⟩, ⟨_, h1⟩, ⟨_, h2⟩⟩ := h
  exact ⟨[], [], [], _, _, _, rfl, rfl, ⟨rfl, rfl, h0⟩, ⟨rfl, rfl, h1⟩, ⟨rfl, rfl, h2⟩⟩
theorem copySignal {L : List DSignal} {B T B' : Nat} {w w' : World} {u v : Value} (h : rdS 3 rdSignal B T w [u] L) (hr : w'.ownsRow B' 97 3 v L.length (L.flatMap fSignal)) : GrR fSignal 3 97 owSignal B' [] w' v L L := by
  obtain ⟨_, _, _, _, hA⟩ := h
  refine GrR.ofRow hr rfl fun j hj hj' => ?_
  obtain ⟨b, o, _, _, _, us, _, _, hp⟩ := hA j hj
  exact owSignal_of hp w'
def fMem (x : DMem) : List Value := [.int .i64 x.1, .int .i64 x.2.1, .int .i64 x.2.2.1, .int .i64 x.2.2.2]
theorem fMem_len (x : DMem) : (fMem x).length = 4 := rfl
theorem fMem_one (L : List DMem) : ∀ u ∈ L.flatMap fMem, u.oneCell' = true := fun u hu => by
  obtain ⟨c, _, hc⟩ := List.mem_flatMap.1 hu
  simp only [fMem, List.mem_cons, List.not_mem_nil, or_false] at hc
  rcases hc with rfl | rfl | rfl | rfl <;> rfl
theorem usMem (B T : Nat) (w : World) (us : List Value) (x : DMem) (h : rdMem B T w us x) : us = fMem x := by
  obtain ⟨u0, u1, u2, u3, rfl, ⟨h0, _⟩, ⟨h1, _⟩, ⟨h2, _⟩, ⟨h3, _⟩⟩ := h
  injection h0 with h0
  injection h1 with h1
  injection h2 with h2
  injection h3 with h3
  subst h0 h1 h2 h3
  rfl
theorem owMem_of {B T : Nat} {w : World} {us : List Value} {x : DMem} (h : rdMem B T w us x) (w' : World) : owMem [] w' (fMem x) x := by
  obtain ⟨u0, u1, u2, u3, _, ⟨_, h0⟩, ⟨_, h1⟩, ⟨_, h2⟩, ⟨_, h3⟩⟩ := h
  exact ⟨[], [], [], [], _, _, _, _, rfl, rfl, ⟨rfl, rfl, h0⟩, ⟨rfl, rfl, h1⟩, ⟨rfl, rfl, h2⟩, ⟨rfl, rfl, h3⟩⟩
theorem copyMem {L : List DMem} {B T B' : Nat} {w w' : World} {u v : Value} (h : rdS 4 rdMem B T w [u] L) (hr : w'.ownsRow B' 111 4 v L.length (L.flatMap fMem)) : GrR fMem 4 111 owMem B' [] w' v L L := by
  obtain ⟨_, _, _, _, hA⟩ := h
  refine GrR.ofRow hr rfl fun j hj hj' => ?_
  obtain ⟨b, o, _, _, _, us, _, _, hp⟩ := hA j hj
  exact owMem_of hp w'

set_option maxHeartbeats 1600000 in
theorem cloneInt_at (L : List Int) (A : Option Addr) (n c : Nat) {B T : Nat} (w : World) (h : rdS 1 rdInt B T w [.slice A n c] L) (hm : L.length ≤ 1048576) :
    Calls Tryz.prog 114 #[.slice A n c] w fun e w' => ∃ A' c', e = .returned (.slice A' L.length c') ∧ GrR fInt 1 3 owInt w.heap.size [] w' (.slice A' L.length c') L L ∧ Below w.heap.size w w' := by
  obtain ⟨i0, hi, hz0, hz1, hz2⟩ := info_parts infoI
  obtain ⟨hn, hnews⟩ := newsAt_of fInt 1 fInt_len (by omega) usInt h
  subst hn
  have hrd := h
  have q0 : ∀ (w : World) (a : Option Addr) (n c n' c' : Nat), (binOp .eql 49 (.slice a n c) (.slice none n' c')).run Tryz.prog w = .ok (.bool a.isNone) w := fun w a n c n' c' => Lib.run_eql_slice_nil w _ _ a n c n' c' Tryz.underlying49
  cases A with
  | none =>
    have hL : L = [] := List.eq_nil_of_length_eq_zero (by rcases hnews with ⟨_, h0⟩ | ⟨ad, e, _⟩ <;> first | exact h0 | cases e)
    subst hL
    clear h hnews hrd
    go_enter Tryz.func114, Tryz.ntmps114
    go_wp2
    go_ret
    exact ⟨none, 0, rfl, GrR.nil _ _ _ _ _ _, Below.refl _ _⟩
  | some ad =>
    have HN := Lib.hid (show NewsAt (w.alloc (.cells #[] 3)) (some ad) L.length (L.flatMap fInt) from hnews.below (bAlloc (Below.refl _ _) (Nat.le_refl _) _))
    obtain ⟨A, hA⟩ : ∃ A, A = some ad := ⟨_, rfl⟩
    rw [← hA] at HN
    clear h hnews
    go_enter Tryz.func114, Tryz.ntmps114
    go_wp2_with (at_builtin; refine wpList_append_all (by rfl) _ _ 49 (by rfl) w.heap.size 3 i0 (.int .i64 0) 1 8 Tryz.underlying49 hi hz0 hz1 hz2 rfl (by omega) (.slice (some ⟨w.heap.size, 0, none⟩) 0 0) 0 [] (by rfl) (ownR_new fInt 1 3 w w.heap.size (Nat.le_refl _)) (some ad) L.length c (L.flatMap fInt) (by rfl) (flat_len fInt 1 fInt_len L) (hA ▸ HN.out) (fInt_one L) (by unfold maxLen; omega) (by omega) (by simp) ?_; intro A' c' w2 hown hgrow hkeep hat)
    have hr := hown
    rw [Nat.zero_add, List.nil_append] at hr
    have HRES := Lib.hid (And.intro (copyInt hrd hr) (show Below w.heap.size w w2 from (show Below w.heap.size w (w.alloc (.cells #[] 3)) from bAlloc (Below.refl _ _) (Nat.le_refl _) _).grown hgrow (by simp) (by intro g hg; injection hg with hg; dsimp only at hg; omega)))
    clear hown hgrow hkeep hat hr hrd
    go_wp2
    go_ret
    exact ⟨A', c', by first | rfl | rw [Nat.zero_add], HRES.out.1, HRES.out.2⟩

set_option maxHeartbeats 1600000 in
theorem cloneOp_at (L : List DOp) (A : Option Addr) (n c : Nat) {B T : Nat} (w : World) (h : rdS 3 rdOp B T w [.slice A n c] L) (hm : L.length ≤ 1048576) :
    Calls Tryz.prog 129 #[.slice A n c] w fun e w' => ∃ A' c', e = .returned (.slice A' L.length c') ∧ GrR fOp 3 118 owOp w.heap.size [] w' (.slice A' L.length c') L L ∧ Below w.heap.size w w' := by
  obtain ⟨i0, hi, hz0, hz1, hz2⟩ := info_parts info_Op
  obtain ⟨hn, hnews⟩ := newsAt_of fOp 3 fOp_len (by omega) usOp h
  subst hn
  have hrd := h
  have q0 : ∀ (w : World) (a : Option Addr) (n c n' c' : Nat), (binOp .eql 100 (.slice a n c) (.slice none n' c')).run Tryz.prog w = .ok (.bool a.isNone) w := fun w a n c n' c' => Lib.run_eql_slice_nil w _ _ a n c n' c' Tryz.underlying100
  cases A with
  | none =>
    have hL : L = [] := List.eq_nil_of_length_eq_zero (by rcases hnews with ⟨_, h0⟩ | ⟨ad, e, _⟩ <;> first | exact h0 | cases e)
    subst hL
    clear h hnews hrd
    go_enter Tryz.func129, Tryz.ntmps129
    go_wp2
    go_ret
    exact ⟨none, 0, rfl, GrR.nil _ _ _ _ _ _, Below.refl _ _⟩
  | some ad =>
    have HN := Lib.hid (show NewsAt (w.alloc (.cells #[] 118)) (some ad) L.length (L.flatMap fOp) from hnews.below (bAlloc (Below.refl _ _) (Nat.le_refl _) _))
    obtain ⟨A, hA⟩ : ∃ A, A = some ad := ⟨_, rfl⟩
    rw [← hA] at HN
    clear h hnews
    go_enter Tryz.func129, Tryz.ntmps129
    go_wp2_with (at_builtin; refine wpList_append_all (by rfl) _ _ 100 (by rfl) w.heap.size 118 i0 (.agg #[.int .i64 0, .int .i64 0, .int .i64 0]) 3 24 Tryz.underlying100 hi hz0 hz1 hz2 rfl (by omega) (.slice (some ⟨w.heap.size, 0, none⟩) 0 0) 0 [] (by rfl) (ownR_new fOp 3 118 w w.heap.size (Nat.le_refl _)) (some ad) L.length c (L.flatMap fOp) (by rfl) (flat_len fOp 3 fOp_len L) (hA ▸ HN.out) (fOp_one L) (by unfold maxLen; omega) (by omega) (by simp) ?_; intro A' c' w2 hown hgrow hkeep hat)
    have hr := hown
    rw [Nat.zero_add, List.nil_append] at hr
    have HRES := Lib.hid (And.intro (copyOp hrd hr) (show Below w.heap.size w w2 from (show Below w.heap.size w (w.alloc (.cells #[] 118)) from bAlloc (Below.refl _ _) (Nat.le_refl _) _).grown hgrow (by simp) (by intro g hg; injection hg with hg; dsimp only at hg; omega)))
    clear hown hgrow hkeep hat hr hrd
    go_wp2
    go_ret
    exact ⟨A', c', by first | rfl | rw [Nat.zero_add], HRES.out.1, HRES.out.2⟩

end Go.Proofs.YtmjofpfkgbnknaaGreat
/- CpS: A module in new memory: what both copies use. -/
namespace Go.Proofs.YtmjofpfkgbnknaaGreat
open Go.RowKit
set_option linter.unusedVariables false
set_option linter.unusedSimpArgs false

/-- Small enough to be copied. -/
structure CopyOk (m : DModule) : Prop where
  l0 : m.1.length ≤ 1000
  l1 : m.2.1.length ≤ 1000
  l2 : m.2.2.1.length ≤ 1000
  l3 : m.2.2.2.length ≤ 1000
  ops : ∀ a ∈ m.2.1, a.2.length ≤ 1000
  ports : ∀ n ∈ m.2.2.1, n.2.2.length ≤ 1000
/-- What a copy hands back. -/
def Copied (m : DModule) (w : World) (e : Ending) (w' : World) : Prop := ∃ (A0 A1 A2 A3 : Option Addr) (c0 c1 c2 c3 : Nat) (bs : List Nat),
  e = .returned (.agg #[.slice A0 m.1.length c0, .slice A1 m.2.1.length c1, .slice A2 m.2.2.1.length c2, .slice A3 m.2.2.2.length c3]) ∧
  owModule bs w' [.slice A0 m.1.length c0, .slice A1 m.2.1.length c1, .slice A2 m.2.2.1.length c2, .slice A3 m.2.2.2.length c3] m ∧ bs.Nodup ∧ (∀ b ∈ bs, w.heap.size ≤ b ∧ b < w'.heap.size) ∧ Below w.heap.size w w'
/-- The parts of a module, each in memory of its own. -/
theorem own_parts {m : DModule} {w : World} {v0 v1 v2 v3 : Value} {B0 B1 B2 B3 : Nat} {b1 b2 : List Nat} {rows0 : List DSignal} {rows1 : List V2} {rows2 : List V3} {rows3 : List DMem}
    (g0 : GrR fSignal 3 97 owSignal B0 [] w v0 rows0 m.1) (g1 : GrR fV2 2 102 owAssign B1 b1 w v1 rows1 m.2.1) (g2 : GrR fV3 3 120 owInst B2 b2 w v2 rows2 m.2.2.1) (g3 : GrR fMem 4 111 owMem B3 [] w v3 rows3 m.2.2.2)
    (h01 : ∀ b ∈ blkL v0, b < B1) (h12 : ∀ b ∈ blkL v1 ++ b1, b < B2) (h31 : ∀ b ∈ blkL v3, b < B1) (h03 : ∀ b ∈ blkL v0, b ∉ blkL v3) (hB : B1 ≤ B2) :
    owModule ((blkL v0 ++ []) ++ ((blkL v1 ++ b1) ++ ((blkL v2 ++ b2) ++ (blkL v3 ++ [])))) w [v0, v1, v2, v3] m ∧ ((blkL v0 ++ []) ++ ((blkL v1 ++ b1) ++ ((blkL v2 ++ b2) ++ (blkL v3 ++ [])))).Nodup := by
  refine ⟨⟨_, _, _, _, _, _, _, _, rfl, rfl, g0.ow fSignal_len, g1.ow fV2_len, g2.ow fV3_len, g3.ow fMem_len⟩, ?_⟩
  have n1 : ∀ b ∈ blkL v1 ++ b1, B1 ≤ b := fun b hb => (g1.lt gow_Assign hb).2
  have n2 : ∀ b ∈ blkL v2 ++ b2, B2 ≤ b := fun b hb => (g2.lt gow_Inst hb).2
  rw [List.append_nil, List.append_nil]
  rw [List.nodup_append]
  refine ⟨?_, ?_, ?_⟩
  · have := g0.nd; rwa [List.append_nil] at this
  · rw [List.nodup_append]
    refine ⟨g1.nd, ?_, ?_⟩
    · rw [List.nodup_append]
      refine ⟨g2.nd, ?_, ?_⟩
      · have := g3.nd; rwa [List.append_nil] at this
      · intro a ha b hb e
        have h1 := n2 a ha
        have h2 := h31 b hb
        omega
    · intro a ha b hb e
      have h1 := n1 a ha
      have h2 := h12 a ha
      rcases List.mem_append.1 hb with hb | hb
      · have h3 := n2 b hb; omega
      · have h3 := h31 b hb; omega
  · intro a ha b hb e
    have h1 := h01 a ha
    rcases List.mem_append.1 hb with hb | hb
    · have h3 := n1 b hb; omega
    · rcases List.mem_append.1 hb with hb | hb
      · have h3 := n2 b hb; omega
      · exact h03 a ha (e ▸ hb)
/-- Only block F and blocks newer than W have changed. -/
def OnlyF (F : Nat) (W w : World) : Prop := ChgL [F] W w
theorem OnlyF.keep {F : Nat} {W w : World} (h : OnlyF F W w) {b : Nat} (hb : b < W.heap.size) (hne : b ≠ F) : w.heap[b]? = W.heap[b]? := h.block b hb (by simpa using hne)
theorem OnlyF.cell {F : Nat} {W w : World} (h : OnlyF F W w) {b o : Nat} {v : Value} (hc : W.cell? ⟨b, o, none⟩ = some v) (hne : b ≠ F) : w.cell? ⟨b, o, none⟩ = some v :=
  (World.cell?_of_block (w := W) (w' := w) (a := ⟨b, o, none⟩) (h.keep (World.block_lt_of_cell? _ _ hc) hne)).trans hc
theorem OnlyF.below {F : Nat} {W w w' : World} (h : OnlyF F W w) (hb : Below w.heap.size w w') : OnlyF F W w' := ChgL.below h hb
theorem OnlyF.down {F : Nat} {W w : World} (h : OnlyF F W w) {B : Nat} {w0 : World} (hb : Below B w0 W) (hB : B ≤ F) (hs : B ≤ w0.heap.size) : Below B w0 w :=
  ⟨h.os.trans hb.os, h.tape.trans hb.tape, h.output.trans hb.output, Nat.le_trans hb.size h.size, fun k hk => (h.keep (Nat.lt_of_lt_of_le hk (Nat.le_trans hs hb.size)) (by omega)).trans (hb.block k hk)⟩
theorem OnlyF.grown {F : Nat} {W w w' : World} {row : Option Nat} (h : OnlyF F W w) (hg : w.grownBy w' row) (hrow : ∀ j, row = some j → W.heap.size ≤ j) : OnlyF F W w' :=
  ⟨hg.os.trans h.os, hg.tape.trans h.tape, hg.output.trans h.output, Nat.le_trans h.size hg.size, fun k hk hn => (hg.block k (Nat.lt_of_lt_of_le hk h.size) (fun e => by have := hrow k e.symm; omega)).trans (h.block k hk hn)⟩
theorem OnlyF.set {F : Nat} {W w : World} (h : OnlyF F W w) (o : Nat) (v : Value) : OnlyF F W (w.setCell ⟨F, o, none⟩ v) := ChgL.set h (by simp) o v
/-- The four cells of the block under construction. -/
def Four (w : World) (F : Nat) (v0 v1 v2 v3 : Value) : Prop := w.heap[F]? = some (.cells #[v0, v1, v2, v3] 31 (0, 0))
theorem Four.cells {w : World} {F : Nat} {v0 v1 v2 v3 : Value} (h : Four w F v0 v1 v2 v3) : (w.cell? ⟨F, 0, none⟩ = some v0 ∧ w.cell? ⟨F, 1, none⟩ = some v1 ∧ w.cell? ⟨F, 2, none⟩ = some v2 ∧ w.cell? ⟨F, 3, none⟩ = some v3) ∧ ∀ i, w.frozen? ⟨F, i, none⟩ = false :=
  ⟨⟨box_cell h 0 _ rfl, box_cell h 1 _ rfl, box_cell h 2 _ rfl, box_cell h 3 _ rfl⟩, fun i => frozen_of_row _ _ i _ _ h⟩
theorem Four.lt {w : World} {F : Nat} {v0 v1 v2 v3 : Value} (h : Four w F v0 v1 v2 v3) : F < w.heap.size := (Array.getElem?_eq_some_iff.1 h).1
theorem Four.at {w w' : World} {F : Nat} {v0 v1 v2 v3 : Value} (h : Four w F v0 v1 v2 v3) (hk : w'.heap[F]? = w.heap[F]?) : Four w' F v0 v1 v2 v3 := hk.trans h
theorem Four.below {w w' : World} {F : Nat} {v0 v1 v2 v3 : Value} (h : Four w F v0 v1 v2 v3) (hb : Below w.heap.size w w') : Four w' F v0 v1 v2 v3 := h.at (hb.block F h.lt)
theorem grownC {w w' : World} {row : Option Nat} (h : w.grownBy w' row) {b o : Nat} {v : Value} (hc : w.cell? ⟨b, o, none⟩ = some v) (hne : row ≠ some b) : w'.cell? ⟨b, o, none⟩ = some v := by
  rw [World.cell?_of_block (h.block b (World.block_lt_of_cell? _ _ hc) (fun e => hne e.symm))]; exact hc
theorem grownZ {w w' : World} {row : Option Nat} (h : w.grownBy w' row) {b o : Nat} {v : Value} (hc : w.cell? ⟨b, o, none⟩ = some v) (hf : w.frozen? ⟨b, o, none⟩ = false) (hne : row ≠ some b) : w'.frozen? ⟨b, o, none⟩ = false := by
  rw [World.frozen?_of_block (h.block b (World.block_lt_of_cell? _ _ hc) (fun e => hne e.symm))]; exact hf
theorem nodup_new {L C : List Nat} {N : Nat} (hL : L.Nodup) (hC : C.Nodup) (h1 : ∀ b ∈ L, b < N) (h2 : ∀ b ∈ C, N ≤ b) : (L ++ C).Nodup := by
  rw [List.nodup_append]
  exact ⟨hL, hC, fun a ha b hb e => by have := h1 a ha; have := h2 b hb; omega⟩
theorem ChgL.of_only {F : Nat} {W w : World} (h : OnlyF F W w) : ChgL [F] W w := h
theorem OnlyF.of_below {F : Nat} {W w : World} (h : Below W.heap.size W w) : OnlyF F W w := ⟨h.os, h.tape, h.output, h.size, fun k hk _ => h.block k hk⟩
theorem rowOf {α : Type} {f : α → List Value} {k T B : Nat} {w : World} {v : Value} {rows : List α} (h : OwnsR f k T w B v rows) : w.ownsRow B T k v rows.length (rows.flatMap f) := h
theorem row_far {B e k n : Nat} {w : World} {v : Value} {xs : List Value} (h : w.ownsRow B e k v n xs) {g i : Nat} {u : Value} (hne : v.ownBlock ≠ some g) : (w.setCell ⟨g, i, none⟩ u).ownsRow B e k v n xs :=
  World.ownsRow.kept h (row := some g) ⟨rfl, rfl, rfl, by simp, fun j hj hne => Below.heap_setCell w _ _ j (by intro e; exact hne (by rw [e]))⟩ (by
    cases hv : v.ownBlock with
    | none => exact .inl rfl
    | some j => exact .inr (fun e => hne (by rw [hv, e])))
theorem Four.set0 {w : World} {F : Nat} {v0 v1 v2 v3 : Value} (h : Four w F v0 v1 v2 v3) (u : Value) : Four (w.setCell ⟨F, 0, none⟩ u) F u v1 v2 v3 := by
  have h0 : w.heap[F]? = some (.cells #[v0, v1, v2, v3] 31 (0, 0)) := h
  have hlt := h.lt
  have e : w.heap[F]'hlt = .cells #[v0, v1, v2, v3] 31 (0, 0) := by rw [Array.getElem?_eq_getElem hlt] at h0; injection h0
  unfold Four
  simp [World.setCell, hlt, Array.getElem_modify_self, e]
theorem Four.set1 {w : World} {F : Nat} {v0 v1 v2 v3 : Value} (h : Four w F v0 v1 v2 v3) (u : Value) : Four (w.setCell ⟨F, 1, none⟩ u) F v0 u v2 v3 := by
  have h0 : w.heap[F]? = some (.cells #[v0, v1, v2, v3] 31 (0, 0)) := h
  have hlt := h.lt
  have e : w.heap[F]'hlt = .cells #[v0, v1, v2, v3] 31 (0, 0) := by rw [Array.getElem?_eq_getElem hlt] at h0; injection h0
  unfold Four
  simp [World.setCell, hlt, Array.getElem_modify_self, e]
theorem Four.set2 {w : World} {F : Nat} {v0 v1 v2 v3 : Value} (h : Four w F v0 v1 v2 v3) (u : Value) : Four (w.setCell ⟨F, 2, none⟩ u) F v0 v1 u v3 := by
  have h0 : w.heap[F]? = some (.cells #[v0, v1, v2, v3] 31 (0, 0)) := h
  have hlt := h.lt
  have e : w.heap[F]'hlt = .cells #[v0, v1, v2, v3] 31 (0, 0) := by rw [Array.getElem?_eq_getElem hlt] at h0; injection h0
  unfold Four
  simp [World.setCell, hlt, Array.getElem_modify_self, e]
theorem Four.set3 {w : World} {F : Nat} {v0 v1 v2 v3 : Value} (h : Four w F v0 v1 v2 v3) (u : Value) : Four (w.setCell ⟨F, 3, none⟩ u) F v0 v1 v2 u := by
  have h0 : w.heap[F]? = some (.cells #[v0, v1, v2, v3] 31 (0, 0)) := h
  have hlt := h.lt
  have e : w.heap[F]'hlt = .cells #[v0, v1, v2, v3] 31 (0, 0) := by rw [Array.getElem?_eq_getElem hlt] at h0; injection h0
  unfold Four
  simp [World.setCell, hlt, Array.getElem_modify_self, e]
end Go.Proofs.YtmjofpfkgbnknaaGreat
