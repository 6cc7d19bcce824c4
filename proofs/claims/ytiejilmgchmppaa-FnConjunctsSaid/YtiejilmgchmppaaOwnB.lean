/-
  Slices of bools: of one's own, read, compared, marked, held.
-/
import Derived.Test.YtiejilmgchmppaaOwN
import Derived.Laws.MakeOwn
import Derived.Test.YtiejilmgchmppaaBits64
namespace Go.Proofs.Ytiejilmgchmppaa
open Go.RowKit
set_option linter.unusedVariables false
set_option linter.unusedSimpArgs false

def rdBool : Rd Bool := fun _ _ _ vs x => vs = [.bool x]
theorem good_Bool : Rd.Good rdBool := fun _ _ _ _ _ _ _ _ h _ _ _ => h
abbrev rdBoolS : Rd (List Bool) := rdS 1 rdBool
theorem good_BoolS : Rd.Good rdBoolS := rdS_good 1 good_Bool
def fB (x : Bool) : List Value := [.bool x]
theorem fB_len (x : Bool) : (fB x).length = 1 := rfl
abbrev OwnsB (w : World) (B : Nat) (v : Value) (W : List Bool) : Prop := OwnsR fB 1 4 w B v W
theorem OwnsB.rd {w : World} {B : Nat} {v : Value} {W : List Bool} (h : OwnsB w B v W) : rdBoolS B w.heap.size w [v] W := by
  obtain ⟨A, c, hv, hsh⟩ := OwnsR.shape fB_len h
  have hm : W.length ≤ maxLen ∧ W.length ≤ c := by
    rcases h.2 with ⟨e, h0⟩ | ⟨g, cap, cur, e, _, _, h1, h2, _⟩
    · omega
    · rw [hv] at e; injection e with _ _ e; omega
  refine ⟨A, c, by rw [hv], hm, fun j hj => ?_⟩
  obtain ⟨g, hg, hc⟩ := hsh j hj
  have hB : B ≤ g := by
    rcases h.2 with ⟨e, h0⟩ | ⟨g', cap, cur, e, e2, _⟩
    · omega
    · rw [hv] at e; injection e with e; rw [hg] at e; injection e with e; injection e with e; omega
  refine ⟨g, 0, hg, hB, World.block_lt_of_cell? _ _ (hc 0 _ rfl).1, [.bool W[j]], rfl, fun i u hu => ?_, rfl⟩
  rw [Nat.zero_add]
  exact (hc i u hu).1
theorem eqbox3 {w W : World} {o1 o2 o3 : Obj} (h : W = ((w.alloc o1).alloc o2).alloc o3) : W.heap[w.heap.size]? = some o1 ∧ W.heap[w.heap.size + 1]? = some o2 ∧ W.heap[w.heap.size + 1 + 1]? = some o3 ∧ Below w.heap.size w W := by subst h; exact box3 (Below.refl _ _)
theorem infoB : (Try.prog.info? 4).map (fun i => (i.zero, i.size, i.bytes)) = some (some (.bool false), 1, 1) := by kernel_rfl
theorem OwnsB.shapeN {w : World} {B g n c : Nat} {W : List Bool} (h : OwnsB w B (.slice (some ⟨g, 0, none⟩) n c) W) {t : Nat} (hn : W.length = n) (ht : t < n) : w.cell? ⟨g, t, none⟩ = some (.bool (W.getD t false)) ∧ w.frozen? ⟨g, t, none⟩ = false := by
  obtain ⟨A, c', hv, hsh⟩ := OwnsR.shape fB_len h
  injection hv with e1 e2 e3
  obtain ⟨g', hg, hc⟩ := hsh t (by omega)
  rw [← e1] at hg; injection hg with hg; injection hg with hg; subst hg
  have h0 := hc 0 _ rfl
  rw [Nat.mul_one, Nat.add_zero] at h0
  rw [List.getD_eq_getElem?_getD, List.getElem?_eq_getElem (by omega)]
  exact h0
theorem OwnsB.set {w : World} {B g n c : Nat} {W : List Bool} (h : OwnsB w B (.slice (some ⟨g, 0, none⟩) n c) W) {t : Nat} (hn : W.length = n) (ht : t < n) (b : Bool) : OwnsB (w.setCell ⟨g, t, none⟩ (.bool b)) B (.slice (some ⟨g, 0, none⟩) n c) (W.set t b) := by
  subst hn
  have h1 := (OwnsR.stored fB_len (j := t) (i := 0) (u := (.bool b : Value)) (y := b) h ht (by omega) rfl).1
  rw [Nat.mul_one, Nat.add_zero] at h1
  exact h1
theorem OwnsI.atI {w w' : World} {B : Nat} {v : Value} {L : List Int} (h : OwnsI w B v L) (hk : ∀ j, v.ownBlock = some j → w'.heap[j]? = w.heap[j]?) : OwnsI w' B v L := by
  obtain ⟨h1, h2⟩ := h
  refine ⟨h1, ?_⟩
  rcases h2 with h2 | ⟨g, cap, cur, rfl, e2, e3, e4⟩
  · exact .inl h2
  · exact .inr ⟨g, cap, cur, rfl, e2, (hk g rfl).trans e3, e4⟩
theorem OwnsI.setFar {w : World} {B : Nat} {v : Value} {L : List Int} (h : OwnsI w B v L) {g t : Nat} {u : Value} (hne : v.ownBlock ≠ some g) : OwnsI (w.setCell ⟨g, t, none⟩ u) B v L :=
  h.atI fun j hj => Below.heap_setCell w _ _ j (by intro e; exact hne (by rw [hj]; exact congrArg some e))
theorem OwnsB.atB {w w' : World} {B g n c : Nat} {W : List Bool} (h : OwnsB w B (.slice (some ⟨g, 0, none⟩) n c) W) (hk : w'.heap[g]? = w.heap[g]?) : OwnsB w' B (.slice (some ⟨g, 0, none⟩) n c) W := by
  obtain ⟨h1, h2⟩ := h
  refine ⟨h1, ?_⟩
  rcases h2 with ⟨h2, _⟩ | ⟨g', cap, cur, e1, e2, e3, e4⟩
  · cases h2
  · injection e1 with e5 e6 e7; injection e5 with e5; injection e5 with e5; subst e5
    exact .inr ⟨g, c, cur, by rw [e6], e2, hk.trans e3, by rw [e7]; exact e4⟩
theorem OwnsB.ltN {w : World} {B g n c : Nat} {W : List Bool} (h : OwnsB w B (.slice (some ⟨g, 0, none⟩) n c) W) : g < w.heap.size ∧ B ≤ g := by
  rcases h.2 with ⟨h2, _⟩ | ⟨g', cap, cur, e1, e2, e3, e4⟩
  · cases h2
  · injection e1 with e5 e6 e7; injection e5 with e5; injection e5 with e5; subst e5
    exact ⟨(Array.getElem?_eq_some_iff.1 e3).1, e2⟩

def owBool : Ow Bool := fun bs _ vs x => bs = [] ∧ vs = [.bool x]
theorem owBool_good : owBool.Good := ⟨fun _ _ _ _ _ h _ => h, fun _ _ _ _ ⟨h, _⟩ b hb => by rw [h] at hb; cases hb⟩
theorem owBool_rds : Ow.Rds owBool rdBool := fun _ _ _ _ _ _ ⟨_, h⟩ _ => h
def cntBoolS (L : List Bool) : Nat := L.length
theorem cntBoolS_step (L : List Bool) (i : Nat) (x : Bool) (h : L[i]? = some x) : cntBoolS (L.take (i + 1)) = cntBoolS (L.take i) + 1 := by
  unfold cntBoolS; rw [List.take_add_one, h, List.length_append]; rfl
theorem cntBoolS_le (L : List Bool) (i : Nat) : cntBoolS (L.take i) ≤ cntBoolS L := by unfold cntBoolS; rw [List.length_take]; omega
abbrev owBoolS : Ow (List Bool) := owS 1 owBool
theorem gow_BoolS : Ow.Good owBoolS := owS_good 1 owBool_good
theorem rds_BoolS : Ow.Rds owBoolS rdBoolS := owS_rds 1 owBool_rds
def numBool (k : Int) (_ : Bool) : Bool := (k % 3 == 0)
def numBoolS (k : Int) (L : List Bool) : List Bool := numG numBool (fun _ => 1) k L
theorem cntG_BoolS (L : List Bool) : cntG (fun _ : Bool => 1) L = cntBoolS L := by
  unfold cntG cntBoolS
  induction L with
  | nil => rfl
  | cons x xs ih => rw [List.map_cons, List.sum_cons, ih, List.length_cons]; omega
theorem numBoolS_set (L : List Bool) (i : Nat) (x : Bool) (k cc : Int) (h : L[i]? = some x) (hc : (cntBoolS (L.take i) : Int) = cc) : (numBoolS k (L.take i) ++ L.drop i).set i (numBool (k + cc) x) = numBoolS k (L.take (i + 1)) ++ L.drop (i + 1) := by
  have h1 := numG_set numBool (fun _ : Bool => 1) L i x k h
  rw [cntG_BoolS, hc] at h1; exact h1
theorem numBoolS_mid (L : List Bool) (i : Nat) (x : Bool) (k : Int) (h : L[i]? = some x) : (numBoolS k (L.take i) ++ L.drop i)[i]? = some x := numG_mid numBool (fun _ : Bool => 1) L i x k h
theorem numBoolS_get (L : List Bool) (i : Nat) (x : Bool) (k cc : Int) (h : L[i]? = some x) (hc : (cntBoolS (L.take i) : Int) = cc) : (numBoolS k L)[i]? = some (numBool (k + cc) x) := by
  have h1 := numG_get numBool (fun _ : Bool => 1) L i x k h
  rw [cntG_BoolS, hc] at h1; exact h1
theorem numBoolS_len (L : List Bool) (k : Int) : (numBoolS k L).length = L.length := numG_len numBool (fun _ : Bool => 1) L k
theorem numBoolS_midlen (L : List Bool) (i : Nat) (k : Int) (h : i ≤ L.length) : (numBoolS k (L.take i) ++ L.drop i).length = L.length := by
  rw [List.length_append, numBoolS_len, List.length_take, List.length_drop]; omega

/-- As an owned datum. -/
theorem ownB_ow {w : World} {B : Nat} {v : Value} {L : List Bool} (h : OwnsB w B v L) : owBoolS (blkL v) w [v] L := by
  have hA := OwnsR.shape fB_len h
  rcases h.2 with ⟨rfl, h0⟩ | ⟨g, cap, cur, rfl, e2, e3, e4, e5, e6⟩
  · have : L = [] := List.eq_nil_of_length_eq_zero h0
    subst this
    exact ⟨none, 0, rfl, by simp, .inl ⟨rfl, rfl⟩⟩
  · obtain ⟨A, c, hv, hsh⟩ := hA
    injection hv with h1 h2 h3
    refine ⟨_, _, rfl, by omega, .inr ⟨g, 0, fun _ => [], rfl, by simp [blkL_at], (Array.getElem?_eq_some_iff.1 e3).1, fun j hj => ?_⟩⟩
    obtain ⟨g', hg, hc⟩ := hsh j hj
    rw [← h1] at hg
    injection hg with hg
    injection hg with hg
    subst hg
    exact ⟨[.bool L[j]], rfl, fun i u hu => by rw [Nat.zero_add]; exact hc i u hu, rfl, rfl⟩
end Go.Proofs.Ytiejilmgchmppaa
