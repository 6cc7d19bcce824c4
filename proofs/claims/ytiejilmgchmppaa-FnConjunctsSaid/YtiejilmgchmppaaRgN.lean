/-
  Kept, Rg, RgOps as one text.
-/
import Derived.Test.YtiejilmgchmppaaBaN
import Derived.OrdersHeld
import Derived.StillTail
import Derived.Deep.RegionHeld3
import Derived.Test.YtiejilmgchmppaaOwN
import Derived.Laws.OwnMore
import Derived.OwnWalk
/- Kept: A region that draws its order: what only reads may be taken first, as long as a condition S on the world is kept by what acts; the last operations, which wait for all the others, owe S nothing. -/
namespace Go.Proofs.Ytiejilmgchmppaa
open Go.RowKit
set_option linter.unusedVariables false

section
variable {P : Program} {ops : Array Oper} {Q : Exit → Act → World → Prop} {md : Region.Mode} {S : World → Prop} {n : Nat}
/-- Any order of what is left; S is shown behind each of the first n operations. -/
def wpKept (P : Program) (md : Region.Mode) (ops : Array Oper) (Q : Exit → Act → World → Prop) (S : World → Prop) (n : Nat) : Nat → Array Bool → Act → World → Prop
  | 0, L, a, w => Region.ready md ops L = [] ∧ Q .normal a w
  | f + 1, L, a, w => (Region.ready md ops L = [] → Q .normal a w) ∧ ∀ k ∈ Region.ready md ops L, wpOp P ops Q k (fun a' w' => (k < n → S w') ∧ wpKept P md ops Q S n f (L.setIfInBounds k true) a' w') a w
theorem wpKept.any : ∀ (f : Nat) (L : Array Bool) (a : Act) (w : World), wpKept P md ops Q S n f L a w → wpAny P md ops Q f L a w := by
  intro f
  induction f with
  | zero => intro L a w h; exact h
  | succ f ih => intro L a w h; exact ⟨h.1, fun k hk => wpOp_mono (fun a' w' h' => ih _ a' w' h'.2) (h.2 k hk)⟩
/-- A reading operation goes first. -/
theorem wpKept.first {i : Nat} {oi : Oper} {v : Value} (hi : ops[i]? = some oi) (hsel : Region.noSelect ops = true) (hs : Region.sinkB md ops n = true) (hc : Region.chainB md ops n = true) (hn : n < ops.size) (hin : i < n)
    (hQ : ∀ c a w, Q (.panic c) (a.put oi.dst v) w → Q (.panic c) a w) :
    ∀ (f : Nat) (L : Array Bool) (a : Act) (w : World), HeadInv md ops n L →
      (∀ j oj, ops[j]? = some oj → j ≠ i → L.getD j true = false → (∀ e ∈ oj.after, Region.binds md e = true → e.on ≠ i) → oi.apart ops oj = true) →
      i ∈ Region.ready md ops L → YieldsIf P ops S oi v a → S w → wpKept P md ops Q S n f (L.setIfInBounds i true) (a.put oi.dst v) w → wpKept P md ops Q S n (f + 1) L a w := by
  intro f
  induction f with
  | zero =>
    intro L a w inv hfree hr hy hS H
    refine ⟨fun h => (by rw [h] at hr; cases hr), fun k hk => ?_⟩
    by_cases hki : k = i
    · subst hki; exact hy.wpOp hi hS ⟨fun _ => hS, H⟩
    · have h1 := ready_mono hk hki
      rw [H.1] at h1; cases h1
  | succ f ih =>
    intro L a w inv hfree hr hy hS H
    refine ⟨fun h => (by rw [h] at hr; cases hr), fun k hk => ?_⟩
    by_cases hki : k = i
    · subst hki; exact hy.wpOp hi hS ⟨fun _ => hS, H⟩
    · have hun := (mem_ready.1 hr).1
      have hkn : k < n := by
        rcases Nat.lt_or_ge k n with h | h
        · exact h
        · exact absurd hk (tail_waits hs hc hn inv _ i rfl hin hun k h)
      obtain ⟨hkun, ok, hok, hall⟩ := mem_ready.1 hk
      have hnot : ∀ e ∈ ok.after, Region.binds md e = true → e.on ≠ i := fun e he hb heq => by
        have h1 := hall e he hb
        rw [heq, getD_both hun] at h1
        cases h1
      have h2 := wpOp_putIf hok (hfree k ok hok hki hkun hnot) (fun cs b => Region.noSelect_spec hsel i oi cs b hi) (fun cs b => Region.noSelect_spec hsel k ok cs b hok) hQ hy (H.2 k (ready_mono hk hki))
      refine wpOp_mono (fun a' w' h3 => ⟨fun _ => h3.2.1 hkn, ih (L.setIfInBounds k true) a' w' (inv.set hk hkn) ?_ (ready_mono hr (Ne.symm hki)) h3.1 (h3.2.1 hkn) ?_⟩) h2
      · intro j oj hj hji hun' hno
        refine hfree j oj hj hji ?_ hno
        by_cases hkj : k = j
        · subst hkj; exact hkun
        · rw [getD_set_ne true hkj] at hun'; exact hun'
      · rw [Array.setIfInBounds_comm _ _ hki]
        exact h3.2.2
/-- .. with what the walk carries along. -/
def Kept (P : Program) (md : Region.Mode) (ops : Array Oper) (Q : Exit → Act → World → Prop) (S : World → Prop) (n : Nat) (f : Nat) (L : Array Bool) (a : Act) (w : World) : Prop := HeadInv md ops n L → wpKept P md ops Q S n f L a w
/-- What is checked of the region once. -/
def keptB (md : Region.Mode) (ops : Array Oper) (n : Nat) : Bool := Region.noSelect ops && decide (n < ops.size) && Region.sinkB md ops n && Region.chainB md ops n
theorem Kept.take (i : Nat) {oi : Oper} {v : Value} {f : Nat} {L : Array Bool} {a : Act} {w : World} (hB : keptB md ops n = true) (hi' : ops.toList[i]? = some oi) (hf : (Region.free md ops L i && (Region.ready md ops L).contains i && decide (i < n)) = true)
    (hQ : ∀ c a w, Q (.panic c) (a.put oi.dst v) w → Q (.panic c) a w) (hy : YieldsIf P ops S oi v a) (hS : S w) (h : Kept P md ops Q S n f (L.setIfInBounds i true) (a.put oi.dst v) w) : Kept P md ops Q S n (f + 1) L a w := fun inv => by
  have hi : ops[i]? = some oi := by rw [← Array.getElem?_toList]; exact hi'
  simp only [keptB, Bool.and_eq_true, decide_eq_true_eq] at hB hf
  have hr : i ∈ Region.ready md ops L := by simpa using hf.1.2
  exact wpKept.first hi hB.1.1.1 hB.1.2 hB.2 hB.1.1.2 hf.2 hQ f L a w inv (Region.free_spec hi hf.1.1) hr hy hS (h (inv.set hr hf.2))
/-- The only operation that may come up. -/
theorem Kept.one (i : Nat) {o : Oper} {f : Nat} {L : Array Bool} {a : Act} {w : World} (hr : (decide (Region.ready md ops L = [i]) && decide (i < n)) = true) (ho' : ops.toList[i]? = some o)
    (h : ∀ K : Act → World → Prop, Shut (∀ a w, S w → (S w → Kept P md ops Q S n f (L.setIfInBounds i true) a w) → K a w) → if Region.wanted o (yielded ops a.tmps) = true then Oper.wp P o a w K Q else K (a.put o.dst undef) w) : Kept P md ops Q S n (f + 1) L a w := fun inv => by
  have ho : ops[i]? = some o := by rw [← Array.getElem?_toList]; exact ho'
  simp only [Bool.and_eq_true, decide_eq_true_eq] at hr
  have hm : i ∈ Region.ready md ops L := by rw [hr.1]; simp
  refine ⟨fun h0 => (by rw [hr.1] at h0; cases h0), fun k hk => ?_⟩
  rw [hr.1] at hk
  have hki : k = i := by simpa using hk
  subst hki
  exact wpOp_step ho fun K hK => h K fun a w hS hW => hK a w ⟨fun _ => hS, hW hS (inv.set hm hr.2)⟩
/-- The end: what is left goes in its order. -/
theorem wpKept.seq : ∀ (l : List Oper) (k : Nat) (L : Array Bool) (a : Act) (w : World), (∀ j, l[j]? = ops[k + j]?) → n ≤ k → Region.seqB md ops l.length k L = true → wpList P ops Q l a w → wpKept P md ops Q S n l.length L a w
  | [], k, L, a, w, _, _, hB, h => ⟨by simpa [Region.seqB] using hB, h⟩
  | o :: l, k, L, a, w, hl, hk, hB, h => by
    have h0 : ops[k]? = some o := by simpa using (hl 0).symm
    simp only [List.length_cons, Region.seqB, Bool.and_eq_true, decide_eq_true_eq] at hB
    refine ⟨fun h1 => (by rw [hB.1] at h1; cases h1), fun i hi => ?_⟩
    rw [hB.1] at hi
    have hik : i = k := by simpa using hi
    subst hik
    have hw : wpOp P ops Q i (wpList P ops Q l) a w := by unfold wpOp; simp only [h0]; exact h
    exact wpOp_mono (fun a' w' h' => ⟨fun hlt => absurd hlt (by omega), wpKept.seq l (i + 1) _ a' w' (fun j => by have := hl (j + 1); simpa [Nat.add_assoc, Nat.add_comm 1 j] using this) (by omega) hB.2 h'⟩) hw
theorem Kept.tail {l : List Oper} {L : Array Bool} {a : Act} {w : World} {g : Nat} (hg : (l.drop n).length = g) (hB : Region.seqB md l.toArray g n L = true) (h : wpList P l.toArray Q (l.drop n) a w) : Kept P md l.toArray Q S n g L a w := fun _ => by
  subst hg
  exact wpKept.seq (l.drop n) n L a w (fun j => by simp [List.getElem?_drop]) (Nat.le_refl _) hB h
theorem wp_region_kept {id : Nat} {a : Act} {w : World} (n N : Nat) (S : World → Prop) (hm : P.follows .mixedOrders = true) (hN : ops.size = N) (hS : S w.drew) (h : S w.drew → Kept P .any ops Q S n N (Array.replicate N false) a w.drew) : (Code.region id ops true).wp P Q a w := by
  subst hN
  exact wp_region_any hm (wpKept.any _ _ _ _ (h hS ⟨by simp, fun j oj _ hl => (by rw [getD_replicate_false] at hl; cases hl), fun t _ ht => getD_in (by simpa using ht) (getD_replicate_false _ _)⟩))
end
end Go.Proofs.Ytiejilmgchmppaa
/- Rg: A region that draws its order, of operations that read, make memory or call what makes memory: each is shown once, whatever has come up ahead of it. -/
namespace Go.Proofs.Ytiejilmgchmppaa
open Go.RowKit
set_option linter.unusedVariables false

def upd (vals : Nat → Value) (k : Nat) (v : Value) : Nat → Value := fun i => if i = k then v else vals i
theorem upd_self (vals : Nat → Value) (k : Nat) (v : Value) : upd vals k v k = v := by simp [upd]
theorem upd_ne (vals : Nat → Value) {k i : Nat} (v : Value) (h : i ≠ k) : upd vals k v i = vals i := by simp [upd, h]
/-- The block that a slice or a pointer points into. -/
def topB : Value → List Nat
  | .slice (some a) _ _ => [a.block]
  | .pointer (some a) => [a.block]
  | _ => []
/-- The frame with the values of these operations in their places. -/
def fillA (vals : Nat → Value) : List (Nat × Tmp) → Act → Act
  | [], a => a
  | (k, t) :: ks, a => fillA vals ks (a.put (some t) (vals k))
def setAll : List (Nat × Tmp) → Array Bool → Array Bool
  | [], L => L
  | (k, _) :: ks, L => setAll ks (L.setIfInBounds k true)
theorem put_def (a : Act) (x : Option Tmp) (v : Value) : (a.put x v).defers = a.defers := by cases x <;> rfl
theorem fillA_put (vals : Nat → Value) (t : Tmp) (v : Value) : ∀ (ks : List (Nat × Tmp)) (a : Act), t ∉ ks.map (·.2) → fillA vals ks (a.put (some t) v) = (fillA vals ks a).put (some t) v
  | [], a, _ => rfl
  | (k, u) :: ks, a, h => by
    simp only [List.map_cons, List.mem_cons, not_or] at h
    unfold fillA
    rw [← fillA_put vals t v ks _ h.2, Act.put_comm a v (vals k) (fun d hd hd' => by injection hd with hd; injection hd' with hd'; exact h.1 (hd.trans hd'.symm))]
theorem put_put (a : Act) (t : Tmp) (u v : Value) : (a.put (some t) u).put (some t) v = a.put (some t) v := by
  simp [Act.put, Array.setIfInBounds_setIfInBounds]
theorem fillA_over (vals : Nat → Value) (v : Value) : ∀ (ks : List (Nat × Tmp)) (a : Act) (k : Nat) (t : Tmp), (ks.map (·.2)).Nodup → (k, t) ∈ ks → fillA vals ks (a.put (some t) v) = fillA vals ks a
  | (k', u) :: ks, a, k, t, hn, hm => by
    simp only [List.map_cons, List.nodup_cons] at hn
    by_cases e : t = u
    · subst e
      unfold fillA
      rw [put_put]
    · have hm' : (k, t) ∈ ks := by
        rcases List.mem_cons.1 hm with h | h
        · injection h with _ h; exact absurd h e
        · exact h
      unfold fillA
      rw [Act.put_comm a v (vals k') (fun d hd hd' => by injection hd with hd; injection hd' with hd'; exact e (hd.trans hd'.symm)), fillA_over vals v ks _ k t hn.2 hm']
theorem fillA_same (vals : Nat → Value) : ∀ (ks : List (Nat × Tmp)) (a : Act), (∀ k t, (k, t) ∈ ks → a.tmps[t]? = some (vals k)) → fillA vals ks a = a
  | [], a, _ => rfl
  | (k, t) :: ks, a, h => by
    have h0 := h k t (List.mem_cons_self ..)
    have e : a.put (some t) (vals k) = a := by
      obtain ⟨tm, df⟩ := a
      have hi := (Array.getElem?_eq_some_iff.1 h0).1
      have hv := (Array.getElem?_eq_some_iff.1 h0).2
      simp only [Act.put]
      congr 1
      apply Array.ext
      · simp
      · intro i h1 h2
        by_cases hit : t = i
        · subst hit; rw [Array.getElem_setIfInBounds_self]; exact hv.symm
        · rw [Array.getElem_setIfInBounds_ne _ hit]
    unfold fillA
    rw [e]
    exact fillA_same vals ks a fun k' t' hm => h k' t' (List.mem_cons_of_mem _ hm)
theorem fillA_congr (vals vals' : Nat → Value) : ∀ (ks : List (Nat × Tmp)) (a : Act), (∀ k t, (k, t) ∈ ks → vals k = vals' k) → fillA vals ks a = fillA vals' ks a
  | [], a, _ => rfl
  | (k, t) :: ks, a, h => by
    unfold fillA
    rw [h k t (List.mem_cons_self ..)]
    exact fillA_congr vals vals' ks _ fun k' t' hm => h k' t' (List.mem_cons_of_mem _ hm)
theorem fillA_size (vals : Nat → Value) : ∀ (ks : List (Nat × Tmp)) (a : Act), (fillA vals ks a).tmps.size = a.tmps.size
  | [], a => rfl
  | (k, t) :: ks, a => by unfold fillA; rw [fillA_size vals ks]; simp [Act.put]
theorem fillA_at (vals : Nat → Value) : ∀ (ks : List (Nat × Tmp)) (a : Act) (k : Nat) (t : Tmp), (ks.map (·.2)).Nodup → (k, t) ∈ ks → t < a.tmps.size → (fillA vals ks a).tmps[t]? = some (vals k)
  | (k', u) :: ks, a, k, t, hn, hm, hlt => by
    simp only [List.map_cons, List.nodup_cons] at hn
    rcases List.mem_cons.1 hm with h | h
    · injection h with h1 h2
      subst h1 h2
      unfold fillA
      rw [fillA_put vals t _ ks a hn.1]
      simp only [Act.put]
      rw [Array.getElem?_setIfInBounds_self_of_lt (by rw [fillA_size]; exact hlt)]
    · unfold fillA
      exact fillA_at vals ks _ k t hn.2 h (by simp [Act.put]; exact hlt)
theorem fillA_far (vals : Nat → Value) : ∀ (ks : List (Nat × Tmp)) (a : Act) (t : Tmp), t ∉ ks.map (·.2) → (fillA vals ks a).tmps[t]? = a.tmps[t]?
  | [], a, t, _ => rfl
  | (k, u) :: ks, a, t, h => by
    simp only [List.map_cons, List.mem_cons, not_or] at h
    unfold fillA
    rw [fillA_far vals ks _ t h.2]
    simp only [Act.put]
    rw [Array.getElem?_setIfInBounds_ne (Ne.symm h.1)]
theorem setAll_over : ∀ (ks : List (Nat × Tmp)) (L : Array Bool) (k : Nat), k ∈ ks.map (·.1) → setAll ks (L.setIfInBounds k true) = setAll ks L
  | (k', t) :: ks, L, k, h => by
    simp only [List.map_cons, List.mem_cons] at h
    unfold setAll
    by_cases e : k = k'
    · subst e; rw [Array.setIfInBounds_setIfInBounds]
    · have h' : k ∈ ks.map (·.1) := by rcases h with h | h; exact absurd h e; exact h
      rw [Array.setIfInBounds_comm _ _ e, setAll_over ks _ k h']
theorem setAll_same : ∀ (ks : List (Nat × Tmp)) (L : Array Bool), (∀ k ∈ ks.map (·.1), L.getD k false = true) → setAll ks L = L
  | [], L, _ => rfl
  | (k, t) :: ks, L, h => by
    have h0 := h k (by simp)
    have e : L.setIfInBounds k true = L := by
      apply Array.ext
      · simp
      · intro i h1 h2
        by_cases hik : k = i
        · subst hik
          rw [Array.getElem_setIfInBounds_self]
          rw [Array.getD_eq_getD_getElem?, Array.getElem?_eq_getElem h2] at h0
          exact h0.symm
        · rw [Array.getElem_setIfInBounds_ne _ hik]
    unfold setAll
    rw [e]
    exact setAll_same ks L fun k' hm => h k' (by simp only [List.map_cons, List.mem_cons]; exact .inr hm)

section
variable {P : Program} {ops : Array Oper} {Q : Exit → Act → World → Prop} {md : Region.Mode} {S : World → Prop} {n : Nat}
/-- What is looked at holds the same: the operation does the same. -/
theorem exec_eqOn {o : Oper} (hs : ∀ cs b, o.op ≠ .select cs b) {a b : Act} (h : ∀ t ∈ o.looksAt ops, a.tmps[t]? = b.tmps[t]?) : execOp a.eval o = execOp b.eval o :=
  execOp_congr o hs fun x hx => by
    cases x with
    | tmp t =>
      have ht : t ∈ o.looksAt ops := by
        unfold Oper.looksAt
        refine List.mem_append_left _ ?_
        rw [List.mem_filterMap]
        exact ⟨.tmp t, by simpa using hx, rfl⟩
      have e := h t ht
      show a.tmps.getD t undef = b.tmps.getD t undef
      rw [Array.getD_eq_getD_getElem?, Array.getD_eq_getD_getElem?, e]
    | _ => rfl
theorem wanted_eqOn {o : Oper} {a b : Act} (h : ∀ t ∈ o.looksAt ops, a.tmps[t]? = b.tmps[t]?) : Region.wanted o (yielded ops a.tmps) = Region.wanted o (yielded ops b.tmps) := by
  unfold Region.wanted
  cases hg : o.guard with
  | none => rfl
  | some gw =>
    obtain ⟨g, want⟩ := gw
    have e : yielded ops a.tmps g = yielded ops b.tmps g := by
      unfold yielded
      cases ht : (ops[g]?).bind (·.dst) with
      | none => rfl
      | some t =>
        have hm : t ∈ o.looksAt ops := by
          unfold Oper.looksAt
          refine List.mem_append_right _ ?_
          rw [hg]
          simp [ht]
        simp only [Option.bind_some, h t hm]
    simp only [e]
/-- What is checked of the operations ks once. -/
def rgB (md : Region.Mode) (ops : Array Oper) (n sz : Nat) (L : Array Bool) (ks : List (Nat × Tmp)) : Bool :=
  keptB md ops n && decide (ks.map (·.2)).Nodup && decide (ks.map (·.1)).Nodup &&
  (ks.all fun (k, t) => decide (k < n) && (L.getD k true == false) && decide (t < sz) && ((ops[k]?).any fun o => o.dst == some t && (o.after.all fun e => !Region.binds md e || decide (e.on < k)) && (ks.all fun (j, u) => !(o.looksAt ops).contains u || Region.waitsFor md ops k j))) &&
  (List.range n).all fun i => L.getD i false || (ks.map (·.1)).contains i
structure RgAt (md : Region.Mode) (ops : Array Oper) (n sz : Nat) (L : Array Bool) (ks : List (Nat × Tmp)) : Prop where
  kept : keptB md ops n = true
  nodt : (ks.map (·.2)).Nodup
  nodk : (ks.map (·.1)).Nodup
  each : ∀ k t, (k, t) ∈ ks → k < n ∧ L.getD k true = false ∧ t < sz ∧ ∃ o, ops[k]? = some o ∧ o.dst = some t ∧ (∀ e ∈ o.after, Region.binds md e = true → e.on < k) ∧ ∀ j u, (j, u) ∈ ks → u ∈ o.looksAt ops → Region.waitsFor md ops k j = true
  all : ∀ i, i < n → L.getD i false = true ∨ i ∈ ks.map (·.1)
theorem rg_of {sz : Nat} {L : Array Bool} {ks : List (Nat × Tmp)} (h : rgB md ops n sz L ks = true) : RgAt md ops n sz L ks := by
  unfold rgB at h
  simp only [Bool.and_eq_true, decide_eq_true_eq] at h
  obtain ⟨⟨⟨⟨h1, h2⟩, h3⟩, h4⟩, h5⟩ := h
  refine ⟨h1, h2, h3, fun k t hm => ?_, fun i hi => ?_⟩
  · have h := List.all_eq_true.1 h4 (k, t) hm
    simp only [Bool.and_eq_true, decide_eq_true_eq, beq_iff_eq] at h
    obtain ⟨⟨⟨a1, a2⟩, a3⟩, a4⟩ := h
    cases ho : ops[k]? with
    | none => rw [ho] at a4; cases a4
    | some o =>
      rw [ho] at a4
      simp only [Option.any_some, Bool.and_eq_true, beq_iff_eq] at a4
      obtain ⟨⟨b1, b2⟩, b3⟩ := a4
      refine ⟨a1, a2, a3, o, rfl, b1, fun e he hb => ?_, fun j u hj hu => ?_⟩
      · have h := Array.all_eq_true'.1 b2 e he
        rw [hb] at h
        simpa using h
      · have h := List.all_eq_true.1 b3 (j, u) hj
        simpa [hu] using h
  · have h := List.all_eq_true.1 h5 i (List.mem_range.2 hi)
    simpa using h

/-- What is owed of one operation: in the frame where all of ks have their values. -/
def RgStep (P : Program) (ops : Array Oper) (Q : Exit → Act → World → Prop) (S : World → Prop) (mk : List Nat) (R : Nat → (Nat → Value) → World → Prop) (o : Oper) (k : Nat) (vals : Nat → Value) (a : Act) (w : World) : Prop :=
  if Region.wanted o (yielded ops a.tmps) = true then
    ∀ K : Act → World → Prop, (∀ v w', S w' → Below w.heap.size w w' → R k (upd vals k v) w' → (k ∈ mk → ∀ b ∈ topB v, w.heap.size ≤ b ∧ b < w'.heap.size) → K (a.put o.dst v) w') → Oper.wp P o a w K Q
  else R k (upd vals k undef) w
/-- What the makers have made lies apart. -/
def Apart (mk : List Nat) (vals : Nat → Value) : Prop := ∀ j k, j ∈ mk → k ∈ mk → j ≠ k → ∀ b ∈ topB (vals j), b ∉ topB (vals k)

theorem rg_go {sz g : Nat} {L0 : Array Bool} {ks : List (Nat × Tmp)} {a0 : Act} {mk : List Nat} {R : Nat → (Nat → Value) → World → Prop} (A : RgAt md ops n sz L0 ks) (hmk : ∀ k ∈ mk, k ∈ ks.map (·.1)) (hsz : a0.tmps.size = sz)
    (hQ : ∀ c a w, ¬ Q (.panic c) a w)
    (hSR : ∀ k, k ∈ ks.map (·.1) → ∀ vals w w', R k vals w → Below w.heap.size w w' → R k vals w')
    (hloc : ∀ k j, k ∈ ks.map (·.1) → j ∈ ks.map (·.1) → j ≠ k → Region.waitsFor md ops k j = false → ∀ vals v w, R k vals w → R k (upd vals j v) w)
    (hstep : ∀ k t o, (k, t) ∈ ks → ops[k]? = some o → ∀ vals w, S w → (∀ j, Region.waitsFor md ops k j = true → j ∈ ks.map (·.1) → R j vals w) → RgStep P ops Q S mk R o k vals (fillA vals ks a0) w)
    (hend : ∀ vals w, S w → (∀ k ∈ ks.map (·.1), R k vals w) → Apart mk vals → Kept P md ops Q S n g (setAll ks L0) (fillA vals ks a0) w) :
    ∀ (m : Nat) (L : Array Bool) (a : Act) (w : World) (vals : Nat → Value), HeadInv md ops n L → setAll ks L = setAll ks L0 → (∀ i, i < n → L.getD i false = true ∨ i ∈ ks.map (·.1)) → (∀ vals', fillA vals' ks a = fillA vals' ks a0) →
      a.tmps.size = sz → S w → (∀ k t, (k, t) ∈ ks → L.getD k false = true → a.tmps[t]? = some (vals k) ∧ R k vals w) → (∀ j ∈ mk, L.getD j false = true → ∀ b ∈ topB (vals j), b < w.heap.size) →
      (∀ j k, j ∈ mk → k ∈ mk → j ≠ k → L.getD j false = true → L.getD k false = true → ∀ b ∈ topB (vals j), b ∉ topB (vals k)) → ((ks.map (·.1)).filter fun k => !L.getD k false).length = m → wpKept P md ops Q S n (m + g) L a w := by
  have hB := A.kept
  simp only [keptB, Bool.and_eq_true, decide_eq_true_eq] at hB
  obtain ⟨⟨⟨hsel, hnlt⟩, hsink⟩, hchain⟩ := hB
  intro m
  induction m with
  | zero =>
    intro L a w vals inv hset hall hfill hsize hS hL hlow hap hm
    have hdone : ∀ k ∈ ks.map (·.1), L.getD k false = true := by
      intro k hk
      have h0 := List.eq_nil_of_length_eq_zero hm
      cases hl : L.getD k false with
      | true => rfl
      | false =>
        have : k ∈ (ks.map (·.1)).filter fun k => !L.getD k false := List.mem_filter.2 ⟨hk, by simp [hl]⟩
        rw [h0] at this
        cases this
    have e1 : setAll ks L0 = L := by rw [← hset]; exact setAll_same ks L hdone
    have e2 : fillA vals ks a0 = a := by
      rw [← hfill vals]
      exact fillA_same vals ks a fun k t hm => (hL k t hm (hdone k (List.mem_map.2 ⟨(k, t), hm, rfl⟩))).1
    have h := hend vals w hS fun k hk => by
      obtain ⟨⟨k', t⟩, hm, rfl⟩ := List.mem_map.1 hk
      exact (hL k' t hm (hdone k' hk)).2
    replace h := h fun j k hj hk hne => hap j k hj hk hne (hdone j (hmk j hj)) (hdone k (hmk k hk))
    rw [e1, e2] at h
    rw [Nat.zero_add]
    exact h inv
  | succ m ih =>
    intro L a w vals inv hset hall hfill hsize hS hL hlow hap hm
    rw [show m + 1 + g = (m + g) + 1 by omega]
    -- one that is not listed
    have hne : ∃ k0 ∈ ks.map (·.1), L.getD k0 false = false := by
      cases hf : (ks.map (·.1)).filter fun k => !L.getD k false with
      | nil => rw [hf] at hm; cases hm
      | cons k0 r =>
        have : k0 ∈ (ks.map (·.1)).filter fun k => !L.getD k false := by rw [hf]; exact List.mem_cons_self ..
        obtain ⟨h1, h2⟩ := List.mem_filter.1 this
        exact ⟨k0, h1, by simpa using h2⟩
    -- the least of them may come up
    have hleast : ∀ b k0, k0 ≤ b → k0 ∈ ks.map (·.1) → L.getD k0 false = false → ∃ k, k ∈ Region.ready md ops L := by
      intro b
      induction b using Nat.strongRecOn with
      | _ b ihb =>
        intro k0 hb hk0 hun
        obtain ⟨⟨k', t⟩, hmem, rfl⟩ := List.mem_map.1 hk0
        obtain ⟨hkn, hk2, hk3, o, ho, hd, hedge, hlook⟩ := A.each k' t hmem
        by_cases hall' : ∀ e ∈ o.after, Region.binds md e = true → L.getD e.on false = true
        · exact ⟨k', mem_ready.2 ⟨getD_in (by rw [inv.size]; exact (Array.getElem?_eq_some_iff.1 ho).1) hun, o, ho, hall'⟩⟩
        · have hx : ∃ e ∈ o.after, Region.binds md e = true ∧ L.getD e.on false = false := by
            apply Classical.byContradiction
            intro hcon
            apply hall'
            intro e he hb'
            cases hl : L.getD e.on false with
            | true => rfl
            | false => exact absurd ⟨e, he, hb', hl⟩ hcon
          obtain ⟨e, he, hb', hl⟩ := hx
          have hlt := hedge e he hb'
          have hin : e.on ∈ ks.map (·.1) := by
            rcases hall e.on (by omega) with h | h
            · rw [h] at hl; cases hl
            · exact h
          exact ihb e.on (by omega) e.on (Nat.le_refl _) hin hl
    obtain ⟨k0, hk0, hun0⟩ := hne
    obtain ⟨kr, hkr⟩ := hleast k0 k0 (Nat.le_refl _) hk0 hun0
    have hk0n : k0 < n := by
      obtain ⟨⟨k', t⟩, hmem, rfl⟩ := List.mem_map.1 hk0
      exact (A.each k' t hmem).1
    refine ⟨fun h => (by rw [h] at hkr; cases hkr), fun k hk => ?_⟩
    obtain ⟨hkun, o, ho, hpre⟩ := mem_ready.1 hk
    have hkn : k < n := by
      rcases Nat.lt_or_ge k n with h | h
      · exact h
      · exact absurd hk (tail_waits hsink hchain hnlt inv _ k0 rfl hk0n (getD_in (by rw [inv.size]; omega) hun0) k h)
    have hkl : L.getD k false = false := getD_both hkun
    have hkm : k ∈ ks.map (·.1) := by
      rcases hall k hkn with h | h
      · rw [h] at hkl; cases hkl
      · exact h
    obtain ⟨⟨k', t⟩, hmem, hk'⟩ := List.mem_map.1 hkm
    have hk'' : k' = k := hk'
    subst hk''
    obtain ⟨_, _, htsz, o', ho', hdst, hedge, hlook⟩ := A.each k' t hmem
    have : o' = o := Option.some.inj (ho'.symm.trans ho)
    subst this
    have hwl : ∀ j, Region.waitsFor md ops k' j = true → L.getD j false = true := by
      intro j hj
      obtain ⟨o2, ho2, e, he, hb, hon⟩ := Region.waitsFor_spec hj
      have : o2 = o' := Option.some.inj (ho2.symm.trans ho)
      subst this
      have := hpre e he hb
      rwa [hon] at this
    -- the frame in which it is shown
    have hfa := hfill vals
    have hlk : ∀ u ∈ o'.looksAt ops, a.tmps[u]? = (fillA vals ks a).tmps[u]? := by
      intro u hu
      by_cases hin : u ∈ ks.map (·.2)
      · obtain ⟨⟨j, u'⟩, hj, rfl⟩ := List.mem_map.1 hin
        have hw := hlook j u' hj hu
        rw [(hL j u' hj (hwl j hw)).1, fillA_at vals ks a j u' A.nodt hj (by rw [hsize]; exact (A.each j u' hj).2.2.1)]
      · rw [fillA_far vals ks a u hin]
    have hselo : ∀ cs b, o'.op ≠ .select cs b := fun cs b => Region.noSelect_spec hsel k' o' cs b ho
    have hex := exec_eqOn (ops := ops) hselo hlk
    have hwa := wanted_eqOn (ops := ops) hlk
    have hst := hstep k' t o' hmem ho vals w hS (fun j hj hjm => by
      obtain ⟨⟨j', u⟩, hj', rfl⟩ := List.mem_map.1 hjm
      exact (hL j' u hj' (hwl j' hj)).2)
    rw [← hfa] at hst
    -- what comes of it
    have hnext : ∀ v w', S w' → Below w.heap.size w w' → R k' (upd vals k' v) w' → (k' ∈ mk → ∀ b ∈ topB v, w.heap.size ≤ b ∧ b < w'.heap.size) → wpKept P md ops Q S n (m + g) (L.setIfInBounds k' true) (a.put (some t) v) w' := by
      intro v w' hS' hb' hR' hnew
      refine ih (L.setIfInBounds k' true) (a.put (some t) v) w' (upd vals k' v) (inv.set hk hkn) (by rw [setAll_over ks L k' hkm]; exact hset) (fun i hi => ?_) (fun vals' => by rw [fillA_over vals' v ks a k' t A.nodt hmem]; exact hfill vals') (by simp [Act.put, hsize]) hS' (fun j u hj hl => ?_) (fun j hj hl b hb => ?_) (fun i j hi hj hne hli hlj b hb => ?_) ?_
      · rcases hall i hi with h | h
        · exact .inl (getD_set_true h)
        · exact .inr h
      · by_cases hjk : j = k'
        · subst hjk
          have : u = t := by
            have e : ∀ (l : List (Nat × Tmp)) (u t : Tmp), (l.map (·.1)).Nodup → (j, u) ∈ l → (j, t) ∈ l → u = t := by
              intro l
              induction l with
              | nil => intro u t _ h; cases h
              | cons x l ihl =>
                intro u t hn h1 h2
                simp only [List.map_cons, List.nodup_cons] at hn
                rcases List.mem_cons.1 h1 with h1 | h1 <;> rcases List.mem_cons.1 h2 with h2 | h2
                · rw [← h1] at h2; injection h2 with _ h2; exact h2.symm
                · exact absurd (List.mem_map.2 ⟨(j, t), h2, by rw [← h1]⟩) hn.1
                · exact absurd (List.mem_map.2 ⟨(j, u), h1, by rw [← h2]⟩) hn.1
                · exact ihl u t hn.2 h1 h2
            exact e ks u t A.nodk hj hmem
          subst this
          rw [upd_self]
          refine ⟨?_, hR'⟩
          simp only [Act.put]
          rw [Array.getElem?_setIfInBounds_self_of_lt (by rw [hsize]; exact htsz)]
        · rw [getD_set_ne false (Ne.symm hjk)] at hl
          obtain ⟨h1, h2⟩ := hL j u hj hl
          rw [upd_ne vals v hjk]
          have hjm : j ∈ ks.map (·.1) := List.mem_map.2 ⟨(j, u), hj, rfl⟩
          refine ⟨?_, hloc j k' hjm hkm (Ne.symm hjk) ?_ vals v w' (hSR j hjm vals w w' h2 hb')⟩
          · have hut : t ≠ u := by
              intro e
              subst e
              have e2 : ∀ (l : List (Nat × Tmp)) (i j : Nat), (l.map (·.2)).Nodup → (i, t) ∈ l → (j, t) ∈ l → i = j := by
                intro l
                induction l with
                | nil => intro i j _ h; cases h
                | cons x l ihl =>
                  intro i j hn h1 h2
                  simp only [List.map_cons, List.nodup_cons] at hn
                  rcases List.mem_cons.1 h1 with h1 | h1 <;> rcases List.mem_cons.1 h2 with h2 | h2
                  · rw [← h1] at h2; injection h2 with h2 _; exact h2.symm
                  · exact absurd (List.mem_map.2 ⟨(j, t), h2, by rw [← h1]⟩) hn.1
                  · exact absurd (List.mem_map.2 ⟨(i, t), h1, by rw [← h2]⟩) hn.1
                  · exact ihl i j hn.2 h1 h2
              exact hjk (e2 ks j k' A.nodt hj hmem)
            simp only [Act.put]
            rw [Array.getElem?_setIfInBounds_ne hut]
            exact h1
          · cases hwf : Region.waitsFor md ops j k' with
            | false => rfl
            | true =>
              obtain ⟨oj, hoj, e, he, hb, hon⟩ := Region.waitsFor_spec hwf
              have h3 := inv.closed j oj hoj hl e he hb
              rw [hon, hkl] at h3
              cases h3
      · by_cases hjk : j = k'
        · subst hjk; rw [upd_self] at hb; exact (hnew hj b hb).2
        · rw [upd_ne vals v hjk] at hb
          rw [getD_set_ne false (Ne.symm hjk)] at hl
          exact Nat.lt_of_lt_of_le (hlow j hj hl b hb) hb'.size
      · by_cases hik : i = k'
        · subst hik
          rw [upd_self] at hb
          rw [upd_ne vals v (Ne.symm hne)]
          rw [getD_set_ne false hne] at hlj
          intro hb2
          have h1 := hlow j hj hlj b hb2
          have h2 := (hnew hi b hb).1
          omega
        · by_cases hjk : j = k'
          · subst hjk
            rw [upd_ne vals v hik] at hb
            rw [upd_self]
            rw [getD_set_ne false (Ne.symm hik)] at hli
            intro hb2
            have h1 := hlow i hi hli b hb
            have h2 := (hnew hj b hb2).1
            omega
          · rw [upd_ne vals v hik] at hb
            rw [upd_ne vals v hjk]
            rw [getD_set_ne false (Ne.symm hik)] at hli
            rw [getD_set_ne false (Ne.symm hjk)] at hlj
            exact hap i j hi hj hne hli hlj b hb
      · have hcount : ∀ (l : List Nat), l.Nodup → k' ∈ l → (l.filter fun i => !(L.setIfInBounds k' true).getD i false).length + 1 = (l.filter fun i => !L.getD i false).length := by
          intro l
          induction l with
          | nil => intro _ h; cases h
          | cons x l ihl =>
            intro hn h
            rw [List.nodup_cons] at hn
            by_cases hx : x = k'
            · subst hx
              have e1 : (L.setIfInBounds x true).getD x false = true := by
                have : x < L.size := by rw [inv.size]; exact (Array.getElem?_eq_some_iff.1 ho).1
                rw [Array.getD_eq_getD_getElem?, Array.getElem?_setIfInBounds_self_of_lt this]; rfl
              have e2 : (l.filter fun i => !(L.setIfInBounds x true).getD i false) = l.filter fun i => !L.getD i false := by
                refine List.filter_congr fun i hi => ?_
                have : x ≠ i := fun e => hn.1 (e ▸ hi)
                rw [getD_set_ne false this]
              rw [List.filter_cons, List.filter_cons, e1, hkl, e2]
              simp
            · have h' : k' ∈ l := by rcases List.mem_cons.1 h with h | h; exact absurd h.symm hx; exact h
              have := ihl hn.2 h'
              rw [List.filter_cons, List.filter_cons, getD_set_ne false (Ne.symm hx)]
              split <;> simp_all <;> omega
        have := hcount _ A.nodk hkm
        omega
    unfold wpOp
    simp only [ho]
    unfold RgStep at hst
    rw [← hwa] at hst
    split
    · rename_i hw
      rw [if_pos hw] at hst
      refine .inl ?_
      have h := hst (fun a'' w'' => ∃ v, a'' = (fillA vals ks a).put o'.dst v ∧ S w'' ∧ Below w.heap.size w w'' ∧ R k' (upd vals k' v) w'' ∧ (k' ∈ mk → ∀ b ∈ topB v, w.heap.size ≤ b ∧ b < w''.heap.size)) (fun v w' h1 h2 h3 h4 => ⟨v, rfl, h1, h2, h3, h4⟩)
      unfold Oper.wp at h ⊢
      rw [← hex] at h
      have hval : ∀ v w', (∃ v', (fillA vals ks a).put o'.dst v = (fillA vals ks a).put o'.dst v' ∧ S w' ∧ Below w.heap.size w w' ∧ R k' (upd vals k' v') w' ∧ (k' ∈ mk → ∀ b ∈ topB v', w.heap.size ≤ b ∧ b < w'.heap.size)) →
          ((k' < n → S w') ∧ wpKept P md ops Q S n (m + g) (L.setIfInBounds k' true) (a.put o'.dst v) w') := by
        rintro v w' ⟨v', he, h1, h2, h3, h4⟩
        refine ⟨fun _ => h1, ?_⟩
        have hv : v = v' := by
          rw [hdst] at he
          have e1 : ((fillA vals ks a).put (some t) v).tmps[t]? = ((fillA vals ks a).put (some t) v').tmps[t]? := by rw [he]
          have hlt : t < (fillA vals ks a).tmps.size := by rw [fillA_size, hsize]; exact htsz
          simp only [Act.put] at e1
          rw [Array.getElem?_setIfInBounds_self_of_lt hlt, Array.getElem?_setIfInBounds_self_of_lt hlt] at e1
          injection e1
        subst hv
        rw [hdst]
        exact hnext v w' h1 h2 h3 h4
      generalize (execOp a.eval o').run P w = r at *
      cases r with
      | ok x w' =>
        cases x <;> simp only [Oper.upon] at h ⊢
        case value v => exact hval v w' h
        case skip => exact hval undef w' h
        case defer d =>
          exfalso
          obtain ⟨v', he, _⟩ := h
          have := congrArg (fun a : Act => a.defers.length) he
          rw [put_def, put_def] at this
          simp at this
        case enter f args =>
          refine Calls.mono h fun e w'' he => ?_
          cases e with
          | returned v => exact hval v w'' he
          | panicked c => exact absurd he (hQ _ _ _)
          | outgrown => exact he
        case row row args => exact Rows.mono h fun v w'' he => hval v w'' he
      | halt x w' =>
        cases x <;> simp only [Oper.upon] at h ⊢
        case panic v => exact absurd h (hQ _ _ _)
    · rename_i hw
      rw [if_neg hw] at hst
      have h := hnext undef w hS (Below.refl _ _) hst (fun _ b hb => by cases hb)
      rw [hdst]
      exact ⟨fun _ => hS, h⟩
theorem Kept.rg {sz g : Nat} {L : Array Bool} {a : Act} {w : World} (ks : List (Nat × Tmp)) (mk : List Nat) (R : Nat → (Nat → Value) → World → Prop) (hB : (rgB md ops n sz L ks && mk.all fun k => (ks.map (·.1)).contains k) = true) (hsz : a.tmps.size = sz) (hS : S w)
    (hQ : ∀ c a w, ¬ Q (.panic c) a w)
    (hSR : ∀ k, k ∈ ks.map (·.1) → ∀ vals w w', R k vals w → Below w.heap.size w w' → R k vals w')
    (hloc : ∀ k j, k ∈ ks.map (·.1) → j ∈ ks.map (·.1) → j ≠ k → Region.waitsFor md ops k j = false → ∀ vals v w, R k vals w → R k (upd vals j v) w)
    (hstep : ∀ k t o, (k, t) ∈ ks → ops[k]? = some o → ∀ vals w, S w → (∀ j, Region.waitsFor md ops k j = true → j ∈ ks.map (·.1) → R j vals w) → RgStep P ops Q S mk R o k vals (fillA vals ks a) w)
    (hend : ∀ vals w, S w → (∀ k ∈ ks.map (·.1), R k vals w) → Apart mk vals → Kept P md ops Q S n g (setAll ks L) (fillA vals ks a) w) : Kept P md ops Q S n (ks.length + g) L a w := fun inv => by
  rw [Bool.and_eq_true] at hB
  have A := rg_of hB.1
  have hmk : ∀ k ∈ mk, k ∈ ks.map (·.1) := fun k hk => by have := List.all_eq_true.1 hB.2 k hk; simpa using this
  have hun : ∀ k t, (k, t) ∈ ks → L.getD k false = false := fun k t hm => getD_both (A.each k t hm).2.1
  have hlen : ((ks.map (·.1)).filter fun k => !L.getD k false).length = ks.length := by
    rw [List.filter_eq_self.2 (fun k hk => by obtain ⟨⟨k', t⟩, hm, rfl⟩ := List.mem_map.1 hk; simp [hun k' t hm]), List.length_map]
  exact rg_go A hmk hsz hQ hSR hloc hstep hend ks.length L a w (fun _ => undef) inv rfl A.all (fun _ => rfl) hsz hS (fun k t hm hl => by rw [hun k t hm] at hl; cases hl) (fun j hj hl => by
    obtain ⟨⟨j', t⟩, hm, rfl⟩ := List.mem_map.1 (hmk j hj)
    rw [hun j' t hm] at hl; cases hl) (fun j k hj hk hne hl => by
    obtain ⟨⟨j', t⟩, hm, rfl⟩ := List.mem_map.1 (hmk j hj)
    rw [hun j' t hm] at hl; cases hl) hlen
end
end Go.Proofs.Ytiejilmgchmppaa
/- RgOps: What an operation owes in a region of which several may come up: a make. -/
namespace Go.Proofs.Ytiejilmgchmppaa
open Go.RowKit
set_option linter.unusedVariables false

theorem RgStep.make {P : Program} {ops : Array Oper} {Q : Exit → Act → World → Prop} {S : World → Prop} {mk : List Nat} {R : Nat → (Nat → Value) → World → Prop} {o : Oper} {k : Nat} {vals : Nat → Value} {a : Act} {w : World}
    (hg : o.guard = none) (l c : Operand) (t : TypeId) (hop : o.op = Op.makeSlice t l c) (e : TypeId) (i : TypeInfo) (z : Value) (size : Nat) (h1 : P.underlying t = some (.slice e)) (h2 : P.info? e = some i) (h3 : i.zero = some z) (h4 : i.size = size)
    (n : Nat) (hl : a.eval l = .int .i64 (n : Int)) (hc : a.eval c = .int .i64 (n : Int)) (b2 : i.bytes * n ≤ 281474976710656) (b3 : n ≤ maxLen) (hS : ∀ w', Below w.heap.size w w' → S w')
    (hR : ∀ w', w'.ownsRow w.heap.size e size (.slice (some ⟨w.heap.size, 0, none⟩) n n) n (madeCells z.cells (n * size)).toList → R k (upd vals k (.slice (some ⟨w.heap.size, 0, none⟩) n n)) w') : RgStep P ops Q S mk R o k vals a w := by
  unfold RgStep
  have hw : Region.wanted o (yielded ops a.tmps) = true := by unfold Region.wanted; rw [hg]
  rw [if_pos hw]
  intro K hK
  obtain ⟨w', hrun, r1, r2⟩ := run_make_full (P := P) w w.heap.size t e i z size h1 h2 h3 h4 .i64 .i64 n b2 b3 (Nat.le_refl _)
  have hb : Below w.heap.size w w' := (Below.refl _ _).grown r2 (Nat.le_refl _) (by intro g hg; cases hg)
  have hlt : w.heap.size < w'.heap.size := by
    rcases r1.2 with ⟨e0, _⟩ | ⟨g, cap, cur, e0, e1, e2, _⟩
    · cases e0
    · injection e0 with e0 _ _
      injection e0 with e0
      injection e0 with e0
      rw [← e0] at e2
      exact (Array.getElem?_eq_some_iff.1 e2).1
  unfold Oper.wp
  simp [execOp, hop, hl, hc, hrun, Result.andThen]
  refine hK _ _ (hS _ hb) hb (hR _ r1) fun _ b hb => ?_
  have : b = w.heap.size := by simpa [topB] using hb
  subst this
  exact ⟨Nat.le_refl _, hlt⟩
theorem own_makeI {w : World} {B : Nat} {v : Value} {n : Nat} (h : w.ownsRow B 3 1 v n (madeCells (Value.int .i64 0).cells (n * 1)).toList) : OwnsI w B v (List.replicate n 0) := by
  unfold OwnsI
  have e : (List.replicate n (0 : Int)).map vI = (madeCells (Value.int .i64 0).cells (n * 1)).toList := by
    apply List.ext_getElem
    · simp [madeCells]
    · intro i h1 h2
      simp [madeCells, vI, Value.cells, Nat.mod_one]
  rw [List.length_replicate, e]
  exact h
end Go.Proofs.Ytiejilmgchmppaa
