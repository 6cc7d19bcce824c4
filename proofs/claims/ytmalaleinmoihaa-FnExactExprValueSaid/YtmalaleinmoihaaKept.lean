/-
  A region that draws its order: what only reads may be taken first, as long as a condition S on the world is kept by what acts; the last operations, which wait for all the others, owe S nothing.
-/
import Derived.Test.YtmalaleinmoihaaQui
import Derived.OrdersHeld
import Derived.StillTail
import Derived.Deep.RegionHeld3
namespace Go.Proofs.Ytmalaleinmoihaa
open Go.RowKit
set_option linter.unusedVariables false

section
variable {P : Program} {ops : Array Oper} {Q : Exit → Act → World → Prop} {md : Region.Mode} {S : World → Prop} {n : Nat}
/-- Any order of what is left; S is shown behind each of the first n operations. -/
def wpKept (P : Program) (md : Region.Mode) (ops : Array Oper) (Q : Exit → Act → World → Prop) (S : World → Prop) (n : Nat) : Nat → Array Bool → Act → World → Prop
  | 0, L, a, w => Region.ready md ops L = [] ∧ Q .normal a w
  | f + 1, L, a, w => (Region.ready md ops L = [] → Q .normal a w) ∧ ∀ k ∈ Region.ready md ops L, wpOp P ops Q k (fun a' w' => (k < n → S w') ∧ wpKept P md ops Q S n f (L.setIfInBounds k true) a' w') a w
theorem wpKept.any : ∀ (f : Nat) (L : Array Bool) (a : Act) (w : World), wpKept P md ops Q S n f L a w → wpAny P md ops Q f L a w := by
  intro f
  induction f with
  | zero => intro L a w h; exact h
  | succ f ih => intro L a w h; exact ⟨h.1, fun k hk => wpOp_mono (fun a' w' h' => ih _ a' w' h'.2) (h.2 k hk)⟩
/-- A reading operation goes first. -/
theorem wpKept.first {i : Nat} {oi : Oper} {v : Value} (hi : ops[i]? = some oi) (hsel : Region.noSelect ops = true) (hs : Region.sinkB md ops n = true) (hc : Region.chainB md ops n = true) (hn : n < ops.size) (hin : i < n)
    (hQ : ∀ c a w, Q (.panic c) (a.put oi.dst v) w → Q (.panic c) a w) :
    ∀ (f : Nat) (L : Array Bool) (a : Act) (w : World), HeadInv md ops n L →
      (∀ j oj, ops[j]? = some oj → j ≠ i → L.getD j true = false → (∀ e ∈ oj.after, Region.binds md e = true → e.on ≠ i) → oi.apart ops oj = true) →
      i ∈ Region.ready md ops L → YieldsIf P ops S oi v a → S w → wpKept P md ops Q S n f (L.setIfInBounds i true) (a.put oi.dst v) w → wpKept P md ops Q S n (f + 1) L a w := by
  intro f
  induction f with
  | zero =>
    intro L a w inv hfree hr hy hS H
    refine ⟨fun h => (by rw [h] at hr; cases hr), fun k hk => ?_⟩
    by_cases hki : k = i
    · subst hki; exact hy.wpOp hi hS ⟨fun _ => hS, H⟩
    · have h1 := ready_mono hk hki
      rw [H.1] at h1; cases h1
  | succ f ih =>
    intro L a w inv hfree hr hy hS H
    refine ⟨fun h => (by rw [h] at hr; cases hr), fun k hk => ?_⟩
    by_cases hki : k = i
    · subst hki; exact hy.wpOp hi hS ⟨fun _ => hS, H⟩
    · have hun := (mem_ready.1 hr).1
      have hkn : k < n := by
        rcases Nat.lt_or_ge k n with h | h
        · exact h
        · exact absurd hk (tail_waits hs hc hn inv _ i rfl hin hun k h)
      obtain ⟨hkun, ok, hok, hall⟩ := mem_ready.1 hk
      have hnot : ∀ e ∈ ok.after, Region.binds md e = true → e.on ≠ i := fun e he hb heq => by
        have h1 := hall e he hb
        rw [heq, getD_both hun] at h1
        cases h1
      have h2 := wpOp_putIf hok (hfree k ok hok hki hkun hnot) (fun cs b => Region.noSelect_spec hsel i oi cs b hi) (fun cs b => Region.noSelect_spec hsel k ok cs b hok) hQ hy (H.2 k (ready_mono hk hki))
      refine wpOp_mono (fun a' w' h3 => ⟨fun _ => h3.2.1 hkn, ih (L.setIfInBounds k true) a' w' (inv.set hk hkn) ?_ (ready_mono hr (Ne.symm hki)) h3.1 (h3.2.1 hkn) ?_⟩) h2
      · intro j oj hj hji hun' hno
        refine hfree j oj hj hji ?_ hno
        by_cases hkj : k = j
        · subst hkj; exact hkun
        · rw [getD_set_ne true hkj] at hun'; exact hun'
      · rw [Array.setIfInBounds_comm _ _ hki]
        exact h3.2.2
/-- .. with what the walk carries along. -/
def Kept (P : Program) (md : Region.Mode) (ops : Array Oper) (Q : Exit → Act → World → Prop) (S : World → Prop) (n : Nat) (f : Nat) (L : Array Bool) (a : Act) (w : World) : Prop := HeadInv md ops n L → wpKept P md ops Q S n f L a w
/-- What is checked of the region once. -/
def keptB (md : Region.Mode) (ops : Array Oper) (n : Nat) : Bool := Region.noSelect ops && decide (n < ops.size) && Region.sinkB md ops n && Region.chainB md ops n
theorem Kept.take (i : Nat) {oi : Oper} {v : Value} {f : Nat} {L : Array Bool} {a : Act} {w : World} (hB : keptB md ops n = true) (hi' : ops.toList[i]? = some oi) (hf : (Region.free md ops L i && (Region.ready md ops L).contains i && decide (i < n)) = true)
    (hQ : ∀ c a w, Q (.panic c) (a.put oi.dst v) w → Q (.panic c) a w) (hy : YieldsIf P ops S oi v a) (hS : S w) (h : Kept P md ops Q S n f (L.setIfInBounds i true) (a.put oi.dst v) w) : Kept P md ops Q S n (f + 1) L a w := fun inv => by
  have hi : ops[i]? = some oi := by rw [← Array.getElem?_toList]; exact hi'
  simp only [keptB, Bool.and_eq_true, decide_eq_true_eq] at hB hf
  have hr : i ∈ Region.ready md ops L := by simpa using hf.1.2
  exact wpKept.first hi hB.1.1.1 hB.1.2 hB.2 hB.1.1.2 hf.2 hQ f L a w inv (Region.free_spec hi hf.1.1) hr hy hS (h (inv.set hr hf.2))
/-- The only operation that may come up. -/
theorem Kept.one (i : Nat) {o : Oper} {f : Nat} {L : Array Bool} {a : Act} {w : World} (hr : (decide (Region.ready md ops L = [i]) && decide (i < n)) = true) (ho' : ops.toList[i]? = some o)
    (h : ∀ K : Act → World → Prop, Shut (∀ a w, S w → (S w → Kept P md ops Q S n f (L.setIfInBounds i true) a w) → K a w) → if Region.wanted o (yielded ops a.tmps) = true then Oper.wp P o a w K Q else K (a.put o.dst undef) w) : Kept P md ops Q S n (f + 1) L a w := fun inv => by
  have ho : ops[i]? = some o := by rw [← Array.getElem?_toList]; exact ho'
  simp only [Bool.and_eq_true, decide_eq_true_eq] at hr
  have hm : i ∈ Region.ready md ops L := by rw [hr.1]; simp
  refine ⟨fun h0 => (by rw [hr.1] at h0; cases h0), fun k hk => ?_⟩
  rw [hr.1] at hk
  have hki : k = i := by simpa using hk
  subst hki
  exact wpOp_step ho fun K hK => h K fun a w hS hW => hK a w ⟨fun _ => hS, hW hS (inv.set hm hr.2)⟩
/-- The end: what is left goes in its order. -/
theorem wpKept.seq : ∀ (l : List Oper) (k : Nat) (L : Array Bool) (a : Act) (w : World), (∀ j, l[j]? = ops[k + j]?) → n ≤ k → Region.seqB md ops l.length k L = true → wpList P ops Q l a w → wpKept P md ops Q S n l.length L a w
  | [], k, L, a, w, _, _, hB, h => ⟨by simpa [Region.seqB] using hB, h⟩
  | o :: l, k, L, a, w, hl, hk, hB, h => by
    have h0 : ops[k]? = some o := by simpa using (hl 0).symm
    simp only [List.length_cons, Region.seqB, Bool.and_eq_true, decide_eq_true_eq] at hB
    refine ⟨fun h1 => (by rw [hB.1] at h1; cases h1), fun i hi => ?_⟩
    rw [hB.1] at hi
    have hik : i = k := by simpa using hi
    subst hik
    have hw : wpOp P ops Q i (wpList P ops Q l) a w := by unfold wpOp; simp only [h0]; exact h
    exact wpOp_mono (fun a' w' h' => ⟨fun hlt => absurd hlt (by omega), wpKept.seq l (i + 1) _ a' w' (fun j => by have := hl (j + 1); simpa [Nat.add_assoc, Nat.add_comm 1 j] using this) (by omega) hB.2 h'⟩) hw
theorem Kept.tail {l : List Oper} {L : Array Bool} {a : Act} {w : World} {g : Nat} (hg : (l.drop n).length = g) (hB : Region.seqB md l.toArray g n L = true) (h : wpList P l.toArray Q (l.drop n) a w) : Kept P md l.toArray Q S n g L a w := fun _ => by
  subst hg
  exact wpKept.seq (l.drop n) n L a w (fun j => by simp [List.getElem?_drop]) (Nat.le_refl _) hB h
theorem wp_region_kept {id : Nat} {a : Act} {w : World} (n N : Nat) (S : World → Prop) (hm : P.follows .mixedOrders = true) (hN : ops.size = N) (hS : S w.drew) (h : S w.drew → Kept P .any ops Q S n N (Array.replicate N false) a w.drew) : (Code.region id ops true).wp P Q a w := by
  subst hN
  exact wp_region_any hm (wpKept.any _ _ _ _ (h hS ⟨by simp, fun j oj _ hl => (by rw [getD_replicate_false] at hl; cases hl), fun t _ ht => getD_in (by simpa using ht) (getD_replicate_false _ _)⟩))
end
end Go.Proofs.Ytmalaleinmoihaa
