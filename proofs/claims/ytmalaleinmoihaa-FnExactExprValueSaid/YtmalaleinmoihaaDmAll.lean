/-
  DmInt, DmOp, DmSignal, DmMem, DmAssign, DmInst, DmModule, DmDesign as one text.
-/
import Derived.Test.YtmalaleinmoihaaDtAll
/- DmInt: The type Int as the exact laws' helpers see it. -/
namespace Go.Proofs.Ytmalaleinmoihaa
open Go.RowKit
set_option linter.unusedVariables false
set_option linter.unusedSimpArgs false

theorem int_eq {a b : Int} (h : a = b) : Value.int .i64 a = .int .i64 b := by rw [h]
theorem Sims.trans {B T : Nat} {a b c : World} (h : Sims B T a b) (k : Sims B T b c) : Sims B T a c :=
  ⟨k.os.trans h.os, k.tape.trans h.tape, k.output.trans h.output, Nat.le_trans h.size k.size, fun j hj hh => (k.block j (Nat.lt_of_lt_of_le hj h.size) hh).trans (h.block j hj hh),
    fun b o u h1 h2 hc => by
      obtain ⟨u', hc', hs⟩ := h.cell b o u h1 h2 hc
      obtain ⟨u'', hc'', hs'⟩ := k.cell b o u' h1 h2 hc'
      exact ⟨u'', hc'', hs.trans hs'⟩,
    fun b o u h1 h2 hc hf => by
      obtain ⟨u', hc', hs⟩ := h.cell b o u h1 h2 hc
      exact k.froz b o u' h1 h2 hc' (h.froz b o u h1 h2 hc hf)⟩
theorem sims_box {B T : Nat} {V W : World} {g : Nat} {cs : Array Value} {t : TypeId} {fr : Nat × Nat} (h : Sims B T V W) (hg : V.heap[g]? = some (.cells cs t fr)) (hT : T ≤ g) (i : Nat) (v : Value) (hv : cs[i]? = some v) : W.cell? ⟨g, i, none⟩ = some v :=
  box_cell ((h.block g (Array.getElem?_eq_some_iff.1 hg).1 (.inr hT)).trans hg) i v hv
theorem set_far {W : World} {b o1 o2 : Nat} {v u : Value} (h : W.cell? ⟨b, o2, none⟩ = some u) (hne : o1 ≠ o2) : (W.setCell ⟨b, o1, none⟩ v).cell? ⟨b, o2, none⟩ = some u := by
  rw [World.cell?_setCell_other W ⟨b, o1, none⟩ ⟨b, o2, none⟩ v (by intro e; injection e with _ e; exact hne e)]; exact h
def cntIntS (L : List Int) : Nat := L.length
theorem cntIntS_step (L : List Int) (i : Nat) (x : Int) (h : L[i]? = some x) : cntIntS (L.take (i + 1)) = cntIntS (L.take i) + 1 := by
  unfold cntIntS; rw [List.take_add_one, h, List.length_append]; rfl
theorem cntIntS_le (L : List Int) (i : Nat) : cntIntS (L.take i) ≤ cntIntS L := by unfold cntIntS; rw [List.length_take]; omega
theorem sum_le {α : Type} (f : α → Nat) (M : Nat) : ∀ L : List α, (∀ x ∈ L, f x ≤ M) → (L.map f).sum ≤ M * L.length
  | [], _ => by simp
  | x :: L, h => by
    have h1 := sum_le f M L fun y hy => h y (List.mem_cons_of_mem _ hy)
    have h2 := h x (List.mem_cons_self ..)
    rw [List.map_cons, List.sum_cons, List.length_cons, Nat.mul_add]; omega
theorem bndIntS (L : List Int) (h : smIntS L) : cntIntS L ≤ 1048576 := h

end Go.Proofs.Ytmalaleinmoihaa
/- DmOp: The type Op as the exact laws' helpers see it. -/
namespace Go.Proofs.Ytmalaleinmoihaa
open Go.RowKit
set_option linter.unusedVariables false
set_option linter.unusedSimpArgs false
def cntOp (x : DOp) : Nat := 3
def cntOpS (L : List DOp) : Nat := (L.map cntOp).sum
theorem cntOpS_step (L : List DOp) (i : Nat) (x : DOp) (h : L[i]? = some x) : cntOpS (L.take (i + 1)) = cntOpS (L.take i) + cntOp x := by
  unfold cntOpS; rw [List.take_add_one, h, List.map_append, List.sum_append]; simp
theorem cntOpS_le (L : List DOp) (i : Nat) : cntOpS (L.take i) ≤ cntOpS L := by
  have h := List.take_append_drop i L
  unfold cntOpS
  rw [← h, List.map_append, List.sum_append, h]; omega
theorem bndOp (x : DOp) (h : smOp x) : cntOp x ≤ 3 := by
  unfold smOp at h
  unfold cntOp
  omega
theorem bndOpS (L : List DOp) (h : smOpS L) : cntOpS L ≤ 3145728 := by
  have h1 := sum_le cntOp 3 L fun x hx => bndOp x (h.2 x hx)
  have h2 := h.1
  unfold cntOpS
  omega

end Go.Proofs.Ytmalaleinmoihaa
/- DmSignal: The type Signal as the exact laws' helpers see it. -/
namespace Go.Proofs.Ytmalaleinmoihaa
open Go.RowKit
set_option linter.unusedVariables false
set_option linter.unusedSimpArgs false
def cntSignal (x : DSignal) : Nat := 3
def cntSignalS (L : List DSignal) : Nat := (L.map cntSignal).sum
theorem cntSignalS_step (L : List DSignal) (i : Nat) (x : DSignal) (h : L[i]? = some x) : cntSignalS (L.take (i + 1)) = cntSignalS (L.take i) + cntSignal x := by
  unfold cntSignalS; rw [List.take_add_one, h, List.map_append, List.sum_append]; simp
theorem cntSignalS_le (L : List DSignal) (i : Nat) : cntSignalS (L.take i) ≤ cntSignalS L := by
  have h := List.take_append_drop i L
  unfold cntSignalS
  rw [← h, List.map_append, List.sum_append, h]; omega
theorem bndSignal (x : DSignal) (h : smSignal x) : cntSignal x ≤ 3 := by
  unfold smSignal at h
  unfold cntSignal
  omega
theorem bndSignalS (L : List DSignal) (h : smSignalS L) : cntSignalS L ≤ 3145728 := by
  have h1 := sum_le cntSignal 3 L fun x hx => bndSignal x (h.2 x hx)
  have h2 := h.1
  unfold cntSignalS
  omega

end Go.Proofs.Ytmalaleinmoihaa
/- DmMem: The type Mem as the exact laws' helpers see it. -/
namespace Go.Proofs.Ytmalaleinmoihaa
open Go.RowKit
set_option linter.unusedVariables false
set_option linter.unusedSimpArgs false
def cntMem (x : DMem) : Nat := 4
def cntMemS (L : List DMem) : Nat := (L.map cntMem).sum
theorem cntMemS_step (L : List DMem) (i : Nat) (x : DMem) (h : L[i]? = some x) : cntMemS (L.take (i + 1)) = cntMemS (L.take i) + cntMem x := by
  unfold cntMemS; rw [List.take_add_one, h, List.map_append, List.sum_append]; simp
theorem cntMemS_le (L : List DMem) (i : Nat) : cntMemS (L.take i) ≤ cntMemS L := by
  have h := List.take_append_drop i L
  unfold cntMemS
  rw [← h, List.map_append, List.sum_append, h]; omega
theorem bndMem (x : DMem) (h : smMem x) : cntMem x ≤ 4 := by
  unfold smMem at h
  unfold cntMem
  omega
theorem bndMemS (L : List DMem) (h : smMemS L) : cntMemS L ≤ 4194304 := by
  have h1 := sum_le cntMem 4 L fun x hx => bndMem x (h.2 x hx)
  have h2 := h.1
  unfold cntMemS
  omega

end Go.Proofs.Ytmalaleinmoihaa
/- DmAssign: The type Assign as the exact laws' helpers see it. -/
namespace Go.Proofs.Ytmalaleinmoihaa
open Go.RowKit
set_option linter.unusedVariables false
set_option linter.unusedSimpArgs false
def cntAssign (x : DAssign) : Nat := 1 + cntOpS (x.2)
def cntAssignS (L : List DAssign) : Nat := (L.map cntAssign).sum
theorem cntAssignS_step (L : List DAssign) (i : Nat) (x : DAssign) (h : L[i]? = some x) : cntAssignS (L.take (i + 1)) = cntAssignS (L.take i) + cntAssign x := by
  unfold cntAssignS; rw [List.take_add_one, h, List.map_append, List.sum_append]; simp
theorem cntAssignS_le (L : List DAssign) (i : Nat) : cntAssignS (L.take i) ≤ cntAssignS L := by
  have h := List.take_append_drop i L
  unfold cntAssignS
  rw [← h, List.map_append, List.sum_append, h]; omega
theorem bndAssign (x : DAssign) (h : smAssign x) : cntAssign x ≤ 3145729 := by
  unfold smAssign at h
  unfold cntAssign
  have h1 := bndOpS _ h
  omega
theorem bndAssignS (L : List DAssign) (h : smAssignS L) : cntAssignS L ≤ 3298535931904 := by
  have h1 := sum_le cntAssign 3145729 L fun x hx => bndAssign x (h.2 x hx)
  have h2 := h.1
  unfold cntAssignS
  omega

end Go.Proofs.Ytmalaleinmoihaa
/- DmInst: The type Inst as the exact laws' helpers see it. -/
namespace Go.Proofs.Ytmalaleinmoihaa
open Go.RowKit
set_option linter.unusedVariables false
set_option linter.unusedSimpArgs false
def cntInst (x : DInst) : Nat := 2 + cntIntS (x.2.2)
def cntInstS (L : List DInst) : Nat := (L.map cntInst).sum
theorem cntInstS_step (L : List DInst) (i : Nat) (x : DInst) (h : L[i]? = some x) : cntInstS (L.take (i + 1)) = cntInstS (L.take i) + cntInst x := by
  unfold cntInstS; rw [List.take_add_one, h, List.map_append, List.sum_append]; simp
theorem cntInstS_le (L : List DInst) (i : Nat) : cntInstS (L.take i) ≤ cntInstS L := by
  have h := List.take_append_drop i L
  unfold cntInstS
  rw [← h, List.map_append, List.sum_append, h]; omega
theorem bndInst (x : DInst) (h : smInst x) : cntInst x ≤ 1048578 := by
  unfold smInst at h
  unfold cntInst
  have h2 := bndIntS _ h
  omega
theorem bndInstS (L : List DInst) (h : smInstS L) : cntInstS L ≤ 1099513724928 := by
  have h1 := sum_le cntInst 1048578 L fun x hx => bndInst x (h.2 x hx)
  have h2 := h.1
  unfold cntInstS
  omega

end Go.Proofs.Ytmalaleinmoihaa
/- DmModule: The type Module as the exact laws' helpers see it. -/
namespace Go.Proofs.Ytmalaleinmoihaa
open Go.RowKit
set_option linter.unusedVariables false
set_option linter.unusedSimpArgs false
def cntModule (x : DModule) : Nat := cntSignalS (x.1) + cntAssignS (x.2.1) + cntInstS (x.2.2.1) + cntMemS (x.2.2.2)
def cntModuleS (L : List DModule) : Nat := (L.map cntModule).sum
theorem cntModuleS_step (L : List DModule) (i : Nat) (x : DModule) (h : L[i]? = some x) : cntModuleS (L.take (i + 1)) = cntModuleS (L.take i) + cntModule x := by
  unfold cntModuleS; rw [List.take_add_one, h, List.map_append, List.sum_append]; simp
theorem cntModuleS_le (L : List DModule) (i : Nat) : cntModuleS (L.take i) ≤ cntModuleS L := by
  have h := List.take_append_drop i L
  unfold cntModuleS
  rw [← h, List.map_append, List.sum_append, h]; omega
theorem bndModule (x : DModule) (h : smModule x) : cntModule x ≤ 4398056996864 := by
  unfold smModule at h
  unfold cntModule
  have h0 := bndSignalS _ h.1
  have h1 := bndAssignS _ h.2.1
  have h2 := bndInstS _ h.2.2.1
  have h3 := bndMemS _ h.2.2.2
  omega

end Go.Proofs.Ytmalaleinmoihaa
/- DmDesign: The type Design as the exact laws' helpers see it. -/
namespace Go.Proofs.Ytmalaleinmoihaa
open Go.RowKit
set_option linter.unusedVariables false
set_option linter.unusedSimpArgs false
def cntDesign (x : DDesign) : Nat := cntModuleS (x)
def cntDesignS (L : List DDesign) : Nat := (L.map cntDesign).sum
theorem cntDesignS_step (L : List DDesign) (i : Nat) (x : DDesign) (h : L[i]? = some x) : cntDesignS (L.take (i + 1)) = cntDesignS (L.take i) + cntDesign x := by
  unfold cntDesignS; rw [List.take_add_one, h, List.map_append, List.sum_append]; simp
theorem cntDesignS_le (L : List DDesign) (i : Nat) : cntDesignS (L.take i) ≤ cntDesignS L := by
  have h := List.take_append_drop i L
  unfold cntDesignS
  rw [← h, List.map_append, List.sum_append, h]; omega

end Go.Proofs.Ytmalaleinmoihaa
