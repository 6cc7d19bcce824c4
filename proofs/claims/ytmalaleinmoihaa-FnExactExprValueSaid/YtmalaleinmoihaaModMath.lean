/-
  Valid modules and designs: the plain part.
-/
import Derived.Test.YtmalaleinmoihaaDrvMath
import Derived.Test.YtmalaleinmoihaaSOps
namespace Go.Proofs.Ytmalaleinmoihaa
open Go.RowKit
set_option linter.unusedVariables false

/-- A valid signal. -/
def sigOk (s : DSignal) : Bool := decide (0 ≤ s.1 ∧ s.1 ≤ 3) && decide (0 ≤ s.2.1 ∧ s.2.1 ≤ 4) && (decide (s.2.2 = 0) || (decide (s.1 = 3) && decide (0 ≤ s.2.2 ∧ s.2.2 ≤ 15)))
/-- s is a signal of m. -/
def inR (m : DModule) (s : Int) : Bool := decide (0 ≤ s ∧ s < m.1.length)
def kindI (m : DModule) (s : Int) : Int := match m.1[s.toNat]? with | some x => if inR m s then x.1 else -1 | none => -1
def inL (x : Int) (L : List Int) : Bool := L.any fun y => decide (x = y)
/-- s is a signal of m of one of the kinds. -/
def kindAt (m : DModule) (L : List Int) (s : Int) : Bool := inR m s && inL (kindI m s) L
theorem inR_no {m : DModule} {s : Int} (h : ¬ (0 ≤ s ∧ s < m.1.length)) : inR m s = false := decide_eq_false h
theorem inR_yes {m : DModule} {S : Nat} (h : S < m.1.length) : inR m S = true := decide_eq_true (by omega)
theorem kindI_yes {m : DModule} {S : Nat} {x : DSignal} (h : m.1[S]? = some x) : kindI m S = x.1 := by
  unfold kindI; rw [Int.toNat_natCast, h]; simp only [inR_yes (List.getElem?_eq_some_iff.1 h).1, if_true]
theorem kindI_no {m : DModule} {s : Int} (h : ¬ (0 ≤ s ∧ s < m.1.length)) : kindI m s = -1 := by
  unfold kindI; rw [inR_no h]; split <;> simp
theorem kindAt_no {m : DModule} {L : List Int} {s : Int} (h : ¬ (0 ≤ s ∧ s < m.1.length)) : kindAt m L s = false := by unfold kindAt; rw [inR_no h]; rfl
theorem kindAt_yes {m : DModule} {L : List Int} {S : Nat} {x : DSignal} (h : m.1[S]? = some x) : kindAt m L S = inL x.1 L := by
  unfold kindAt; rw [inR_yes (List.getElem?_eq_some_iff.1 h).1, kindI_yes h]; rfl
theorem kindAt_2 (m : DModule) (s : Int) : kindAt m [1, 2] s = (decide (kindI m s = 1) || decide (kindI m s = 2)) := by
  unfold kindAt
  by_cases h : 0 ≤ s ∧ s < m.1.length
  · rw [show inR m s = true from decide_eq_true h]; simp [inL]
  · rw [inR_no h, kindI_no h]; decide
theorem kindAt_3 (m : DModule) (s : Int) : kindAt m [1, 2, 3] s = (kindAt m [1, 2] s || decide (kindI m s = 3)) := by
  unfold kindAt
  by_cases h : 0 ≤ s ∧ s < m.1.length
  · rw [show inR m s = true from decide_eq_true h]; simp [inL, Bool.or_assoc]
  · rw [inR_no h, kindI_no h]; decide
theorem sigOk_kind {s : DSignal} (h : sigOk s = true) : 0 ≤ s.1 := by
  unfold sigOk at h; simp only [Bool.and_eq_true, decide_eq_true_eq] at h; exact h.1.1.1
theorem kindI_neg {m : DModule} (hs : m.1.all sigOk = true) (s : Int) : decide (kindI m s < 0) = !inR m s := by
  by_cases h : 0 ≤ s ∧ s < m.1.length
  · obtain ⟨S, rfl⟩ := Int.eq_ofNat_of_zero_le h.1
    have hS : S < m.1.length := by omega
    have hx : m.1[S]? = some m.1[S] := List.getElem?_eq_getElem hS
    have := sigOk_kind (List.all_eq_true.1 hs _ (List.getElem_mem hS))
    rw [kindI_yes hx, inR_yes hS]; simpa using this
  · rw [kindI_no h, inR_no h]; decide
def asgOk (m : DModule) (a : DAssign) : Bool := kindAt m [1, 2, 3] a.1 && opsB m.1.length a.2
def sigEx (m : DModule) (L : List Int) : Bool := L.all (inR m)
def widthOk (x : Int) : Bool := decide (0 ≤ x ∧ x ≤ 4)
def childOf (d : List DModule) (n : DInst) : DModule := (d[n.1.toNat]?).getD ([], [], [], [])
def insOk (d : List DModule) (m : DModule) (n : DInst) : Bool := widthOk n.2.1 && sigEx m n.2.2 && (drivenL (childOf d n) n.2.2).all (kindAt m [1, 2])
/-- Port j of the instance, as the reference tests it. -/
def portOk (m c : DModule) (P : List Int) (j : Nat) : Bool := inR m (P.getD j 0) && (!outAt c j || kindAt m [1, 2] (P.getD j 0))
theorem range_all_step (f : Nat → Bool) (j : Nat) : (List.range (j + 1)).all f = ((List.range j).all f && f j) := by rw [List.range_succ, List.all_append]; simp
theorem range_all_false (f : Nat → Bool) (j q : Nat) (h : j < q) (hf : f j = false) : (List.range q).all f = false := by
  rw [List.all_eq_false]; exact ⟨j, List.mem_range.2 h, by simp [hf]⟩
theorem insOk_eq (d : List DModule) (m c : DModule) (n : DInst) (N : Nat) (hN : n.1 = N) (hc : d[N]? = some c) (hl : n.2.2.length = (portsL c).length) :
    insOk d m n = (widthOk n.2.1 && (List.range (portsL c).length).all (portOk m c n.2.2)) := by
  unfold insOk childOf
  rw [hN, Int.toNat_natCast, hc, Bool.and_assoc]
  congr 1
  rw [Bool.eq_iff_iff]
  simp only [Option.getD_some, Bool.and_eq_true, sigEx, List.all_eq_true, List.mem_range, portOk, Bool.or_eq_true, Bool.not_eq_true']
  constructor
  · rintro ⟨h1, h2⟩ j hj
    have hj' : j < n.2.2.length := by omega
    have hg : n.2.2.getD j 0 = n.2.2[j] := by rw [List.getD_eq_getElem?_getD, List.getElem?_eq_getElem hj']; rfl
    refine ⟨by rw [hg]; exact h1 _ (List.getElem_mem hj'), ?_⟩
    cases ho : outAt c j
    · exact .inl rfl
    · refine .inr (h2 _ ?_)
      unfold drivenL drivenK
      exact List.mem_map.2 ⟨j, List.mem_filter.2 ⟨List.mem_range.2 hj, ho⟩, rfl⟩
  · intro h
    constructor
    · intro x hx
      obtain ⟨j, hj, rfl⟩ := List.getElem_of_mem hx
      have := (h j (by omega)).1
      rwa [List.getD_eq_getElem?_getD, List.getElem?_eq_getElem hj] at this
    · intro x hx
      unfold drivenL drivenK at hx
      obtain ⟨j, hj, rfl⟩ := List.mem_map.1 hx
      obtain ⟨hj1, hj2⟩ := List.mem_filter.1 hj
      rcases (h j (List.mem_range.1 hj1)).2 with h3 | h3
      · rw [h3] at hj2; cases hj2
      · exact h3
def memOk (m : DModule) (x : DMem) : Bool := sigEx m [x.1, x.2.1, x.2.2.1] && kindAt m [1, 2] x.2.2.2
def onceB (d : List DModule) (k : Int) (m : DModule) (s : Nat) : Bool := decide (kindI m s = 0) || decide (driversI d k s = 1)
def onceAll (d : List DModule) (k : Int) (m : DModule) : Bool := (List.range m.1.length).all (onceB d k m)
def partsB (d : List DModule) (k : Int) (m : DModule) : Bool := m.1.all sigOk && m.2.1.all (asgOk m) && m.2.2.1.all (insOk d m) && m.2.2.2.all (memOk m) && onceAll d k m
/-- What ModuleOk answers. -/
def moduleB (d : List DModule) (k : Int) : Bool := countsB d k && partsB d k ((d[k.toNat]?).getD ([], [], [], []))
theorem moduleB_no {d : List DModule} {k : Int} (h : countsB d k = false) : moduleB d k = false := by unfold moduleB; rw [h]; rfl
theorem moduleB_eq {d : List DModule} {K : Nat} {m : DModule} (h : countsB d K = true) (hm : d[K]? = some m) : moduleB d K = partsB d K m := by
  unfold moduleB; rw [h, Int.toNat_natCast, hm]; rfl
def designB (d : List DModule) : Bool := decide (1 ≤ d.length ∧ d.length ≤ 4) && (List.range d.length).all fun k : Nat => moduleB d k
theorem moduleB_long {d : List DModule} (k : Int) (h : ¬ d.length ≤ 4) : moduleB d k = false := moduleB_no (by unfold countsB; rw [decide_eq_false h]; rfl)
end Go.Proofs.Ytmalaleinmoihaa
