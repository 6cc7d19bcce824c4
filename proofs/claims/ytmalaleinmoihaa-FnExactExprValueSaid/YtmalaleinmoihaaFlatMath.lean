/-
  Widths of ports, the order of evaluation, valid flat modules: the plain part.
-/
import Derived.Test.YtmalaleinmoihaaModMath
namespace Go.Proofs.Ytmalaleinmoihaa
open Go.RowKit
set_option linter.unusedVariables false

/-- The widths of the signals of a kind, among the first k. -/
def widthsK (S : List DSignal) (n : Int) (k : Nat) : List Int := ((S.take k).filter fun s => decide (s.1 = n)).map fun s => s.2.1
def widthsL (m : DModule) (n : Int) : List Int := if m.1.length ≤ 30 then widthsK m.1 n m.1.length else []
theorem widthsK_yes (S : List DSignal) (n : Int) (k : Nat) (s : DSignal) (hs : S[k]? = some s) (h : s.1 = n) : widthsK S n (k + 1) = widthsK S n k ++ [s.2.1] := by
  unfold widthsK; rw [List.take_add_one, hs, List.filter_append, List.map_append]; simp [h]
theorem widthsK_no (S : List DSignal) (n : Int) (k : Nat) (s : DSignal) (hs : S[k]? = some s) (h : ¬ s.1 = n) : widthsK S n (k + 1) = widthsK S n k := by
  unfold widthsK; rw [List.take_add_one, hs, List.filter_append, List.map_append]; simp [h]
theorem widthsK_len (S : List DSignal) (n : Int) (k : Nat) : (widthsK S n k).length ≤ k := by
  unfold widthsK; rw [List.length_map]; exact Nat.le_trans (List.length_filter_le _ _) (List.length_take_le _ _)
theorem widthsL_len (m : DModule) (n : Int) : (widthsL m n).length ≤ 30 := by
  unfold widthsL; split
  · rename_i h; exact Nat.le_trans (widthsK_len _ _ _) h
  · simp

/-- The operator reads a signal that waits. -/
def readsW (W : List Bool) (o : DOp) : Bool := (decide (o.1 = 2) || decide (o.1 = 3)) && W.getD o.2.1.toNat false
def waitsB (L : List DOp) (W : List Bool) : Bool := L.any (readsW W)
def readyB (W : List Bool) (a : DAssign) : Bool := W.getD a.1.toNat false && !waitsB a.2 W
def nextA (L : List DAssign) (W : List Bool) : Option Nat := L.findIdx? (readyB W)
def tgt (L : List DAssign) (i : Nat) : Nat := ((L[i]?).map fun a => a.1.toNat).getD 0
def cntT (W : List Bool) : Nat := W.count true
def evalGo (L : List DAssign) : Nat → List Bool → List Int → List Bool × List Int
  | 0, W, acc => (W, acc)
  | n + 1, W, acc => match nextA L W with
    | none => (W, acc)
    | some i => evalGo L n (W.set (tgt L i) false) (acc ++ [(i : Int)])
def evalF (L : List DAssign) (W : List Bool) (acc : List Int) : List Bool × List Int := evalGo L (cntT W) W acc
theorem nextA_some {L : List DAssign} {W : List Bool} {i : Nat} (h : nextA L W = some i) : ∃ a, L[i]? = some a ∧ W.getD (tgt L i) false = true ∧ tgt L i = a.1.toNat ∧ readyB W a = true := by
  unfold nextA at h
  rw [List.findIdx?_eq_some_iff_getElem] at h
  obtain ⟨hi, h1, _⟩ := h
  have ht : tgt L i = L[i].1.toNat := by unfold tgt; rw [List.getElem?_eq_getElem hi]; rfl
  refine ⟨L[i], List.getElem?_eq_getElem hi, ?_, ht, h1⟩
  rw [ht]
  unfold readyB at h1
  rw [Bool.and_eq_true] at h1
  exact h1.1
theorem cnt_set {W : List Bool} {t : Nat} (h : W.getD t false = true) : cntT (W.set t false) + 1 = cntT W := by
  induction W generalizing t with
  | nil => simp at h
  | cons b W ih =>
    cases t with
    | zero => simp at h; subst h; simp [cntT]
    | succ t =>
      have h' := ih (t := t) (by simpa using h)
      simp only [cntT, List.set_cons_succ, List.count_cons] at h' ⊢
      omega
theorem cnt_set_true {W : List Bool} {t : Nat} (h : W.getD t false = false) (hl : t < W.length) : cntT (W.set t true) = cntT W + 1 := by
  induction W generalizing t with
  | nil => simp at hl
  | cons b W ih =>
    cases t with
    | zero => simp at h; subst h; simp [cntT]
    | succ t =>
      have h' := ih (t := t) (by simpa using h) (by simpa using hl)
      simp only [cntT, List.set_cons_succ, List.count_cons] at h' ⊢
      omega
theorem evalF_none {L : List DAssign} {W : List Bool} {acc : List Int} (h : nextA L W = none) : evalF L W acc = (W, acc) := by
  unfold evalF; cases cntT W with
  | zero => rfl
  | succ n => unfold evalGo; rw [h]
theorem evalF_some {L : List DAssign} {W : List Bool} {acc : List Int} {i : Nat} (h : nextA L W = some i) : evalF L W acc = evalF L (W.set (tgt L i) false) (acc ++ [(i : Int)]) := by
  obtain ⟨a, _, ht, _⟩ := nextA_some h
  have hc := cnt_set ht
  unfold evalF
  rw [← hc]
  show evalGo L (cntT (W.set (tgt L i) false) + 1) W acc = _
  rw [evalGo, h]
theorem cnt_zero {W : List Bool} (h : cntT W = 0) (t : Nat) : W.getD t false = false := by
  cases hb : W.getD t false with
  | false => rfl
  | true => have := cnt_set hb; omega
theorem next_zero {L : List DAssign} {W : List Bool} (h : cntT W = 0) : nextA L W = none := by
  unfold nextA; rw [List.findIdx?_eq_none_iff]
  intro a _
  unfold readyB; rw [cnt_zero h]; rfl
theorem any_cnt (W : List Bool) : W.any id = decide (0 < cntT W) := by
  induction W with
  | nil => rfl
  | cons b W ih => cases b <;> simp_all [cntT]
/-- The signals that wait when the assignments before k have been seen. -/
def waitK (m : DModule) (k : Nat) : List Bool := (List.range m.1.length).map fun s : Nat => !decide (kindI m s = 3) && (m.2.1.take k).any fun a => decide (a.1 = s)
def wait0 (m : DModule) : List Bool := waitK m m.2.1.length
theorem waitK_len (m : DModule) (k : Nat) : (waitK m k).length = m.1.length := by simp [waitK]
theorem waitK_zero (m : DModule) : waitK m 0 = List.replicate m.1.length false := by
  apply List.ext_getElem
  · simp [waitK]
  · intro i h1 h2; simp [waitK]
theorem waitK_at (m : DModule) (k t : Nat) (h : t < m.1.length) : (waitK m k).getD t false = (!decide (kindI m t = 3) && (m.2.1.take k).any fun a => decide (a.1 = t)) := by
  simp [waitK, List.getD_eq_getElem?_getD, h]
theorem waitK_step (m : DModule) (k t : Nat) (a : DAssign) (ha : m.2.1[k]? = some a) (ht : a.1 = t) (hl : t < m.1.length) : waitK m (k + 1) = (waitK m k).set t (!decide (kindI m t = 3)) := by
  apply List.ext_getElem
  · simp [waitK]
  · intro i h1 h2
    have hi : i < m.1.length := by rw [waitK_len] at h1; exact h1
    by_cases e : t = i
    · subst e
      rw [List.getElem_set_self]
      simp [waitK, List.take_add_one, ha, ht]
    · rw [List.getElem_set_ne e]
      have : ¬ (t : Int) = (i : Int) := by omega
      have hd : decide (a.1 = (i : Int)) = false := decide_eq_false (by rw [ht]; exact this)
      simp [waitK, List.take_add_one, ha, hd]
theorem waitK_reg (m : DModule) (k t : Nat) (a : DAssign) (ha : m.2.1[k]? = some a) (ht : a.1 = t) (hl : t < m.1.length) (h3 : kindI m t = 3) : waitK m (k + 1) = waitK m k := by
  rw [waitK_step m k t a ha ht hl, decide_eq_true h3]
  apply List.ext_getElem
  · simp
  · intro i h1 h2
    by_cases e : t = i
    · subst e
      rw [List.getElem_set_self]
      simp [waitK, h3]
    · rw [List.getElem_set_ne e]
/-- What EvalOrder answers. -/
def orderO (m : DModule) : Option (List Int) :=
  if designB [m] then (if (evalF m.2.1 (wait0 m) []).1.any id then none else some (evalF m.2.1 (wait0 m) []).2) else none
theorem design_one (m : DModule) : designB [m] = moduleB [m] 0 := by
  unfold designB; simp [List.range_succ]
theorem insts_nil {m : DModule} (h : moduleB [m] 0 = true) : m.2.2.1 = [] := by
  have hc : countsB [m] 0 = true := by
    cases hb : countsB [m] 0 with
    | true => rfl
    | false => rw [moduleB_no hb] at h; cases h
  obtain ⟨K, m', e, _, hK, hm, _, _, _, _, hi⟩ := counts_facts hc
  have hK0 : K = 0 := by omega
  subst hK0
  have em : m' = m := by simpa using hm.symm
  subst em
  cases hl : m'.2.2.1 with
  | nil => rfl
  | cons n t =>
    obtain ⟨N, c, _, hN, _⟩ := hi 0 n (by rw [hl]; rfl)
    omega
/-- What a valid module keeps. -/
theorem runOps_all (n : Int) : ∀ (L : List DOp) (q : Int), runOps n q L = true → ∀ o ∈ L, opB n o = true
  | [], _, _, o, ho => by cases ho
  | x :: L, q, h, o, ho => by
    unfold runOps at h
    split at h
    · cases h
    · rw [Bool.and_eq_true] at h
      rcases List.mem_cons.1 ho with rfl | ho
      · exact h.1
      · exact runOps_all n L _ h.2 o ho
theorem opsB_all {n : Int} {L : List DOp} (h : opsB n L = true) : L.length ≤ 15 ∧ ∀ o ∈ L, opB n o = true := by
  unfold opsB at h
  rw [Bool.and_eq_true, decide_eq_true_eq] at h
  exact ⟨h.1, runOps_all n L 1 h.2⟩
theorem opB_sig {n : Int} {o : DOp} (h : opB n o = true) (h23 : o.1 = 2 ∨ o.1 = 3) : 0 ≤ o.2.1 ∧ o.2.1 < n := by
  unfold opB at h
  rcases h23 with h2 | h2 <;> rw [h2] at h <;> simp at h <;> omega
theorem opB_par {n : Int} {o : DOp} (h : opB n o = true) (h1 : o.1 = 1) : o = (1, 0, 0) := by
  obtain ⟨k, a, b⟩ := o
  dsimp only at h1
  subst h1
  unfold opB at h
  simp at h
  obtain ⟨⟨_, ha⟩, hb⟩ := h
  rw [ha, hb]
theorem inL_mem {x : Int} {L : List Int} (h : inL x L = true) : x ∈ L := by
  unfold inL at h
  rw [List.any_eq_true] at h
  obtain ⟨y, hy, e⟩ := h
  rw [of_decide_eq_true e]; exact hy
theorem kindAt_in {m : DModule} {L : List Int} {s : Int} (h : kindAt m L s = true) : ∃ t : Nat, s = t ∧ t < m.1.length ∧ kindI m t ∈ L := by
  unfold kindAt at h
  rw [Bool.and_eq_true] at h
  have hr := h.1
  unfold inR at hr
  rw [decide_eq_true_eq] at hr
  obtain ⟨t, rfl⟩ := Int.eq_ofNat_of_zero_le hr.1
  exact ⟨t, rfl, by omega, inL_mem h.2⟩
structure ModOk (d : List DModule) (k : Int) (m : DModule) : Prop where
  l0 : m.1.length ≤ 30
  l1 : m.2.1.length ≤ 30
  l2 : m.2.2.1.length ≤ 3
  l3 : m.2.2.2.length ≤ 2
  asg : ∀ a ∈ m.2.1, ∃ t : Nat, a.1 = t ∧ t < m.1.length ∧ kindI m t ∈ [1, 2, 3] ∧ opsB m.1.length a.2 = true
  mem : ∀ x ∈ m.2.2.2, inR m x.1 = true ∧ inR m x.2.1 = true ∧ inR m x.2.2.1 = true ∧ inR m x.2.2.2 = true
  sig : ∀ s ∈ m.1, sigOk s = true
  once : ∀ s : Nat, s < m.1.length → kindI m s = 0 ∨ driversN d m s = 1
theorem modOk_of {d : List DModule} {K : Nat} {m : DModule} (hm : d[K]? = some m) (h : moduleB d K = true) : countsB d K = true ∧ ModOk d K m := by
  have hc : countsB d K = true := by
    cases hb : countsB d K with
    | true => rfl
    | false => rw [moduleB_no hb] at h; cases h
  rw [moduleB_eq hc hm] at h
  obtain ⟨K', m', e, _, hK, hm', l0, l1, l2, l3, hi⟩ := counts_facts hc
  have : K' = K := by omega
  subst this
  have em : m' = m := by rw [hm] at hm'; injection hm' with e; exact e.symm
  subst em
  unfold partsB at h
  simp only [Bool.and_eq_true] at h
  obtain ⟨⟨⟨⟨h1, h2⟩, h3⟩, h4⟩, h5⟩ := h
  refine ⟨hc, l0, l1, l2, l3, fun a ha => ?_, fun x hx => ?_, fun s hs => List.all_eq_true.1 h1 s hs, fun s hs => ?_⟩
  · have := List.all_eq_true.1 h2 a ha
    unfold asgOk at this
    rw [Bool.and_eq_true] at this
    obtain ⟨t, e1, e2, e3⟩ := kindAt_in this.1
    exact ⟨t, e1, e2, e3, this.2⟩
  · have := List.all_eq_true.1 h4 x hx
    unfold memOk sigEx at this
    simp only [Bool.and_eq_true, List.all_cons, List.all_nil, Bool.and_true] at this
    have h6 := this.2
    unfold kindAt at h6
    rw [Bool.and_eq_true] at h6
    exact ⟨this.1.1, this.1.2.1, this.1.2.2, h6.1⟩
  · unfold onceAll at h5
    have := List.all_eq_true.1 h5 s (List.mem_range.2 hs)
    unfold onceB at this
    simp only [Bool.or_eq_true, decide_eq_true_eq] at this
    rcases this with h6 | h6
    · exact .inl h6
    · rw [driversI_yes hm hc ⟨by omega, by omega⟩] at h6
      exact .inr (by omega)
theorem inR_at {m : DModule} {s : Int} (h : inR m s = true) : ∃ t : Nat, s = t ∧ t < m.1.length := by
  unfold inR at h
  rw [decide_eq_true_eq] at h
  obtain ⟨t, rfl⟩ := Int.eq_ofNat_of_zero_le h.1
  exact ⟨t, rfl, by omega⟩
/-- Two assignments of a valid module have different targets. -/
theorem cntB_two {α : Type} (f : α → Bool) (L : List α) (i k : Nat) (x y : α) (hik : i < k) (hi : L[i]? = some x) (hk : L[k]? = some y) (fx : f x = true) (fy : f y = true) : 2 ≤ cntB f L := by
  have hkl := (List.getElem?_eq_some_iff.1 hk).1
  have e1 := cntB_yes f L k y hk fy
  have e2 := cntB_yes f L i x hi fx
  have e3 : cntB f (L.take (i + 1)) ≤ cntB f (L.take k) := by
    have : L.take (i + 1) = (L.take k).take (i + 1) := by rw [List.take_take, Nat.min_eq_left (by omega)]
    rw [this]
    unfold cntB
    exact (List.Sublist.filter f (List.take_sublist _ _)).length_le
  have e4 : cntB f (L.take (k + 1)) ≤ cntB f L := by
    unfold cntB
    exact (List.Sublist.filter f (List.take_sublist _ _)).length_le
  omega
theorem target_new {d : List DModule} {k : Int} {m : DModule} (h : ModOk d k m) (i : Nat) (a : DAssign) (ha : m.2.1[i]? = some a) {t : Nat} (ht : a.1 = t) : (m.2.1.take i).any (fun a => decide (a.1 = (t : Int))) = false := by
  rw [List.any_eq_false]
  intro b hb hbt
  have hbt' := of_decide_eq_true hbt
  obtain ⟨j, hj, e⟩ := List.getElem_of_mem hb
  have hji : j < i := by rw [List.length_take] at hj; omega
  rw [List.getElem_take] at e
  have hjl : j < m.2.1.length := by rw [List.length_take] at hj; omega
  have hb? : m.2.1[j]? = some b := by rw [List.getElem?_eq_getElem hjl, e]
  obtain ⟨t', ht', hlt, hk, _⟩ := h.asg a (List.mem_of_getElem? ha)
  have : t' = t := by omega
  subst this
  have h2 := cntB_two (tgB (t' : Int)) m.2.1 j i b a hji hb? ha (decide_eq_true hbt') (decide_eq_true ht)
  rcases h.once t' hlt with h0 | h1
  · rw [h0] at hk; revert hk; decide
  · unfold driversN at h1; omega
/-- The left assignments are as many as the signals that wait. -/
def leftK (m : DModule) (k : Nat) : Nat := cntT (waitK m k)
theorem leftK_zero (m : DModule) : leftK m 0 = 0 := by unfold leftK; rw [waitK_zero]; simp [cntT, List.count_replicate]
theorem leftK_step {d : List DModule} {k0 : Int} {m : DModule} (h : ModOk d k0 m) (k : Nat) (a : DAssign) (ha : m.2.1[k]? = some a) {t : Nat} (ht : a.1 = t) (hl : t < m.1.length) (h3 : ¬ kindI m t = 3) : leftK m (k + 1) = leftK m k + 1 := by
  unfold leftK
  rw [waitK_step m k t a ha ht hl, decide_eq_false h3]
  refine cnt_set_true ?_ (by rw [waitK_len]; exact hl)
  rw [waitK_at m k t hl, target_new h k a ha ht, Bool.and_false]
theorem cntT_le (W : List Bool) : cntT W ≤ W.length := List.count_le_length

/-- The width of a signal. -/
def widI (m : DModule) (s : Int) : Int := ((m.1[s.toNat]?).map fun x => x.2.1).getD 0
def noPar (a : DAssign) : Bool := a.2.all fun o => !decide (o.1 = 1)
def memWid (m : DModule) (x : DMem) : Bool := decide (widI m x.1 = 2) && decide (widI m x.2.2.1 = 1) && decide (widI m x.2.1 = widI m x.2.2.2)
def sumL (L : List Int) : Int := L.foldl (· + ·) 0
def memBits (m : DModule) (k : Nat) : Int := sumL ((m.2.2.2.take k).map fun x => widI m x.2.2.2)
def bitsB (m : DModule) : Bool := decide (sumL (widthsL m 0) ≤ 8) && decide (sumL (widthsL m 1) ≤ 8) && decide (sumL (widthsL m 3) + memBits m m.2.2.2.length ≤ 12)
/-- What FlatOk answers. -/
def flatB (m : DModule) : Bool := (orderO m).isSome && m.1.all (fun s => !decide (s.2.1 = 0)) && m.2.1.all noPar && m.2.2.2.all (memWid m) && bitsB m
theorem sumL_snoc (L : List Int) (x : Int) : sumL (L ++ [x]) = sumL L + x := by unfold sumL; rw [List.foldl_append]; rfl
theorem memBits_step (m : DModule) (k : Nat) (x : DMem) (h : m.2.2.2[k]? = some x) : memBits m (k + 1) = memBits m k + widI m x.2.2.2 := by
  unfold memBits; rw [List.take_add_one, h, List.map_append]; exact sumL_snoc _ _
theorem order_design {m : DModule} {L : List Int} (h : orderO m = some L) : designB [m] = true := by
  unfold orderO at h; split at h
  · assumption
  · cases h
theorem flat_design {m : DModule} (h : flatB m = true) : designB [m] = true := by
  unfold flatB at h
  simp only [Bool.and_eq_true] at h
  obtain ⟨L, hL⟩ := Option.isSome_iff_exists.1 h.1.1.1.1
  exact order_design hL
end Go.Proofs.Ytmalaleinmoihaa
