/-
  How often a signal is driven: the plain part.
-/
import Derived.Test.YtmalaleinmoihaaSCnt
namespace Go.Proofs.Ytmalaleinmoihaa
open Go.RowKit
set_option linter.unusedVariables false

def cntB {α : Type} (f : α → Bool) (L : List α) : Nat := (L.filter f).length
theorem cntB_yes {α : Type} (f : α → Bool) (L : List α) (i : Nat) (x : α) (h : L[i]? = some x) (hf : f x = true) : cntB f (L.take (i + 1)) = cntB f (L.take i) + 1 := by
  unfold cntB; rw [List.take_add_one, h, List.filter_append, List.length_append]; simp [hf]
theorem cntB_no {α : Type} (f : α → Bool) (L : List α) (i : Nat) (x : α) (h : L[i]? = some x) (hf : f x = false) : cntB f (L.take (i + 1)) = cntB f (L.take i) := by
  unfold cntB; rw [List.take_add_one, h, List.filter_append, List.length_append]; simp [hf]
theorem cntB_le {α : Type} (f : α → Bool) (L : List α) : cntB f L ≤ L.length := List.length_filter_le _ _
theorem cntB_take_le {α : Type} (f : α → Bool) (L : List α) (i : Nat) : cntB f (L.take i) ≤ i := Nat.le_trans (cntB_le f _) (List.length_take_le _ _)

theorem portsL_at (m : DModule) (i : Nat) (p : Int) (h : (portsL m)[i]? = some p) : ∃ q : Nat, p = q ∧ ∃ s, m.1[q]? = some s ∧ isPort s = true := by
  unfold portsL at h
  by_cases hl : m.1.length ≤ 30
  · rw [if_pos hl] at h
    unfold portsK at h
    rw [List.getElem?_map] at h
    obtain ⟨q, hq, rfl⟩ := Option.map_eq_some_iff.1 h
    have hm := List.mem_of_getElem? hq
    rw [List.mem_filter] at hm
    have h2 := hm.2
    cases hs : m.1[q]? with
    | none => rw [hs] at h2; simp at h2
    | some s => rw [hs] at h2; exact ⟨q, rfl, s, hs, by simpa using h2⟩
  · rw [if_neg hl] at h; simp at h
theorem portsL_len (m : DModule) : (portsL m).length ≤ 30 := by
  unfold portsL
  by_cases hl : m.1.length ≤ 30
  · rw [if_pos hl]; exact Nat.le_trans (portsK_len _ _) hl
  · rw [if_neg hl]; simp

/-- An output. -/
def isOut (s : DSignal) : Bool := decide (s.1 = 1)
/-- Port i of the module is an output. -/
def outAt (m : DModule) (i : Nat) : Bool := ((portsL m)[i]?).any fun p => (m.1[p.toNat]?).any isOut
theorem outAt_eq (m : DModule) (i q : Nat) (s : DSignal) (h : (portsL m)[i]? = some (q : Int)) (hs : m.1[q]? = some s) : outAt m i = isOut s := by
  unfold outAt; rw [h]; simp [hs]
/-- The elements of Ports behind outputs, among the first k. -/
def drivenK (m : DModule) (P : List Int) (k : Nat) : List Int := ((List.range k).filter (outAt m)).map fun i => P.getD i 0
def drivenL (m : DModule) (P : List Int) : List Int := drivenK m P (portsL m).length
theorem drivenK_yes (m : DModule) (P : List Int) (k : Nat) (h : outAt m k = true) : drivenK m P (k + 1) = drivenK m P k ++ [P.getD k 0] := by
  unfold drivenK; rw [List.range_succ, List.filter_append, List.map_append]; simp [h]
theorem drivenK_no (m : DModule) (P : List Int) (k : Nat) (h : outAt m k = false) : drivenK m P (k + 1) = drivenK m P k := by
  unfold drivenK; rw [List.range_succ, List.filter_append, List.map_append]; simp [h]
theorem drivenK_len (m : DModule) (P : List Int) (k : Nat) : (drivenK m P k).length ≤ k := by
  unfold drivenK; rw [List.length_map]; exact Nat.le_trans (List.length_filter_le _ _) (by simp)
theorem drivenL_len (m : DModule) (P : List Int) : (drivenL m P).length ≤ 30 := Nat.le_trans (drivenK_len _ _ _) (portsL_len m)
def isS (s x : Int) : Bool := decide (x = s)
/-- How often the instance drives s. -/
def instHits (d : List DModule) (s : Int) (n : DInst) : Nat := match d[n.1.toNat]? with | some m => cntB (isS s) (drivenL m n.2.2) | none => 0
theorem instHits_le (d : List DModule) (s : Int) (n : DInst) : instHits d s n ≤ 30 := by
  unfold instHits; split
  · exact Nat.le_trans (cntB_le _ _) (drivenL_len _ _)
  · omega
def sumHits (d : List DModule) (s : Int) (L : List DInst) : Nat := (L.map (instHits d s)).sum
theorem sumHits_step (d : List DModule) (s : Int) (L : List DInst) (i : Nat) (n : DInst) (h : L[i]? = some n) : sumHits d s (L.take (i + 1)) = sumHits d s (L.take i) + instHits d s n := by
  unfold sumHits; rw [List.take_add_one, h, List.map_append, List.sum_append]; simp
theorem sumHits_le (d : List DModule) (s : Int) : ∀ L : List DInst, sumHits d s L ≤ 30 * L.length
  | [] => by simp [sumHits]
  | n :: L => by
    have h1 := sumHits_le d s L
    have h2 := instHits_le d s n
    unfold sumHits at h1 ⊢
    rw [List.map_cons, List.sum_cons, List.length_cons]; omega
theorem sumHits_take_le (d : List DModule) (s : Int) (L : List DInst) (i : Nat) : sumHits d s (L.take i) ≤ 30 * i := by
  have h1 := sumHits_le d s (L.take i)
  have h2 := List.length_take_le i L
  omega
def tgB (s : Int) (a : DAssign) : Bool := decide (a.1 = s)
def outB (s : Int) (x : DMem) : Bool := decide (x.2.2.2 = s)
def driversN (d : List DModule) (m : DModule) (s : Int) : Nat := cntB (tgB s) m.2.1 + cntB (outB s) m.2.2.2 + sumHits d s m.2.2.1
/-- What DriverCount answers. -/
def driversI (d : List DModule) (k s : Int) : Int := match d[k.toNat]? with
  | some m => if countsB d k && decide (0 ≤ s ∧ s < m.1.length) then (driversN d m s : Int) else -1
  | none => -1
theorem driversI_no {d : List DModule} {k s : Int} (h : countsB d k = false) : driversI d k s = -1 := by
  unfold driversI; split
  · rw [h]; simp
  · rfl
theorem driversI_out {d : List DModule} {K : Nat} {m : DModule} {s : Int} (hm : d[K]? = some m) (h : ¬ (0 ≤ s ∧ s < m.1.length)) : driversI d K s = -1 := by
  unfold driversI; rw [Int.toNat_natCast, hm]; simp only [decide_eq_false h, Bool.and_false]; rfl
theorem driversI_yes {d : List DModule} {K : Nat} {m : DModule} {s : Int} (hm : d[K]? = some m) (hc : countsB d K = true) (h : 0 ≤ s ∧ s < m.1.length) : driversI d K s = driversN d m s := by
  unfold driversI; rw [Int.toNat_natCast, hm]; simp only [decide_eq_true h, hc, Bool.and_true]; rfl
theorem counts_facts {d : List DModule} {k : Int} (h : countsB d k = true) : ∃ (K : Nat) (m : DModule), k = K ∧ d.length ≤ 4 ∧ K < d.length ∧ d[K]? = some m ∧ m.1.length ≤ 30 ∧ m.2.1.length ≤ 30 ∧ m.2.2.1.length ≤ 3 ∧ m.2.2.2.length ≤ 2 ∧
    ∀ (i : Nat) (n : DInst), m.2.2.1[i]? = some n → ∃ (N : Nat) (c : DModule), n.1 = N ∧ N < K ∧ d[N]? = some c ∧ n.2.2.length = (portsL c).length := by
  unfold countsB at h
  simp only [Bool.and_eq_true, decide_eq_true_eq] at h
  obtain ⟨⟨⟨h4, hk0, hk1⟩, hall⟩, hi⟩ := h
  obtain ⟨K, rfl⟩ := Int.eq_ofNat_of_zero_le hk0
  have hK : K < d.length := by omega
  rw [Int.toNat_natCast, List.getElem?_eq_getElem hK] at hi
  have hsz := List.all_eq_true.1 hall d[K] (List.getElem_mem hK)
  unfold sizeOk at hsz
  simp only [Bool.and_eq_true, decide_eq_true_eq] at hsz
  refine ⟨K, d[K], rfl, h4, hK, List.getElem?_eq_getElem hK, hsz.1.1.1, hsz.1.1.2, hsz.1.2, hsz.2, fun i n hn => ?_⟩
  have hi1 : d[K].2.2.1.all (instOk d K) = true := hi
  have hi2 := List.all_eq_true.1 hi1 n (List.mem_of_getElem? hn)
  unfold instOk at hi2
  simp only [Bool.and_eq_true, decide_eq_true_eq] at hi2
  obtain ⟨⟨hn0, hn1⟩, hp⟩ := hi2
  obtain ⟨N, hN⟩ := Int.eq_ofNat_of_zero_le hn0
  have hNK : N < K := by omega
  have hNd : N < d.length := by omega
  rw [hN, Int.toNat_natCast, List.getElem?_eq_getElem hNd] at hp
  exact ⟨N, d[N], hN, hNK, List.getElem?_eq_getElem hNd, by simpa using hp⟩
end Go.Proofs.Ytmalaleinmoihaa
