/-
  The text of a module: the pure part.
-/
import Derived.Test.YtdfcbccpdflbfaaGreatDoorOpTx
import Derived.Test.YtdfcbccpdflbfaaGreatDoorModMath
namespace Go.Proofs.YtdfcbccpdflbfaaGreatDoor
open Go.RowKit
set_option linter.unusedVariables false
set_option linter.unusedSimpArgs false

def numB (n : Int) : ByteArray := tx (Lib.itoa n)
def kwB (k : Int) : ByteArray := if k = 0 then ⟨#[105, 110]⟩ else if k = 1 then ⟨#[111, 117, 116]⟩ else if k = 2 then ⟨#[119, 105, 114, 101]⟩ else ⟨#[114, 101, 103]⟩
def widB (n : Int) : ByteArray := if n = 0 then ⟨#[87]⟩ else numB n
def sigT (x : DSignal) : ByteArray := if x.1 = 3 then ((kwB x.1 ++ ⟨#[32]⟩) ++ widB x.2.1 ++ ⟨#[32]⟩) ++ numB x.2.2 else (kwB x.1 ++ ⟨#[32]⟩) ++ widB x.2.1
def opsT (s : ByteArray) (L : List DOp) : ByteArray := L.foldl (fun s o => (s ++ ⟨#[32]⟩) ++ opTextS o) s
def setT (a : DAssign) : ByteArray := opsT (⟨#[115, 101, 116, 32, 115]⟩ ++ numB a.1) a.2
def prtT (s : ByteArray) (L : List Int) : ByteArray := L.foldl (fun s p => (s ++ ⟨#[32, 115]⟩) ++ numB p) s
def useT (n : DInst) : ByteArray := prtT (((⟨#[117, 115, 101, 32, 109]⟩ ++ numB n.1) ++ ⟨#[32]⟩) ++ widB n.2.1) n.2.2
def memT (x : DMem) : ByteArray := ((((((⟨#[109, 101, 109, 32, 115]⟩ ++ numB x.1) ++ ⟨#[32, 115]⟩) ++ numB x.2.1) ++ ⟨#[32, 115]⟩) ++ numB x.2.2.1) ++ ⟨#[32, 115]⟩) ++ numB x.2.2.2
def modT (m : DModule) : List ByteArray := ⟨#[109, 111, 100, 117, 108, 101]⟩ :: (m.1.map sigT ++ m.2.1.map setT ++ m.2.2.1.map useT ++ m.2.2.2.map memT) ++ [⟨#[101, 110, 100]⟩]

theorem numB_small {n : Int} (h0 : 0 ≤ n) (h1 : n ≤ 1000000000) : ∃ s, numB n = s ∧ s.size ≤ 10 := itoa_short h0 h1
theorem widB_small {n : Int} (h0 : 0 ≤ n) (h1 : n ≤ 1000000000) : ∃ s, widB n = s ∧ s.size ≤ 10 := by
  unfold widB
  split
  · exact ⟨_, rfl, by show (1 : Nat) ≤ 10; omega⟩
  · exact numB_small h0 h1
theorem kwB_small (k : Int) : ∃ s, kwB k = s ∧ s.size ≤ 4 := by
  refine ⟨_, rfl, ?_⟩
  unfold kwB
  split
  · show (2 : Nat) ≤ 4; omega
  split
  · show (3 : Nat) ≤ 4; omega
  split
  · show (4 : Nat) ≤ 4; omega
  · show (3 : Nat) ≤ 4; omega
theorem opTextS_small (o : DOp) : (opTextS o).size ≤ 100 := by
  obtain ⟨k, a, b⟩ := o
  unfold opTextS
  split
  · rename_i h
    rw [tx_size]
    have hl : ∀ n : Int, 0 ≤ n → n ≤ 30 → (Lib.itoa n).length ≤ 10 := fun n h0 h1 => IsNum.len ⟨h0, by omega, rfl⟩
    rcases opB_kinds h with ⟨rfl, h1, h2, rfl⟩ | ⟨rfl, h1, h2, rfl⟩ | ⟨rfl, h1, h2, h3, h4⟩ | ⟨hk, rfl, rfl⟩
    · show (Lib.itoa a).length ≤ 100
      have := hl a h1 (by omega); omega
    · show (115 :: Lib.itoa a).length ≤ 100
      have := hl a h1 (by omega); simp; omega
    · show (115 :: (Lib.itoa a ++ 46 :: Lib.itoa b)).length ≤ 100
      have := hl a h1 (by omega)
      have := hl b h3 (by omega)
      simp; omega
    · rcases hk with rfl | rfl | rfl | rfl | rfl | rfl | rfl | rfl | rfl | rfl <;> (show (1 : Nat) ≤ 100; omega)
  · simp
theorem size2 (t s : ByteArray) (c : UInt8) : ((t ++ ByteArray.mk #[c]) ++ s).size = t.size + 1 + s.size := by
  rw [ByteArray.size_append, ByteArray.size_append]; rfl
theorem size3 (t s : ByteArray) (c d : UInt8) : ((t ++ ByteArray.mk #[c, d]) ++ s).size = t.size + 2 + s.size := by
  rw [ByteArray.size_append, ByteArray.size_append]; rfl
theorem take_next {α : Type} {L : List α} {i : Nat} {x : α} (h : L[i]? = some x) : L.take (i + 1) = L.take i ++ [x] := by rw [List.take_add_one, h]; rfl
theorem opsT_step {s : ByteArray} {L : List DOp} {i : Nat} {o : DOp} (h : L[i]? = some o) : opsT s (L.take (i + 1)) = (opsT s (L.take i) ++ ⟨#[32]⟩) ++ opTextS o := by
  unfold opsT; rw [take_next h, List.foldl_append]; rfl
theorem prtT_step {s : ByteArray} {L : List Int} {i : Nat} {o : Int} (h : L[i]? = some o) : prtT s (L.take (i + 1)) = (prtT s (L.take i) ++ ⟨#[32, 115]⟩) ++ numB o := by
  unfold prtT; rw [take_next h, List.foldl_append]; rfl
theorem map_step {α β : Type} {f : α → β} {P Q : List β} {L : List α} {i : Nat} {x : α} (h : L[i]? = some x) (hP : P = Q ++ (L.take i).map f) : P ++ [f x] = Q ++ (L.take (i + 1)).map f := by
  rw [take_next h, hP, List.map_append, List.append_assoc]; rfl

/-- What a valid module's text needs. -/
structure ModFit (m : DModule) : Prop where
  l0 : m.1.length ≤ 30
  l1 : m.2.1.length ≤ 30
  l2 : m.2.2.1.length ≤ 3
  l3 : m.2.2.2.length ≤ 2
  sig : ∀ x ∈ m.1, (0 ≤ x.1 ∧ x.1 ≤ 3) ∧ (0 ≤ x.2.1 ∧ x.2.1 ≤ 4) ∧ (0 ≤ x.2.2 ∧ x.2.2 ≤ 15)
  asg : ∀ a ∈ m.2.1, (0 ≤ a.1 ∧ a.1 < 30) ∧ a.2.length ≤ 15
  ins : ∀ n ∈ m.2.2.1, (0 ≤ n.1 ∧ n.1 ≤ 4) ∧ (0 ≤ n.2.1 ∧ n.2.1 ≤ 4) ∧ n.2.2.length ≤ 30 ∧ ∀ p ∈ n.2.2, 0 ≤ p ∧ p < 30
  mem : ∀ x ∈ m.2.2.2, (0 ≤ x.1 ∧ x.1 < 30) ∧ (0 ≤ x.2.1 ∧ x.2.1 < 30) ∧ (0 ≤ x.2.2.1 ∧ x.2.2.1 < 30) ∧ (0 ≤ x.2.2.2 ∧ x.2.2.2 < 30)
theorem inR_fit {m : DModule} (hl : m.1.length ≤ 30) {s : Int} (h : inR m s = true) : 0 ≤ s ∧ s < 30 := by
  unfold inR at h
  have := of_decide_eq_true h
  omega
theorem kindAt_fit {m : DModule} (hl : m.1.length ≤ 30) {L : List Int} {s : Int} (h : kindAt m L s = true) : 0 ≤ s ∧ s < 30 := by
  unfold kindAt at h
  exact inR_fit hl (by simp only [Bool.and_eq_true] at h; exact h.1)
theorem modFit_of {d : List DModule} {k : Int} (h : moduleB d k = true) : ∃ (K : Nat) (m : DModule), k = K ∧ K < d.length ∧ d.length ≤ 4 ∧ d[K]? = some m ∧ ModFit m := by
  have hc : countsB d k = true := by unfold moduleB at h; simp only [Bool.and_eq_true] at h; exact h.1
  obtain ⟨K, m, rfl, hd, hK, hm, h0, h1, h2, h3, hi⟩ := counts_facts hc
  rw [moduleB_eq hc hm] at h
  unfold partsB at h
  simp only [Bool.and_eq_true, List.all_eq_true] at h
  obtain ⟨⟨⟨⟨p1, p2⟩, p3⟩, p4⟩, -⟩ := h
  refine ⟨K, m, rfl, hK, hd, hm, h0, h1, h2, h3, fun x hx => ?_, fun a ha => ?_, fun n hn => ?_, fun x hx => ?_⟩
  · have := p1 x hx
    unfold sigOk at this
    simp only [Bool.and_eq_true, Bool.or_eq_true, decide_eq_true_eq] at this
    omega
  · have := p2 a ha
    unfold asgOk opsB at this
    simp only [Bool.and_eq_true, decide_eq_true_eq] at this
    exact ⟨kindAt_fit h0 this.1, this.2.1⟩
  · have := p3 n hn
    unfold insOk widthOk at this
    simp only [Bool.and_eq_true, decide_eq_true_eq] at this
    obtain ⟨i, hi', rfl⟩ := List.getElem_of_mem hn
    obtain ⟨N, c, e1, hN, hcN, hl⟩ := hi i _ (List.getElem?_eq_getElem hi')
    have hpl : (portsL c).length ≤ 30 := by
      unfold portsL
      by_cases hl : c.1.length ≤ 30
      · rw [if_pos hl]; exact Nat.le_trans (portsK_len _ _) hl
      · rw [if_neg hl]; simp
    refine ⟨by omega, this.1.1, by omega, fun p hp => ?_⟩
    have h5 := this.1.2
    unfold sigEx at h5
    exact inR_fit h0 (List.all_eq_true.1 h5 p hp)
  · have := p4 x hx
    unfold memOk sigEx at this
    simp only [Bool.and_eq_true, List.all_eq_true] at this
    exact ⟨inR_fit h0 (this.1 _ (by simp)), inR_fit h0 (this.1 _ (by simp)), inR_fit h0 (this.1 _ (by simp)), kindAt_fit h0 this.2⟩
end Go.Proofs.YtdfcbccpdflbfaaGreatDoor
