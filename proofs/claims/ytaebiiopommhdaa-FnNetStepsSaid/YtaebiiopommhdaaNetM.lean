/-
  And-inverter graphs: the plain part.
-/
import Derived.Test.YtaebiiopommhdaaDpN
namespace Go.Proofs.Ytaebiiopommhdaa
open Go.RowKit
set_option linter.unusedVariables false
set_option linter.unusedSimpArgs false

def sizesB (n : DNet) : Bool := decide (0 ≤ n.1 ∧ n.1 ≤ 20 ∧ n.2.1.length ≤ 12 ∧ n.2.2.1.length ≤ 300 ∧ n.2.2.2.length ≤ 16)
def firI (n : DNet) : Int := 1 + n.1 + n.2.1.length
def ncI (n : DNet) : Int := if sizesB n then firI n + n.2.2.1.length else 0
def litB (e x : Int) : Bool := decide (0 ≤ x ∧ x.tdiv 2 < e)
def seqB (s : DSeq) : Bool := decide ((s.1 = 0 ∧ 0 ≤ s.2.1 ∧ s.2.1 ≤ 1 ∧ s.2.2.length = 1) ∨ (s.1 = 1 ∧ 0 ≤ s.2.1 ∧ s.2.1 ≤ 31 ∧ s.2.2.length = 4))
def rootsL (n : DNet) : List Int := n.2.2.2 ++ n.2.1.flatMap fun s => s.2.2
def andAt (n : DNet) (i : Nat) (a : DAnd) : Bool := litB (firI n + i) a.1 && litB (firI n + i) a.2
def andsK (n : DNet) (k : Nat) : Bool := (List.range k).all fun i => (n.2.2.1[i]?).any (andAt n i)
def andsB (n : DNet) : Bool := andsK n n.2.2.1.length
def netB (n : DNet) : Bool := sizesB n && (n.2.1.all seqB && (andsB n && (rootsL n).all (litB (ncI n))))
def firN (n : DNet) : Nat := 1 + n.1.toNat + n.2.1.length
def netN (n : DNet) : Nat := firN n + n.2.2.1.length
/-- Small in all its parts. -/
structure SizeP (n : DNet) : Prop where
  i0 : n.1 = (n.1.toNat : Int)
  i20 : n.1.toNat ≤ 20
  s12 : n.2.1.length ≤ 12
  a300 : n.2.2.1.length ≤ 300
  o16 : n.2.2.2.length ≤ 16
theorem sizeP_of {n : DNet} (h : sizesB n = true) : SizeP n := by
  unfold sizesB at h
  have h := of_decide_eq_true h
  exact ⟨by omega, by omega, h.2.2.1, h.2.2.2.1, h.2.2.2.2⟩
theorem SizeP.yes {n : DNet} (h : SizeP n) : sizesB n = true := decide_eq_true ⟨by have := h.i0; omega, by have := h.i0; have := h.i20; omega, h.s12, h.a300, h.o16⟩
theorem SizeP.fir {n : DNet} (h : SizeP n) : firI n = (firN n : Int) := by unfold firI firN; have := h.i0; omega
theorem SizeP.nc {n : DNet} (h : SizeP n) : ncI n = (netN n : Int) := by unfold ncI; rw [if_pos h.yes, h.fir]; unfold netN; omega
theorem SizeP.fir_le {n : DNet} (h : SizeP n) : firN n ≤ 33 ∧ 1 ≤ firN n := by unfold firN; have := h.i20; have := h.s12; omega
theorem SizeP.net_le {n : DNet} (h : SizeP n) : netN n ≤ 333 ∧ 1 ≤ netN n := by unfold netN; have := h.fir_le; have := h.a300; omega
theorem nc_no {n : DNet} (h : sizesB n = false) : ncI n = 0 := by unfold ncI; rw [h]; rfl
theorem nc_pos {n : DNet} : (0 < ncI n) = (sizesB n = true) := by
  cases h : sizesB n with
  | true => have h1 := (sizeP_of h).nc; have h2 := (sizeP_of h).net_le; rw [h1]; simp; omega
  | false => rw [nc_no h]; simp
theorem lit_of {e : Nat} {x : Int} (h : litB e x = true) : ∃ l : Nat, x = l ∧ l / 2 < e ∧ x.tdiv 2 = ((l / 2 : Nat) : Int) := by
  unfold litB at h
  have h := of_decide_eq_true h
  refine ⟨x.toNat, by omega, ?_, ?_⟩
  · have := h.2
    rw [Int.tdiv_eq_ediv_of_nonneg h.1] at this
    omega
  · rw [Int.tdiv_eq_ediv_of_nonneg h.1]; omega
theorem tdiv2 (l : Nat) : (l : Int).tdiv 2 = ((l / 2 : Nat) : Int) := by rw [Int.tdiv_eq_ediv_of_nonneg (by omega)]; omega
/-- What a valid net is. -/
structure NetP (n : DNet) : Prop where
  sz : SizeP n
  seq : ∀ s ∈ n.2.1, seqB s = true
  and_ : ∀ (k : Nat) (a : DAnd), n.2.2.1[k]? = some a → ∃ x y : Nat, a = ((x : Int), (y : Int)) ∧ x / 2 < firN n + k ∧ y / 2 < firN n + k
  root : ∀ r ∈ rootsL n, ∃ x : Nat, r = (x : Int) ∧ x / 2 < netN n
theorem netP_of {n : DNet} (h : netB n = true) : NetP n := by
  unfold netB at h
  simp only [Bool.and_eq_true] at h
  obtain ⟨h1, h2, h3, h4⟩ := h
  have hs := sizeP_of h1
  refine ⟨hs, fun s hm => List.all_eq_true.1 h2 s hm, fun k a ha => ?_, fun r hr => ?_⟩
  · unfold andsB andsK at h3
    have hk := (List.getElem?_eq_some_iff.1 ha).1
    have h5 := List.all_eq_true.1 h3 k (List.mem_range.2 hk)
    rw [ha] at h5
    simp only [Option.any_some, andAt, Bool.and_eq_true, hs.fir] at h5
    have e : ((firN n : Int) + (k : Int)) = ((firN n + k : Nat) : Int) := by omega
    rw [e] at h5
    obtain ⟨x, hx, hx2, _⟩ := lit_of h5.1
    obtain ⟨y, hy, hy2, _⟩ := lit_of h5.2
    exact ⟨x, y, Prod.ext hx hy, hx2, hy2⟩
  · have h5 := List.all_eq_true.1 h4 r hr
    rw [hs.nc] at h5
    obtain ⟨x, hx, hx2, _⟩ := lit_of h5
    exact ⟨x, hx, hx2⟩
theorem seq_ins {s : DSeq} (h : seqB s = true) : s.2.2.length ≤ 4 ∧ 1 ≤ s.2.2.length := by
  unfold seqB at h
  have h := of_decide_eq_true h
  omega
theorem flat_le {L : List DSeq} (h : ∀ s ∈ L, s.2.2.length ≤ 4) : (L.flatMap fun s => s.2.2).length ≤ 4 * L.length := by
  induction L with
  | nil => simp
  | cons s L ih =>
    have h1 := h s (List.mem_cons_self ..)
    have h2 := ih fun x hx => h x (List.mem_cons_of_mem _ hx)
    rw [List.flatMap_cons, List.length_append, List.length_cons]
    omega
theorem NetP.roots_le {n : DNet} (h : NetP n) : (rootsL n).length ≤ 64 := by
  have h1 := flat_le fun s hs => (seq_ins (h.seq s hs)).1
  have h2 := h.sz.s12
  have h3 := h.sz.o16
  unfold rootsL
  rw [List.length_append]
  omega
/-- The roots, the first k sequential elements seen. -/
def rootsK (n : DNet) (k : Nat) : List Int := n.2.2.2 ++ (n.2.1.take k).flatMap fun s => s.2.2
theorem rootsK_zero (n : DNet) : rootsK n 0 = n.2.2.2 := by simp [rootsK]
theorem rootsK_end (n : DNet) : rootsK n n.2.1.length = rootsL n := by unfold rootsK rootsL; rw [List.take_length]
theorem rootsK_step {n : DNet} {k : Nat} {s : DSeq} (h : n.2.1[k]? = some s) : rootsK n (k + 1) = rootsK n k ++ s.2.2 := by
  unfold rootsK; rw [List.take_add_one, h]; simp [List.flatMap_append]
theorem getD_set {α : Type} (L : List α) (i j : Nat) (v d : α) : (L.set i v).getD j d = if i = j ∧ j < L.length then v else L.getD j d := by
  rw [List.getD_eq_getElem?_getD, List.getElem?_set, List.getD_eq_getElem?_getD]
  by_cases h : i = j
  · subst h
    by_cases h2 : i < L.length
    · simp [h2]
    · simp [h2]
  · simp [h]
/-- The levels, the first k AND nodes seen. -/
def levK (n : DNet) : Nat → List Int
  | 0 => List.replicate (netN n) 0
  | k + 1 => match n.2.2.1[k]? with
    | some a => (levK n k).set (firN n + k) (1 + max ((levK n k).getD (a.1.toNat / 2) 0) ((levK n k).getD (a.2.toNat / 2) 0))
    | none => levK n k
def levO (n : DNet) : List Int := if netB n then levK n n.2.2.1.length else []
theorem levK_len (n : DNet) : ∀ k, (levK n k).length = netN n
  | 0 => by simp [levK]
  | k + 1 => by
    unfold levK
    split
    · rw [List.length_set]; exact levK_len n k
    · exact levK_len n k
theorem levK_in (n : DNet) : ∀ k j, 0 ≤ (levK n k).getD j 0 ∧ (levK n k).getD j 0 ≤ k
  | 0, j => by
    simp only [levK, List.getD_eq_getElem?_getD, List.getElem?_replicate]
    split <;> simp
  | k + 1, j => by
    have ih := levK_in n k
    have hj := ih j
    unfold levK
    split
    · rename_i a ha
      have h1 := ih (a.1.toNat / 2)
      have h2 := ih (a.2.toNat / 2)
      rw [getD_set]
      split <;> omega
    · omega
theorem levK_step {n : DNet} {k x y : Nat} (h : n.2.2.1[k]? = some ((x : Int), (y : Int))) {u v : Int} (hu : (levK n k).getD (x / 2) 0 = u) (hv : (levK n k).getD (y / 2) 0 = v) : (levK n k).set (firN n + k) (1 + max u v) = levK n (k + 1) := by
  conv => rhs; unfold levK
  rw [h]
  simp only [Int.toNat_natCast, hu, hv]
theorem levO_len {n : DNet} : (levO n).length ≤ 333 ∧ ∀ x ∈ levO n, Fit x := by
  unfold levO
  split
  · rename_i h
    have hP := netP_of h
    rw [levK_len]
    refine ⟨hP.sz.net_le.1, fun x hx => ?_⟩
    obtain ⟨j, hj, e⟩ := List.getElem_of_mem hx
    have := levK_in n n.2.2.1.length j
    rw [List.getD_eq_getElem?_getD, List.getElem?_eq_getElem hj, e] at this
    have h3 := hP.sz.a300
    simp only [Option.getD_some] at this
    unfold Fit; omega
  · simp
/-- The greatest level of the roots R. -/
def depL (L R : List Int) : Int := R.foldl (fun d r => max d (L.getD (r.toNat / 2) 0)) 0
theorem depL_step {L R : List Int} {k x : Nat} (h : R[k]? = some (x : Int)) {u : Int} (hu : L.getD (x / 2) 0 = u) : depL L (R.take (k + 1)) = max (depL L (R.take k)) u := by
  unfold depL
  rw [List.take_add_one, h, List.foldl_append, ← hu]
  simp
theorem depL_in {L : List Int} {M : Int} (hM : 0 ≤ M) (h : ∀ j, 0 ≤ L.getD j 0 ∧ L.getD j 0 ≤ M) (R : List Int) : 0 ≤ depL L R ∧ depL L R ≤ M := by
  unfold depL
  suffices ∀ (R : List Int) (d : Int), 0 ≤ d → d ≤ M → 0 ≤ R.foldl (fun d r => max d (L.getD (r.toNat / 2) 0)) d ∧ R.foldl (fun d r => max d (L.getD (r.toNat / 2) 0)) d ≤ M from this R 0 (by omega) hM
  intro R
  induction R with
  | nil => intro d h1 h2; exact ⟨h1, h2⟩
  | cons r R ih =>
    intro d h1 h2
    have := h (r.toNat / 2)
    rw [List.foldl_cons]
    exact ih _ (by omega) (by omega)
def depO (n : DNet) : Int := if netB n then depL (levO n) (rootsL n) else -1
/-- The marks M, spread from the last j AND nodes. -/
def markK (n : DNet) (M : List Bool) : Nat → List Bool
  | 0 => M
  | j + 1 => match n.2.2.1[n.2.2.1.length - 1 - j]? with
    | some a => if (markK n M j).getD (firN n + (n.2.2.1.length - 1 - j)) false then ((markK n M j).set (a.1.toNat / 2) true).set (a.2.toNat / 2) true else markK n M j
    | none => markK n M j
theorem markK_len (n : DNet) (M : List Bool) : ∀ j, (markK n M j).length = M.length
  | 0 => rfl
  | j + 1 => by
    unfold markK
    split
    · split
      · rw [List.length_set, List.length_set]; exact markK_len n M j
      · exact markK_len n M j
    · exact markK_len n M j
def markL (n : DNet) (M : List Bool) : List Bool := markK n M n.2.2.1.length
def coneK (M : List Bool) (k : Nat) : List Int := ((List.range k).filter fun i => M.getD i false).map fun i : Nat => (i : Int)
theorem coneK_yes {M : List Bool} {k : Nat} (h : M.getD k false = true) : coneK M (k + 1) = coneK M k ++ [(k : Int)] := by
  unfold coneK; rw [List.range_succ, List.filter_append, List.map_append]; simp [← List.getD_eq_getElem?_getD, h]
theorem coneK_no {M : List Bool} {k : Nat} (h : M.getD k false = false) : coneK M (k + 1) = coneK M k := by
  unfold coneK; rw [List.range_succ, List.filter_append, List.map_append]; simp [← List.getD_eq_getElem?_getD, h]
theorem coneK_len (M : List Bool) (k : Nat) : (coneK M k).length ≤ k := by
  unfold coneK; rw [List.length_map]; exact Nat.le_trans (List.length_filter_le _ _) (by simp)
/-- One mark in a list of n. -/
def oneL (N k : Nat) : List Bool := (List.replicate N false).set k true
def coneO (n : DNet) (v : Int) : List Int := if netB n = true ∧ 0 ≤ v ∧ v < ncI n then coneK (markL n (oneL (netN n) v.toNat)) (netN n) else []
/-- The nodes of the literals R marked. -/
def seenL (N : Nat) (R : List Int) : List Bool := R.foldl (fun M r => M.set (r.toNat / 2) true) (List.replicate N false)
theorem seenL_len (N : Nat) (R : List Int) : (seenL N R).length = N := by
  unfold seenL
  suffices ∀ (R : List Int) (M : List Bool), (R.foldl (fun M r => M.set (r.toNat / 2) true) M).length = M.length by rw [this]; simp
  intro R
  induction R with
  | nil => intro M; rfl
  | cons r R ih => intro M; rw [List.foldl_cons, ih, List.length_set]
theorem seenL_step {N : Nat} {R : List Int} {k x : Nat} (h : R[k]? = some (x : Int)) : seenL N (R.take (k + 1)) = (seenL N (R.take k)).set (x / 2) true := by
  unfold seenL
  rw [List.take_add_one, h, List.foldl_append]
  simp
def reachO (n : DNet) : List Bool := if netB n then markL n (seenL (netN n) (rootsL n)) else []
end Go.Proofs.Ytaebiiopommhdaa
