/-
  NetM, Net1, Net2, Net3, Net4 as one text.
-/
import Derived.Test.YtiejilmgchmppaaDpN
import Derived.Test.YtiejilmgchmppaaOwN
import Derived.Test.YtiejilmgchmppaaAtAll
import Derived.Test.YtiejilmgchmppaaBits64
import Derived.Deep.RegionHeld3
import Derived.Test.YtiejilmgchmppaaRgN
import Derived.Lib.QuietBelow
/- NetM: And-inverter graphs: the plain part. -/
namespace Go.Proofs.Ytiejilmgchmppaa
open Go.RowKit
set_option linter.unusedVariables false
set_option linter.unusedSimpArgs false

def sizesB (n : DNet) : Bool := decide (0 ≤ n.1 ∧ n.1 ≤ 20 ∧ n.2.1.length ≤ 12 ∧ n.2.2.1.length ≤ 300 ∧ n.2.2.2.length ≤ 16)
def firI (n : DNet) : Int := 1 + n.1 + n.2.1.length
def ncI (n : DNet) : Int := if sizesB n then firI n + n.2.2.1.length else 0
def litB (e x : Int) : Bool := decide (0 ≤ x ∧ x.tdiv 2 < e)
def seqB (s : DSeq) : Bool := decide ((s.1 = 0 ∧ 0 ≤ s.2.1 ∧ s.2.1 ≤ 1 ∧ s.2.2.length = 1) ∨ (s.1 = 1 ∧ 0 ≤ s.2.1 ∧ s.2.1 ≤ 31 ∧ s.2.2.length = 4))
def rootsL (n : DNet) : List Int := n.2.2.2 ++ n.2.1.flatMap fun s => s.2.2
def andAt (n : DNet) (i : Nat) (a : DAnd) : Bool := litB (firI n + i) a.1 && litB (firI n + i) a.2
def andsK (n : DNet) (k : Nat) : Bool := (List.range k).all fun i => (n.2.2.1[i]?).any (andAt n i)
def andsB (n : DNet) : Bool := andsK n n.2.2.1.length
def netB (n : DNet) : Bool := sizesB n && (n.2.1.all seqB && (andsB n && (rootsL n).all (litB (ncI n))))
def firN (n : DNet) : Nat := 1 + n.1.toNat + n.2.1.length
def netN (n : DNet) : Nat := firN n + n.2.2.1.length
/-- Small in all its parts. -/
structure SizeP (n : DNet) : Prop where
  i0 : n.1 = (n.1.toNat : Int)
  i20 : n.1.toNat ≤ 20
  s12 : n.2.1.length ≤ 12
  a300 : n.2.2.1.length ≤ 300
  o16 : n.2.2.2.length ≤ 16
theorem sizeP_of {n : DNet} (h : sizesB n = true) : SizeP n := by
  unfold sizesB at h
  have h := of_decide_eq_true h
  exact ⟨by omega, by omega, h.2.2.1, h.2.2.2.1, h.2.2.2.2⟩
theorem SizeP.yes {n : DNet} (h : SizeP n) : sizesB n = true := decide_eq_true ⟨by have := h.i0; omega, by have := h.i0; have := h.i20; omega, h.s12, h.a300, h.o16⟩
theorem SizeP.fir {n : DNet} (h : SizeP n) : firI n = (firN n : Int) := by unfold firI firN; have := h.i0; omega
theorem SizeP.nc {n : DNet} (h : SizeP n) : ncI n = (netN n : Int) := by unfold ncI; rw [if_pos h.yes, h.fir]; unfold netN; omega
theorem SizeP.fir_le {n : DNet} (h : SizeP n) : firN n ≤ 33 ∧ 1 ≤ firN n := by unfold firN; have := h.i20; have := h.s12; omega
theorem SizeP.net_le {n : DNet} (h : SizeP n) : netN n ≤ 333 ∧ 1 ≤ netN n := by unfold netN; have := h.fir_le; have := h.a300; omega
theorem nc_no {n : DNet} (h : sizesB n = false) : ncI n = 0 := by unfold ncI; rw [h]; rfl
theorem nc_pos {n : DNet} : (0 < ncI n) = (sizesB n = true) := by
  cases h : sizesB n with
  | true => have h1 := (sizeP_of h).nc; have h2 := (sizeP_of h).net_le; rw [h1]; simp; omega
  | false => rw [nc_no h]; simp
theorem lit_of {e : Nat} {x : Int} (h : litB e x = true) : ∃ l : Nat, x = l ∧ l / 2 < e ∧ x.tdiv 2 = ((l / 2 : Nat) : Int) := by
  unfold litB at h
  have h := of_decide_eq_true h
  refine ⟨x.toNat, by omega, ?_, ?_⟩
  · have := h.2
    rw [Int.tdiv_eq_ediv_of_nonneg h.1] at this
    omega
  · rw [Int.tdiv_eq_ediv_of_nonneg h.1]; omega
theorem tdiv2 (l : Nat) : (l : Int).tdiv 2 = ((l / 2 : Nat) : Int) := by rw [Int.tdiv_eq_ediv_of_nonneg (by omega)]; omega
/-- What a valid net is. -/
structure NetP (n : DNet) : Prop where
  sz : SizeP n
  seq : ∀ s ∈ n.2.1, seqB s = true
  and_ : ∀ (k : Nat) (a : DAnd), n.2.2.1[k]? = some a → ∃ x y : Nat, a = ((x : Int), (y : Int)) ∧ x / 2 < firN n + k ∧ y / 2 < firN n + k
  root : ∀ r ∈ rootsL n, ∃ x : Nat, r = (x : Int) ∧ x / 2 < netN n
theorem netP_of {n : DNet} (h : netB n = true) : NetP n := by
  unfold netB at h
  simp only [Bool.and_eq_true] at h
  obtain ⟨h1, h2, h3, h4⟩ := h
  have hs := sizeP_of h1
  refine ⟨hs, fun s hm => List.all_eq_true.1 h2 s hm, fun k a ha => ?_, fun r hr => ?_⟩
  · unfold andsB andsK at h3
    have hk := (List.getElem?_eq_some_iff.1 ha).1
    have h5 := List.all_eq_true.1 h3 k (List.mem_range.2 hk)
    rw [ha] at h5
    simp only [Option.any_some, andAt, Bool.and_eq_true, hs.fir] at h5
    have e : ((firN n : Int) + (k : Int)) = ((firN n + k : Nat) : Int) := by omega
    rw [e] at h5
    obtain ⟨x, hx, hx2, _⟩ := lit_of h5.1
    obtain ⟨y, hy, hy2, _⟩ := lit_of h5.2
    exact ⟨x, y, Prod.ext hx hy, hx2, hy2⟩
  · have h5 := List.all_eq_true.1 h4 r hr
    rw [hs.nc] at h5
    obtain ⟨x, hx, hx2, _⟩ := lit_of h5
    exact ⟨x, hx, hx2⟩
theorem seq_ins {s : DSeq} (h : seqB s = true) : s.2.2.length ≤ 4 ∧ 1 ≤ s.2.2.length := by
  unfold seqB at h
  have h := of_decide_eq_true h
  omega
theorem flat_le {L : List DSeq} (h : ∀ s ∈ L, s.2.2.length ≤ 4) : (L.flatMap fun s => s.2.2).length ≤ 4 * L.length := by
  induction L with
  | nil => simp
  | cons s L ih =>
    have h1 := h s (List.mem_cons_self ..)
    have h2 := ih fun x hx => h x (List.mem_cons_of_mem _ hx)
    rw [List.flatMap_cons, List.length_append, List.length_cons]
    omega
theorem NetP.roots_le {n : DNet} (h : NetP n) : (rootsL n).length ≤ 64 := by
  have h1 := flat_le fun s hs => (seq_ins (h.seq s hs)).1
  have h2 := h.sz.s12
  have h3 := h.sz.o16
  unfold rootsL
  rw [List.length_append]
  omega
/-- The roots, the first k sequential elements seen. -/
def rootsK (n : DNet) (k : Nat) : List Int := n.2.2.2 ++ (n.2.1.take k).flatMap fun s => s.2.2
theorem rootsK_zero (n : DNet) : rootsK n 0 = n.2.2.2 := by simp [rootsK]
theorem rootsK_end (n : DNet) : rootsK n n.2.1.length = rootsL n := by unfold rootsK rootsL; rw [List.take_length]
theorem rootsK_step {n : DNet} {k : Nat} {s : DSeq} (h : n.2.1[k]? = some s) : rootsK n (k + 1) = rootsK n k ++ s.2.2 := by
  unfold rootsK; rw [List.take_add_one, h]; simp [List.flatMap_append]
theorem getD_set {α : Type} (L : List α) (i j : Nat) (v d : α) : (L.set i v).getD j d = if i = j ∧ j < L.length then v else L.getD j d := by
  rw [List.getD_eq_getElem?_getD, List.getElem?_set, List.getD_eq_getElem?_getD]
  by_cases h : i = j
  · subst h
    by_cases h2 : i < L.length
    · simp [h2]
    · simp [h2]
  · simp [h]
/-- The levels, the first k AND nodes seen. -/
def levK (n : DNet) : Nat → List Int
  | 0 => List.replicate (netN n) 0
  | k + 1 => match n.2.2.1[k]? with
    | some a => (levK n k).set (firN n + k) (1 + max ((levK n k).getD (a.1.toNat / 2) 0) ((levK n k).getD (a.2.toNat / 2) 0))
    | none => levK n k
def levO (n : DNet) : List Int := if netB n then levK n n.2.2.1.length else []
theorem levK_len (n : DNet) : ∀ k, (levK n k).length = netN n
  | 0 => by simp [levK]
  | k + 1 => by
    unfold levK
    split
    · rw [List.length_set]; exact levK_len n k
    · exact levK_len n k
theorem levK_in (n : DNet) : ∀ k j, 0 ≤ (levK n k).getD j 0 ∧ (levK n k).getD j 0 ≤ k
  | 0, j => by
    simp only [levK, List.getD_eq_getElem?_getD, List.getElem?_replicate]
    split <;> simp
  | k + 1, j => by
    have ih := levK_in n k
    have hj := ih j
    unfold levK
    split
    · rename_i a ha
      have h1 := ih (a.1.toNat / 2)
      have h2 := ih (a.2.toNat / 2)
      rw [getD_set]
      split <;> omega
    · omega
theorem levK_step {n : DNet} {k x y : Nat} (h : n.2.2.1[k]? = some ((x : Int), (y : Int))) {u v : Int} (hu : (levK n k).getD (x / 2) 0 = u) (hv : (levK n k).getD (y / 2) 0 = v) : (levK n k).set (firN n + k) (1 + max u v) = levK n (k + 1) := by
  conv => rhs; unfold levK
  rw [h]
  simp only [Int.toNat_natCast, hu, hv]
theorem levO_len {n : DNet} : (levO n).length ≤ 333 ∧ ∀ x ∈ levO n, Fit x := by
  unfold levO
  split
  · rename_i h
    have hP := netP_of h
    rw [levK_len]
    refine ⟨hP.sz.net_le.1, fun x hx => ?_⟩
    obtain ⟨j, hj, e⟩ := List.getElem_of_mem hx
    have := levK_in n n.2.2.1.length j
    rw [List.getD_eq_getElem?_getD, List.getElem?_eq_getElem hj, e] at this
    have h3 := hP.sz.a300
    simp only [Option.getD_some] at this
    unfold Fit; omega
  · simp
/-- The greatest level of the roots R. -/
def depL (L R : List Int) : Int := R.foldl (fun d r => max d (L.getD (r.toNat / 2) 0)) 0
theorem depL_step {L R : List Int} {k x : Nat} (h : R[k]? = some (x : Int)) {u : Int} (hu : L.getD (x / 2) 0 = u) : depL L (R.take (k + 1)) = max (depL L (R.take k)) u := by
  unfold depL
  rw [List.take_add_one, h, List.foldl_append, ← hu]
  simp
theorem depL_in {L : List Int} {M : Int} (hM : 0 ≤ M) (h : ∀ j, 0 ≤ L.getD j 0 ∧ L.getD j 0 ≤ M) (R : List Int) : 0 ≤ depL L R ∧ depL L R ≤ M := by
  unfold depL
  suffices ∀ (R : List Int) (d : Int), 0 ≤ d → d ≤ M → 0 ≤ R.foldl (fun d r => max d (L.getD (r.toNat / 2) 0)) d ∧ R.foldl (fun d r => max d (L.getD (r.toNat / 2) 0)) d ≤ M from this R 0 (by omega) hM
  intro R
  induction R with
  | nil => intro d h1 h2; exact ⟨h1, h2⟩
  | cons r R ih =>
    intro d h1 h2
    have := h (r.toNat / 2)
    rw [List.foldl_cons]
    exact ih _ (by omega) (by omega)
def depO (n : DNet) : Int := if netB n then depL (levO n) (rootsL n) else -1
/-- The marks M, spread from the last j AND nodes. -/
def markK (n : DNet) (M : List Bool) : Nat → List Bool
  | 0 => M
  | j + 1 => match n.2.2.1[n.2.2.1.length - 1 - j]? with
    | some a => if (markK n M j).getD (firN n + (n.2.2.1.length - 1 - j)) false then ((markK n M j).set (a.1.toNat / 2) true).set (a.2.toNat / 2) true else markK n M j
    | none => markK n M j
theorem markK_len (n : DNet) (M : List Bool) : ∀ j, (markK n M j).length = M.length
  | 0 => rfl
  | j + 1 => by
    unfold markK
    split
    · split
      · rw [List.length_set, List.length_set]; exact markK_len n M j
      · exact markK_len n M j
    · exact markK_len n M j
def markL (n : DNet) (M : List Bool) : List Bool := markK n M n.2.2.1.length
def coneK (M : List Bool) (k : Nat) : List Int := ((List.range k).filter fun i => M.getD i false).map fun i : Nat => (i : Int)
theorem coneK_yes {M : List Bool} {k : Nat} (h : M.getD k false = true) : coneK M (k + 1) = coneK M k ++ [(k : Int)] := by
  unfold coneK; rw [List.range_succ, List.filter_append, List.map_append]; simp [← List.getD_eq_getElem?_getD, h]
theorem coneK_no {M : List Bool} {k : Nat} (h : M.getD k false = false) : coneK M (k + 1) = coneK M k := by
  unfold coneK; rw [List.range_succ, List.filter_append, List.map_append]; simp [← List.getD_eq_getElem?_getD, h]
theorem coneK_len (M : List Bool) (k : Nat) : (coneK M k).length ≤ k := by
  unfold coneK; rw [List.length_map]; exact Nat.le_trans (List.length_filter_le _ _) (by simp)
/-- One mark in a list of n. -/
def oneL (N k : Nat) : List Bool := (List.replicate N false).set k true
def coneO (n : DNet) (v : Int) : List Int := if netB n = true ∧ 0 ≤ v ∧ v < ncI n then coneK (markL n (oneL (netN n) v.toNat)) (netN n) else []
/-- The nodes of the literals R marked. -/
def seenL (N : Nat) (R : List Int) : List Bool := R.foldl (fun M r => M.set (r.toNat / 2) true) (List.replicate N false)
theorem seenL_len (N : Nat) (R : List Int) : (seenL N R).length = N := by
  unfold seenL
  suffices ∀ (R : List Int) (M : List Bool), (R.foldl (fun M r => M.set (r.toNat / 2) true) M).length = M.length by rw [this]; simp
  intro R
  induction R with
  | nil => intro M; rfl
  | cons r R ih => intro M; rw [List.foldl_cons, ih, List.length_set]
theorem seenL_step {N : Nat} {R : List Int} {k x : Nat} (h : R[k]? = some (x : Int)) : seenL N (R.take (k + 1)) = (seenL N (R.take k)).set (x / 2) true := by
  unfold seenL
  rw [List.take_add_one, h, List.foldl_append]
  simp
def reachO (n : DNet) : List Bool := if netB n then markL n (seenL (netN n) (rootsL n)) else []
end Go.Proofs.Ytiejilmgchmppaa
/- Net1: The small functions over a net, both sides. -/
namespace Go.Proofs.Ytiejilmgchmppaa
open Go.RowKit
set_option linter.unusedVariables false
set_option linter.unusedSimpArgs false

theorem specIn_at (x a b : Int) (w : World) {r : Bool} (hr : decide (a ≤ x ∧ x ≤ b) = r) :
    Calls Try.prog 25 #[.int .i64 x, .int .i64 a, .int .i64 b] w fun e w' => e = .returned (.bool r) ∧ Below w.heap.size w w' := by
  subst hr
  by_cases h1 : a ≤ x
  · have h2 : ¬ x < a := by omega
    go_enter Try.func25, Try.ntmps25
    go_wp2
    go_ret
    refine ⟨ret_bool ?_, by (repeat' (first | assumption | exact Below.refl _ _ | refine bDrewN ?_ _ | refine Below.drew ?_ | refine bAlloc ?_ (Nat.le_refl _) _ | refine bSet ?_ (by first | exact Nat.le_refl _ | omega | (simp <;> omega)) _))⟩
    simp [h1]
  · have h2 : x < a := by omega
    go_enter Try.func25, Try.ntmps25
    go_wp2
    go_ret
    refine ⟨ret_bool ?_, by (repeat' (first | assumption | exact Below.refl _ _ | refine bDrewN ?_ _ | refine Below.drew ?_ | refine bAlloc ?_ (Nat.le_refl _) _ | refine bSet ?_ (by first | exact Nat.le_refl _ | omega | (simp <;> omega)) _))⟩
    simp [h1]
    omega
set_option maxHeartbeats 3200000 in
theorem specNc_at (n : DNet) (us : List Value) {B T : Nat} (w : World) (h : rdNet B T w us n) (hT : T ≤ w.heap.size) {r : Int} (hr : ncI n = r) :
    Calls Try.prog 7 #[.agg us.toArray] w fun e w' => e = .returned (.int .i64 r) ∧ Below w.heap.size w w' := by
  have HR := Lib.hid hr
  clear hr
  obtain ⟨mu0, mu1, mu2, mu3, rfl, mh0, mh1, mh2, mh3⟩ := h
  obtain ⟨me0, -⟩ := mh0
  injection me0 with me0
  subst me0
  obtain ⟨mA1, mc1, me1, mm1, -⟩ := slice_of mh1
  subst me1
  have mR1 := Lib.hid mh1
  clear mh1
  obtain ⟨mA2, mc2, me2, mm2, -⟩ := slice_of mh2
  subst me2
  have mR2 := Lib.hid mh2
  clear mh2
  obtain ⟨mA3, mc3, me3, mm3, -⟩ := slice_of mh3
  subst me3
  have mR3 := Lib.hid mh3
  clear mh3
  obtain ⟨b, hb⟩ : ∃ b, decide ((0 : Int) ≤ n.1 ∧ n.1 ≤ 20) = b := ⟨_, rfl⟩
  have HBB := Lib.hid hb
  clear hb
  cases b with
  | false =>
    go_enter Try.func7, Try.ntmps7
    go_wp2_with fail
    obtain ⟨W0, hV⟩ : ∃ W0, W0 = (w.alloc (.cells #[.int .i64 n.1, .slice mA1 (n.2.1).length mc1, .slice mA2 (n.2.2.1).length mc2, .slice mA3 (n.2.2.2).length mc3] 28)) := ⟨_, rfl⟩
    rw [← hV]
    have gN := eqbox1 hV
    have d0 : W0.cell? ⟨w.heap.size, 0, none⟩ = some (.int .i64 n.1) := box_cell gN.1 0 _ rfl
    have d1 : W0.cell? ⟨w.heap.size, 1, none⟩ = some (.slice mA1 (n.2.1).length mc1) := box_cell gN.1 1 _ rfl
    have d2 : W0.cell? ⟨w.heap.size, 2, none⟩ = some (.slice mA2 (n.2.2.1).length mc2) := box_cell gN.1 2 _ rfl
    have d3 : W0.cell? ⟨w.heap.size, 3, none⟩ = some (.slice mA3 (n.2.2.2).length mc3) := box_cell gN.1 3 _ rfl
    have sW0 : W0.heap.size = w.heap.size + 1 := by rw [hV]; simp
    have HW0 := Lib.hid gN.2
    clear hV gN
    refine (specIn_at _ _ _ _ HBB.out).mono ?_
    rintro e w1 ⟨rfl, hb⟩
    replace d0 := keep hb d0
    replace d1 := keep hb d1
    replace d2 := keep hb d2
    replace d3 := keep hb d3
    have HB := Lib.hid (bThen HW0.out hb)
    clear hb
    go_wp2
    go_ret
    refine ⟨ret_i64 ?_, HB.out⟩
    rw [← HR.out, nc_no]
    have := of_decide_eq_false HBB.out
    exact decide_eq_false (by omega)
  | true =>
    have hI := of_decide_eq_true HBB.out
    by_cases h1 : 12 < (n.2.1.length : Int)
    · go_enter Try.func7, Try.ntmps7
      go_wp2_with fail
      obtain ⟨W0, hV⟩ : ∃ W0, W0 = (w.alloc (.cells #[.int .i64 n.1, .slice mA1 (n.2.1).length mc1, .slice mA2 (n.2.2.1).length mc2, .slice mA3 (n.2.2.2).length mc3] 28)) := ⟨_, rfl⟩
      rw [← hV]
      have gN := eqbox1 hV
      have d0 : W0.cell? ⟨w.heap.size, 0, none⟩ = some (.int .i64 n.1) := box_cell gN.1 0 _ rfl
      have d1 : W0.cell? ⟨w.heap.size, 1, none⟩ = some (.slice mA1 (n.2.1).length mc1) := box_cell gN.1 1 _ rfl
      have d2 : W0.cell? ⟨w.heap.size, 2, none⟩ = some (.slice mA2 (n.2.2.1).length mc2) := box_cell gN.1 2 _ rfl
      have d3 : W0.cell? ⟨w.heap.size, 3, none⟩ = some (.slice mA3 (n.2.2.2).length mc3) := box_cell gN.1 3 _ rfl
      have sW0 : W0.heap.size = w.heap.size + 1 := by rw [hV]; simp
      have HW0 := Lib.hid gN.2
      clear hV gN
      refine (specIn_at _ _ _ _ HBB.out).mono ?_
      rintro e w1 ⟨rfl, hb⟩
      replace d0 := keep hb d0
      replace d1 := keep hb d1
      replace d2 := keep hb d2
      replace d3 := keep hb d3
      have HB := Lib.hid (bThen HW0.out hb)
      clear hb
      go_wp2
      go_ret
      refine ⟨ret_i64 ?_, HB.out⟩
      rw [← HR.out, nc_no]
      exact decide_eq_false (by omega)
    · by_cases h2 : 300 < (n.2.2.1.length : Int)
      · go_enter Try.func7, Try.ntmps7
        go_wp2_with fail
        obtain ⟨W0, hV⟩ : ∃ W0, W0 = (w.alloc (.cells #[.int .i64 n.1, .slice mA1 (n.2.1).length mc1, .slice mA2 (n.2.2.1).length mc2, .slice mA3 (n.2.2.2).length mc3] 28)) := ⟨_, rfl⟩
        rw [← hV]
        have gN := eqbox1 hV
        have d0 : W0.cell? ⟨w.heap.size, 0, none⟩ = some (.int .i64 n.1) := box_cell gN.1 0 _ rfl
        have d1 : W0.cell? ⟨w.heap.size, 1, none⟩ = some (.slice mA1 (n.2.1).length mc1) := box_cell gN.1 1 _ rfl
        have d2 : W0.cell? ⟨w.heap.size, 2, none⟩ = some (.slice mA2 (n.2.2.1).length mc2) := box_cell gN.1 2 _ rfl
        have d3 : W0.cell? ⟨w.heap.size, 3, none⟩ = some (.slice mA3 (n.2.2.2).length mc3) := box_cell gN.1 3 _ rfl
        have sW0 : W0.heap.size = w.heap.size + 1 := by rw [hV]; simp
        have HW0 := Lib.hid gN.2
        clear hV gN
        refine (specIn_at _ _ _ _ HBB.out).mono ?_
        rintro e w1 ⟨rfl, hb⟩
        replace d0 := keep hb d0
        replace d1 := keep hb d1
        replace d2 := keep hb d2
        replace d3 := keep hb d3
        have HB := Lib.hid (bThen HW0.out hb)
        clear hb
        go_wp2
        go_ret
        refine ⟨ret_i64 ?_, HB.out⟩
        rw [← HR.out, nc_no]
        exact decide_eq_false (by omega)
      · by_cases h3 : 16 < (n.2.2.2.length : Int)
        · go_enter Try.func7, Try.ntmps7
          go_wp2_with fail
          obtain ⟨W0, hV⟩ : ∃ W0, W0 = (w.alloc (.cells #[.int .i64 n.1, .slice mA1 (n.2.1).length mc1, .slice mA2 (n.2.2.1).length mc2, .slice mA3 (n.2.2.2).length mc3] 28)) := ⟨_, rfl⟩
          rw [← hV]
          have gN := eqbox1 hV
          have d0 : W0.cell? ⟨w.heap.size, 0, none⟩ = some (.int .i64 n.1) := box_cell gN.1 0 _ rfl
          have d1 : W0.cell? ⟨w.heap.size, 1, none⟩ = some (.slice mA1 (n.2.1).length mc1) := box_cell gN.1 1 _ rfl
          have d2 : W0.cell? ⟨w.heap.size, 2, none⟩ = some (.slice mA2 (n.2.2.1).length mc2) := box_cell gN.1 2 _ rfl
          have d3 : W0.cell? ⟨w.heap.size, 3, none⟩ = some (.slice mA3 (n.2.2.2).length mc3) := box_cell gN.1 3 _ rfl
          have sW0 : W0.heap.size = w.heap.size + 1 := by rw [hV]; simp
          have HW0 := Lib.hid gN.2
          clear hV gN
          refine (specIn_at _ _ _ _ HBB.out).mono ?_
          rintro e w1 ⟨rfl, hb⟩
          replace d0 := keep hb d0
          replace d1 := keep hb d1
          replace d2 := keep hb d2
          replace d3 := keep hb d3
          have HB := Lib.hid (bThen HW0.out hb)
          clear hb
          go_wp2
          go_ret
          refine ⟨ret_i64 ?_, HB.out⟩
          rw [← HR.out, nc_no]
          exact decide_eq_false (by omega)
        · have hy : sizesB n = true := decide_eq_true (by omega)
          have HE := Lib.hid (show firI n + n.2.2.1.length = r by rw [← HR.out]; unfold ncI; rw [if_pos hy])
          go_enter Try.func7, Try.ntmps7
          go_wp2_with fail
          obtain ⟨W0, hV⟩ : ∃ W0, W0 = (w.alloc (.cells #[.int .i64 n.1, .slice mA1 (n.2.1).length mc1, .slice mA2 (n.2.2.1).length mc2, .slice mA3 (n.2.2.2).length mc3] 28)) := ⟨_, rfl⟩
          rw [← hV]
          have gN := eqbox1 hV
          have d0 : W0.cell? ⟨w.heap.size, 0, none⟩ = some (.int .i64 n.1) := box_cell gN.1 0 _ rfl
          have d1 : W0.cell? ⟨w.heap.size, 1, none⟩ = some (.slice mA1 (n.2.1).length mc1) := box_cell gN.1 1 _ rfl
          have d2 : W0.cell? ⟨w.heap.size, 2, none⟩ = some (.slice mA2 (n.2.2.1).length mc2) := box_cell gN.1 2 _ rfl
          have d3 : W0.cell? ⟨w.heap.size, 3, none⟩ = some (.slice mA3 (n.2.2.2).length mc3) := box_cell gN.1 3 _ rfl
          have sW0 : W0.heap.size = w.heap.size + 1 := by rw [hV]; simp
          have HW0 := Lib.hid gN.2
          clear hV gN
          refine (specIn_at _ _ _ _ HBB.out).mono ?_
          rintro e w1 ⟨rfl, hb⟩
          replace d0 := keep hb d0
          replace d1 := keep hb d1
          replace d2 := keep hb d2
          replace d3 := keep hb d3
          have HB := Lib.hid (bThen HW0.out hb)
          clear hb hy
          go_wp2
          go_ret
          refine ⟨?_, HB.out⟩
          rw [← HE.out]
          unfold firI
          go_num
set_option maxHeartbeats 1600000 in
theorem andNode_at (n : DNet) (k : Nat) (us : List Value) {B T : Nat} (w : World) (h : rdNet B T w us n) (hT : T ≤ w.heap.size) (hS : SizeP n) (hk : k ≤ 300) :
    Calls Try.prog 31 #[.agg us.toArray, .int .i64 (k : Int)] w fun e w' => e = .returned (.int .i64 ((firN n + k : Nat) : Int)) ∧ Below w.heap.size w w' := by
  obtain ⟨mu0, mu1, mu2, mu3, rfl, mh0, mh1, mh2, mh3⟩ := h
  obtain ⟨me0, -⟩ := mh0
  injection me0 with me0
  subst me0
  obtain ⟨mA1, mc1, me1, mm1, -⟩ := slice_of mh1
  subst me1
  have mR1 := Lib.hid mh1
  clear mh1
  obtain ⟨mA2, mc2, me2, mm2, -⟩ := slice_of mh2
  subst me2
  have mR2 := Lib.hid mh2
  clear mh2
  obtain ⟨mA3, mc3, me3, mm3, -⟩ := slice_of mh3
  subst me3
  have mR3 := Lib.hid mh3
  clear mh3
  have h0 := hS.i0
  have h1 := hS.i20
  have h2 := hS.s12
  obtain ⟨I, hI⟩ : ∃ I : Nat, n.1.toNat = I := ⟨_, rfl⟩
  rw [hI] at h0 h1
  rw [h0]
  have HI := Lib.hid hI
  clear hI h0
  go_enter Try.func31, Try.ntmps31
  go_wp2
  go_ret
  refine ⟨ret_i64 ?_, by (repeat' (first | assumption | exact Below.refl _ _ | refine bDrewN ?_ _ | refine Below.drew ?_ | refine bAlloc ?_ (Nat.le_refl _) _ | refine bSet ?_ (by first | exact Nat.le_refl _ | omega | (simp <;> omega)) _))⟩
  unfold firN
  rw [HI.out]
  go_num
theorem specFirst_at (n : DNet) (us : List Value) {B T : Nat} (w : World) (h : rdNet B T w us n) (hT : T ≤ w.heap.size) (hS : SizeP n) :
    Calls Try.prog 28 #[.agg us.toArray] w fun e w' => e = .returned (.int .i64 (firN n : Int)) ∧ Below w.heap.size w w' := by
  obtain ⟨mu0, mu1, mu2, mu3, rfl, mh0, mh1, mh2, mh3⟩ := h
  obtain ⟨me0, -⟩ := mh0
  injection me0 with me0
  subst me0
  obtain ⟨mA1, mc1, me1, mm1, -⟩ := slice_of mh1
  subst me1
  have mR1 := Lib.hid mh1
  clear mh1
  obtain ⟨mA2, mc2, me2, mm2, -⟩ := slice_of mh2
  subst me2
  have mR2 := Lib.hid mh2
  clear mh2
  obtain ⟨mA3, mc3, me3, mm3, -⟩ := slice_of mh3
  subst me3
  have mR3 := Lib.hid mh3
  clear mh3
  have h0 := hS.i0
  have h1 := hS.i20
  have h2 := hS.s12
  obtain ⟨I, hI⟩ : ∃ I : Nat, n.1.toNat = I := ⟨_, rfl⟩
  rw [hI] at h0 h1
  rw [h0]
  have HI := Lib.hid hI
  clear hI h0
  go_enter Try.func28, Try.ntmps28
  go_wp2
  go_ret
  refine ⟨ret_i64 ?_, by (repeat' (first | assumption | exact Below.refl _ _ | refine bDrewN ?_ _ | refine Below.drew ?_ | refine bAlloc ?_ (Nat.le_refl _) _ | refine bSet ?_ (by first | exact Nat.le_refl _ | omega | (simp <;> omega)) _))⟩
  unfold firN
  rw [HI.out]
  go_num
set_option maxHeartbeats 3200000 in
theorem implNc_at (n : DNet) (us : List Value) {B T : Nat} (w : World) (h : rdNet B T w us n) (hT : T ≤ w.heap.size) {r : Int} (hr : ncI n = r) :
    Calls Try.prog 32 #[.agg us.toArray] w fun e w' => e = .returned (.int .i64 r) ∧ Below w.heap.size w w' := by
  have HR := Lib.hid hr
  have HM := Lib.hid h
  clear hr
  obtain ⟨mu0, mu1, mu2, mu3, rfl, mh0, mh1, mh2, mh3⟩ := h
  obtain ⟨me0, -⟩ := mh0
  injection me0 with me0
  subst me0
  obtain ⟨mA1, mc1, me1, mm1, -⟩ := slice_of mh1
  subst me1
  have mR1 := Lib.hid mh1
  clear mh1
  obtain ⟨mA2, mc2, me2, mm2, -⟩ := slice_of mh2
  subst me2
  have mR2 := Lib.hid mh2
  clear mh2
  obtain ⟨mA3, mc3, me3, mm3, -⟩ := slice_of mh3
  subst me3
  have mR3 := Lib.hid mh3
  clear mh3
  by_cases h0 : n.1 < 0
  · go_enter Try.func32, Try.ntmps32
    go_wp2
    go_ret
    refine ⟨ret_i64 ?_, by (repeat' (first | assumption | exact Below.refl _ _ | refine bDrewN ?_ _ | refine Below.drew ?_ | refine bAlloc ?_ (Nat.le_refl _) _ | refine bSet ?_ (by first | exact Nat.le_refl _ | omega | (simp <;> omega)) _))⟩
    rw [← HR.out, nc_no]
    exact decide_eq_false (by omega)
  by_cases h1 : 20 < n.1
  · go_enter Try.func32, Try.ntmps32
    go_wp2
    go_ret
    refine ⟨ret_i64 ?_, by (repeat' (first | assumption | exact Below.refl _ _ | refine bDrewN ?_ _ | refine Below.drew ?_ | refine bAlloc ?_ (Nat.le_refl _) _ | refine bSet ?_ (by first | exact Nat.le_refl _ | omega | (simp <;> omega)) _))⟩
    rw [← HR.out, nc_no]
    exact decide_eq_false (by omega)
  by_cases h2 : 12 < (n.2.1.length : Int)
  · go_enter Try.func32, Try.ntmps32
    go_wp2
    go_ret
    refine ⟨ret_i64 ?_, by (repeat' (first | assumption | exact Below.refl _ _ | refine bDrewN ?_ _ | refine Below.drew ?_ | refine bAlloc ?_ (Nat.le_refl _) _ | refine bSet ?_ (by first | exact Nat.le_refl _ | omega | (simp <;> omega)) _))⟩
    rw [← HR.out, nc_no]
    exact decide_eq_false (by omega)
  by_cases h3 : 300 < (n.2.2.1.length : Int)
  · go_enter Try.func32, Try.ntmps32
    go_wp2
    go_ret
    refine ⟨ret_i64 ?_, by (repeat' (first | assumption | exact Below.refl _ _ | refine bDrewN ?_ _ | refine Below.drew ?_ | refine bAlloc ?_ (Nat.le_refl _) _ | refine bSet ?_ (by first | exact Nat.le_refl _ | omega | (simp <;> omega)) _))⟩
    rw [← HR.out, nc_no]
    exact decide_eq_false (by omega)
  by_cases h4 : 16 < (n.2.2.2.length : Int)
  · go_enter Try.func32, Try.ntmps32
    go_wp2
    go_ret
    refine ⟨ret_i64 ?_, by (repeat' (first | assumption | exact Below.refl _ _ | refine bDrewN ?_ _ | refine Below.drew ?_ | refine bAlloc ?_ (Nat.le_refl _) _ | refine bSet ?_ (by first | exact Nat.le_refl _ | omega | (simp <;> omega)) _))⟩
    rw [← HR.out, nc_no]
    exact decide_eq_false (by omega)
  have hS := sizeP_of (n := n) (decide_eq_true (by omega))
  have HE := Lib.hid (show ((firN n + n.2.2.1.length : Nat) : Int) = r from hS.nc.symm.trans HR.out)
  go_enter Try.func32, Try.ntmps32
  go_wp2_with fail
  obtain ⟨W0, hV⟩ : ∃ W0, W0 = (w.alloc (.cells #[.int .i64 n.1, .slice mA1 (n.2.1).length mc1, .slice mA2 (n.2.2.1).length mc2, .slice mA3 (n.2.2.2).length mc3] 28)) := ⟨_, rfl⟩
  rw [← hV]
  have gN := eqbox1 hV
  have d0 : W0.cell? ⟨w.heap.size, 0, none⟩ = some (.int .i64 n.1) := box_cell gN.1 0 _ rfl
  have d1 : W0.cell? ⟨w.heap.size, 1, none⟩ = some (.slice mA1 (n.2.1).length mc1) := box_cell gN.1 1 _ rfl
  have d2 : W0.cell? ⟨w.heap.size, 2, none⟩ = some (.slice mA2 (n.2.2.1).length mc2) := box_cell gN.1 2 _ rfl
  have d3 : W0.cell? ⟨w.heap.size, 3, none⟩ = some (.slice mA3 (n.2.2.2).length mc3) := box_cell gN.1 3 _ rfl
  have sW0 : W0.heap.size = w.heap.size + 1 := by rw [hV]; simp
  have HW0 := Lib.hid gN.2
  clear hV gN
  refine (andNode_at n n.2.2.1.length _ _ (good_Net.below HM.out hT HW0.out) (Nat.le_trans hT HW0.out.size) hS hS.a300).mono ?_
  rintro e w1 ⟨rfl, hb⟩
  have HB := Lib.hid (bThen HW0.out hb)
  clear hb
  go_wp2
  go_ret
  exact ⟨ret_i64 HE.out, HB.out⟩
theorem specLit_at (x e : Int) (w : World) (hx : Fit x) {r : Bool} (hr : litB e x = r) :
    Calls Try.prog 51 #[.int .i64 x, .int .i64 e] w fun e w' => e = .returned (.bool r) ∧ Below w.heap.size w w' := by
  subst hr
  unfold Fit at hx
  by_cases h1 : x < 0
  · go_enter Try.func51, Try.ntmps51
    go_wp2
    go_ret
    refine ⟨ret_bool ?_, by (repeat' (first | assumption | exact Below.refl _ _ | refine bDrewN ?_ _ | refine Below.drew ?_ | refine bAlloc ?_ (Nat.le_refl _) _ | refine bSet ?_ (by first | exact Nat.le_refl _ | omega | (simp <;> omega)) _))⟩
    exact (decide_eq_false (by omega)).symm
  · obtain ⟨l, rfl⟩ : ∃ l : Nat, x = (l : Int) := ⟨x.toNat, by omega⟩
    have hq : IntKind.i64.wrap ((l : Int).tdiv 2) = ((l / 2 : Nat) : Int) := by rw [tdiv2]; exact wrap64_int _ (by omega) (by omega)
    go_enter Try.func51, Try.ntmps51
    go_wp2
    go_ret
    refine ⟨ret_bool ?_, by (repeat' (first | assumption | exact Below.refl _ _ | refine bDrewN ?_ _ | refine Below.drew ?_ | refine bAlloc ?_ (Nat.le_refl _) _ | refine bSet ?_ (by first | exact Nat.le_refl _ | omega | (simp <;> omega)) _))⟩
    unfold litB
    rw [tdiv2]
    simp
theorem nodeOf_at (l : Nat) (w : World) (hl : l ≤ 9223372036854775807) :
    Calls Try.prog 35 #[.int .i64 (l : Int)] w fun e w' => e = .returned (.int .i64 ((l / 2 : Nat) : Int)) ∧ Below w.heap.size w w' := by
  go_enter Try.func35, Try.ntmps35
  go_wp2
  go_ret
  refine ⟨ret_i64 ?_, by (repeat' (first | assumption | exact Below.refl _ _ | refine bDrewN ?_ _ | refine Below.drew ?_ | refine bAlloc ?_ (Nat.le_refl _) _ | refine bSet ?_ (by first | exact Nat.le_refl _ | omega | (simp <;> omega)) _))⟩
  omega
end Go.Proofs.Ytiejilmgchmppaa
/- Net2: literalsOk; the roots of a net, both sides. -/
namespace Go.Proofs.Ytiejilmgchmppaa
open Go.RowKit
set_option linter.unusedVariables false
set_option linter.unusedSimpArgs false

theorem rootsK_le {n : DNet} (h : n.2.1.all seqB = true) (k : Nat) : (rootsK n k).length ≤ n.2.2.2.length + 4 * n.2.1.length := by
  have h1 := flat_le (L := n.2.1.take k) fun s hs => (seq_ins (List.all_eq_true.1 h s (List.mem_of_mem_take hs))).1
  unfold rootsK
  rw [List.length_append]
  rw [List.length_take] at h1
  omega
/-- Each of the first i elements is such. -/
def AllK {α : Type} (f : α → Bool) (L : List α) (i : Nat) : Bool := (L.take i).all f
theorem allK_zero {α : Type} (f : α → Bool) (L : List α) : AllK f L 0 = true := by simp [AllK]
theorem allK_miss {α : Type} {f : α → Bool} {L : List α} {i : Nat} {x : α} (h : L[i]? = some x) (hx : f x = false) : L.all f = false := by
  rw [List.all_eq_false]; exact ⟨x, List.mem_of_getElem? h, by simp [hx]⟩
theorem allK_step {α : Type} {f : α → Bool} {L : List α} {i : Nat} {x : α} (h : L[i]? = some x) (hx : f x = true) (h0 : AllK f L i = true) : AllK f L (i + 1) = true := by
  unfold AllK at h0 ⊢; rw [List.take_add_one, h, List.all_append, h0]; simp [hx]
theorem allK_end {α : Type} {f : α → Bool} {L : List α} (h : AllK f L L.length = true) : L.all f = true := by
  unfold AllK at h; rwa [List.take_length] at h
theorem lit_no {e x : Int} (h : x < 0) : litB e x = false := decide_eq_false (by omega)
theorem lit_yes {e : Int} {l : Nat} (h : ((l / 2 : Nat) : Int) < e) : litB e (l : Int) = true := decide_eq_true (by rw [tdiv2]; omega)
theorem lit_out {e : Int} {l : Nat} (h : ¬ ((l / 2 : Nat) : Int) < e) : litB e (l : Int) = false := decide_eq_false (by rw [tdiv2]; omega)
set_option maxHeartbeats 3200000 in
theorem litsOk_at (L : List Int) (e : Int) (v : Value) {B T : Nat} (w : World) (hv : rdIntS B T w [v] L) (hT : T ≤ w.heap.size) {r : Bool} (hr : L.all (litB e) = r) :
    Calls Try.prog 34 #[.int .i64 e, v] w fun e' w' => e' = .returned (.bool r) ∧ Below w.heap.size w w' := by
  have HR := Lib.hid hr
  obtain ⟨vA, vc, rfl, vm, -⟩ := slice_of hv
  have HV := Lib.hid hv
  clear hv hr
  go_enter Try.func34, Try.ntmps34
  go_wp2
  go_loopw [9] (fun x wr => ∃ i : Nat, i ≤ L.length ∧ x = .int .i64 i ∧ AllK (litB e) L i = true ∧ Below w.heap.size w wr) (fun x _ => L.length - (intOf x).toNat)
  case atStart => exact ⟨0, Nat.zero_le _, rfl, allK_zero _ _, Below.refl _ _⟩
  case round =>
    obtain ⟨i, hi, rfl, hno, hb⟩ := hrel
    have HN := Lib.hid hno
    have HB := Lib.hid hb
    clear hno hb
    by_cases hlt : i < L.length
    · obtain ⟨x, hx⟩ : ∃ x, L[i]? = some x := ⟨_, List.getElem?_eq_getElem hlt⟩
      have HX := Lib.hid hx
      obtain ⟨xb, xq, rfl, xlt, xc, xf⟩ := at_Int (good_IntS.below HV.out hT HB.out) hx
      have xlt2 := Nat.lt_of_lt_of_le xlt (Nat.le_trans hT HB.out.size)
      clear hx xlt
      unfold Fit at xf
      by_cases h0 : x < 0
      · have HE := Lib.hid ((allK_miss HX.out (lit_no h0)).symm.trans HR.out)
        go_wp2
        go_ret
        exact ⟨ret_bool HE.out, HB.out⟩
      · obtain ⟨l, rfl⟩ : ∃ l : Nat, x = (l : Int) := ⟨x.toNat, by omega⟩
        have hl : l ≤ 9223372036854775807 := by omega
        clear xf
        go_wp2_with fail
        refine (nodeOf_at l _ hl).mono ?_
        rintro e' w1 ⟨rfl, hb1⟩
        have HB1 := Lib.hid (bThen HB.out hb1)
        clear hb1
        by_cases h1 : ((l / 2 : Nat) : Int) < e
        · have HS := Lib.hid (allK_step HX.out (lit_yes h1) HN.out)
          clear xc h0
          go_wp2
          go_roundw
          case rel => exact ⟨i + 1, by omega, by go_num, HS.out, HB1.out⟩
          case measure => simp [intOf]; omega
        · have HE := Lib.hid ((allK_miss HX.out (lit_out h1)).symm.trans HR.out)
          clear xc h0
          go_wp2
          go_ret
          exact ⟨ret_bool HE.out, HB1.out⟩
    · obtain rfl : i = L.length := by omega
      have HE := Lib.hid ((allK_end HN.out).symm.trans HR.out)
      go_wp2
      go_ret
      exact ⟨ret_bool HE.out, HB.out⟩

set_option maxRecDepth 100000 in
set_option maxHeartbeats 6400000 in
theorem specRoots_at (n : DNet) (us : List Value) (w : World) (h : rdNet 0 w.heap.size w us n) (hS : sizesB n = true) (hq : n.2.1.all seqB = true) :
    Calls Try.prog 50 #[.agg us.toArray] w fun e w' => ∃ v, e = .returned v ∧ OwnsI w' w.heap.size v (rootsL n) ∧ Below w.heap.size w w' := by
  obtain ⟨i0, hi, hz0, hz1, hz2⟩ := info_parts infoI
  have hP := sizeP_of hS
  have HP := Lib.hid hP
  have HQ := Lib.hid hq
  have o16 := hP.o16
  have s12 := hP.s12
  clear hP hS hq
  obtain ⟨mu0, mu1, mu2, mu3, rfl, mh0, mh1, mh2, mh3⟩ := h
  obtain ⟨me0, -⟩ := mh0
  injection me0 with me0
  subst me0
  obtain ⟨mA1, mc1, me1, mm1, -⟩ := slice_of mh1
  subst me1
  have mR1 := Lib.hid mh1
  clear mh1
  obtain ⟨mA2, mc2, me2, mm2, -⟩ := slice_of mh2
  subst me2
  have mR2 := Lib.hid mh2
  clear mh2
  obtain ⟨mA3, mc3, me3, mm3, -⟩ := slice_of mh3
  subst me3
  have mR3 := Lib.hid mh3
  clear mh3
  go_enter Try.func50, Try.ntmps50
  obtain ⟨W0, hV⟩ : ∃ W0, W0 = w.alloc (.cells #[.int .i64 n.1, .slice mA1 (n.2.1).length mc1, .slice mA2 (n.2.2.1).length mc2, .slice mA3 (n.2.2.2).length mc3] 28) := ⟨_, rfl⟩
  have gN := eqbox1 hV
  have HW0 := Lib.hid gN.2
  have HN := Lib.hid (show NewsAt (W0.alloc (.cells #[] 3)) mA3 n.2.2.2.length (n.2.2.2.flatMap fInt) from (newsAt_of fInt 1 fInt_len (by omega) usInt (good_IntS.below mR3.out (Nat.le_refl _) (bThen gN.2 (bAlloc (Below.refl _ _) (Nat.le_refl _) _)))).2)
  have sW0 : W0.heap.size = w.heap.size + 1 := by rw [hV]; simp
  have HEQ := Lib.hid hV
  have d0 : W0.cell? ⟨w.heap.size, 0, none⟩ = some (.int .i64 n.1) := box_cell gN.1 0 _ rfl
  have d1 : W0.cell? ⟨w.heap.size, 1, none⟩ = some (.slice mA1 (n.2.1).length mc1) := box_cell gN.1 1 _ rfl
  have d2 : W0.cell? ⟨w.heap.size, 2, none⟩ = some (.slice mA2 (n.2.2.1).length mc2) := box_cell gN.1 2 _ rfl
  have d3 : W0.cell? ⟨w.heap.size, 3, none⟩ = some (.slice mA3 (n.2.2.2).length mc3) := box_cell gN.1 3 _ rfl
  have HE1 := Lib.hid d1
  clear gN hV
  go_wp2_with ((try rw [← HEQ.out]); at_builtin; refine wpList_append_all (by rfl) _ _ 26 (by rfl) W0.heap.size 3 i0 (.int .i64 0) 1 8 Try.underlying26 hi hz0 hz1 hz2 rfl (by omega) (.slice (some ⟨W0.heap.size, 0, none⟩) 0 0) 0 [] (by (first | rfl | (rw [sW0]; rfl))) (ownR_new fInt 1 3 W0 W0.heap.size (Nat.le_refl _)) mA3 n.2.2.2.length mc3 (n.2.2.2.flatMap fInt) (by rfl) (flat_len fInt 1 fInt_len _) HN.out (fInt_one _) (by unfold maxLen; omega) (by omega) (by simp) ?_; intro A' c' w1 hown hgrow hkeep hat)
  have hr := hown
  rw [Nat.zero_add, List.nil_append, flat_vI] at hr
  have HB1 := Lib.hid (show Below W0.heap.size W0 w1 from (show Below W0.heap.size W0 (W0.alloc (.cells #[] 3)) from bAlloc (Below.refl _ _) (Nat.le_refl _) _).grown hgrow (by simp) (by intro g hg; injection hg with hg; dsimp only at hg; omega))
  have HO := Lib.hid (show OwnsI w1 W0.heap.size (.slice A' n.2.2.2.length c') n.2.2.2 from hr)
  replace d0 := keep HB1.out d0
  replace d1 := keep HB1.out d1
  replace d2 := keep HB1.out d2
  replace d3 := keep HB1.out d3
  clear hown hgrow hkeep hat hr HN
  have e1 : W0.cell? ⟨w.heap.size, 1, none⟩ = some (.slice mA1 (n.2.1).length mc1) := HE1.out
  go_wp2
  go_loopw [3, 4] (fun v i wr => ∃ (k : Nat) (A : Option Addr) (c : Nat), k ≤ n.2.1.length ∧ i = .int .i64 (k : Int) ∧ v = .slice A (rootsK n k).length c ∧ OwnsI wr W0.heap.size (.slice A (rootsK n k).length c) (rootsK n k) ∧ Below W0.heap.size W0 wr) (fun _ i _ => n.2.1.length - (intOf i).toNat)
  case atStart => exact ⟨0, A', c', Nat.zero_le _, rfl, by rw [rootsK_zero], by rw [rootsK_zero]; exact HO.out, HB1.out⟩
  case round =>
    obtain ⟨k, A, c, hk, rfl, rfl, hown, hb⟩ := hrel
    obtain ⟨w2, rfl⟩ : ∃ w2, w2 = wr := ⟨_, rfl⟩
    clear HO HB1 d0 d1 d2 d3
    have HO := Lib.hid hown
    have HB2 := Lib.hid hb
    have HBW := Lib.hid (bThen HW0.out hb)
    have c1 := keep hb e1
    have lt2 : w.heap.size < w2.heap.size := World.block_lt_of_cell? _ _ c1
    have hlen := rootsK_le HQ.out k
    clear hown hb
    by_cases hlt : k < n.2.1.length
    · obtain ⟨s, hs⟩ : ∃ s, n.2.1[k]? = some s := ⟨_, List.getElem?_eq_getElem hlt⟩
      obtain ⟨sb, sq, sA, sc, rfl, sb1, x0, -, x1, -, x2, sR⟩ := at_Seq (good_SeqS.below mR1.out (Nat.le_refl _) HBW.out) hs
      have sb2 := Nat.lt_of_lt_of_le sb1 HBW.out.size
      have HS := Lib.hid (rootsK_step hs)
      have s4 := (seq_ins (List.all_eq_true.1 HQ.out s (List.mem_of_getElem? hs))).1
      obtain ⟨L, hL⟩ : ∃ L, s.2.2 = L := ⟨_, rfl⟩
      have HL := Lib.hid hL
      rw [hL] at x2 sR s4
      obtain ⟨K, hK⟩ : ∃ K, rootsK n k = K := ⟨_, rfl⟩
      have HK := Lib.hid hK
      rw [hK] at HO hlen ⊢
      have hsum : K.length + L.length ≤ 1000 := by omega
      have tk : (k : Int) < (n.2.1.length : Int) := by omega
      have HN := Lib.hid (show NewsAt w2 sA L.length (L.flatMap fInt) from (newsAt_of fInt 1 fInt_len (by omega) usInt sR).2)
      clear hs hL hK x0 x1 sR sb1
      go_wp2_with (at_builtin; refine wpList_append_all (by rfl) _ _ 26 (by rfl) W0.heap.size 3 i0 (.int .i64 0) 1 8 Try.underlying26 hi hz0 hz1 hz2 rfl (by omega) (.slice A K.length c) K.length (K.map vI) (by rfl) HO.out sA L.length sc (L.flatMap fInt) (by rfl) (flat_len fInt 1 fInt_len _) HN.out (fInt_one _) (by unfold maxLen; omega) (by omega) HB2.out.size ?_; intro A' c' w3 hown hgrow hkeep hat)
      have hr := hown
      rw [flat_vI, ← List.map_append] at hr
      have HB3 := Lib.hid (HB2.out.grown hgrow HB2.out.size (fun g hg => (HO.out.lt g hg).1))
      have HO3 := Lib.hid (show OwnsI w3 W0.heap.size (.slice A' (K.length + L.length) c') (K ++ L) from (by unfold OwnsI; rw [List.length_append]; exact hr))
      clear hown hgrow hkeep hat hr HN
      go_roundw
      case rel =>
        have e := HS.out
        rw [HK.out, HL.out] at e
        exact ⟨k + 1, A', c', by omega, by go_num, by rw [e, List.length_append], by rw [e, List.length_append]; exact HO3.out, HB3.out⟩
      case measure => simp [intOf]; omega
    · obtain rfl : k = n.2.1.length := by omega
      rw [rootsK_end] at HO ⊢
      clear hlt
      go_wp2
      go_ret
      exact ⟨_, rfl, HO.out.lower (by omega), HBW.out⟩

set_option maxRecDepth 100000 in
set_option maxHeartbeats 6400000 in
theorem implRoots_at (n : DNet) (us : List Value) (w : World) (h : rdNet 0 w.heap.size w us n) (hS : sizesB n = true) (hq : n.2.1.all seqB = true) :
    Calls Try.prog 54 #[.agg us.toArray] w fun e w' => ∃ v, e = .returned v ∧ OwnsI w' w.heap.size v (rootsL n) ∧ Below w.heap.size w w' := by
  obtain ⟨i0, hi, hz0, hz1, hz2⟩ := info_parts infoI
  have hP := sizeP_of hS
  have HP := Lib.hid hP
  have HQ := Lib.hid hq
  have o16 := hP.o16
  have s12 := hP.s12
  clear hP hS hq
  obtain ⟨mu0, mu1, mu2, mu3, rfl, mh0, mh1, mh2, mh3⟩ := h
  obtain ⟨me0, -⟩ := mh0
  injection me0 with me0
  subst me0
  obtain ⟨mA1, mc1, me1, mm1, -⟩ := slice_of mh1
  subst me1
  have mR1 := Lib.hid mh1
  clear mh1
  obtain ⟨mA2, mc2, me2, mm2, -⟩ := slice_of mh2
  subst me2
  have mR2 := Lib.hid mh2
  clear mh2
  obtain ⟨mA3, mc3, me3, mm3, -⟩ := slice_of mh3
  subst me3
  have mR3 := Lib.hid mh3
  clear mh3
  go_enter Try.func54, Try.ntmps54
  go_wp2_with fail
  obtain ⟨W0, hV⟩ : ∃ W0, W0 = (w.alloc (.cells #[.int .i64 n.1, .slice mA1 (n.2.1).length mc1, .slice mA2 (n.2.2.1).length mc2, .slice mA3 (n.2.2.2).length mc3] 28)) := ⟨_, rfl⟩
  rw [← hV]
  have gN := eqbox1 hV
  have d0 : W0.cell? ⟨w.heap.size, 0, none⟩ = some (.int .i64 n.1) := box_cell gN.1 0 _ rfl
  have d1 : W0.cell? ⟨w.heap.size, 1, none⟩ = some (.slice mA1 (n.2.1).length mc1) := box_cell gN.1 1 _ rfl
  have d2 : W0.cell? ⟨w.heap.size, 2, none⟩ = some (.slice mA2 (n.2.2.1).length mc2) := box_cell gN.1 2 _ rfl
  have d3 : W0.cell? ⟨w.heap.size, 3, none⟩ = some (.slice mA3 (n.2.2.2).length mc3) := box_cell gN.1 3 _ rfl
  have sW0 : W0.heap.size = w.heap.size + 1 := by rw [hV]; simp
  have HW0 := Lib.hid gN.2
  clear hV gN
  have HE1 := Lib.hid d1
  refine (cloneInt_at n.2.2.2 _ _ _ _ (rdUp good_IntS mR3.out HW0.out) (by omega)).mono ?_
  rintro e w1 ⟨A', c', rfl, hg, hb⟩
  replace d0 := keep hb d0
  replace d1 := keep hb d1
  replace d2 := keep hb d2
  replace d3 := keep hb d3
  have HB1 := Lib.hid hb
  have hO := hg.own
  have HO := Lib.hid (show OwnsI w1 W0.heap.size (.slice A' n.2.2.2.length c') n.2.2.2 from (by unfold OwnsI OwnsR at *; rw [flat_vI] at hO; exact hO))
  clear hb hg hO
  go_wp2
  have e1 : W0.cell? ⟨w.heap.size, 1, none⟩ = some (.slice mA1 (n.2.1).length mc1) := HE1.out
  go_loopw [3, 12] (fun v i wr => ∃ (k : Nat) (A : Option Addr) (c : Nat), k ≤ n.2.1.length ∧ i = .int .i64 (k : Int) ∧ v = .slice A (rootsK n k).length c ∧ OwnsI wr W0.heap.size (.slice A (rootsK n k).length c) (rootsK n k) ∧ Below W0.heap.size W0 wr) (fun _ i _ => n.2.1.length - (intOf i).toNat)
  case atStart => exact ⟨0, A', c', Nat.zero_le _, rfl, by rw [rootsK_zero], by rw [rootsK_zero]; exact HO.out, HB1.out⟩
  case round =>
    obtain ⟨k, A, c, hk, rfl, rfl, hown, hb⟩ := hrel
    obtain ⟨w2, rfl⟩ : ∃ w2, w2 = wr := ⟨_, rfl⟩
    clear HO HB1 d0 d1 d2 d3
    have HO := Lib.hid hown
    have HB2 := Lib.hid hb
    have HBW := Lib.hid (bThen HW0.out hb)
    have c1 := keep hb e1
    have lt2 : w.heap.size < w2.heap.size := World.block_lt_of_cell? _ _ c1
    have hlen := rootsK_le HQ.out k
    clear hown hb
    by_cases hlt : k < n.2.1.length
    · obtain ⟨s, hs⟩ : ∃ s, n.2.1[k]? = some s := ⟨_, List.getElem?_eq_getElem hlt⟩
      obtain ⟨sb, sq, sA, sc, rfl, sb1, x0, -, x1, -, x2, sR⟩ := at_Seq (good_SeqS.below mR1.out (Nat.le_refl _) HBW.out) hs
      have sb2 := Nat.lt_of_lt_of_le sb1 HBW.out.size
      have HS := Lib.hid (rootsK_step hs)
      have s4 := (seq_ins (List.all_eq_true.1 HQ.out s (List.mem_of_getElem? hs))).1
      obtain ⟨L, hL⟩ : ∃ L, s.2.2 = L := ⟨_, rfl⟩
      have HL := Lib.hid hL
      rw [hL] at x2 sR s4
      obtain ⟨K, hK⟩ : ∃ K, rootsK n k = K := ⟨_, rfl⟩
      have HK := Lib.hid hK
      rw [hK] at HO hlen ⊢
      have hsum : K.length + L.length ≤ 1000 := by omega
      have tk : (k : Int) < (n.2.1.length : Int) := by omega
      have HN := Lib.hid (show NewsAt (w2.alloc (.cells #[.int .i64 s.1, .int .i64 s.2.1, .slice sA L.length sc] 56)) sA L.length (L.flatMap fInt) from (newsAt_of fInt 1 fInt_len (by omega) usInt (good_IntS.below sR HBW.out.size (bAlloc (Below.refl _ _) (Nat.le_refl _) _))).2)
      have HBA := Lib.hid (show Below w2.heap.size w2 (w2.alloc (.cells #[.int .i64 s.1, .int .i64 s.2.1, .slice sA L.length sc] 56)) from bAlloc (Below.refl _ _) (Nat.le_refl _) _)
      have HBB := Lib.hid (bThen HB2.out HBA.out)
      have hsz := HBB.out.size
      obtain ⟨s0, hs0⟩ : ∃ s0 : Int, s.1 = s0 := ⟨_, rfl⟩
      obtain ⟨s1, hs1⟩ : ∃ s1 : Int, s.2.1 = s1 := ⟨_, rfl⟩
      rw [hs0] at x0 HN HBA HBB hsz
      rw [hs1] at x1 HN HBA HBB hsz
      clear hs hL hK sR sb1 hs0 hs1
      go_wp2_with (at_builtin; refine wpList_append_all (by rfl) _ _ 26 (by rfl) W0.heap.size 3 i0 (.int .i64 0) 1 8 Try.underlying26 hi hz0 hz1 hz2 rfl (by omega) (.slice A K.length c) K.length (K.map vI) (by rfl) (HO.out.below HBA.out) sA L.length sc (L.flatMap fInt) (by rfl) (flat_len fInt 1 fInt_len _) HN.out (fInt_one _) (by unfold maxLen; omega) (by omega) hsz ?_; intro A' c' w3 hown hgrow hkeep hat)
      have hr := hown
      rw [flat_vI, ← List.map_append] at hr
      have HB3 := Lib.hid (HBB.out.grown hgrow HBB.out.size (fun g hg => (HO.out.lt g hg).1))
      have HO3 := Lib.hid (show OwnsI w3 W0.heap.size (.slice A' (K.length + L.length) c') (K ++ L) from (by unfold OwnsI; rw [List.length_append]; exact hr))
      clear hown hgrow hkeep hat hr HN
      go_roundw
      case rel =>
        have e := HS.out
        rw [HK.out, HL.out] at e
        exact ⟨k + 1, A', c', by omega, by go_num, by rw [e, List.length_append], by rw [e, List.length_append]; exact HO3.out, HB3.out⟩
      case measure => simp [intOf]; omega
    · obtain rfl : k = n.2.1.length := by omega
      rw [rootsK_end] at HO ⊢
      clear hlt
      go_wp2
      go_ret
      exact ⟨_, rfl, HO.out.lower (by omega), HBW.out⟩
end Go.Proofs.Ytiejilmgchmppaa
/- Net3: NetOk, both sides. -/
namespace Go.Proofs.Ytiejilmgchmppaa
open Go.RowKit
set_option linter.unusedVariables false
set_option linter.unusedSimpArgs false

def stI (k : Int) : Int := if k = 0 then 2 else if k = 1 then 32 else 0
def inI (k : Int) : Int := if k = 1 then 4 else 1
theorem stI_in (k : Int) : 0 ≤ stI k ∧ stI k ≤ 32 := by unfold stI; split <;> (try split) <;> omega
theorem seqB_eq (s : DSeq) : seqB s = decide (0 ≤ s.2.1 ∧ s.2.1 < stI s.1 ∧ (s.2.2.length : Int) = inI s.1) := by
  unfold seqB stI inI
  apply decide_eq_decide.2
  by_cases h0 : s.1 = 0
  · simp [h0]; omega
  · by_cases h1 : s.1 = 1
    · simp [h1]; omega
    · simp [h0, h1]; omega
theorem seqStates_at (k : Int) (w : World) {r : Int} (hr : stI k = r) : Calls Try.prog 66 #[.int .i64 k] w fun e w' => e = .returned (.int .i64 r) ∧ Below w.heap.size w w' := by
  by_cases h0 : k = 0
  · subst h0
    have e : r = 2 := by rw [← hr]; rfl
    subst e
    go_enter Try.func66, Try.ntmps66
    go_wp2
    go_ret
    exact ⟨rfl, by (repeat' (first | assumption | exact Below.refl _ _ | refine bDrewN ?_ _ | refine Below.drew ?_ | refine bAlloc ?_ (Nat.le_refl _) _ | refine bSet ?_ (by first | exact Nat.le_refl _ | omega | (simp <;> omega)) _))⟩
  · have b0 : (k == 0) = false := by simp [h0]
    by_cases h1 : k = 1
    · subst h1
      have e : r = 32 := by rw [← hr]; rfl
      subst e
      go_enter Try.func66, Try.ntmps66
      go_wp2
      go_ret
      exact ⟨rfl, by (repeat' (first | assumption | exact Below.refl _ _ | refine bDrewN ?_ _ | refine Below.drew ?_ | refine bAlloc ?_ (Nat.le_refl _) _ | refine bSet ?_ (by first | exact Nat.le_refl _ | omega | (simp <;> omega)) _))⟩
    · have b1 : (k == 1) = false := by simp [h1]
      have e : r = 0 := by rw [← hr]; simp [stI, h0, h1]
      subst e
      clear hr
      go_enter Try.func66, Try.ntmps66
      go_wp2
      go_ret
      exact ⟨rfl, by (repeat' (first | assumption | exact Below.refl _ _ | refine bDrewN ?_ _ | refine Below.drew ?_ | refine bAlloc ?_ (Nat.le_refl _) _ | refine bSet ?_ (by first | exact Nat.le_refl _ | omega | (simp <;> omega)) _))⟩
theorem seqIns_at (k : Int) (w : World) {r : Int} (hr : inI k = r) : Calls Try.prog 67 #[.int .i64 k] w fun e w' => e = .returned (.int .i64 r) ∧ Below w.heap.size w w' := by
  by_cases h1 : k = 1
  · subst h1
    have e : r = 4 := by rw [← hr]; rfl
    subst e
    go_enter Try.func67, Try.ntmps67
    go_wp2
    go_ret
    exact ⟨rfl, by (repeat' (first | assumption | exact Below.refl _ _ | refine bDrewN ?_ _ | refine Below.drew ?_ | refine bAlloc ?_ (Nat.le_refl _) _ | refine bSet ?_ (by first | exact Nat.le_refl _ | omega | (simp <;> omega)) _))⟩
  · have b1 : (k == 1) = false := by simp [h1]
    have e : r = 1 := by rw [← hr]; simp [inI, h1]
    subst e
    clear hr
    go_enter Try.func67, Try.ntmps67
    go_wp2
    go_ret
    exact ⟨rfl, by (repeat' (first | assumption | exact Below.refl _ _ | refine bDrewN ?_ _ | refine Below.drew ?_ | refine bAlloc ?_ (Nat.le_refl _) _ | refine bSet ?_ (by first | exact Nat.le_refl _ | omega | (simp <;> omega)) _))⟩

set_option maxRecDepth 100000 in
set_option maxHeartbeats 6400000 in
theorem seqsOk_at (n : DNet) (us : List Value) (w : World) (h : rdNet 0 w.heap.size w us n) (hs12 : n.2.1.length ≤ 12) {r : Bool} (hr : n.2.1.all seqB = r) :
    Calls Try.prog 52 #[.agg us.toArray] w fun e w' => e = .returned (.bool r) ∧ Below w.heap.size w w' := by
  have HR := Lib.hid hr
  clear hr
  obtain ⟨mu0, mu1, mu2, mu3, rfl, mh0, mh1, mh2, mh3⟩ := h
  obtain ⟨me0, -⟩ := mh0
  injection me0 with me0
  subst me0
  obtain ⟨mA1, mc1, me1, mm1, -⟩ := slice_of mh1
  subst me1
  have mR1 := Lib.hid mh1
  clear mh1
  obtain ⟨mA2, mc2, me2, mm2, -⟩ := slice_of mh2
  subst me2
  have mR2 := Lib.hid mh2
  clear mh2
  obtain ⟨mA3, mc3, me3, mm3, -⟩ := slice_of mh3
  subst me3
  have mR3 := Lib.hid mh3
  clear mh3
  go_enter Try.func52, Try.ntmps52
  go_wp2
  go_loopw [8] (fun x wr => ∃ k : Nat, k ≤ n.2.1.length ∧ x = .int .i64 (k : Int) ∧ AllK seqB n.2.1 k = true ∧ Below w.heap.size w wr) (fun x _ => n.2.1.length - (intOf x).toNat)
  case atStart => exact ⟨0, Nat.zero_le _, rfl, allK_zero _ _, by (repeat' (first | assumption | exact Below.refl _ _ | refine bDrewN ?_ _ | refine Below.drew ?_ | refine bAlloc ?_ (Nat.le_refl _) _ | refine bSet ?_ (by first | exact Nat.le_refl _ | omega | (simp <;> omega)) _))⟩
  case round =>
    obtain ⟨k, hk, rfl, hall, hb⟩ := hrel
    obtain ⟨w2, rfl⟩ : ∃ w2, w2 = wr := ⟨_, rfl⟩
    have HB := Lib.hid hb
    have HA := Lib.hid hall
    clear hb hall
    by_cases hlt : k < n.2.1.length
    · obtain ⟨s, hs⟩ : ∃ s, n.2.1[k]? = some s := ⟨_, List.getElem?_eq_getElem hlt⟩
      have HS := Lib.hid hs
      obtain ⟨sb, sq, sA, sc, rfl, sb1, x0, -, x1, -, x2, sR⟩ := at_Seq (good_SeqS.below mR1.out (Nat.le_refl _) HB.out) hs
      have sb2 := Nat.lt_of_lt_of_le sb1 HB.out.size
      have hq := seqB_eq s
      obtain ⟨L, hL⟩ : ∃ L, s.2.2 = L := ⟨_, rfl⟩
      obtain ⟨kd, hkd⟩ : ∃ kd : Int, s.1 = kd := ⟨_, rfl⟩
      obtain ⟨it, hit⟩ : ∃ it : Int, s.2.1 = it := ⟨_, rfl⟩
      rw [hL, hkd, hit] at hq
      rw [hL] at x2
      rw [hkd] at x0
      rw [hit] at x1
      obtain ⟨st, hst⟩ : ∃ st, stI kd = st := ⟨_, rfl⟩
      obtain ⟨iq, hiq⟩ : ∃ iq, inI kd = iq := ⟨_, rfl⟩
      rw [hst, hiq] at hq
      have HQ := Lib.hid hq
      have HST := Lib.hid hst
      have HIN := Lib.hid hiq
      clear hs hL hkd hit hq hst hiq sR sb1
      go_wp2_with fail
      obtain ⟨V, hV⟩ : ∃ V, V = w2.alloc (.cells #[.int .i64 kd, .int .i64 it, .slice sA L.length sc] 56) := ⟨_, rfl⟩
      rw [← hV]
      have gN := eqbox1 hV
      have y0 : ∀ d os, (Sort.grow (redrawn V d) os).cell? ⟨w2.heap.size, 0, none⟩ = some (.int .i64 kd) := cell_regrown (box_cell gN.1 0 _ rfl)
      have y1 : ∀ d os, (Sort.grow (redrawn V d) os).cell? ⟨w2.heap.size, 1, none⟩ = some (.int .i64 it) := cell_regrown (box_cell gN.1 1 _ rfl)
      have y2 : ∀ d os, (Sort.grow (redrawn V d) os).cell? ⟨w2.heap.size, 2, none⟩ = some (.slice sA L.length sc) := cell_regrown (box_cell gN.1 2 _ rfl)
      have HBV := Lib.hid (bThen HB.out gN.2)
      have sV : V.heap.size = w2.heap.size + 1 := by rw [hV]; simp
      clear hV gN x0 x1 x2
      by_cases h0 : it < 0
      · have HE := Lib.hid ((allK_miss HS.out (HQ.out.trans (decide_eq_false (by omega)))).symm.trans HR.out)
        refine wp_region_quiet_below (by kernel_rfl) (by kernel_rfl) ?_
        repeat (go_big_quiet_step (first | (go_at_call 66; refine Calls.regrown_of (seqStates_at _ _ HST.out)) | (go_at_call 67; refine Calls.regrown_of (seqIns_at _ _ HIN.out))))
        refine wpQuiet_nil ?_
        intro _ hw'
        obtain ⟨⟨dq, osq⟩, hw''⟩ := hw'
        subst hw''
        have HBQ := Lib.hid (bThen HBV.out (below_regrown V dq osq))
        go_wp2
        go_ret
        exact ⟨ret_bool HE.out, HBQ.out⟩
      by_cases h1 : st ≤ it
      · have HE := Lib.hid ((allK_miss HS.out (HQ.out.trans (decide_eq_false (by omega)))).symm.trans HR.out)
        refine wp_region_quiet_below (by kernel_rfl) (by kernel_rfl) ?_
        repeat (go_big_quiet_step (first | (go_at_call 66; refine Calls.regrown_of (seqStates_at _ _ HST.out)) | (go_at_call 67; refine Calls.regrown_of (seqIns_at _ _ HIN.out))))
        refine wpQuiet_nil ?_
        intro _ hw'
        obtain ⟨⟨dq, osq⟩, hw''⟩ := hw'
        subst hw''
        have HBQ := Lib.hid (bThen HBV.out (below_regrown V dq osq))
        go_wp2
        go_ret
        exact ⟨ret_bool HE.out, HBQ.out⟩
      by_cases h2 : (L.length : Int) = iq
      · have HY := Lib.hid (allK_step HS.out (HQ.out.trans (decide_eq_true (by omega))) HA.out)
        have b2 : ((L.length : Int) != iq) = false := by simp [h2]
        subst h2
        refine wp_region_quiet_below (by kernel_rfl) (by kernel_rfl) ?_
        repeat (go_big_quiet_step (first | (go_at_call 66; refine Calls.regrown_of (seqStates_at _ _ HST.out)) | (go_at_call 67; refine Calls.regrown_of (seqIns_at _ _ HIN.out))))
        refine wpQuiet_nil ?_
        intro _ hw'
        obtain ⟨⟨dq, osq⟩, hw''⟩ := hw'
        subst hw''
        have HBQ := Lib.hid (bThen HBV.out (below_regrown V dq osq))
        go_wp2
        go_roundw
        case rel => exact ⟨k + 1, by omega, by go_num, HY.out, HBQ.out⟩
        case measure => simp [intOf]; omega
      · have HE := Lib.hid ((allK_miss HS.out (HQ.out.trans (decide_eq_false (by omega)))).symm.trans HR.out)
        have b2 : ((L.length : Int) != iq) = true := by simp [h2]
        refine wp_region_quiet_below (by kernel_rfl) (by kernel_rfl) ?_
        repeat (go_big_quiet_step (first | (go_at_call 66; refine Calls.regrown_of (seqStates_at _ _ HST.out)) | (go_at_call 67; refine Calls.regrown_of (seqIns_at _ _ HIN.out))))
        refine wpQuiet_nil ?_
        intro _ hw'
        obtain ⟨⟨dq, osq⟩, hw''⟩ := hw'
        subst hw''
        have HBQ := Lib.hid (bThen HBV.out (below_regrown V dq osq))
        go_wp2
        go_ret
        exact ⟨ret_bool HE.out, HBQ.out⟩
    · obtain rfl : k = n.2.1.length := by omega
      have HE := Lib.hid ((allK_end HA.out).symm.trans HR.out)
      go_wp2
      go_ret
      exact ⟨ret_bool HE.out, HB.out⟩

theorem rd_lit2 {w : World} {g : Nat} {x y : Int} (h : w.heap[g]? = some (.cells #[.int .i64 x, .int .i64 y] 3 (0, 0))) (hx : Fit x) (hy : Fit y) : rdIntS g (g + 1) w [.slice (some ⟨g, 0, none⟩) 2 2] [x, y] := by
  refine ⟨_, _, rfl, by simp [maxLen], fun j hj => ⟨g, 0, rfl, Nat.le_refl _, Nat.lt_succ_self _, ?_⟩⟩
  match j, hj with
  | 0, _ => exact ⟨[.int .i64 x], rfl, fun i u hu => (by match i, hu with | 0, hu => (injection hu with hu; subst hu; exact box_cell h 0 _ rfl)), rfl, hx⟩
  | 1, _ => exact ⟨[.int .i64 y], rfl, fun i u hu => (by match i, hu with | 0, hu => (injection hu with hu; subst hu; exact box_cell h 1 _ rfl)), rfl, hy⟩
theorem ands_zero (n : DNet) : andsK n 0 = true := by simp [andsK]
theorem ands_step {n : DNet} {k : Nat} {a : DAnd} (h : n.2.2.1[k]? = some a) (h0 : andsK n k = true) : andsK n (k + 1) = andAt n k a := by
  unfold andsK at h0 ⊢; rw [List.range_succ, List.all_append, h0]; simp [h]
theorem ands_miss {n : DNet} {k : Nat} {a : DAnd} (h : n.2.2.1[k]? = some a) (h0 : andAt n k a = false) : andsB n = false := by
  unfold andsB andsK
  rw [List.all_eq_false]
  exact ⟨k, List.mem_range.2 (List.getElem?_eq_some_iff.1 h).1, by simp [h, h0]⟩
set_option maxRecDepth 100000 in
set_option maxHeartbeats 6400000 in
theorem andsOk_at (n : DNet) (us : List Value) (w : World) (h : rdNet 0 w.heap.size w us n) (hS : SizeP n) {r : Bool} (hr : andsB n = r) :
    Calls Try.prog 53 #[.agg us.toArray] w fun e w' => e = .returned (.bool r) ∧ Below w.heap.size w w' := by
  have HR := Lib.hid hr
  have HD := Lib.hid h
  have HSP := Lib.hid hS
  have a300 := hS.a300
  clear hr hS
  obtain ⟨mu0, mu1, mu2, mu3, rfl, mh0, mh1, mh2, mh3⟩ := h
  obtain ⟨me0, -⟩ := mh0
  injection me0 with me0
  subst me0
  obtain ⟨mA1, mc1, me1, mm1, -⟩ := slice_of mh1
  subst me1
  have mR1 := Lib.hid mh1
  clear mh1
  obtain ⟨mA2, mc2, me2, mm2, -⟩ := slice_of mh2
  subst me2
  have mR2 := Lib.hid mh2
  clear mh2
  obtain ⟨mA3, mc3, me3, mm3, -⟩ := slice_of mh3
  subst me3
  have mR3 := Lib.hid mh3
  clear mh3
  go_enter Try.func53, Try.ntmps53
  go_wp2
  obtain ⟨W0, hV⟩ : ∃ W0, W0 = w.alloc (.cells #[.int .i64 n.1, .slice mA1 (n.2.1).length mc1, .slice mA2 (n.2.2.1).length mc2, .slice mA3 (n.2.2.2).length mc3] 28) := ⟨_, rfl⟩
  rw [← hV]
  have gN := eqbox1 hV
  have d0 : W0.cell? ⟨w.heap.size, 0, none⟩ = some (.int .i64 n.1) := box_cell gN.1 0 _ rfl
  have d1 : W0.cell? ⟨w.heap.size, 1, none⟩ = some (.slice mA1 (n.2.1).length mc1) := box_cell gN.1 1 _ rfl
  have d2 : W0.cell? ⟨w.heap.size, 2, none⟩ = some (.slice mA2 (n.2.2.1).length mc2) := box_cell gN.1 2 _ rfl
  have d3 : W0.cell? ⟨w.heap.size, 3, none⟩ = some (.slice mA3 (n.2.2.2).length mc3) := box_cell gN.1 3 _ rfl
  have HW0 := Lib.hid gN.2
  have sW0 : W0.heap.size = w.heap.size + 1 := by rw [hV]; simp
  clear hV gN
  go_loopw [8] (fun x wr => ∃ k : Nat, k ≤ n.2.2.1.length ∧ x = .int .i64 (k : Int) ∧ andsK n k = true ∧ Below W0.heap.size W0 wr) (fun x _ => n.2.2.1.length - (intOf x).toNat)
  case atStart => exact ⟨0, Nat.zero_le _, rfl, ands_zero n, Below.refl _ _⟩
  case round =>
    obtain ⟨k, hk, rfl, hall, hb⟩ := hrel
    obtain ⟨w2, rfl⟩ : ∃ w2, w2 = wr := ⟨_, rfl⟩
    have HB0 := Lib.hid hb
    have HB := Lib.hid (bThen HW0.out hb)
    have HA := Lib.hid hall
    have c0 := keep hb d0
    have c1 := keep hb d1
    have c2 := keep hb d2
    have c3 := keep hb d3
    clear hb hall d0 d1 d2 d3
    by_cases hlt : k < n.2.2.1.length
    · obtain ⟨a, ha⟩ : ∃ a, n.2.2.1[k]? = some a := ⟨_, List.getElem?_eq_getElem hlt⟩
      have hst := ands_step ha HA.out
      have HMI := Lib.hid (fun h => ands_miss (n := n) ha h)
      obtain ⟨ab, aq, rfl, ab1, x0, xf, x1, yf⟩ := at_And (good_AndS.below mR2.out (Nat.le_refl _) HB.out) ha
      have ab2 := Nat.lt_of_lt_of_le ab1 HB.out.size
      obtain ⟨x, y⟩ := a
      dsimp only at x0 x1 xf yf
      have HST := Lib.hid hst
      have hk3 : k ≤ 300 := by omega
      clear ha hst ab1
      go_wp2_with fail
      obtain ⟨V, hV⟩ : ∃ V, V = w2.alloc (.cells #[.int .i64 x, .int .i64 y] 53) := ⟨_, rfl⟩
      rw [← hV]
      have gN := eqbox1 hV
      have y0 : V.cell? ⟨w2.heap.size, 0, none⟩ = some (.int .i64 x) := box_cell gN.1 0 _ rfl
      have y1 : V.cell? ⟨w2.heap.size, 1, none⟩ = some (.int .i64 y) := box_cell gN.1 1 _ rfl
      replace c0 := keep gN.2 c0
      replace c1 := keep gN.2 c1
      replace c2 := keep gN.2 c2
      replace c3 := keep gN.2 c3
      have HV0 := Lib.hid (bThen HB0.out gN.2)
      have HBV := Lib.hid (bThen HB.out gN.2)
      clear hV gN x0 x1
      have hS0 : (fun w' => Below V.heap.size V w' ∧ w'.cell? ⟨w.heap.size, 0, none⟩ = some (.int .i64 n.1) ∧ w'.cell? ⟨w.heap.size, 1, none⟩ = some (.slice mA1 (n.2.1).length mc1) ∧ w'.cell? ⟨w.heap.size, 2, none⟩ = some (.slice (some ⟨ab, aq, none⟩) (n.2.2.1).length mc2) ∧ w'.cell? ⟨w.heap.size, 3, none⟩ = some (.slice mA3 (n.2.2.2).length mc3) ∧ w'.cell? ⟨w2.heap.size, 0, none⟩ = some (.int .i64 x) ∧ w'.cell? ⟨w2.heap.size, 1, none⟩ = some (.int .i64 y)) V := ⟨Below.refl _ _, c0, c1, c2, c3, y0, y1⟩
      have hS : ∀ {w0 w' : World}, (fun w' => Below V.heap.size V w' ∧ w'.cell? ⟨w.heap.size, 0, none⟩ = some (.int .i64 n.1) ∧ w'.cell? ⟨w.heap.size, 1, none⟩ = some (.slice mA1 (n.2.1).length mc1) ∧ w'.cell? ⟨w.heap.size, 2, none⟩ = some (.slice (some ⟨ab, aq, none⟩) (n.2.2.1).length mc2) ∧ w'.cell? ⟨w.heap.size, 3, none⟩ = some (.slice mA3 (n.2.2.2).length mc3) ∧ w'.cell? ⟨w2.heap.size, 0, none⟩ = some (.int .i64 x) ∧ w'.cell? ⟨w2.heap.size, 1, none⟩ = some (.int .i64 y)) w0 → Below w0.heap.size w0 w' → (fun w' => Below V.heap.size V w' ∧ w'.cell? ⟨w.heap.size, 0, none⟩ = some (.int .i64 n.1) ∧ w'.cell? ⟨w.heap.size, 1, none⟩ = some (.slice mA1 (n.2.1).length mc1) ∧ w'.cell? ⟨w.heap.size, 2, none⟩ = some (.slice (some ⟨ab, aq, none⟩) (n.2.2.1).length mc2) ∧ w'.cell? ⟨w.heap.size, 3, none⟩ = some (.slice mA3 (n.2.2.2).length mc3) ∧ w'.cell? ⟨w2.heap.size, 0, none⟩ = some (.int .i64 x) ∧ w'.cell? ⟨w2.heap.size, 1, none⟩ = some (.int .i64 y)) w' := fun h hb => ⟨bThen h.1 hb, keep hb h.2.1, keep hb h.2.2.1, keep hb h.2.2.2.1, keep hb h.2.2.2.2.1, keep hb h.2.2.2.2.2.1, keep hb h.2.2.2.2.2.2⟩
      dsimp only at hS0 hS
      refine wp_region_noPanic ?_
      refine wp_region_kept 8 10 (fun w' => Below V.heap.size V w' ∧ w'.cell? ⟨w.heap.size, 0, none⟩ = some (.int .i64 n.1) ∧ w'.cell? ⟨w.heap.size, 1, none⟩ = some (.slice mA1 (n.2.1).length mc1) ∧ w'.cell? ⟨w.heap.size, 2, none⟩ = some (.slice (some ⟨ab, aq, none⟩) (n.2.2.1).length mc2) ∧ w'.cell? ⟨w.heap.size, 3, none⟩ = some (.slice mA3 (n.2.2.2).length mc3) ∧ w'.cell? ⟨w2.heap.size, 0, none⟩ = some (.int .i64 x) ∧ w'.cell? ⟨w2.heap.size, 1, none⟩ = some (.int .i64 y)) (by kernel_rfl) rfl (hS hS0 (Below.drew (Below.refl _ _))) (fun hK0 => ?_)
      refine Kept.take (v := ?vr0) 0 (by kernel_rfl) rfl (by kernel_rfl) (fun _ _ _ h => h) (Or.inl ⟨by rfl, ?hyr0⟩) hK0 ?restr0
      case hyr0 =>
        intro w0 hSw
        (try dsimp only at hSw)
        go_simp
        all_goals (with_reducible rfl)
      (try simp only [Act.put, List.setIfInBounds_toArray, List.set_cons_zero, List.set_cons_succ])
      refine Kept.take (v := ?vr1) 1 (by kernel_rfl) rfl (by kernel_rfl) (fun _ _ _ h => h) (Or.inl ⟨by rfl, ?hyr1⟩) hK0 ?restr1
      case hyr1 =>
        intro w0 hSw
        (try dsimp only at hSw)
        go_simp
        all_goals (with_reducible rfl)
      (try simp only [Act.put, List.setIfInBounds_toArray, List.set_cons_zero, List.set_cons_succ])
      refine Kept.take (v := ?vr3) 3 (by kernel_rfl) rfl (by kernel_rfl) (fun _ _ _ h => h) (Or.inl ⟨by rfl, ?hyr3⟩) hK0 ?restr3
      case hyr3 =>
        intro w0 hSw
        (try dsimp only at hSw)
        go_simp
        all_goals (with_reducible rfl)
      (try simp only [Act.put, List.setIfInBounds_toArray, List.set_cons_zero, List.set_cons_succ])
      refine Kept.take (v := ?vr4) 4 (by kernel_rfl) rfl (by kernel_rfl) (fun _ _ _ h => h) (Or.inl ⟨by rfl, ?hyr4⟩) hK0 ?restr4
      case hyr4 =>
        intro w0 hSw
        (try dsimp only at hSw)
        go_simp
        all_goals (with_reducible rfl)
      (try simp only [Act.put, List.setIfInBounds_toArray, List.set_cons_zero, List.set_cons_succ])
      refine Kept.take (v := ?vr5) 5 (by kernel_rfl) rfl (by kernel_rfl) (fun _ _ _ h => h) (Or.inl ⟨by rfl, ?hyr5⟩) hK0 ?restr5
      case hyr5 =>
        intro w0 hSw
        (try dsimp only at hSw)
        go_simp
        all_goals (with_reducible rfl)
      (try simp only [Act.put, List.setIfInBounds_toArray, List.set_cons_zero, List.set_cons_succ])
      refine Kept.take (v := ?vr6) 6 (by kernel_rfl) rfl (by kernel_rfl) (fun _ _ _ h => h) (Or.inl ⟨by rfl, ?hyr6⟩) hK0 ?restr6
      case hyr6 =>
        intro w0 hSw
        (try dsimp only at hSw)
        go_simp
        all_goals (with_reducible rfl)
      (try simp only [Act.put, List.setIfInBounds_toArray, List.set_cons_zero, List.set_cons_succ])
      refine Kept.rg (sz := 24) (g := 2) [(2, 15), (7, 20)] [7] (fun kO vals w' => match kO with
        | 2 => vals 2 = .int .i64 ((firN n + k : Nat) : Int)
        | 7 => ∃ g, vals 7 = .slice (some ⟨g, 0, none⟩) 2 2 ∧ w'.heap[g]? = some (.cells #[.int .i64 x, .int .i64 y] 3 (0, 0)) ∧ V.heap.size ≤ g
        | _ => True) (by kernel_rfl) (by kernel_rfl) hK0 (fun _ _ _ h => h) ?hSR ?hloc ?hstep ?hend
      case hSR =>
        intro k hk vals w1 w2 h hb
        simp only [List.map_cons, List.map_nil, List.mem_cons, List.not_mem_nil, or_false] at hk
        rcases hk with rfl | rfl
        · exact h
        · obtain ⟨g, e, ho, hB⟩ := h; exact ⟨g, e, rowB' hb ho, hB⟩
      case hloc =>
        intro k j hk hj hne hw vals v w1 h
        simp only [List.map_cons, List.map_nil, List.mem_cons, List.not_mem_nil, or_false] at hk hj
        rcases hk with rfl | rfl <;> rcases hj with rfl | rfl <;> first | exact absurd rfl hne | exact h | exact absurd (hw.symm.trans (by kernel_rfl : _ = true)) (by decide)
      case hstep =>
        intro k t o hm ho vals wA hSA hpre
        simp only [List.mem_cons, List.not_mem_nil, or_false, Prod.mk.injEq] at hm
        rcases hm with ⟨rfl, rfl⟩ | ⟨rfl, rfl⟩
        · have ho' := Option.some.inj ho
          subst ho'
          unfold RgStep
          rw [if_pos (by rfl)]
          intro K hK
          have hSw := hSA
          (try dsimp only at hSw)
          clear hpre
          simp only [fillA, Act.put, List.setIfInBounds_toArray, List.set_cons_zero, List.set_cons_succ]
          go_simp
          go_at_call 31
          refine (andNode_at n k _ _ (rdUp good_Net HD.out (bThen HBV.out hSA.1)) (Nat.le_refl _) HSP.out hk3).mono ?_
          rintro e wB ⟨rfl, hb⟩
          have hK' := hK (.int .i64 ((firN n + k : Nat) : Int)) wB (hS hSA hb) hb (upd_self _ _ _) (fun h => absurd h (by decide))
          clear hK
          simp only [fillA, Act.put, List.setIfInBounds_toArray, List.set_cons_zero, List.set_cons_succ] at hK'
          go_simp
          all_goals exact hK'
        · have ho' := Option.some.inj ho
          subst ho'
          unfold RgStep
          rw [if_pos (by rfl)]
          intro K hK
          have hSw := hSA
          (try dsimp only at hSw)
          clear hpre
          have hBA : V.heap.size ≤ wA.heap.size := hSA.1.size
          have hK' := hK (.slice (some ⟨wA.heap.size, 0, none⟩) 2 2) (wA.alloc (.cells #[.int .i64 x, .int .i64 y] 3)) (hS hSA (bAlloc (Below.refl _ _) (Nat.le_refl _) _)) (bAlloc (Below.refl _ _) (Nat.le_refl _) _) ⟨_, upd_self _ _ _, heap_alloc_new _ _, hBA⟩ (fun _ b hb => by
            have hb' : b = wA.heap.size := by simpa [topB] using hb
            subst hb'
            simp)
          clear hK
          simp only [fillA, Act.put, List.setIfInBounds_toArray, List.set_cons_zero, List.set_cons_succ] at hK' ⊢
          go_simp
          all_goals exact hK'
      intro vals wB hSB hR hap
      have e2 : vals 2 = .int .i64 ((firN n + k : Nat) : Int) := hR 2 (by decide)
      obtain ⟨g7, e7, r7, b7⟩ := hR 7 (by decide)
      simp only [fillA, Act.put, List.setIfInBounds_toArray, List.set_cons_zero, List.set_cons_succ]
      simp only [e2, e7]
      clear hap hR e2 e7
      refine Kept.tail (by rfl) (by kernel_rfl) ?_
      simp only [List.drop_succ_cons, List.drop_zero]
      have HFX := Lib.hid (And.intro xf yf)
      obtain ⟨q, hq⟩ : ∃ q, andAt n k (x, y) = q := ⟨_, rfl⟩
      have hq2 : [x, y].all (litB ((firN n + k : Nat) : Int)) = q := by rw [← hq]; unfold andAt; rw [HSP.out.fir]; simp
      have HQ := Lib.hid hq2
      rw [hq] at HST HMI
      have HG := Lib.hid (good_IntS.wider (rd_lit2 r7 xf yf) (Nat.zero_le _) (show g7 + 1 ≤ wB.heap.size from (Array.getElem?_eq_some_iff.1 r7).1))
      have HBE := Lib.hid (bThen HV0.out hSB.1)
      have HBE2 := Lib.hid (bThen HBV.out hSB.1)
      clear hq hq2 r7 hSB hS0 hS y0 y1 c0 c1 c2 c3 xf yf
      go_wp2_with fail
      refine (litsOk_at [x, y] _ _ _ HG.out (Nat.le_refl _) HQ.out).mono ?_
      rintro e w3 ⟨rfl, hb3⟩
      have HB3 := Lib.hid (bThen HBE.out hb3)
      have HB4 := Lib.hid (bThen HBE2.out hb3)
      clear hb3
      cases q with
      | false =>
        have HE := Lib.hid ((HMI.out rfl).symm.trans HR.out)
        go_wp2
        refine NoPanic.normal ?_
        go_wp2
        go_ret
        exact ⟨ret_bool HE.out, HB4.out⟩
      | true =>
        go_wp2
        refine NoPanic.normal ?_
        go_wp2
        go_roundw
        case rel => exact ⟨k + 1, by omega, by go_num, HST.out, HB3.out⟩
        case measure => simp [intOf]; omega
    · obtain rfl : k = n.2.2.1.length := by omega
      have HE := Lib.hid (show true = r from HA.out.symm.trans HR.out)
      go_wp2
      go_ret
      exact ⟨ret_bool HE.out, HB.out⟩

theorem rd_fit {B T : Nat} {w : World} {v : Value} {L : List Int} (h : rdIntS B T w [v] L) : ∀ x ∈ L, Fit x := by
  obtain ⟨A, c, e, hm, hA⟩ := h
  intro x hx
  obtain ⟨j, hj, rfl⟩ := List.getElem_of_mem hx
  obtain ⟨b, o, _, _, _, us, _, _, hr⟩ := hA j hj
  exact hr.2
theorem roots_fit {n : DNet} {us : List Value} {B T : Nat} {w : World} (h : rdNet B T w us n) : ∀ x ∈ rootsL n, Fit x := by
  obtain ⟨u0, u1, u2, u3, rfl, h0, h1, h2, h3⟩ := h
  intro x hx
  unfold rootsL at hx
  rcases List.mem_append.1 hx with hx | hx
  · exact rd_fit h3 x hx
  · obtain ⟨s, hs, hx⟩ := List.mem_flatMap.1 hx
    obtain ⟨A, c, e, hm, hA⟩ := h1
    obtain ⟨j, hj, rfl⟩ := List.getElem_of_mem hs
    obtain ⟨b, o, _, _, _, us, _, _, hr⟩ := hA j hj
    obtain ⟨v0, v1, v2, rfl, g0, g1, g2⟩ := hr
    exact rd_fit g2 x hx
set_option maxRecDepth 100000 in
set_option maxHeartbeats 6400000 in
theorem implNetOk_at (n : DNet) (us : List Value) (w : World) (h : rdNet 0 w.heap.size w us n) {r : Bool} (hr : netB n = r) :
    Calls Try.prog 30 #[.agg us.toArray] w fun e w' => e = .returned (.bool r) ∧ Below w.heap.size w w' := by
  have HR := Lib.hid hr
  have HD := Lib.hid h
  clear hr
  obtain ⟨mu0, mu1, mu2, mu3, rfl, mh0, mh1, mh2, mh3⟩ := h
  obtain ⟨me0, -⟩ := mh0
  injection me0 with me0
  subst me0
  obtain ⟨mA1, mc1, me1, mm1, -⟩ := slice_of mh1
  subst me1
  have mR1 := Lib.hid mh1
  clear mh1
  obtain ⟨mA2, mc2, me2, mm2, -⟩ := slice_of mh2
  subst me2
  have mR2 := Lib.hid mh2
  clear mh2
  obtain ⟨mA3, mc3, me3, mm3, -⟩ := slice_of mh3
  subst me3
  have mR3 := Lib.hid mh3
  clear mh3
  obtain ⟨b1, hb1⟩ : ∃ b, sizesB n = b := ⟨_, rfl⟩
  obtain ⟨b2, hb2⟩ : ∃ b, n.2.1.all seqB = b := ⟨_, rfl⟩
  obtain ⟨b3, hb3⟩ : ∃ b, andsB n = b := ⟨_, rfl⟩
  obtain ⟨b4, hb4⟩ : ∃ b, (rootsL n).all (litB (ncI n)) = b := ⟨_, rfl⟩
  have HE := Lib.hid (show (b1 && (b2 && (b3 && b4))) = r by rw [← HR.out, ← hb1, ← hb2, ← hb3, ← hb4]; rfl)
  obtain ⟨N, hN⟩ : ∃ N, ncI n = N := ⟨_, rfl⟩
  have hp : (0 < N) = (b1 = true) := by rw [← hN, ← hb1]; exact nc_pos
  rw [hN] at hb4
  have H1 := Lib.hid hb1
  have H2 := Lib.hid hb2
  have H3 := Lib.hid hb3
  have H4 := Lib.hid hb4
  have HN := Lib.hid hN
  clear hb1 hb2 hb3 hb4 hN
  go_enter Try.func30, Try.ntmps30
  go_wp2_with fail
  obtain ⟨W0, hV⟩ : ∃ W0, W0 = (w.alloc (.cells #[.int .i64 n.1, .slice mA1 (n.2.1).length mc1, .slice mA2 (n.2.2.1).length mc2, .slice mA3 (n.2.2.2).length mc3] 28)) := ⟨_, rfl⟩
  rw [← hV]
  have gN := eqbox1 hV
  have d0 : W0.cell? ⟨w.heap.size, 0, none⟩ = some (.int .i64 n.1) := box_cell gN.1 0 _ rfl
  have d1 : W0.cell? ⟨w.heap.size, 1, none⟩ = some (.slice mA1 (n.2.1).length mc1) := box_cell gN.1 1 _ rfl
  have d2 : W0.cell? ⟨w.heap.size, 2, none⟩ = some (.slice mA2 (n.2.2.1).length mc2) := box_cell gN.1 2 _ rfl
  have d3 : W0.cell? ⟨w.heap.size, 3, none⟩ = some (.slice mA3 (n.2.2.2).length mc3) := box_cell gN.1 3 _ rfl
  have sW0 : W0.heap.size = w.heap.size + 1 := by rw [hV]; simp
  have HW0 := Lib.hid gN.2
  clear hV gN
  refine (implNc_at n _ _ (rdUp good_Net HD.out HW0.out) (Nat.le_refl _) HN.out).mono ?_
  rintro e w1 ⟨rfl, hb⟩
  replace d0 := keep hb d0
  replace d1 := keep hb d1
  replace d2 := keep hb d2
  replace d3 := keep hb d3
  have HB := Lib.hid (bThen HW0.out hb)
  clear hb
  cases b1 with
  | false =>
    have hp' : ¬ 0 < N := by rw [hp]; simp
    go_wp2
    go_ret
    exact ⟨ret_bool HE.out, HB.out⟩
  | true =>
  have hp' : 0 < N := by rw [hp]
  have HS := Lib.hid (sizeP_of H1.out)
  clear hp
  go_wp2_with fail
  refine (seqsOk_at n _ _ (rdUp good_Net HD.out HB.out) HS.out.s12 H2.out).mono ?_
  rintro e w2 ⟨rfl, hb⟩
  replace d0 := keep hb d0
  replace d1 := keep hb d1
  replace d2 := keep hb d2
  replace d3 := keep hb d3
  replace HB := Lib.hid (bThen HB.out hb)
  clear hb
  cases b2 with
  | false =>
    go_wp2
    go_ret
    exact ⟨ret_bool HE.out, HB.out⟩
  | true =>
  go_wp2_with fail
  refine (andsOk_at n _ _ (rdUp good_Net HD.out HB.out) HS.out H3.out).mono ?_
  rintro e w3 ⟨rfl, hb⟩
  replace d0 := keep hb d0
  replace d1 := keep hb d1
  replace d2 := keep hb d2
  replace d3 := keep hb d3
  replace HB := Lib.hid (bThen HB.out hb)
  clear hb
  cases b3 with
  | false =>
    go_wp2
    go_ret
    exact ⟨ret_bool HE.out, HB.out⟩
  | true =>
  go_wp2_with fail
  refine (implRoots_at n _ _ (rdUp good_Net HD.out HB.out) H1.out H2.out).mono ?_
  rintro e w4 ⟨v, rfl, ho, hb⟩
  replace d0 := keep hb d0
  replace d1 := keep hb d1
  replace d2 := keep hb d2
  replace d3 := keep hb d3
  replace HB := Lib.hid (bThen HB.out hb)
  have HO := Lib.hid ho
  clear hb ho
  go_wp2_with fail
  refine (litsOk_at (rootsL n) _ _ _ (ownI_rd HO.out (roots_fit HD.out)) (Nat.le_refl _) H4.out).mono ?_
  rintro e w5 ⟨rfl, hb⟩
  replace HB := Lib.hid (bThen HB.out hb)
  clear hb
  go_wp2
  go_ret
  exact ⟨ret_bool HE.out, HB.out⟩
end Go.Proofs.Ytiejilmgchmppaa
/- Net4: NetOk: the reference. -/
namespace Go.Proofs.Ytiejilmgchmppaa
open Go.RowKit
set_option linter.unusedVariables false
set_option linter.unusedSimpArgs false

theorem seq_no {n : DNet} {k : Nat} {s : DSeq} (h : n.2.1[k]? = some s) (hq : seqB s = false) : netB n = false := by
  unfold netB; rw [allK_miss h hq]; simp
theorem and_no {n : DNet} {k : Nat} {a : DAnd} (h : n.2.2.1[k]? = some a) (h0 : andAt n k a = false) : netB n = false := by
  unfold netB; rw [ands_miss h h0]; simp
theorem root_no {n : DNet} {k : Nat} {x e : Int} (he : ncI n = e) (h : (rootsL n)[k]? = some x) (h0 : litB e x = false) : netB n = false := by
  subst he; unfold netB; rw [allK_miss h h0]; simp
theorem net_yes {n : DNet} {e : Int} (he : ncI n = e) (h1 : sizesB n = true) (h2 : n.2.1.all seqB = true) (h3 : andsB n = true) (h4 : (rootsL n).all (litB e) = true) : netB n = true := by
  subst he; unfold netB; rw [h1, h2, h3, h4]; rfl
theorem net_size {n : DNet} (h : sizesB n = false) : netB n = false := by unfold netB; rw [h]; rfl
set_option maxRecDepth 100000 in
set_option maxHeartbeats 12800000 in
theorem specNetOk_at (n : DNet) (us : List Value) (w : World) (h : rdNet 0 w.heap.size w us n) {r : Bool} (hr : netB n = r) :
    Calls Try.prog 29 #[.agg us.toArray] w fun e w' => e = .returned (.bool r) ∧ Below w.heap.size w w' := by
  have HR := Lib.hid hr
  have HD := Lib.hid h
  clear hr
  obtain ⟨mu0, mu1, mu2, mu3, rfl, mh0, mh1, mh2, mh3⟩ := h
  obtain ⟨me0, -⟩ := mh0
  injection me0 with me0
  subst me0
  obtain ⟨mA1, mc1, me1, mm1, -⟩ := slice_of mh1
  subst me1
  have mR1 := Lib.hid mh1
  clear mh1
  obtain ⟨mA2, mc2, me2, mm2, -⟩ := slice_of mh2
  subst me2
  have mR2 := Lib.hid mh2
  clear mh2
  obtain ⟨mA3, mc3, me3, mm3, -⟩ := slice_of mh3
  subst me3
  have mR3 := Lib.hid mh3
  clear mh3
  obtain ⟨N, hN⟩ : ∃ N, ncI n = N := ⟨_, rfl⟩
  obtain ⟨b1, hb1⟩ : ∃ b, sizesB n = b := ⟨_, rfl⟩
  have hp : (0 < N) = (b1 = true) := by rw [← hN, ← hb1]; exact nc_pos
  have hz : b1 = false → N = 0 := fun e => by rw [← hN]; exact nc_no (hb1.trans e)
  have HN := Lib.hid hN
  have H1 := Lib.hid hb1
  clear hN hb1
  go_enter Try.func29, Try.ntmps29
  go_wp2_with fail
  obtain ⟨W0, hV⟩ : ∃ W0, W0 = (w.alloc (.cells #[.int .i64 n.1, .slice mA1 (n.2.1).length mc1, .slice mA2 (n.2.2.1).length mc2, .slice mA3 (n.2.2.2).length mc3] 28)) := ⟨_, rfl⟩
  rw [← hV]
  have gN := eqbox1 hV
  have d0 : W0.cell? ⟨w.heap.size, 0, none⟩ = some (.int .i64 n.1) := box_cell gN.1 0 _ rfl
  have d1 : W0.cell? ⟨w.heap.size, 1, none⟩ = some (.slice mA1 (n.2.1).length mc1) := box_cell gN.1 1 _ rfl
  have d2 : W0.cell? ⟨w.heap.size, 2, none⟩ = some (.slice mA2 (n.2.2.1).length mc2) := box_cell gN.1 2 _ rfl
  have d3 : W0.cell? ⟨w.heap.size, 3, none⟩ = some (.slice mA3 (n.2.2.2).length mc3) := box_cell gN.1 3 _ rfl
  have sW0 : W0.heap.size = w.heap.size + 1 := by rw [hV]; simp
  have HW0 := Lib.hid gN.2
  clear hV gN
  refine (specNc_at n _ _ (rdUp good_Net HD.out HW0.out) (Nat.le_refl _) HN.out).mono ?_
  rintro e w1 ⟨rfl, hb⟩
  replace d0 := keep hb d0
  replace d1 := keep hb d1
  replace d2 := keep hb d2
  replace d3 := keep hb d3
  have HB1 := Lib.hid (bThen HW0.out hb)
  clear hb
  cases b1 with
  | false =>
    have hz' := hz rfl
    subst hz'
    clear hp hz
    go_wp2
    go_ret
    exact ⟨ret_bool ((net_size H1.out).symm.trans HR.out), HB1.out⟩
  | true =>
  have hp' : 0 < N := by rw [hp]
  have b0 : (N == 0) = false := by simp; omega
  have hSz := sizeP_of H1.out
  have HSP := Lib.hid hSz
  have hN3 : N ≤ 333 := by have a := HN.out.symm.trans hSz.nc; have b := hSz.net_le; omega
  have s12 := hSz.s12
  have a300 := hSz.a300
  have o16 := hSz.o16
  clear hp hz hSz
  go_wp2
  go_loopw [4] (fun x wr => ∃ k : Nat, k ≤ n.2.1.length ∧ x = .int .i64 (k : Int) ∧ AllK seqB n.2.1 k = true ∧ Below w1.heap.size w1 wr) (fun x _ => n.2.1.length - (intOf x).toNat)
  case atStart => exact ⟨0, Nat.zero_le _, rfl, allK_zero _ _, Below.refl _ _⟩
  case round =>
    obtain ⟨k, hk, rfl, hall, hb⟩ := hrel
    obtain ⟨w2, rfl⟩ : ∃ w2, w2 = wr := ⟨_, rfl⟩
    have HB0 := Lib.hid hb
    have HB := Lib.hid (bThen HB1.out hb)
    have HA := Lib.hid hall
    have c0 := keep hb d0
    have c1 := keep hb d1
    have c2 := keep hb d2
    have c3 := keep hb d3
    clear hb hall d0 d1 d2 d3
    by_cases hlt : k < n.2.1.length
    · obtain ⟨s, hs⟩ : ∃ s, n.2.1[k]? = some s := ⟨_, List.getElem?_eq_getElem hlt⟩
      have HS := Lib.hid hs
      obtain ⟨sb, sq, sA, sc, rfl, sb1, x0, -, x1, -, x2, sR⟩ := at_Seq (good_SeqS.below mR1.out (Nat.le_refl _) HB.out) hs
      have sb2 := Nat.lt_of_lt_of_le sb1 HB.out.size
      have hq := seqB_eq s
      obtain ⟨L, hL⟩ : ∃ L, s.2.2 = L := ⟨_, rfl⟩
      obtain ⟨kd, hkd⟩ : ∃ kd : Int, s.1 = kd := ⟨_, rfl⟩
      obtain ⟨it, hit⟩ : ∃ it : Int, s.2.1 = it := ⟨_, rfl⟩
      rw [hL, hkd, hit] at hq
      have hq2 : seqB s = decide ((kd = 0 ∧ 0 ≤ it ∧ it ≤ 1 ∧ L.length = 1) ∨ (kd = 1 ∧ 0 ≤ it ∧ it ≤ 31 ∧ L.length = 4)) := by unfold seqB; rw [hL, hkd, hit]
      rw [hL] at x2
      rw [hkd] at x0
      rw [hit] at x1
      have HQ := Lib.hid hq2
      clear hs hL hkd hit hq hq2 sR sb1
      have lt2 : w.heap.size < w2.heap.size := World.block_lt_of_cell? _ _ c1
      by_cases h0 : kd = 0
      · subst h0
        obtain ⟨r1, hr1⟩ : ∃ r1, decide ((0 : Int) ≤ it ∧ it ≤ 1) = r1 := ⟨_, rfl⟩
        have HR1 := Lib.hid hr1
        clear hr1
        go_wp2_with fail
        obtain ⟨V, hV⟩ : ∃ V, V = w2.alloc (.cells #[.int .i64 0, .int .i64 it, .slice sA L.length sc] 56) := ⟨_, rfl⟩
        rw [← hV]
        have gN := eqbox1 hV
        have y0 : V.cell? ⟨w2.heap.size, 0, none⟩ = some (.int .i64 0) := box_cell gN.1 0 _ rfl
        have y1 : V.cell? ⟨w2.heap.size, 1, none⟩ = some (.int .i64 it) := box_cell gN.1 1 _ rfl
        have y2 : V.cell? ⟨w2.heap.size, 2, none⟩ = some (.slice sA L.length sc) := box_cell gN.1 2 _ rfl
        have HBV0 := Lib.hid (bThen HB0.out gN.2)
        have HBV := Lib.hid (bThen HB.out gN.2)
        have ltV : w2.heap.size < V.heap.size := World.block_lt_of_cell? _ _ y0
        clear hV gN x0 x1 x2 c0 c1 c2 c3 lt2
        refine (specIn_at _ _ _ _ HR1.out).mono ?_
        rintro e w4 ⟨rfl, hb4⟩
        replace y0 := keep hb4 y0
        replace y1 := keep hb4 y1
        replace y2 := keep hb4 y2
        have HB4 := Lib.hid (bThen HBV.out hb4)
        have HC4 := Lib.hid (bThen HBV0.out hb4)
        clear hb4
        cases r1 with
        | false =>
          have HE := Lib.hid (seq_no HS.out (HQ.out.trans (decide_eq_false (by have := of_decide_eq_false HR1.out; omega))))
          go_wp2
          go_ret
          exact ⟨ret_bool (HE.out.symm.trans HR.out), HB4.out⟩
        | true =>
          by_cases hl : (L.length : Int) = 1
          · have HY := Lib.hid (allK_step HS.out (HQ.out.trans (decide_eq_true (.inl ⟨by trivial, (of_decide_eq_true HR1.out).1, (of_decide_eq_true HR1.out).2, by omega⟩))) HA.out)
            have b2 : ((L.length : Int) == 1) = true := by simp [hl]
            go_wp2
            go_roundw
            case rel => exact ⟨k + 1, by omega, by go_num, HY.out, HC4.out⟩
            case measure => simp [intOf]; omega
          · have HE := Lib.hid (seq_no HS.out (HQ.out.trans (decide_eq_false (by omega))))
            have b2 : ((L.length : Int) == 1) = false := by simp [hl]
            go_wp2
            go_ret
            exact ⟨ret_bool (HE.out.symm.trans HR.out), HB4.out⟩
      by_cases h1 : kd = 1
      · subst h1
        obtain ⟨r1, hr1⟩ : ∃ r1, decide ((0 : Int) ≤ it ∧ it ≤ 31) = r1 := ⟨_, rfl⟩
        have HR1 := Lib.hid hr1
        clear hr1
        go_wp2_with fail
        obtain ⟨V, hV⟩ : ∃ V, V = w2.alloc (.cells #[.int .i64 1, .int .i64 it, .slice sA L.length sc] 56) := ⟨_, rfl⟩
        rw [← hV]
        have gN := eqbox1 hV
        have y0 : V.cell? ⟨w2.heap.size, 0, none⟩ = some (.int .i64 1) := box_cell gN.1 0 _ rfl
        have y1 : V.cell? ⟨w2.heap.size, 1, none⟩ = some (.int .i64 it) := box_cell gN.1 1 _ rfl
        have y2 : V.cell? ⟨w2.heap.size, 2, none⟩ = some (.slice sA L.length sc) := box_cell gN.1 2 _ rfl
        have HBV0 := Lib.hid (bThen HB0.out gN.2)
        have HBV := Lib.hid (bThen HB.out gN.2)
        have ltV : w2.heap.size < V.heap.size := World.block_lt_of_cell? _ _ y0
        clear hV gN x0 x1 x2 c0 c1 c2 c3 lt2
        refine (specIn_at _ _ _ _ HR1.out).mono ?_
        rintro e w4 ⟨rfl, hb4⟩
        replace y0 := keep hb4 y0
        replace y1 := keep hb4 y1
        replace y2 := keep hb4 y2
        have HB4 := Lib.hid (bThen HBV.out hb4)
        have HC4 := Lib.hid (bThen HBV0.out hb4)
        clear hb4
        cases r1 with
        | false =>
          have HE := Lib.hid (seq_no HS.out (HQ.out.trans (decide_eq_false (by have := of_decide_eq_false HR1.out; omega))))
          go_wp2
          go_ret
          exact ⟨ret_bool (HE.out.symm.trans HR.out), HB4.out⟩
        | true =>
          by_cases hl : (L.length : Int) = 4
          · have HY := Lib.hid (allK_step HS.out (HQ.out.trans (decide_eq_true (.inr ⟨by trivial, (of_decide_eq_true HR1.out).1, (of_decide_eq_true HR1.out).2, by omega⟩))) HA.out)
            have b2 : ((L.length : Int) == 4) = true := by simp [hl]
            go_wp2
            go_roundw
            case rel => exact ⟨k + 1, by omega, by go_num, HY.out, HC4.out⟩
            case measure => simp [intOf]; omega
          · have HE := Lib.hid (seq_no HS.out (HQ.out.trans (decide_eq_false (by omega))))
            have b2 : ((L.length : Int) == 4) = false := by simp [hl]
            go_wp2
            go_ret
            exact ⟨ret_bool (HE.out.symm.trans HR.out), HB4.out⟩
      · have b1' : (kd == 0) = false := by simp [h0]
        have b2' : (kd == 1) = false := by simp [h1]
        have HE := Lib.hid (seq_no HS.out (HQ.out.trans (decide_eq_false (by omega))))
        clear h0 h1 c0 c2 c3
        go_wp2
        go_ret
        exact ⟨ret_bool (HE.out.symm.trans HR.out), bThen HB.out (bAlloc (Below.refl _ _) (Nat.le_refl _) _)⟩
    · obtain rfl : k = n.2.1.length := by omega
      have H2 := Lib.hid (allK_end HA.out)
      clear hlt HA
      go_wp2_with fail
      refine (specRoots_at n _ _ (rdUp good_Net HD.out HB.out) H1.out H2.out).mono ?_
      rintro e w3 ⟨v, rfl, ho, hb⟩
      obtain ⟨rA, rc, rfl, -⟩ := ho.shape
      replace c0 := keep hb c0
      replace c1 := keep hb c1
      replace c2 := keep hb c2
      replace c3 := keep hb c3
      have HO := Lib.hid ho
      have HB3 := Lib.hid (bThen HB.out hb)
      have hrl : (rootsL n).length ≤ 1000 := by have h1 := rootsK_le H2.out n.2.1.length; rw [rootsK_end] at h1; omega
      clear hb ho HB HB0
      obtain ⟨R, hR⟩ : ∃ R, rootsL n = R := ⟨_, rfl⟩
      have HRR := Lib.hid hR
      rw [hR] at HO hrl ⊢
      clear hR
      go_wp2
      go_loopw [7] (fun x wr => ∃ k : Nat, k ≤ R.length ∧ x = .int .i64 (k : Int) ∧ AllK (litB N) R k = true ∧ Below w3.heap.size w3 wr) (fun x _ => R.length - (intOf x).toNat)
      case atStart => exact ⟨0, Nat.zero_le _, rfl, allK_zero _ _, Below.refl _ _⟩
      case round =>
        obtain ⟨k, hk, rfl, hall, hb⟩ := hrel
        obtain ⟨w2, rfl⟩ : ∃ w2, w2 = wr := ⟨_, rfl⟩
        have HB0 := Lib.hid hb
        have HB := Lib.hid (bThen HB3.out hb)
        have HA := Lib.hid hall
        replace c0 := keep hb c0
        replace c1 := keep hb c1
        replace c2 := keep hb c2
        replace c3 := keep hb c3
        clear hb hall
        by_cases hlt : k < R.length
        · obtain ⟨x, hx⟩ : ∃ x, R[k]? = some x := ⟨_, List.getElem?_eq_getElem hlt⟩
          have HX := Lib.hid hx
          have hr0 := ownI_rd (HO.out.below HB0.out) (by rw [← HRR.out]; exact roots_fit HD.out)
          obtain ⟨xb, xq, rfl, xlt, xc, xf⟩ := at_Int hr0 hx
          obtain ⟨q, hq⟩ : ∃ q, litB N x = q := ⟨_, rfl⟩
          have HQ := Lib.hid hq
          have HF := Lib.hid xf
          clear hx hq xf hr0 c0 c1 c2 c3
          go_wp2_with fail
          refine (specLit_at _ _ _ HF.out HQ.out).mono ?_
          rintro e w5 ⟨rfl, hb5⟩
          have HB5 := Lib.hid (bThen HB.out hb5)
          have HB6 := Lib.hid (bThen HB0.out hb5)
          clear hb5
          cases q with
          | false =>
            have HE := Lib.hid ((root_no HN.out (by rw [HRR.out]; exact HX.out) HQ.out).symm.trans HR.out)
            clear xc
            go_wp2
            go_ret
            exact ⟨ret_bool HE.out, HB5.out⟩
          | true =>
            have HY := Lib.hid (allK_step HX.out HQ.out HA.out)
            clear xc
            go_wp2
            go_roundw
            case rel => exact ⟨k + 1, by omega, by go_num, HY.out, HB6.out⟩
            case measure => simp [intOf]; omega
        · obtain rfl : k = R.length := by omega
          have H4 := Lib.hid (show (rootsL n).all (litB N) = true by rw [HRR.out]; exact allK_end HA.out)
          have HB3' := HB
          clear hlt HA HO HB0 HB3
          have HB3 := Lib.hid HB3'.out
          clear HB3'
          go_wp2
          go_loopw [8] (fun x wr => ∃ k : Nat, k ≤ n.2.2.1.length ∧ x = .int .i64 (k : Int) ∧ andsK n k = true ∧ Below w2.heap.size w2 wr) (fun x _ => n.2.2.1.length - (intOf x).toNat)
          case atStart => exact ⟨0, Nat.zero_le _, rfl, ands_zero n, Below.refl _ _⟩
          case round =>
            obtain ⟨k, hk, rfl, hall, hb⟩ := hrel
            obtain ⟨w6, rfl⟩ : ∃ w6, w6 = wr := ⟨_, rfl⟩
            have HB0 := Lib.hid hb
            have HB := Lib.hid (bThen HB3.out hb)
            have HA := Lib.hid hall
            replace c0 := keep hb c0
            replace c1 := keep hb c1
            replace c2 := keep hb c2
            replace c3 := keep hb c3
            clear hb hall
            by_cases hlt : k < n.2.2.1.length
            · obtain ⟨a, ha⟩ : ∃ a, n.2.2.1[k]? = some a := ⟨_, List.getElem?_eq_getElem hlt⟩
              have HST := Lib.hid (ands_step ha HA.out)
              have HMI := Lib.hid (fun h => and_no (n := n) ha h)
              obtain ⟨ab, aq, rfl, ab1, x0, xf, x1, yf⟩ := at_And (good_AndS.below mR2.out (Nat.le_refl _) HB.out) ha
              have ab2 := Nat.lt_of_lt_of_le ab1 HB.out.size
              obtain ⟨x, y⟩ := a
              dsimp only at x0 x1 xf yf
              have HF := Lib.hid (And.intro xf yf)
              obtain ⟨E, hE⟩ : ∃ E : Int, firI n + k = E := ⟨_, rfl⟩
              obtain ⟨q1, hq1⟩ : ∃ q, litB E x = q := ⟨_, rfl⟩
              obtain ⟨q2, hq2⟩ : ∃ q, litB E y = q := ⟨_, rfl⟩
              have hat : andAt n k (x, y) = (q1 && q2) := by unfold andAt; rw [hE, hq1, hq2]
              have hEw : IntKind.i64.wrap ((firN n : Int) + (k : Int)) = E := by have hf := HSP.out.fir_le; rw [← hE, HSP.out.fir, wrap64_int _ (by omega) (by omega)]
              have HL1 := Lib.hid hq1
              have HL2 := Lib.hid hq2
              have HAT := Lib.hid hat
              have tk : (k : Int) < (n.2.2.1.length : Int) := by omega
              have z0 : ∀ d os, (Sort.grow (redrawn w6 d) os).cell? ⟨w.heap.size, 0, none⟩ = some (.int .i64 n.1) := cell_regrown c0
              have z1 : ∀ d os, (Sort.grow (redrawn w6 d) os).cell? ⟨w.heap.size, 1, none⟩ = some (.slice mA1 (n.2.1).length mc1) := cell_regrown c1
              have z2 : ∀ d os, (Sort.grow (redrawn w6 d) os).cell? ⟨w.heap.size, 2, none⟩ = some (.slice (some ⟨ab, aq, none⟩) (n.2.2.1).length mc2) := cell_regrown c2
              have z3 : ∀ d os, (Sort.grow (redrawn w6 d) os).cell? ⟨w.heap.size, 3, none⟩ = some (.slice mA3 (n.2.2.2).length mc3) := cell_regrown c3
              have p0 : ∀ d os, (Sort.grow (redrawn w6 d) os).cell? ⟨ab, aq + k * 2, none⟩ = some (.int .i64 x) := cell_regrown x0
              have p1 : ∀ d os, (Sort.grow (redrawn w6 d) os).cell? ⟨ab, aq + k * 2 + 1, none⟩ = some (.int .i64 y) := cell_regrown x1
              clear ha xf yf hE hq1 hq2 hat ab1 x0 x1 c0 c1 c3
              cases q1 with
              | false =>
                have HE := Lib.hid ((HMI.out (HAT.out.trans rfl)).symm.trans HR.out)
                go_wp2
                clear c2
                refine wp_region_quiet_below (by kernel_rfl) (by kernel_rfl) ?_
                repeat (go_big_quiet_step (first | (go_at_call 28; refine Calls.regrown_of (specFirst_at n _ _ (good_Net.below (rdUp good_Net HD.out HB.out) (Nat.le_refl _) (below_regrown _ _ _)) (below_regrown _ _ _).size HSP.out)) | (go_at_call 51; refine Calls.regrown_of (specLit_at _ _ _ (by first | exact HF.out.1 | exact HF.out.2) (by first | exact HL1.out | exact HL2.out)))))
                refine wpQuiet_nil ?_
                intro _ hw'
                obtain ⟨⟨dq, osq⟩, hw''⟩ := hw'
                subst hw''
                have HBQ := Lib.hid (bThen HB.out (below_regrown w6 dq osq))
                have HBQ3 := Lib.hid (bThen HB0.out (below_regrown w6 dq osq))
                go_wp2
                go_ret
                exact ⟨ret_bool HE.out, HBQ.out⟩
              | true =>
                cases q2 with
                | false =>
                  have HE := Lib.hid ((HMI.out (HAT.out.trans rfl)).symm.trans HR.out)
                  go_wp2
                  clear c2
                  refine wp_region_quiet_below (by kernel_rfl) (by kernel_rfl) ?_
                  repeat (go_big_quiet_step (first | (go_at_call 28; refine Calls.regrown_of (specFirst_at n _ _ (good_Net.below (rdUp good_Net HD.out HB.out) (Nat.le_refl _) (below_regrown _ _ _)) (below_regrown _ _ _).size HSP.out)) | (go_at_call 51; refine Calls.regrown_of (specLit_at _ _ _ (by first | exact HF.out.1 | exact HF.out.2) (by first | exact HL1.out | exact HL2.out)))))
                  refine wpQuiet_nil ?_
                  intro _ hw'
                  obtain ⟨⟨dq, osq⟩, hw''⟩ := hw'
                  subst hw''
                  have HBQ := Lib.hid (bThen HB.out (below_regrown w6 dq osq))
                  have HBQ3 := Lib.hid (bThen HB0.out (below_regrown w6 dq osq))
                  go_wp2
                  go_ret
                  exact ⟨ret_bool HE.out, HBQ.out⟩
                | true =>
                  have HY := Lib.hid (HST.out.trans (HAT.out.trans rfl))
                  go_wp2
                  clear c2
                  refine wp_region_quiet_below (by kernel_rfl) (by kernel_rfl) ?_
                  repeat (go_big_quiet_step (first | (go_at_call 28; refine Calls.regrown_of (specFirst_at n _ _ (good_Net.below (rdUp good_Net HD.out HB.out) (Nat.le_refl _) (below_regrown _ _ _)) (below_regrown _ _ _).size HSP.out)) | (go_at_call 51; refine Calls.regrown_of (specLit_at _ _ _ (by first | exact HF.out.1 | exact HF.out.2) (by first | exact HL1.out | exact HL2.out)))))
                  refine wpQuiet_nil ?_
                  intro _ hw'
                  obtain ⟨⟨dq, osq⟩, hw''⟩ := hw'
                  subst hw''
                  have HBQ := Lib.hid (bThen HB.out (below_regrown w6 dq osq))
                  have HBQ3 := Lib.hid (bThen HB0.out (below_regrown w6 dq osq))
                  go_wp2
                  go_roundw
                  case rel => exact ⟨k + 1, by omega, by go_num, HY.out, HBQ3.out⟩
                  case measure => simp [intOf]; omega
            · obtain rfl : k = n.2.2.1.length := by omega
              have HE := Lib.hid ((net_yes HN.out H1.out H2.out HA.out H4.out).symm.trans HR.out)
              clear c0 c1 c3
              go_wp2
              go_ret
              exact ⟨ret_bool HE.out, HB.out⟩
end Go.Proofs.Ytiejilmgchmppaa
