/-
  SvMath, SSv, ISv as one text.
-/
import Derived.Test.YtmjofpfkgbnknaaGreatWsMath
import Derived.Test.YtmjofpfkgbnknaaGreatStAll
import Derived.Test.YtmjofpfkgbnknaaGreatSwAll
import Derived.Test.YtmjofpfkgbnknaaGreatSPw
import Derived.Test.YtmjofpfkgbnknaaGreatSEval
import Derived.Test.YtmjofpfkgbnknaaGreatCpAll
import Derived.Deep.RegionHeld3
import Derived.Test.YtmjofpfkgbnknaaGreatIWs
import Derived.Test.YtmjofpfkgbnknaaGreatIPw
import Derived.Test.YtmjofpfkgbnknaaGreatIFirst
/- SvMath: SignalValues: the plain part. -/
namespace Go.Proofs.YtmjofpfkgbnknaaGreat
open Go.RowKit
set_option linter.unusedVariables false
set_option linter.unusedSimpArgs false

/-- How many of the first k signals are inputs. -/
def inK (m : DModule) (k : Nat) : Nat := (widthsK m.1 0 k).length
/-- The inputs of the first k signals are written. -/
def insV (m : DModule) (st ins : List Int) : Nat → List Int
  | 0 => st
  | k + 1 => if kindI m k = 0 then (insV m st ins k).set k (cutI (ins.getD (inK m k) 0) (widN m k)) else insV m st ins k
/-- The assignment at place k of the order O. -/
def asgAt (m : DModule) (O : List Int) (k : Nat) : Option DAssign := (O[k]?).bind fun i => m.2.1[i.toNat]?
def putV (m : DModule) (V : List Int) (a : DAssign) : List Int := V.set a.1.toNat (exprV a.2 V (widN m a.1.toNat))
def runV (m : DModule) (O V : List Int) : Nat → List Int
  | 0 => V
  | k + 1 => match asgAt m O k with
    | none => runV m O V k
    | some a => putV m (runV m O V k) a
def ordL (m : DModule) : List Int := (orderO m).getD []
def sigV (m : DModule) (st ins : List Int) : List Int := runV m (ordL m) (insV m st ins m.1.length) (ordL m).length
def insB (m : DModule) (ins : List Int) : Bool := decide (ins.length = (widthsL m 0).length)
/-- What SignalValues answers. -/
def sigO (m : DModule) (st : DWordState) (ins : List Int) : List Int := if wsB m st && insB m ins then sigV m st.1 ins else []

section
variable {m : DModule} {st ins O V : List Int} {k : Nat}
theorem inK_zero (m : DModule) : inK m 0 = 0 := by simp [inK, widthsK]
theorem inK_yes {x : DSignal} (h : m.1[k]? = some x) (h0 : x.1 = 0) : inK m (k + 1) = inK m k + 1 := by
  unfold inK; rw [widthsK_yes _ _ _ _ h h0, List.length_append]; rfl
theorem inK_no {x : DSignal} (h : m.1[k]? = some x) (h0 : ¬ x.1 = 0) : inK m (k + 1) = inK m k := by
  unfold inK; rw [widthsK_no _ _ _ _ h h0]
theorem inK_step_le (m : DModule) (k : Nat) : inK m k ≤ inK m (k + 1) := by
  cases h : m.1[k]? with
  | none =>
    have hl := List.getElem?_eq_none_iff.1 h
    unfold inK widthsK
    rw [List.take_of_length_le hl, List.take_of_length_le (by omega)]; exact Nat.le_refl _
  | some x =>
    by_cases h0 : x.1 = 0
    · rw [inK_yes h h0]; omega
    · rw [inK_no h h0]; exact Nat.le_refl _
theorem inK_mono (m : DModule) (k j : Nat) : inK m k ≤ inK m (k + j) := by
  induction j with
  | zero => exact Nat.le_refl _
  | succ j ih => exact Nat.le_trans ih (inK_step_le m (k + j))
theorem inK_end (h : m.1.length ≤ 30) : inK m m.1.length = (widthsL m 0).length := by unfold inK widthsL; rw [if_pos h]
/-- An input has its element. -/
theorem inK_lt (hl : m.1.length ≤ 30) {x : DSignal} (h : m.1[k]? = some x) (h0 : x.1 = 0) : inK m k < (widthsL m 0).length := by
  have hk := (List.getElem?_eq_some_iff.1 h).1
  have h1 := inK_mono m (k + 1) (m.1.length - (k + 1))
  rw [show k + 1 + (m.1.length - (k + 1)) = m.1.length from by omega, inK_end hl, inK_yes h h0] at h1
  omega
theorem inK_le (k : Nat) : inK m k ≤ k := widthsK_len _ _ _
theorem insV_len : ∀ k, (insV m st ins k).length = st.length
  | 0 => rfl
  | k + 1 => by
    unfold insV
    split
    · rw [List.length_set, insV_len k]
    · exact insV_len k
theorem insV_yes {x : DSignal} {W : Nat} {y r : Int} (h : m.1[k]? = some x) (h0 : x.1 = 0) (hw : x.2.1 = (W : Int)) (hy : ins[inK m k]? = some y) (hr : cutI y W = r) : (insV m st ins k).set k r = insV m st ins (k + 1) := by
  show _ = if kindI m k = 0 then (insV m st ins k).set k (cutI (ins.getD (inK m k) 0) (widN m k)) else insV m st ins k
  rw [if_pos ((kind_at h).trans h0), widN_at h hw, List.getD_eq_getElem?_getD, hy, ← hr]; rfl
theorem insV_no {x : DSignal} (h : m.1[k]? = some x) (h0 : ¬ x.1 = 0) : insV m st ins (k + 1) = insV m st ins k := by
  show (if kindI m k = 0 then _ else _) = _
  rw [if_neg (by rw [kind_at h]; exact h0)]
theorem widN_le (hP : FlatP m) (s : Nat) : widN m s ≤ 4 := by
  cases h : m.1[s]? with
  | none => unfold widN widI; rw [Int.toNat_natCast, h]; simp
  | some x =>
    obtain ⟨W, h1, h2, h3⟩ := hP.wid s x h
    rw [widN_at h h1]; exact h3
theorem cut15 (n : Int) {W : Nat} (h : W ≤ 4) : 0 ≤ cutI n W ∧ cutI n W ≤ 15 := by
  have h1 := cutI_lo n W
  have h2 := cutI_hi n W
  have h3 := pow16 W h
  omega
theorem valsIn_set {t : Nat} {r : Int} (h : ValsIn V) (hr : 0 ≤ r ∧ r ≤ 15) : ValsIn (V.set t r) := by
  refine ⟨by rw [List.length_set]; exact h.1, fun x hx => ?_⟩
  rcases List.mem_or_eq_of_mem_set hx with hx | rfl
  · exact h.2 x hx
  · exact hr
theorem insV_in (hP : FlatP m) (h : ValsIn st) : ∀ k, ValsIn (insV m st ins k)
  | 0 => h
  | k + 1 => by
    unfold insV
    split
    · exact valsIn_set (insV_in hP h k) (cut15 _ (widN_le hP k))
    · exact insV_in hP h k
theorem evP15 {L : List DOp} {W f p : Nat} {v : Int} {p' : Nat} (h : evP L V W f p = some (v, p')) (hW : W ≤ 4) : 0 ≤ v ∧ v ≤ 15 := by
  have h1 := evP_rng h
  have h2 := pow16 W hW
  omega
theorem exprV15 (L : List DOp) (V : List Int) {W : Nat} (hW : W ≤ 4) : 0 ≤ exprV L V W ∧ exprV L V W ≤ 15 := by
  unfold exprV
  cases h : evP L V W 16 0 with
  | none => simp
  | some r => obtain ⟨v, p'⟩ := r; exact evP15 h hW
theorem runV_len : ∀ k, (runV m O V k).length = V.length
  | 0 => rfl
  | k + 1 => by
    unfold runV
    split
    · exact runV_len k
    · unfold putV; rw [List.length_set, runV_len k]
theorem runV_in (hP : FlatP m) (h : ValsIn V) : ∀ k, ValsIn (runV m O V k)
  | 0 => h
  | k + 1 => by
    unfold runV
    split
    · exact runV_in hP h k
    · exact valsIn_set (runV_in hP h k) (exprV15 _ _ (widN_le hP _))
theorem runV_step {a : DAssign} {i t W : Nat} {x : DSignal} {r : Int} (hi : O[k]? = some (i : Int)) (ha : m.2.1[i]? = some a) (ht : a.1 = (t : Int)) (hx : m.1[t]? = some x) (hw : x.2.1 = (W : Int)) (hr : exprV a.2 (runV m O V k) W = r) :
    (runV m O V k).set t r = runV m O V (k + 1) := by
  have e : asgAt m O k = some a := by unfold asgAt; rw [hi]; exact ha
  show _ = match asgAt m O k with
    | none => runV m O V k
    | some a => putV m (runV m O V k) a
  rw [e]
  show _ = (runV m O V k).set a.1.toNat (exprV a.2 (runV m O V k) (widN m a.1.toNat))
  rw [ht, Int.toNat_natCast, widN_at hx hw, hr]
end
theorem evalGo_mem (L : List DAssign) (P : Int → Prop) (hP : ∀ i : Nat, (∃ a, L[i]? = some a) → P i) : ∀ (n : Nat) (W : List Bool) (acc : List Int), (∀ v ∈ acc, P v) → ∀ v ∈ (evalGo L n W acc).2, P v
  | 0, W, acc, h => h
  | n + 1, W, acc, h => by
    unfold evalGo
    cases hn : nextA L W with
    | none => exact h
    | some i =>
      refine evalGo_mem L P hP n _ _ ?_
      intro v hv
      rcases List.mem_append.1 hv with hv | hv
      · exact h v hv
      · rw [List.mem_singleton] at hv
        subst hv
        obtain ⟨a, ha, _⟩ := nextA_some hn
        exact hP i ⟨a, ha⟩
theorem evalGo_len (L : List DAssign) : ∀ (n : Nat) (W : List Bool) (acc : List Int), (evalGo L n W acc).2.length ≤ acc.length + n
  | 0, W, acc => by simp [evalGo]
  | n + 1, W, acc => by
    unfold evalGo
    cases hn : nextA L W with
    | none => simp
    | some i =>
      have := evalGo_len L n (W.set (tgt L i) false) (acc ++ [(i : Int)])
      rw [List.length_append] at this
      simp at this ⊢
      omega
theorem ordL_cases (m : DModule) : ordL m = [] ∨ ordL m = (evalF m.2.1 (wait0 m) []).2 := by
  unfold ordL orderO
  split
  · split
    · exact .inl rfl
    · exact .inr rfl
  · exact .inl rfl
theorem ord_in {m : DModule} (hP : FlatP m) {k : Nat} {v : Int} (h : (ordL m)[k]? = some v) :
    ∃ (i t : Nat) (a : DAssign) (x : DSignal) (W : Nat), v = (i : Int) ∧ m.2.1[i]? = some a ∧ a.1 = (t : Int) ∧ m.1[t]? = some x ∧ x.2.1 = (W : Int) ∧ 1 ≤ W ∧ W ≤ 4 ∧ opsB m.1.length a.2 = true ∧ (a.2.all fun o => !decide (o.1 = 1)) = true := by
  have hv : v ∈ ordL m := List.mem_of_getElem? h
  have h1 : ∃ (i : Nat) (a : DAssign), v = (i : Int) ∧ m.2.1[i]? = some a := by
    rcases ordL_cases m with e | e
    · rw [e] at hv; cases hv
    · rw [e] at hv
      exact evalGo_mem m.2.1 (fun v => ∃ (i : Nat) (a : DAssign), v = (i : Int) ∧ m.2.1[i]? = some a) (fun i ⟨a, ha⟩ => ⟨i, a, rfl, ha⟩) _ _ [] (by simp) v hv
  obtain ⟨i, a, hi, ha⟩ := h1
  have hm := List.mem_of_getElem? ha
  obtain ⟨t, ht, hl, _, ho⟩ := hP.mod.asg a hm
  have hx : m.1[t]? = some m.1[t] := List.getElem?_eq_getElem hl
  obtain ⟨W, hw, h1, h4⟩ := hP.wid t _ hx
  exact ⟨i, t, a, _, W, hi, ha, ht, hx, hw, h1, h4, ho, hP.nop a hm⟩
theorem ord_len {m : DModule} (hP : FlatP m) : (ordL m).length ≤ 30 := by
  rcases ordL_cases m with e | e
  · rw [e]; simp
  · rw [e]
    have h1 := evalGo_len m.2.1 (cntT (wait0 m)) (wait0 m) []
    have h2 := cntT_le (wait0 m)
    have h3 : (wait0 m).length = m.1.length := waitK_len _ _
    have h4 := hP.mod.l0
    have h5 : (evalF m.2.1 (wait0 m) []).2.length ≤ ([] : List Int).length + cntT (wait0 m) := h1
    simp at h5
    omega
/-- A valid state's values. -/
theorem ws_vals {m : DModule} {st : DWordState} (hP : FlatP m) (h : wsB m st = true) : ValsIn st.1 ∧ st.1.length = m.1.length := by
  unfold wsB at h
  simp only [Bool.and_eq_true] at h
  obtain ⟨⟨⟨_, hl⟩, hv⟩, _⟩ := h
  unfold lensB at hl
  rw [Bool.and_eq_true, decide_eq_true_eq, decide_eq_true_eq] at hl
  refine ⟨⟨by have := hP.mod.l0; omega, fun x hx => ?_⟩, hl.1⟩
  obtain ⟨k, hk, rfl⟩ := List.getElem_of_mem hx
  have h1 := List.all_eq_true.1 hv k (by rw [List.mem_range]; omega)
  unfold valB fitsB at h1
  rw [decide_eq_true_eq, List.getD_eq_getElem?_getD, List.getElem?_eq_getElem hk] at h1
  have h2 : valW m k ≤ 4 := by
    unfold valW
    split
    · exact widN_le hP k
    · omega
  have h3 := pow16 _ h2
  have h4 : st.1[k] = (some st.1[k]).getD 0 := rfl
  rw [← h4] at h1
  omega
theorem ws_flat {m : DModule} {st : DWordState} (h : wsB m st = true) : flatB m = true := by
  unfold wsB at h
  simp only [Bool.and_eq_true] at h
  exact h.1.1.1
theorem sig_no {m : DModule} {st : DWordState} {ins L : List Int} (hL : sigO m st ins = L) (h : wsB m st = false ∨ ¬ ins.length = (widthsL m 0).length) : L = [] := by
  rw [← hL]; unfold sigO insB
  rcases h with h | h
  · rw [h]; rfl
  · rw [decide_eq_false h, Bool.and_false]; rfl
theorem sig_yes {m : DModule} {st : DWordState} {ins L : List Int} (hL : sigO m st ins = L) (h : wsB m st = true) (h2 : ins.length = (widthsL m 0).length) : sigV m st.1 ins = L := by
  rw [← hL]; unfold sigO insB
  rw [h, decide_eq_true h2]; rfl
end Go.Proofs.YtmjofpfkgbnknaaGreat
/- SSv: SignalValues: the reference. -/
namespace Go.Proofs.YtmjofpfkgbnknaaGreat
open Go.RowKit
set_option linter.unusedVariables false
set_option linter.unusedSimpArgs false

theorem flat_vI (L : List Int) : L.flatMap fInt = L.map vI := by
  induction L with
  | nil => rfl
  | cons x L ih => rw [List.flatMap_cons, ih]; rfl
theorem specWidthsV_at (x : DModule) (q : Int) (us : List Value) {B T : Nat} {L : List Int} (w : World) (h : rdModule B T w us x) (hT : T ≤ w.heap.size) (hL : widthsL x q = L) :
    Calls Tryz.prog 70 #[.agg us.toArray, .int .i64 q] w fun e w' => ∃ v, e = .returned v ∧ OwnsI w' w.heap.size v L ∧ Below w.heap.size w w' := by
  subst hL; exact specWidths_any x q us w h hT
set_option maxRecDepth 100000 in
set_option maxHeartbeats 12800000 in
theorem specSig_at (m : DModule) (st : DWordState) (ins : List Int) (us vs : List Value) (nv : Value) (w : World) (h : rdModule 0 w.heap.size w us m) (hs : rdWordState 0 w.heap.size w vs st) (hn : rdIntS 0 w.heap.size w [nv] ins) (hm : ins.length ≤ 1048576) {L : List Int} (hL : sigO m st ins = L) :
    Calls Tryz.prog 19 #[.agg us.toArray, .agg vs.toArray, nv] w fun e w' => ∃ v, e = .returned v ∧ OwnsI w' w.heap.size v L ∧ Below w.heap.size w w' := by
  obtain ⟨i0, hi, hz0, hz1, hz2⟩ := info_parts infoI
  have HM := Lib.hid h
  have HS := Lib.hid hs
  have HX := Lib.hid hL
  clear hL
  obtain ⟨mu0, mu1, mu2, mu3, rfl, mh0, mh1, mh2, mh3⟩ := h
  obtain ⟨mA0, mc0, me0, mm0, -⟩ := slice_of mh0
  subst me0
  have mR0 := Lib.hid mh0
  clear mh0
  obtain ⟨mA1, mc1, me1, mm1, -⟩ := slice_of mh1
  subst me1
  have mR1 := Lib.hid mh1
  clear mh1
  obtain ⟨mA2, mc2, me2, mm2, -⟩ := slice_of mh2
  subst me2
  have mR2 := Lib.hid mh2
  clear mh2
  obtain ⟨mA3, mc3, me3, mm3, -⟩ := slice_of mh3
  subst me3
  have mR3 := Lib.hid mh3
  clear mh3
  obtain ⟨su0, su1, rfl, sh0, sh1⟩ := hs
  obtain ⟨sA0, sc0, se0, sm0, -⟩ := slice_of sh0
  subst se0
  have sR0 := Lib.hid sh0
  clear sh0
  obtain ⟨sA1, sc1, se1, sm1, -⟩ := slice_of sh1
  subst se1
  have sR1 := Lib.hid sh1
  clear sh1
  obtain ⟨nA, nc, rfl, nm, -⟩ := slice_of hn
  have HN := Lib.hid hn
  clear hn
  obtain ⟨f, hf⟩ : ∃ f, wsB m st = f := ⟨_, rfl⟩
  have HF := Lib.hid hf
  clear hf
  go_enter Tryz.func19, Tryz.ntmps19
  go_wp2_with fail
  obtain ⟨W0, hV⟩ : ∃ W0, W0 = ((w.alloc (.cells #[.slice mA0 (m.1).length mc0, .slice mA1 (m.2.1).length mc1, .slice mA2 (m.2.2.1).length mc2, .slice mA3 (m.2.2.2).length mc3] 31)).alloc (.cells #[.slice sA0 (st.1).length sc0, .slice sA1 (st.2).length sc1] 56)) := ⟨_, rfl⟩
  rw [← hV]
  have gN := eqbox2 hV
  have d0 : W0.cell? ⟨w.heap.size, 0, none⟩ = some (.slice mA0 (m.1).length mc0) := box_cell gN.1 0 _ rfl
  have d1 : W0.cell? ⟨w.heap.size, 1, none⟩ = some (.slice mA1 (m.2.1).length mc1) := box_cell gN.1 1 _ rfl
  have d2 : W0.cell? ⟨w.heap.size, 2, none⟩ = some (.slice mA2 (m.2.2.1).length mc2) := box_cell gN.1 2 _ rfl
  have d3 : W0.cell? ⟨w.heap.size, 3, none⟩ = some (.slice mA3 (m.2.2.2).length mc3) := box_cell gN.1 3 _ rfl
  have e0 : W0.cell? ⟨w.heap.size + 1, 0, none⟩ = some (.slice sA0 (st.1).length sc0) := box_cell gN.2.1 0 _ rfl
  have e1 : W0.cell? ⟨w.heap.size + 1, 1, none⟩ = some (.slice sA1 (st.2).length sc1) := box_cell gN.2.1 1 _ rfl
  have sW0 : W0.heap.size = w.heap.size + 2 := by rw [hV]; simp
  have HW0 := Lib.hid gN.2.2
  clear hV gN
  refine (specWs_at m st _ _ _ (rdUp good_Module HM.out HW0.out) (rdUp good_WordState HS.out HW0.out) HF.out).mono ?_
  rintro e w1 ⟨rfl, hb⟩
  replace d0 := keep hb d0
  replace d1 := keep hb d1
  replace d2 := keep hb d2
  replace d3 := keep hb d3
  replace e0 := keep hb e0
  replace e1 := keep hb e1
  have HB := Lib.hid (bThen HW0.out hb)
  clear hb
  cases f with
  | false =>
    have HE := Lib.hid (sig_no HX.out (.inl HF.out))
    go_wp2
    go_ret
    refine ⟨_, rfl, ?_, bAlloc HB.out (Nat.le_refl _) _⟩
    rw [HE.out]
    exact own_newI _ _ HB.out.size
  | true =>
    have HP := Lib.hid (flatP_of (ws_flat HF.out))
    obtain ⟨K, hK⟩ : ∃ K, widthsL m 0 = K := ⟨_, rfl⟩
    have HKW := Lib.hid hK
    have hk30 : K.length ≤ 30 := by rw [← hK]; exact widthsL_len m 0
    clear hK
    go_wp2_with fail
    refine (specWidthsV_at m 0 _ _ (rdUp good_Module HM.out HB.out) (Nat.le_refl _) HKW.out).mono ?_
    rintro e w2 ⟨v, rfl, hown, hb⟩
    obtain ⟨A, c, rfl, -⟩ := hown.shape
    replace d0 := keep hb d0
    replace d1 := keep hb d1
    replace d2 := keep hb d2
    replace d3 := keep hb d3
    replace e0 := keep hb e0
    replace e1 := keep hb e1
    replace HB := Lib.hid (bThen HB.out hb)
    clear hb hown
    by_cases hne : ins.length = K.length
    case neg =>
      have b1 : ((ins.length : Int) != (K.length : Int)) = true := by simp; omega
      have HE := Lib.hid (sig_no HX.out (.inr (by rw [HKW.out]; exact hne)))
      clear hne
      go_wp2
      go_ret
      refine ⟨_, rfl, ?_, bAlloc HB.out (Nat.le_refl _) _⟩
      rw [HE.out]
      exact own_newI _ _ HB.out.size
    have b1 : ((ins.length : Int) != (K.length : Int)) = false := by simp; omega
    have HNE := Lib.hid hne
    have hV := ws_vals HP.out HF.out
    have HV := Lib.hid hV.1
    have HVL := Lib.hid hV.2
    have l0 := HP.out.mod.l0
    have l1 := HP.out.mod.l1
    have hs1 : st.1.length ≤ 30 := by have := hV.2; omega
    have rdv : rdIntS 0 w2.heap.size w2 _ st.1 := rdUp good_IntS sR0.out HB.out
    have HNW := Lib.hid (show NewsAt (w2.alloc (.cells #[] 3)) sA0 st.1.length (st.1.flatMap fInt) from (newsAt_of fInt 1 fInt_len (by omega) usInt rdv).2.below (bAlloc (Below.refl _ _) (Nat.le_refl _) _))
    have lt0 : w.heap.size < w2.heap.size := World.block_lt_of_cell? _ _ d0
    have lt1 : w.heap.size + 1 < w2.heap.size := World.block_lt_of_cell? _ _ e0
    clear hV hne rdv
    go_wp2_with (at_builtin; refine wpList_append_all (by rfl) _ _ 49 (by rfl) w2.heap.size 3 i0 (.int .i64 0) 1 8 Tryz.underlying49 hi hz0 hz1 hz2 rfl (by omega) (.slice (some ⟨w2.heap.size, 0, none⟩) 0 0) 0 [] (by rfl) (ownR_new fInt 1 3 w2 w2.heap.size (Nat.le_refl _)) sA0 st.1.length sc0 (st.1.flatMap fInt) (by rfl) (flat_len fInt 1 fInt_len st.1) HNW.out (fInt_one st.1) (by unfold maxLen; omega) (by omega) (by simp) ?_; intro A' c' w3 hown hgrow hkeep hat)
    have hr := hown
    rw [Nat.zero_add, List.nil_append, flat_vI] at hr
    have HB3 := Lib.hid (show Below w2.heap.size w2 w3 from (show Below w2.heap.size w2 (w2.alloc (.cells #[] 3)) from bAlloc (Below.refl _ _) (Nat.le_refl _) _).grown hgrow (by simp) (by intro g hg; injection hg with hg; dsimp only at hg; omega))
    have HO := Lib.hid (show OwnsI w3 w2.heap.size (.slice A' st.1.length c') st.1 from hr)
    clear hown hgrow hkeep hat hr
    go_loopw [8, 9] (fun kv sv wr => ∃ k : Nat, k ≤ m.1.length ∧ kv = .int .i64 (inK m k : Int) ∧ sv = .int .i64 (k : Int) ∧ OwnsI wr w2.heap.size (.slice A' st.1.length c') (insV m st.1 ins k) ∧ Below w2.heap.size w2 wr) (fun _ v _ => m.1.length - (intOf v).toNat)
    case atStart => exact ⟨0, Nat.zero_le _, by rw [inK_zero]; rfl, rfl, HO.out, HB3.out⟩
    case round =>
      obtain ⟨k, hk, rfl, rfl, hown, hb⟩ := hrel
      obtain ⟨w4, rfl⟩ : ∃ w4, w4 = wr := ⟨_, rfl⟩
      clear HO HB3 HNW
      have HO := Lib.hid hown
      have HB3 := Lib.hid hb
      have HBW := Lib.hid (bThen HB.out hb)
      have c0 := keep hb d0
      have lt4 : w.heap.size < w4.heap.size := World.block_lt_of_cell? _ _ c0
      clear hown hb
      by_cases hlt : k < m.1.length
      · obtain ⟨x, hx⟩ : ∃ x, m.1[k]? = some x := ⟨_, List.getElem?_eq_getElem hlt⟩
        have hxx := Lib.hid hx
        obtain ⟨W, hxW, hW⟩ := HP.out.wid k x hx
        obtain ⟨xb, xq, rfl, xb1, x0, -, x1, -, x2, -⟩ := at_Signal (good_SignalS.below mR0.out (Nat.le_refl _) HBW.out) hx
        have xb2 := Nat.lt_of_lt_of_le xb1 HBW.out.size
        rw [hxW] at x1
        obtain ⟨kd, hkd⟩ : ∃ kd, x.1 = kd := ⟨_, rfl⟩
        rw [hkd] at x0
        have tk : (k : Int) < (m.1.length : Int) := by omega
        by_cases h0 : kd = 0
        · have b0 : (kd == 0) = true := by simp [h0]
          have hq0 : x.1 = 0 := hkd.trans h0
          have HQ1 := Lib.hid (inK_yes hx hq0)
          have hkl : inK m k < ins.length := by have a := inK_lt l0 hx hq0; rw [HKW.out] at a; rw [HNE.out]; exact a
          obtain ⟨y, hy⟩ : ∃ y : Int, ins[inK m k]? = some y := ⟨_, List.getElem?_eq_getElem hkl⟩
          obtain ⟨r, hr⟩ : ∃ r, cutI y W = r := ⟨_, rfl⟩
          have HIV := Lib.hid (insV_yes (st := st.1) hx hq0 hxW hy hr)
          obtain ⟨M, hM, hM15, hm1, hm2⟩ := mask_go W hW.2
          have hev := and_mask y W M hW.2 (mask_succ hM)
          rw [hr] at hev
          have HEV := Lib.hid (show bits .and .i64 y (IntKind.i64.wrap (IntKind.i64.wrap ((2 : Int) ^ min W 64) - 1)) = r by rw [hm2]; exact hev)
          obtain ⟨q, hq⟩ : ∃ q, inK m k = q := ⟨_, rfl⟩
          rw [hq] at HQ1 hkl hy ⊢
          obtain ⟨yb, yq, rfl, yb1, y0, -⟩ := at_Int (good_IntS.below HN.out (Nat.le_refl _) HBW.out) hy
          have yb2 := Nat.lt_of_lt_of_le yb1 HBW.out.size
          have tq : (q : Int) < (ins.length : Int) := by omega
          have q30 : q ≤ 30 := by have := inK_le (m := m) k; omega
          clear hx hxW hr hW hM hM15 hm1 hm2 hev hkd hq0 hy hq xb1 yb1 x2 h0
          have hS0 : (fun w' => Below w4.heap.size w4 w' ∧ w'.cell? ⟨w.heap.size, 0, none⟩ = some (.slice (some ⟨xb, xq, none⟩) (m.1).length mc0) ∧ w'.cell? ⟨xb, xq + k * 3 + 1, none⟩ = some (.int .i64 (W : Int)) ∧ w'.cell? ⟨yb, yq + q, none⟩ = some (.int .i64 y)) w4 := ⟨Below.refl _ _, c0, x1, y0⟩
          have hS : ∀ {w0 w' : World}, (fun w' => Below w4.heap.size w4 w' ∧ w'.cell? ⟨w.heap.size, 0, none⟩ = some (.slice (some ⟨xb, xq, none⟩) (m.1).length mc0) ∧ w'.cell? ⟨xb, xq + k * 3 + 1, none⟩ = some (.int .i64 (W : Int)) ∧ w'.cell? ⟨yb, yq + q, none⟩ = some (.int .i64 y)) w0 → Below w0.heap.size w0 w' → (fun w' => Below w4.heap.size w4 w' ∧ w'.cell? ⟨w.heap.size, 0, none⟩ = some (.slice (some ⟨xb, xq, none⟩) (m.1).length mc0) ∧ w'.cell? ⟨xb, xq + k * 3 + 1, none⟩ = some (.int .i64 (W : Int)) ∧ w'.cell? ⟨yb, yq + q, none⟩ = some (.int .i64 y)) w' := fun h hb => ⟨bThen h.1 hb, keep hb h.2.1, keep hb h.2.2.1, keep hb h.2.2.2⟩
          dsimp only at hS0 hS
          go_wp2_with fail
          refine wp_region_noPanic ?_
          refine wp_region_kept 15 17 (fun w' => Below w4.heap.size w4 w' ∧ w'.cell? ⟨w.heap.size, 0, none⟩ = some (.slice (some ⟨xb, xq, none⟩) (m.1).length mc0) ∧ w'.cell? ⟨xb, xq + k * 3 + 1, none⟩ = some (.int .i64 (W : Int)) ∧ w'.cell? ⟨yb, yq + q, none⟩ = some (.int .i64 y)) (by kernel_rfl) rfl (hS hS0 (Below.drew (Below.refl _ _))) (fun hK0 => ?_)
          refine Kept.take (v := ?vs0) 0 (by kernel_rfl) rfl (by kernel_rfl) (fun _ _ _ h => h) (Or.inl ⟨by rfl, ?hys0⟩) hK0 ?rests0
          case hys0 =>
            intro w0 hSw
            (try dsimp only at hSw)
            go_simp
            all_goals (with_reducible rfl)
          (try simp only [Act.put, List.setIfInBounds_toArray, List.set_cons_zero, List.set_cons_succ])
          refine Kept.take (v := ?vs1) 1 (by kernel_rfl) rfl (by kernel_rfl) (fun _ _ _ h => h) (Or.inl ⟨by rfl, ?hys1⟩) hK0 ?rests1
          case hys1 =>
            intro w0 hSw
            (try dsimp only at hSw)
            go_simp
            all_goals (with_reducible rfl)
          (try simp only [Act.put, List.setIfInBounds_toArray, List.set_cons_zero, List.set_cons_succ])
          refine Kept.take (v := ?vs2) 2 (by kernel_rfl) rfl (by kernel_rfl) (fun _ _ _ h => h) (Or.inl ⟨by rfl, ?hys2⟩) hK0 ?rests2
          case hys2 =>
            intro w0 hSw
            (try dsimp only at hSw)
            go_simp
            all_goals (with_reducible rfl)
          (try simp only [Act.put, List.setIfInBounds_toArray, List.set_cons_zero, List.set_cons_succ])
          refine Kept.take (v := ?vs3) 3 (by kernel_rfl) rfl (by kernel_rfl) (fun _ _ _ h => h) (Or.inl ⟨by rfl, ?hys3⟩) hK0 ?rests3
          case hys3 =>
            intro w0 hSw
            (try dsimp only at hSw)
            go_simp
            all_goals (with_reducible rfl)
          (try simp only [Act.put, List.setIfInBounds_toArray, List.set_cons_zero, List.set_cons_succ])
          refine Kept.take (v := ?vs4) 4 (by kernel_rfl) rfl (by kernel_rfl) (fun _ _ _ h => h) (Or.inl ⟨by rfl, ?hys4⟩) hK0 ?rests4
          case hys4 =>
            intro w0 hSw
            (try dsimp only at hSw)
            go_simp
            all_goals (with_reducible rfl)
          (try simp only [Act.put, List.setIfInBounds_toArray, List.set_cons_zero, List.set_cons_succ])
          refine Kept.take (v := ?vs5) 5 (by kernel_rfl) rfl (by kernel_rfl) (fun _ _ _ h => h) (Or.inl ⟨by rfl, ?hys5⟩) hK0 ?rests5
          case hys5 =>
            intro w0 hSw
            (try dsimp only at hSw)
            go_simp
            all_goals (with_reducible rfl)
          (try simp only [Act.put, List.setIfInBounds_toArray, List.set_cons_zero, List.set_cons_succ])
          refine Kept.take (v := ?vs6) 6 (by kernel_rfl) rfl (by kernel_rfl) (fun _ _ _ h => h) (Or.inl ⟨by rfl, ?hys6⟩) hK0 ?rests6
          case hys6 =>
            intro w0 hSw
            (try dsimp only at hSw)
            go_simp
            all_goals (with_reducible rfl)
          (try simp only [Act.put, List.setIfInBounds_toArray, List.set_cons_zero, List.set_cons_succ])
          refine Kept.take (v := ?vs7) 7 (by kernel_rfl) rfl (by kernel_rfl) (fun _ _ _ h => h) (Or.inl ⟨by rfl, ?hys7⟩) hK0 ?rests7
          case hys7 =>
            intro w0 hSw
            (try dsimp only at hSw)
            go_simp
            all_goals (with_reducible rfl)
          (try simp only [Act.put, List.setIfInBounds_toArray, List.set_cons_zero, List.set_cons_succ])
          refine Kept.take (v := ?vs8) 8 (by kernel_rfl) rfl (by kernel_rfl) (fun _ _ _ h => h) (Or.inl ⟨by rfl, ?hys8⟩) hK0 ?rests8
          case hys8 =>
            intro w0 hSw
            (try dsimp only at hSw)
            go_simp
            all_goals (with_reducible rfl)
          (try simp only [Act.put, List.setIfInBounds_toArray, List.set_cons_zero, List.set_cons_succ])
          refine Kept.take (v := ?vs9) 9 (by kernel_rfl) rfl (by kernel_rfl) (fun _ _ _ h => h) (Or.inl ⟨by rfl, ?hys9⟩) hK0 ?rests9
          case hys9 =>
            intro w0 hSw
            (try dsimp only at hSw)
            go_simp
            all_goals (with_reducible rfl)
          (try simp only [Act.put, List.setIfInBounds_toArray, List.set_cons_zero, List.set_cons_succ])
          refine Kept.take (v := ?vs10) 10 (by kernel_rfl) rfl (by kernel_rfl) (fun _ _ _ h => h) (Or.inl ⟨by rfl, ?hys10⟩) hK0 ?rests10
          case hys10 =>
            intro w0 hSw
            (try dsimp only at hSw)
            go_simp
            all_goals (with_reducible rfl)
          (try simp only [Act.put, List.setIfInBounds_toArray, List.set_cons_zero, List.set_cons_succ])
          refine Kept.take (v := ?vs11) 11 (by kernel_rfl) rfl (by kernel_rfl) (fun _ _ _ h => h) (Or.inl ⟨by rfl, ?hys11⟩) hK0 ?rests11
          case hys11 =>
            intro w0 hSw
            (try dsimp only at hSw)
            go_simp
            all_goals (with_reducible rfl)
          (try simp only [Act.put, List.setIfInBounds_toArray, List.set_cons_zero, List.set_cons_succ])
          refine Kept.take (v := ?vs12) 12 (by kernel_rfl) rfl (by kernel_rfl) (fun _ _ _ h => h) (Or.inl ⟨by rfl, ?hys12⟩) hK0 ?rests12
          case hys12 =>
            intro w0 hSw
            (try dsimp only at hSw)
            go_simp
            all_goals (with_reducible rfl)
          (try simp only [Act.put, List.setIfInBounds_toArray, List.set_cons_zero, List.set_cons_succ])
          refine Kept.take (v := ?vs13) 13 (by kernel_rfl) rfl (by kernel_rfl) (fun _ _ _ h => h) (Or.inl ⟨by rfl, ?hys13⟩) hK0 ?rests13
          case hys13 =>
            intro w0 hSw
            (try dsimp only at hSw)
            go_simp
            all_goals (with_reducible rfl)
          (try simp only [Act.put, List.setIfInBounds_toArray, List.set_cons_zero, List.set_cons_succ])
          refine Kept.take (v := ?vs14) 14 (by kernel_rfl) rfl (by kernel_rfl) (fun _ _ _ h => h) (Or.inl ⟨by rfl, ?hys14⟩) hK0 ?rests14
          case hys14 =>
            intro w0 hSw
            (try dsimp only at hSw)
            go_simp
            all_goals (with_reducible rfl)
          (try simp only [Act.put, List.setIfInBounds_toArray, List.set_cons_zero, List.set_cons_succ])
          refine Kept.tail (by rfl) (by kernel_rfl) ?_
          simp only [List.drop_succ_cons, List.drop_zero]
          have HB4 := Lib.hid hK0.1
          have Q3 := HO.out.below HB4.out
          have HIL := (insV_len (m := m) (st := st.1) (ins := ins) k)
          obtain ⟨A2, c2, e2, hsh⟩ := Q3.shape
          injection e2 with e2 e3 e4
          obtain ⟨g, hg, -⟩ := hsh k (by rw [HIL, HVL.out]; omega)
          rw [hg] at e2
          subst e2 e4
          have ks : k < st.1.length := by rw [HVL.out]; exact hlt
          have gf := ownI_cell Q3 HIL ks
          have u0 := gf.1
          have u1 := gf.2
          have HQ3 := Lib.hid Q3
          have gB : w2.heap.size ≤ g := (Q3.lt g rfl).1
          have tl : (k : Int) < (st.1.length : Int) := by omega
          clear gf Q3 hK0 hS hS0 x0 x1 y0 c0 hsh hg e3
          simp only [HEV.out]
          go_wp2
          refine NoPanic.normal ?_
          go_wp2
          go_roundw
          case rel =>
            have h3 := ownI_set HQ3.out HIL ks r
            rw [HIV.out] at h3
            exact ⟨k + 1, by omega, by rw [HQ1.out]; go_num, by go_num, h3, bSet (p := ⟨g, k, none⟩) (bThen HB3.out HB4.out) gB (.int .i64 r)⟩
          case measure => simp [intOf]; omega
        · have b0 : (kd == 0) = false := by simp [h0]
          have hq0 : ¬ x.1 = 0 := by rw [hkd]; exact h0
          have HQ1 := Lib.hid (inK_no hx hq0)
          have HIV := Lib.hid (insV_no (st := st.1) (ins := ins) hx hq0)
          clear hx hxW hW hkd hq0 xb1 x1 x2 h0
          go_wp2
          go_roundw
          case rel => exact ⟨k + 1, by omega, by rw [HQ1.out], by go_num, by rw [HIV.out]; exact HO.out, HB3.out⟩
          case measure => simp [intOf]; omega
      · obtain rfl : k = m.1.length := by omega
        obtain ⟨V1, hV1⟩ : ∃ V1, insV m st.1 ins m.1.length = V1 := ⟨_, rfl⟩
        have HV1 := Lib.hid hV1
        have HVI := Lib.hid (show ValsIn V1 by rw [← hV1]; exact insV_in HP.out HV.out _)
        have HL1 := Lib.hid (show V1.length = st.1.length by rw [← hV1]; exact insV_len _)
        rw [hV1] at HO
        obtain ⟨rb, hrb⟩ : ∃ rb, (orderO m).isSome = rb := ⟨_, rfl⟩
        obtain ⟨O, hO⟩ : ∃ O, ordL m = O := ⟨_, rfl⟩
        have HRB := Lib.hid hrb
        have HORD := Lib.hid hO
        have o30 : O.length ≤ 30 := by rw [← hO]; exact ord_len HP.out
        clear hrb hO hV1 hlt
        have c1 := keep HB3.out d1
        have c2 := keep HB3.out d2
        have c3 := keep HB3.out d3
        go_wp2_with fail
        refine (specOrder_at m _ _ (rdUp good_Module HM.out HBW.out) (Nat.le_refl _) HRB.out HORD.out).mono ?_
        rintro e w5 ⟨v, rfl, hown, hb⟩
        obtain ⟨oA, oc, rfl, -⟩ := hown.shape
        have HOO := Lib.hid hown
        have HGL := Lib.hid (show ∀ g, (Value.slice A' st.1.length c').ownBlock = some g → g < w4.heap.size from fun g hg => (HO.out.lt g hg).2)
        have HO5 := Lib.hid (HO.out.below hb)
        have HB5 := Lib.hid (bThen HB3.out hb)
        clear hown hb c0 c1 c2 c3 HO HB3
        go_wp2
        go_loopw [12] (fun iv wr => ∃ k : Nat, k ≤ O.length ∧ iv = .int .i64 (k : Int) ∧ OwnsI wr w2.heap.size (.slice A' st.1.length c') (runV m O V1 k) ∧ OwnsI wr w4.heap.size (.slice oA O.length oc) O ∧ Below w2.heap.size w2 wr) (fun v _ => O.length - (intOf v).toNat)
        case atStart => exact ⟨0, Nat.zero_le _, rfl, HO5.out, HOO.out, HB5.out⟩
        case round =>
          obtain ⟨k, hk, rfl, hown, hoo, hb⟩ := hrel
          obtain ⟨w6, rfl⟩ : ∃ w6, w6 = wr := ⟨_, rfl⟩
          clear HOO HO5 HB5
          have HO := Lib.hid hown
          have HOO := Lib.hid hoo
          have HB6 := Lib.hid hb
          replace HBW := Lib.hid (bThen HB.out hb)
          have c0 := keep hb d0
          have c1 := keep hb d1
          have lt6 : w.heap.size < w6.heap.size := World.block_lt_of_cell? _ _ c0
          clear hown hoo hb
          by_cases hlt : k < O.length
          · obtain ⟨ov, hov⟩ : ∃ ov : Int, O[k]? = some ov := ⟨_, List.getElem?_eq_getElem hlt⟩
            obtain ⟨i, t, a, x, W, rfl, ha, hat, hx, hxW, hW1, hW4, hops, hnp⟩ := ord_in HP.out (by rw [HORD.out]; exact hov)
            obtain ⟨oA2, oc2, oe, osh⟩ := HOO.out.shape
            injection oe with oe1 oe2 oe3
            obtain ⟨og, hog, oc0, -⟩ := osh k hlt
            rw [← oe1] at hog
            subst hog
            rw [List.getD_eq_getElem?_getD, hov] at oc0
            replace oc0 : w6.cell? ⟨og, k, none⟩ = some (.int .i64 (i : Int)) := oc0
            have og6 : og < w6.heap.size := World.block_lt_of_cell? _ _ oc0
            obtain ⟨ab, aq, aA, ac, rfl, ab1, a0, -, a1, aR⟩ := at_Assign (rdUp good_AssignS mR1.out HBW.out) ha
            have ab2 := ab1
            rw [hat] at a0
            obtain ⟨xb, xq, rfl, xb1, x0, -, x1, -, x2, -⟩ := at_Signal (good_SignalS.below mR0.out (Nat.le_refl _) HBW.out) hx
            have xb2 := Nat.lt_of_lt_of_le xb1 HBW.out.size
            rw [hxW] at x1
            have tk : (k : Int) < (O.length : Int) := by omega
            have il := (List.getElem?_eq_some_iff.1 ha).1
            have ti : (i : Int) < (m.2.1.length : Int) := by omega
            have tl := (List.getElem?_eq_some_iff.1 hx).1
            have tt : (t : Int) < (m.1.length : Int) := by omega
            have HA := Lib.hid (And.intro ha (And.intro hat (And.intro hx (And.intro hxW (And.intro hov (And.intro hops hnp))))))
            have HAR := Lib.hid aR
            obtain ⟨Vc, hVc⟩ : ∃ Vc, runV m O V1 k = Vc := ⟨_, rfl⟩
            have HVc := Lib.hid (show ValsIn Vc by rw [← hVc]; exact runV_in HP.out HVI.out k)
            have hVl : Vc.length = m.1.length := by rw [← hVc, runV_len, HL1.out, HVL.out]
            obtain ⟨r, hev, hvr⟩ := expr_some (V := Vc) (W := W) (show opsB Vc.length a.2 = true by rw [hVl]; exact hops)
            have hst := runV_step (V := V1) hov ha hat hx hxW (show exprV a.2 (runV m O V1 k) W = r by rw [hVc]; exact hvr)
            rw [hVc] at hst HO
            have HST := Lib.hid hst
            have HEV := Lib.hid hev
            have HVL2 := Lib.hid hVl
            have HOI := Lib.hid (show OpsIn Vc.length a.2 by rw [hVl]; exact opsIn_of hops hnp)
            have HWW := Lib.hid (And.intro hW1 hW4)
            have fit15 : ∀ z ∈ Vc, Fit z := fun z hz => by have := HVc.out.2 z hz; unfold Fit; omega
            obtain ⟨M, hM, hM15, hm1, hm2⟩ := mask_go W hW4
            have HMS := Lib.hid (mask_succ hM)
            have HMM := Lib.hid hm2
            clear hst hev hVl hvr hM hM15 hm1 hm2 hW1 hW4 hVc
            clear hov ha hat hx hxW hops hnp oe1 oe2 oe3 osh x0 x2 ab1 xb1 aR
            have hS0 : (fun w' => Below w6.heap.size w6 w' ∧ w'.cell? ⟨w.heap.size, 0, none⟩ = some (.slice (some ⟨xb, xq, none⟩) (m.1).length mc0) ∧ w'.cell? ⟨w.heap.size, 1, none⟩ = some (.slice (some ⟨ab, aq, none⟩) (m.2.1).length mc1) ∧ w'.cell? ⟨og, k, none⟩ = some (.int .i64 (i : Int)) ∧ w'.cell? ⟨ab, aq + i * 2, none⟩ = some (.int .i64 (t : Int)) ∧ w'.cell? ⟨ab, aq + i * 2 + 1, none⟩ = some (.slice aA (a.2).length ac) ∧ w'.cell? ⟨xb, xq + t * 3 + 1, none⟩ = some (.int .i64 (W : Int))) w6 := ⟨Below.refl _ _, c0, c1, oc0, a0, a1, x1⟩
            have hS : ∀ {w0 w' : World}, (fun w' => Below w6.heap.size w6 w' ∧ w'.cell? ⟨w.heap.size, 0, none⟩ = some (.slice (some ⟨xb, xq, none⟩) (m.1).length mc0) ∧ w'.cell? ⟨w.heap.size, 1, none⟩ = some (.slice (some ⟨ab, aq, none⟩) (m.2.1).length mc1) ∧ w'.cell? ⟨og, k, none⟩ = some (.int .i64 (i : Int)) ∧ w'.cell? ⟨ab, aq + i * 2, none⟩ = some (.int .i64 (t : Int)) ∧ w'.cell? ⟨ab, aq + i * 2 + 1, none⟩ = some (.slice aA (a.2).length ac) ∧ w'.cell? ⟨xb, xq + t * 3 + 1, none⟩ = some (.int .i64 (W : Int))) w0 → Below w0.heap.size w0 w' → (fun w' => Below w6.heap.size w6 w' ∧ w'.cell? ⟨w.heap.size, 0, none⟩ = some (.slice (some ⟨xb, xq, none⟩) (m.1).length mc0) ∧ w'.cell? ⟨w.heap.size, 1, none⟩ = some (.slice (some ⟨ab, aq, none⟩) (m.2.1).length mc1) ∧ w'.cell? ⟨og, k, none⟩ = some (.int .i64 (i : Int)) ∧ w'.cell? ⟨ab, aq + i * 2, none⟩ = some (.int .i64 (t : Int)) ∧ w'.cell? ⟨ab, aq + i * 2 + 1, none⟩ = some (.slice aA (a.2).length ac) ∧ w'.cell? ⟨xb, xq + t * 3 + 1, none⟩ = some (.int .i64 (W : Int))) w' := fun h hb => ⟨bThen h.1 hb, keep hb h.2.1, keep hb h.2.2.1, keep hb h.2.2.2.1, keep hb h.2.2.2.2.1, keep hb h.2.2.2.2.2.1, keep hb h.2.2.2.2.2.2⟩
            dsimp only at hS0 hS
            go_wp2_with fail
            refine wp_region_noPanic ?_
            refine wp_region_kept 9 10 (fun w' => Below w6.heap.size w6 w' ∧ w'.cell? ⟨w.heap.size, 0, none⟩ = some (.slice (some ⟨xb, xq, none⟩) (m.1).length mc0) ∧ w'.cell? ⟨w.heap.size, 1, none⟩ = some (.slice (some ⟨ab, aq, none⟩) (m.2.1).length mc1) ∧ w'.cell? ⟨og, k, none⟩ = some (.int .i64 (i : Int)) ∧ w'.cell? ⟨ab, aq + i * 2, none⟩ = some (.int .i64 (t : Int)) ∧ w'.cell? ⟨ab, aq + i * 2 + 1, none⟩ = some (.slice aA (a.2).length ac) ∧ w'.cell? ⟨xb, xq + t * 3 + 1, none⟩ = some (.int .i64 (W : Int))) (by kernel_rfl) rfl (hS hS0 (Below.drew (Below.refl _ _))) (fun hK0 => ?_)
            refine Kept.take (v := ?vt0) 0 (by kernel_rfl) rfl (by kernel_rfl) (fun _ _ _ h => h) (Or.inl ⟨by rfl, ?hyt0⟩) hK0 ?restt0
            case hyt0 =>
              intro w0 hSw
              (try dsimp only at hSw)
              go_simp
              all_goals (with_reducible rfl)
            (try simp only [Act.put, List.setIfInBounds_toArray, List.set_cons_zero, List.set_cons_succ])
            refine Kept.take (v := ?vt1) 1 (by kernel_rfl) rfl (by kernel_rfl) (fun _ _ _ h => h) (Or.inl ⟨by rfl, ?hyt1⟩) hK0 ?restt1
            case hyt1 =>
              intro w0 hSw
              (try dsimp only at hSw)
              go_simp
              all_goals (with_reducible rfl)
            (try simp only [Act.put, List.setIfInBounds_toArray, List.set_cons_zero, List.set_cons_succ])
            refine Kept.take (v := ?vt2) 2 (by kernel_rfl) rfl (by kernel_rfl) (fun _ _ _ h => h) (Or.inl ⟨by rfl, ?hyt2⟩) hK0 ?restt2
            case hyt2 =>
              intro w0 hSw
              (try dsimp only at hSw)
              go_simp
              all_goals (with_reducible rfl)
            (try simp only [Act.put, List.setIfInBounds_toArray, List.set_cons_zero, List.set_cons_succ])
            refine Kept.take (v := ?vt3) 3 (by kernel_rfl) rfl (by kernel_rfl) (fun _ _ _ h => h) (Or.inl ⟨by rfl, ?hyt3⟩) hK0 ?restt3
            case hyt3 =>
              intro w0 hSw
              (try dsimp only at hSw)
              go_simp
              all_goals (with_reducible rfl)
            (try simp only [Act.put, List.setIfInBounds_toArray, List.set_cons_zero, List.set_cons_succ])
            refine Kept.take (v := ?vt4) 4 (by kernel_rfl) rfl (by kernel_rfl) (fun _ _ _ h => h) (Or.inl ⟨by rfl, ?hyt4⟩) hK0 ?restt4
            case hyt4 =>
              intro w0 hSw
              (try dsimp only at hSw)
              go_simp
              all_goals (with_reducible rfl)
            (try simp only [Act.put, List.setIfInBounds_toArray, List.set_cons_zero, List.set_cons_succ])
            refine Kept.take (v := ?vt5) 5 (by kernel_rfl) rfl (by kernel_rfl) (fun _ _ _ h => h) (Or.inl ⟨by rfl, ?hyt5⟩) hK0 ?restt5
            case hyt5 =>
              intro w0 hSw
              (try dsimp only at hSw)
              go_simp
              all_goals (with_reducible rfl)
            (try simp only [Act.put, List.setIfInBounds_toArray, List.set_cons_zero, List.set_cons_succ])
            refine Kept.take (v := ?vt6) 6 (by kernel_rfl) rfl (by kernel_rfl) (fun _ _ _ h => h) (Or.inl ⟨by rfl, ?hyt6⟩) hK0 ?restt6
            case hyt6 =>
              intro w0 hSw
              (try dsimp only at hSw)
              go_simp
              all_goals (with_reducible rfl)
            (try simp only [Act.put, List.setIfInBounds_toArray, List.set_cons_zero, List.set_cons_succ])
            refine Kept.take (v := ?vt7) 7 (by kernel_rfl) rfl (by kernel_rfl) (fun _ _ _ h => h) (Or.inl ⟨by rfl, ?hyt7⟩) hK0 ?restt7
            case hyt7 =>
              intro w0 hSw
              (try dsimp only at hSw)
              go_simp
              all_goals (with_reducible rfl)
            (try simp only [Act.put, List.setIfInBounds_toArray, List.set_cons_zero, List.set_cons_succ])
            refine Kept.one 8 (by kernel_rfl) rfl (fun K hK => ?_)
            go_simp
            refine hK.out _ _ (hS hK0 (bAlloc (Below.refl _ _) (Nat.le_refl _) _)) (fun hK1 => ?_)
            clear hK K hK0
            (try simp only [Act.put, List.setIfInBounds_toArray, List.set_cons_zero, List.set_cons_succ])
            refine Kept.tail (by rfl) (by kernel_rfl) ?_
            simp only [List.drop_succ_cons, List.drop_zero]
            go_wp2
            refine NoPanic.normal ?_
            obtain ⟨V, hV⟩ : ∃ V, V = (w6.alloc (.cells #[.int .i64 (t : Int), .slice aA (a.2).length ac] 102)).drew := ⟨_, rfl⟩
            rw [← hV]
            have hbv : Below w6.heap.size w6 V := by rw [hV]; exact Below.drew (bAlloc (Below.refl _ _) (Nat.le_refl _) _)
            have sg : V.heap[w6.heap.size]? = some (.cells #[.int .i64 (t : Int), .slice aA (a.2).length ac] 102 (0, 0)) := by rw [hV]; exact heap_alloc_new _ _
            have b0 : V.cell? ⟨w6.heap.size, 0, none⟩ = some (.int .i64 (t : Int)) := box_cell sg 0 _ rfl
            have b1 : V.cell? ⟨w6.heap.size, 1, none⟩ = some (.slice aA (a.2).length ac) := box_cell sg 1 _ rfl
            replace c0 := keep hbv c0
            replace x1 := keep hbv x1
            have HBV := Lib.hid hbv
            clear hV hbv sg hK1 hS hS0 c1 a0 a1 oc0
            have hS0 : (fun w' => Below V.heap.size V w' ∧ w'.cell? ⟨w6.heap.size, 0, none⟩ = some (.int .i64 (t : Int)) ∧ w'.cell? ⟨w6.heap.size, 1, none⟩ = some (.slice aA (a.2).length ac) ∧ w'.cell? ⟨w.heap.size, 0, none⟩ = some (.slice (some ⟨xb, xq, none⟩) (m.1).length mc0) ∧ w'.cell? ⟨xb, xq + t * 3 + 1, none⟩ = some (.int .i64 (W : Int))) V := ⟨Below.refl _ _, b0, b1, c0, x1⟩
            have hS : ∀ {w0 w' : World}, (fun w' => Below V.heap.size V w' ∧ w'.cell? ⟨w6.heap.size, 0, none⟩ = some (.int .i64 (t : Int)) ∧ w'.cell? ⟨w6.heap.size, 1, none⟩ = some (.slice aA (a.2).length ac) ∧ w'.cell? ⟨w.heap.size, 0, none⟩ = some (.slice (some ⟨xb, xq, none⟩) (m.1).length mc0) ∧ w'.cell? ⟨xb, xq + t * 3 + 1, none⟩ = some (.int .i64 (W : Int))) w0 → Below w0.heap.size w0 w' → (fun w' => Below V.heap.size V w' ∧ w'.cell? ⟨w6.heap.size, 0, none⟩ = some (.int .i64 (t : Int)) ∧ w'.cell? ⟨w6.heap.size, 1, none⟩ = some (.slice aA (a.2).length ac) ∧ w'.cell? ⟨w.heap.size, 0, none⟩ = some (.slice (some ⟨xb, xq, none⟩) (m.1).length mc0) ∧ w'.cell? ⟨xb, xq + t * 3 + 1, none⟩ = some (.int .i64 (W : Int))) w' := fun h hb => ⟨bThen h.1 hb, keep hb h.2.1, keep hb h.2.2.1, keep hb h.2.2.2.1, keep hb h.2.2.2.2⟩
            dsimp only at hS0 hS
            go_wp2_with fail
            refine wp_region_noPanic ?_
            refine wp_region_kept 17 18 (fun w' => Below V.heap.size V w' ∧ w'.cell? ⟨w6.heap.size, 0, none⟩ = some (.int .i64 (t : Int)) ∧ w'.cell? ⟨w6.heap.size, 1, none⟩ = some (.slice aA (a.2).length ac) ∧ w'.cell? ⟨w.heap.size, 0, none⟩ = some (.slice (some ⟨xb, xq, none⟩) (m.1).length mc0) ∧ w'.cell? ⟨xb, xq + t * 3 + 1, none⟩ = some (.int .i64 (W : Int))) (by kernel_rfl) rfl (hS hS0 (Below.drew (Below.refl _ _))) (fun hK0 => ?_)
            refine Kept.take (v := ?vu0) 0 (by kernel_rfl) rfl (by kernel_rfl) (fun _ _ _ h => h) (Or.inl ⟨by rfl, ?hyu0⟩) hK0 ?restu0
            case hyu0 =>
              intro w0 hSw
              (try dsimp only at hSw)
              go_simp
              all_goals (with_reducible rfl)
            (try simp only [Act.put, List.setIfInBounds_toArray, List.set_cons_zero, List.set_cons_succ])
            refine Kept.take (v := ?vu1) 1 (by kernel_rfl) rfl (by kernel_rfl) (fun _ _ _ h => h) (Or.inl ⟨by rfl, ?hyu1⟩) hK0 ?restu1
            case hyu1 =>
              intro w0 hSw
              (try dsimp only at hSw)
              go_simp
              all_goals (with_reducible rfl)
            (try simp only [Act.put, List.setIfInBounds_toArray, List.set_cons_zero, List.set_cons_succ])
            refine Kept.take (v := ?vu2) 2 (by kernel_rfl) rfl (by kernel_rfl) (fun _ _ _ h => h) (Or.inl ⟨by rfl, ?hyu2⟩) hK0 ?restu2
            case hyu2 =>
              intro w0 hSw
              (try dsimp only at hSw)
              go_simp
              all_goals (with_reducible rfl)
            (try simp only [Act.put, List.setIfInBounds_toArray, List.set_cons_zero, List.set_cons_succ])
            refine Kept.take (v := ?vu3) 3 (by kernel_rfl) rfl (by kernel_rfl) (fun _ _ _ h => h) (Or.inl ⟨by rfl, ?hyu3⟩) hK0 ?restu3
            case hyu3 =>
              intro w0 hSw
              (try dsimp only at hSw)
              go_simp
              all_goals (with_reducible rfl)
            (try simp only [Act.put, List.setIfInBounds_toArray, List.set_cons_zero, List.set_cons_succ])
            refine Kept.take (v := ?vu4) 4 (by kernel_rfl) rfl (by kernel_rfl) (fun _ _ _ h => h) (Or.inl ⟨by rfl, ?hyu4⟩) hK0 ?restu4
            case hyu4 =>
              intro w0 hSw
              (try dsimp only at hSw)
              go_simp
              all_goals (with_reducible rfl)
            (try simp only [Act.put, List.setIfInBounds_toArray, List.set_cons_zero, List.set_cons_succ])
            refine Kept.take (v := ?vu5) 5 (by kernel_rfl) rfl (by kernel_rfl) (fun _ _ _ h => h) (Or.inl ⟨by rfl, ?hyu5⟩) hK0 ?restu5
            case hyu5 =>
              intro w0 hSw
              (try dsimp only at hSw)
              go_simp
              all_goals (with_reducible rfl)
            (try simp only [Act.put, List.setIfInBounds_toArray, List.set_cons_zero, List.set_cons_succ])
            refine Kept.take (v := ?vu6) 6 (by kernel_rfl) rfl (by kernel_rfl) (fun _ _ _ h => h) (Or.inl ⟨by rfl, ?hyu6⟩) hK0 ?restu6
            case hyu6 =>
              intro w0 hSw
              (try dsimp only at hSw)
              go_simp
              all_goals (with_reducible rfl)
            (try simp only [Act.put, List.setIfInBounds_toArray, List.set_cons_zero, List.set_cons_succ])
            refine Kept.take (v := ?vu7) 7 (by kernel_rfl) rfl (by kernel_rfl) (fun _ _ _ h => h) (Or.inl ⟨by rfl, ?hyu7⟩) hK0 ?restu7
            case hyu7 =>
              intro w0 hSw
              (try dsimp only at hSw)
              go_simp
              all_goals (with_reducible rfl)
            (try simp only [Act.put, List.setIfInBounds_toArray, List.set_cons_zero, List.set_cons_succ])
            refine Kept.take (v := ?vu8) 8 (by kernel_rfl) rfl (by kernel_rfl) (fun _ _ _ h => h) (Or.inl ⟨by rfl, ?hyu8⟩) hK0 ?restu8
            case hyu8 =>
              intro w0 hSw
              (try dsimp only at hSw)
              go_simp
              all_goals (with_reducible rfl)
            (try simp only [Act.put, List.setIfInBounds_toArray, List.set_cons_zero, List.set_cons_succ])
            refine Kept.take (v := ?vu9) 9 (by kernel_rfl) rfl (by kernel_rfl) (fun _ _ _ h => h) (Or.inl ⟨by rfl, ?hyu9⟩) hK0 ?restu9
            case hyu9 =>
              intro w0 hSw
              (try dsimp only at hSw)
              go_simp
              all_goals (with_reducible rfl)
            (try simp only [Act.put, List.setIfInBounds_toArray, List.set_cons_zero, List.set_cons_succ])
            refine Kept.take (v := ?vu10) 10 (by kernel_rfl) rfl (by kernel_rfl) (fun _ _ _ h => h) (Or.inl ⟨by rfl, ?hyu10⟩) hK0 ?restu10
            case hyu10 =>
              intro w0 hSw
              (try dsimp only at hSw)
              go_simp
              all_goals (with_reducible rfl)
            (try simp only [Act.put, List.setIfInBounds_toArray, List.set_cons_zero, List.set_cons_succ])
            refine Kept.take (v := ?vu11) 11 (by kernel_rfl) rfl (by kernel_rfl) (fun _ _ _ h => h) (Or.inl ⟨by rfl, ?hyu11⟩) hK0 ?restu11
            case hyu11 =>
              intro w0 hSw
              (try dsimp only at hSw)
              go_simp
              all_goals (with_reducible rfl)
            (try simp only [Act.put, List.setIfInBounds_toArray, List.set_cons_zero, List.set_cons_succ])
            refine Kept.one 12 (by kernel_rfl) rfl (fun K hK => ?_)
            go_simp
            (try simp only [HMM.out])
            go_at_call 72
            refine (specEv_all (ov := .slice aA (a.2).length ac) (vv := .slice A' st.1.length c') HOI.out HVc.out HWW.out.1 HWW.out.2 HMS.out 16 0 r (a.2).length _ (rdUp good_OpS HAR.out (bThen HBV.out hK0.1)) (ownI_rd (HO.out.below (bThen HBV.out hK0.1)) fit15) HEV.out).mono ?_
            rintro e w8 ⟨rfl, hb8⟩
            go_simp
            refine hK.out _ _ (hS hK0 hb8) (fun hK1 => ?_)
            clear hK K hK0
            (try simp only [Act.put, List.setIfInBounds_toArray, List.set_cons_zero, List.set_cons_succ])
            refine Kept.take (v := ?vu13) 13 (by kernel_rfl) rfl (by kernel_rfl) (fun _ _ _ h => h) (Or.inl ⟨by rfl, ?hyu13⟩) hK1 ?restu13
            case hyu13 =>
              intro w0 hSw
              (try dsimp only at hSw)
              go_simp
              all_goals (with_reducible rfl)
            (try simp only [Act.put, List.setIfInBounds_toArray, List.set_cons_zero, List.set_cons_succ])
            refine Kept.take (v := ?vu14) 14 (by kernel_rfl) rfl (by kernel_rfl) (fun _ _ _ h => h) (Or.inl ⟨by rfl, ?hyu14⟩) hK1 ?restu14
            case hyu14 =>
              intro w0 hSw
              (try dsimp only at hSw)
              go_simp
              all_goals (with_reducible rfl)
            (try simp only [Act.put, List.setIfInBounds_toArray, List.set_cons_zero, List.set_cons_succ])
            refine Kept.take (v := ?vu15) 15 (by kernel_rfl) rfl (by kernel_rfl) (fun _ _ _ h => h) (Or.inl ⟨by rfl, ?hyu15⟩) hK1 ?restu15
            case hyu15 =>
              intro w0 hSw
              (try dsimp only at hSw)
              go_simp
              all_goals (with_reducible rfl)
            (try simp only [Act.put, List.setIfInBounds_toArray, List.set_cons_zero, List.set_cons_succ])
            refine Kept.take (v := ?vu16) 16 (by kernel_rfl) rfl (by kernel_rfl) (fun _ _ _ h => h) (Or.inl ⟨by rfl, ?hyu16⟩) hK1 ?restu16
            case hyu16 =>
              intro w0 hSw
              (try dsimp only at hSw)
              go_simp
              all_goals (with_reducible rfl)
            (try simp only [Act.put, List.setIfInBounds_toArray, List.set_cons_zero, List.set_cons_succ])
            refine Kept.tail (by rfl) (by kernel_rfl) ?_
            simp only [List.drop_succ_cons, List.drop_zero]
            go_wp2
            refine NoPanic.normal ?_
            obtain ⟨p0, p1, p2, -⟩ := hK1
            have HB8 := Lib.hid (bThen HBV.out p0)
            have P1 := p1
            clear p0 p1 p2 hb8 hS hS0 b0 b1 c0 x1
            have Q3 := HO.out.below HB8.out
            have Q4 := HOO.out.below HB8.out
            have tl2 : t < m.1.length := by omega
            have ks : t < st.1.length := by rw [HVL.out]; exact tl2
            have hLc : Vc.length = st.1.length := by rw [HVL2.out, HVL.out]
            obtain ⟨A2, c2, e2, hsh⟩ := Q3.shape
            injection e2 with e2 e3 e4
            obtain ⟨g, hg, -⟩ := hsh t (by rw [hLc]; exact ks)
            rw [hg] at e2
            subst e2 e4
            have gf := ownI_cell Q3 hLc ks
            have u0 := gf.1
            have u1 := gf.2
            have HQ3 := Lib.hid Q3
            have HQ4 := Lib.hid Q4
            have gB : w2.heap.size ≤ g := (Q3.lt g rfl).1
            have gne : og ≠ g := by have a := (Q4.lt og rfl).1; have b := HGL.out g rfl; omega
            have HLC := Lib.hid hLc
            have tl3 : (t : Int) < (st.1.length : Int) := by omega
            clear gf Q3 Q4 hsh hg e3 hLc
            go_wp2
            go_roundw
            case rel =>
              have h3 := ownI_set HQ3.out HLC.out ks r
              rw [HST.out] at h3
              have h4 := ownI_far (g := g) (k := t) (u := .int .i64 r) HQ4.out (by intro e; injection e with e; exact gne e)
              exact ⟨k + 1, by omega, by go_num, h3, h4, bSet (p := ⟨g, t, none⟩) (bThen HB6.out HB8.out) gB (.int .i64 r)⟩
            case measure => simp [intOf]; omega
          · obtain rfl : k = O.length := by omega
            have HE := Lib.hid (show runV m O V1 O.length = L by rw [← sig_yes HX.out HF.out (by rw [HKW.out]; exact HNE.out)]; unfold sigV; rw [HORD.out, HV1.out])
            rw [HE.out] at HO
            have HLL := Lib.hid (show L.length = st.1.length by rw [← HE.out, runV_len, HL1.out])
            clear c0 c1 hlt
            go_wp2
            go_ret
            exact ⟨_, rfl, HO.out.lower HB.out.size, HBW.out⟩
end Go.Proofs.YtmjofpfkgbnknaaGreat
/- ISv: SignalValues: the program. -/
namespace Go.Proofs.YtmjofpfkgbnknaaGreat
open Go.RowKit
set_option linter.unusedVariables false
set_option linter.unusedSimpArgs false

theorem flatI_vI (L : List Int) : L.flatMap fInt = L.map vI := by
  induction L with
  | nil => rfl
  | cons x L ih => rw [List.flatMap_cons, ih]; rfl
theorem implOneEach_at (m : DModule) (ins : List Int) (us : List Value) (nv : Value) (w : World) (h : rdModule 0 w.heap.size w us m) (hn : rdIntS 0 w.heap.size w [nv] ins) {r : Bool} (hr : insB m ins = r) :
    Calls Tryz.prog 78 #[.agg us.toArray, nv] w fun e w' => e = .returned (.bool r) ∧ Below w.heap.size w w' := by
  have HM := Lib.hid h
  obtain ⟨mu0, mu1, mu2, mu3, rfl, mh0, mh1, mh2, mh3⟩ := h
  obtain ⟨mA0, mc0, me0, mm0, -⟩ := slice_of mh0
  subst me0
  have mR0 := Lib.hid mh0
  clear mh0
  obtain ⟨mA1, mc1, me1, mm1, -⟩ := slice_of mh1
  subst me1
  have mR1 := Lib.hid mh1
  clear mh1
  obtain ⟨mA2, mc2, me2, mm2, -⟩ := slice_of mh2
  subst me2
  have mR2 := Lib.hid mh2
  clear mh2
  obtain ⟨mA3, mc3, me3, mm3, -⟩ := slice_of mh3
  subst me3
  have mR3 := Lib.hid mh3
  clear mh3
  obtain ⟨nA, nc, rfl, nm, -⟩ := slice_of hn
  obtain ⟨K, hK⟩ : ∃ K, widthsL m 0 = K := ⟨_, rfl⟩
  obtain ⟨q, hq⟩ : ∃ q, ((ins.length : Int) == (K.length : Int)) = q := ⟨_, rfl⟩
  have HQ := Lib.hid (show q = r by
    rw [← hr, ← hq]; unfold insB; rw [hK]
    by_cases e : ins.length = K.length
    · simp [e]
    · rw [decide_eq_false e]; simp; omega)
  have HKW := Lib.hid hK
  clear hr hK
  go_enter Tryz.func78, Tryz.ntmps78
  go_wp2_with fail
  obtain ⟨W0, hV⟩ : ∃ W0, W0 = (w.alloc (.cells #[.slice mA0 (m.1).length mc0, .slice mA1 (m.2.1).length mc1, .slice mA2 (m.2.2.1).length mc2, .slice mA3 (m.2.2.2).length mc3] 31)) := ⟨_, rfl⟩
  rw [← hV]
  have gN := eqbox1 hV
  have d0 : W0.cell? ⟨w.heap.size, 0, none⟩ = some (.slice mA0 (m.1).length mc0) := box_cell gN.1 0 _ rfl
  have d1 : W0.cell? ⟨w.heap.size, 1, none⟩ = some (.slice mA1 (m.2.1).length mc1) := box_cell gN.1 1 _ rfl
  have d2 : W0.cell? ⟨w.heap.size, 2, none⟩ = some (.slice mA2 (m.2.2.1).length mc2) := box_cell gN.1 2 _ rfl
  have d3 : W0.cell? ⟨w.heap.size, 3, none⟩ = some (.slice mA3 (m.2.2.2).length mc3) := box_cell gN.1 3 _ rfl
  have sW0 : W0.heap.size = w.heap.size + 1 := by rw [hV]; simp
  have HW0 := Lib.hid gN.2
  clear hV gN
  have hw := implWidths_any m 0 _ _ (rdUp good_Module HM.out HW0.out) (Nat.le_refl _)
  rw [HKW.out] at hw
  refine hw.mono ?_
  rintro e w1 ⟨v, rfl, hown, hb⟩
  obtain ⟨A, c, rfl, -⟩ := hown.shape
  have HB := Lib.hid (bThen HW0.out hb)
  clear hb hown hw
  go_wp2
  go_ret
  exact ⟨ret_bool HQ.out, HB.out⟩
set_option maxRecDepth 100000 in
set_option maxHeartbeats 12800000 in
theorem implSigV_at (m : DModule) (st : DWordState) (ins : List Int) (us vs : List Value) (nv : Value) (w : World) (h : rdModule 0 w.heap.size w us m) (hs : rdWordState 0 w.heap.size w vs st) (hn : rdIntS 0 w.heap.size w [nv] ins) (hP : FlatP m) (hV : ValsIn st.1) (hvl : st.1.length = m.1.length) (hil : ins.length = (widthsL m 0).length) {L : List Int} (hL : sigV m st.1 ins = L) :
    Calls Tryz.prog 79 #[.agg us.toArray, .agg vs.toArray, nv] w fun e w' => ∃ v, e = .returned v ∧ OwnsI w' w.heap.size v L ∧ Below w.heap.size w w' := by
  have HM := Lib.hid h
  have HX := Lib.hid hL
  have HP := Lib.hid hP
  have HV := Lib.hid hV
  have HVL := Lib.hid hvl
  have HNE := Lib.hid hil
  have l0 := hP.mod.l0
  have l1 := hP.mod.l1
  have hs1 : st.1.length ≤ 30 := by omega
  clear hL hP hV hvl hil
  obtain ⟨mu0, mu1, mu2, mu3, rfl, mh0, mh1, mh2, mh3⟩ := h
  obtain ⟨mA0, mc0, me0, mm0, -⟩ := slice_of mh0
  subst me0
  have mR0 := Lib.hid mh0
  clear mh0
  obtain ⟨mA1, mc1, me1, mm1, -⟩ := slice_of mh1
  subst me1
  have mR1 := Lib.hid mh1
  clear mh1
  obtain ⟨mA2, mc2, me2, mm2, -⟩ := slice_of mh2
  subst me2
  have mR2 := Lib.hid mh2
  clear mh2
  obtain ⟨mA3, mc3, me3, mm3, -⟩ := slice_of mh3
  subst me3
  have mR3 := Lib.hid mh3
  clear mh3
  obtain ⟨su0, su1, rfl, sh0, sh1⟩ := hs
  obtain ⟨sA0, sc0, se0, sm0, -⟩ := slice_of sh0
  subst se0
  have sR0 := Lib.hid sh0
  clear sh0
  obtain ⟨sA1, sc1, se1, sm1, -⟩ := slice_of sh1
  subst se1
  have sR1 := Lib.hid sh1
  clear sh1
  obtain ⟨nA, nc, rfl, nm, -⟩ := slice_of hn
  have HN := Lib.hid hn
  clear hn
  go_enter Tryz.func79, Tryz.ntmps79
  go_wp2_with fail
  obtain ⟨W0, hV⟩ : ∃ W0, W0 = ((w.alloc (.cells #[.slice mA0 (m.1).length mc0, .slice mA1 (m.2.1).length mc1, .slice mA2 (m.2.2.1).length mc2, .slice mA3 (m.2.2.2).length mc3] 31)).alloc (.cells #[.slice sA0 (st.1).length sc0, .slice sA1 (st.2).length sc1] 56)) := ⟨_, rfl⟩
  rw [← hV]
  have gN := eqbox2 hV
  have d0 : W0.cell? ⟨w.heap.size, 0, none⟩ = some (.slice mA0 (m.1).length mc0) := box_cell gN.1 0 _ rfl
  have d1 : W0.cell? ⟨w.heap.size, 1, none⟩ = some (.slice mA1 (m.2.1).length mc1) := box_cell gN.1 1 _ rfl
  have d2 : W0.cell? ⟨w.heap.size, 2, none⟩ = some (.slice mA2 (m.2.2.1).length mc2) := box_cell gN.1 2 _ rfl
  have d3 : W0.cell? ⟨w.heap.size, 3, none⟩ = some (.slice mA3 (m.2.2.2).length mc3) := box_cell gN.1 3 _ rfl
  have e0 : W0.cell? ⟨w.heap.size + 1, 0, none⟩ = some (.slice sA0 (st.1).length sc0) := box_cell gN.2.1 0 _ rfl
  have e1 : W0.cell? ⟨w.heap.size + 1, 1, none⟩ = some (.slice sA1 (st.2).length sc1) := box_cell gN.2.1 1 _ rfl
  have sW0 : W0.heap.size = w.heap.size + 2 := by rw [hV]; simp
  have HW0 := Lib.hid gN.2.2
  clear hV gN
  refine (cloneInt_at st.1 sA0 st.1.length sc0 _ (rdUp good_IntS sR0.out HW0.out) (by omega)).mono ?_
  rintro e w3 ⟨A', c', rfl, hg, hb⟩
  replace d0 := keep hb d0
  replace d1 := keep hb d1
  replace d2 := keep hb d2
  replace d3 := keep hb d3
  replace e0 := keep hb e0
  replace e1 := keep hb e1
  have HB3 := Lib.hid (bThen HW0.out hb)
  have sw3 := hb.size
  have HB03 := Lib.hid (show Below W0.heap.size W0 w3 from hb)
  have HO := Lib.hid (show OwnsI w3 W0.heap.size (.slice A' st.1.length c') st.1 by
    have a := hg.own
    unfold OwnsR at a
    rw [flatI_vI] at a
    exact a)
  clear hg hb e0 e1
  go_wp2
  go_loopw [8, 22] (fun kv sv wr => ∃ k : Nat, k ≤ m.1.length ∧ kv = .int .i64 (inK m k : Int) ∧ sv = .int .i64 (k : Int) ∧ OwnsI wr W0.heap.size (.slice A' st.1.length c') (insV m st.1 ins k) ∧ Below W0.heap.size W0 wr ∧ Below w.heap.size w wr ∧ wr.cell? ⟨w.heap.size, 0, none⟩ = some (.slice mA0 (m.1).length mc0) ∧ wr.cell? ⟨w.heap.size, 1, none⟩ = some (.slice mA1 (m.2.1).length mc1) ∧ wr.cell? ⟨w.heap.size, 2, none⟩ = some (.slice mA2 (m.2.2.1).length mc2) ∧ wr.cell? ⟨w.heap.size, 3, none⟩ = some (.slice mA3 (m.2.2.2).length mc3)) (fun _ v _ => m.1.length - (intOf v).toNat)
  case atStart => exact ⟨0, Nat.zero_le _, by rw [inK_zero]; rfl, rfl, HO.out, HB03.out, HB3.out, d0, d1, d2, d3⟩
  case round =>
    obtain ⟨k, hk, rfl, rfl, hown, hb0, hb, c0, c1, c2, c3⟩ := hrel
    obtain ⟨w4, rfl⟩ : ∃ w4, w4 = wr := ⟨_, rfl⟩
    clear HO HB3 HB03 d0 d1 d2 d3
    have HO := Lib.hid hown
    have HB03 := Lib.hid hb0
    have HBW := Lib.hid hb
    have C4 := Lib.hid (And.intro c0 (And.intro c1 (And.intro c2 c3)))
    have lt4 : w.heap.size < w4.heap.size := World.block_lt_of_cell? _ _ c0
    clear hown hb hb0
    by_cases hlt : k < m.1.length
    · obtain ⟨x, hx⟩ : ∃ x, m.1[k]? = some x := ⟨_, List.getElem?_eq_getElem hlt⟩
      obtain ⟨W, hxW, hW⟩ := HP.out.wid k x hx
      obtain ⟨xb, xq, rfl, xb1, x0, -, x1, -, x2, -⟩ := at_Signal (good_SignalS.below mR0.out (Nat.le_refl _) HBW.out) hx
      have xb2 := Nat.lt_of_lt_of_le xb1 HBW.out.size
      rw [hxW] at x1
      obtain ⟨kd, hkd⟩ : ∃ kd, x.1 = kd := ⟨_, rfl⟩
      rw [hkd] at x0
      obtain ⟨i2, hi2⟩ : ∃ i2, x.2.2 = i2 := ⟨_, rfl⟩
      rw [hi2] at x2
      have tk : (k : Int) < (m.1.length : Int) := by omega
      by_cases h0 : kd = 0
      · have b0 : (kd == 0) = true := by simp [h0]
        have hq0 : x.1 = 0 := hkd.trans h0
        have HQ1 := Lib.hid (inK_yes hx hq0)
        have hkl : inK m k < ins.length := by have a := inK_lt l0 hx hq0; rw [HNE.out]; exact a
        obtain ⟨y, hy⟩ : ∃ y : Int, ins[inK m k]? = some y := ⟨_, List.getElem?_eq_getElem hkl⟩
        obtain ⟨r, hr⟩ : ∃ r, cutI y W = r := ⟨_, rfl⟩
        have HIV := Lib.hid (insV_yes (st := st.1) hx hq0 hxW hy hr)
        have HRR := Lib.hid hr
        have HW4 := Lib.hid hW.2
        obtain ⟨q, hq⟩ : ∃ q, inK m k = q := ⟨_, rfl⟩
        rw [hq] at HQ1 hkl hy ⊢
        obtain ⟨yb, yq, rfl, yb1, y0, -⟩ := at_Int (good_IntS.below HN.out (Nat.le_refl _) HBW.out) hy
        have yb2 := Nat.lt_of_lt_of_le yb1 HBW.out.size
        have tq : (q : Int) < (ins.length : Int) := by omega
        have q30 : q ≤ 30 := by have := inK_le (m := m) k; omega
        clear hx hxW hr hW hkd hq0 hy hq xb1 yb1 hi2
        go_wp2_with fail
        obtain ⟨V, hV⟩ : ∃ V, V = w4.alloc (.cells #[.int .i64 0, .int .i64 (W : Int), .int .i64 i2] 97) := ⟨_, rfl⟩
        rw [← hV]
        have gN := eqbox1 hV
        have y1 : V.cell? ⟨w4.heap.size, 1, none⟩ = some (.int .i64 (W : Int)) := box_cell gN.1 1 _ rfl
        replace y0 := keep gN.2 y0
        have HV1 := Lib.hid gN.2
        clear hV gN x0 x1 x2 b0 h0 c0 c1 c2 c3
        have hS0 : (fun w' => Below V.heap.size V w' ∧ w'.cell? ⟨w4.heap.size, 1, none⟩ = some (.int .i64 (W : Int)) ∧ w'.cell? ⟨yb, yq + q, none⟩ = some (.int .i64 y)) V := ⟨Below.refl _ _, y1, y0⟩
        have hS : ∀ {w0 w' : World}, (fun w' => Below V.heap.size V w' ∧ w'.cell? ⟨w4.heap.size, 1, none⟩ = some (.int .i64 (W : Int)) ∧ w'.cell? ⟨yb, yq + q, none⟩ = some (.int .i64 y)) w0 → Below w0.heap.size w0 w' → (fun w' => Below V.heap.size V w' ∧ w'.cell? ⟨w4.heap.size, 1, none⟩ = some (.int .i64 (W : Int)) ∧ w'.cell? ⟨yb, yq + q, none⟩ = some (.int .i64 y)) w' := fun h hb => ⟨bThen h.1 hb, keep hb h.2.1, keep hb h.2.2⟩
        dsimp only at hS0 hS
        refine wp_region_noPanic ?_
        refine wp_region_kept 9 11 (fun w' => Below V.heap.size V w' ∧ w'.cell? ⟨w4.heap.size, 1, none⟩ = some (.int .i64 (W : Int)) ∧ w'.cell? ⟨yb, yq + q, none⟩ = some (.int .i64 y)) (by kernel_rfl) rfl (hS hS0 (Below.drew (Below.refl _ _))) (fun hK0 => ?_)
        refine Kept.take (v := ?vs0) 0 (by kernel_rfl) rfl (by kernel_rfl) (fun _ _ _ h => h) (Or.inl ⟨by rfl, ?hys0⟩) hK0 ?rests0
        case hys0 =>
          intro w0 hSw
          (try dsimp only at hSw)
          go_simp
          all_goals (with_reducible rfl)
        (try simp only [Act.put, List.setIfInBounds_toArray, List.set_cons_zero, List.set_cons_succ])
        refine Kept.take (v := ?vs1) 1 (by kernel_rfl) rfl (by kernel_rfl) (fun _ _ _ h => h) (Or.inl ⟨by rfl, ?hys1⟩) hK0 ?rests1
        case hys1 =>
          intro w0 hSw
          (try dsimp only at hSw)
          go_simp
          all_goals (with_reducible rfl)
        (try simp only [Act.put, List.setIfInBounds_toArray, List.set_cons_zero, List.set_cons_succ])
        refine Kept.take (v := ?vs2) 2 (by kernel_rfl) rfl (by kernel_rfl) (fun _ _ _ h => h) (Or.inl ⟨by rfl, ?hys2⟩) hK0 ?rests2
        case hys2 =>
          intro w0 hSw
          (try dsimp only at hSw)
          go_simp
          all_goals (with_reducible rfl)
        (try simp only [Act.put, List.setIfInBounds_toArray, List.set_cons_zero, List.set_cons_succ])
        refine Kept.take (v := ?vs3) 3 (by kernel_rfl) rfl (by kernel_rfl) (fun _ _ _ h => h) (Or.inl ⟨by rfl, ?hys3⟩) hK0 ?rests3
        case hys3 =>
          intro w0 hSw
          (try dsimp only at hSw)
          go_simp
          all_goals (with_reducible rfl)
        (try simp only [Act.put, List.setIfInBounds_toArray, List.set_cons_zero, List.set_cons_succ])
        refine Kept.take (v := ?vs4) 4 (by kernel_rfl) rfl (by kernel_rfl) (fun _ _ _ h => h) (Or.inl ⟨by rfl, ?hys4⟩) hK0 ?rests4
        case hys4 =>
          intro w0 hSw
          (try dsimp only at hSw)
          go_simp
          all_goals (with_reducible rfl)
        (try simp only [Act.put, List.setIfInBounds_toArray, List.set_cons_zero, List.set_cons_succ])
        refine Kept.take (v := ?vs5) 5 (by kernel_rfl) rfl (by kernel_rfl) (fun _ _ _ h => h) (Or.inl ⟨by rfl, ?hys5⟩) hK0 ?rests5
        case hys5 =>
          intro w0 hSw
          (try dsimp only at hSw)
          go_simp
          all_goals (with_reducible rfl)
        (try simp only [Act.put, List.setIfInBounds_toArray, List.set_cons_zero, List.set_cons_succ])
        refine Kept.take (v := ?vs6) 6 (by kernel_rfl) rfl (by kernel_rfl) (fun _ _ _ h => h) (Or.inl ⟨by rfl, ?hys6⟩) hK0 ?rests6
        case hys6 =>
          intro w0 hSw
          (try dsimp only at hSw)
          go_simp
          all_goals (with_reducible rfl)
        (try simp only [Act.put, List.setIfInBounds_toArray, List.set_cons_zero, List.set_cons_succ])
        refine Kept.take (v := ?vs7) 7 (by kernel_rfl) rfl (by kernel_rfl) (fun _ _ _ h => h) (Or.inl ⟨by rfl, ?hys7⟩) hK0 ?rests7
        case hys7 =>
          intro w0 hSw
          (try dsimp only at hSw)
          go_simp
          all_goals (with_reducible rfl)
        (try simp only [Act.put, List.setIfInBounds_toArray, List.set_cons_zero, List.set_cons_succ])
        refine Kept.one 8 (by kernel_rfl) rfl (fun K hK => ?_)
        go_simp
        go_at_call 115
        refine (implCut_at (r := r) y W HW4.out _ HRR.out).mono ?_
        rintro e w9 ⟨rfl, rfl⟩
        go_simp
        refine hK.out _ _ (hK0) (fun hK1 => ?_)
        clear hK K hK0
        (try simp only [Act.put, List.setIfInBounds_toArray, List.set_cons_zero, List.set_cons_succ])
        refine Kept.tail (by rfl) (by kernel_rfl) ?_
        simp only [List.drop_succ_cons, List.drop_zero]
        have HB4 := Lib.hid (bThen HV1.out hK1.1)
        have Q3 := HO.out.below HB4.out
        have HIL := (insV_len (m := m) (st := st.1) (ins := ins) k)
        obtain ⟨A2, c2, e2, hsh⟩ := Q3.shape
        injection e2 with e2 e3 e4
        obtain ⟨g, hg, -⟩ := hsh k (by rw [HIL, HVL.out]; omega)
        rw [hg] at e2
        subst e2 e4
        have ks : k < st.1.length := by rw [HVL.out]; exact hlt
        have gf := ownI_cell Q3 HIL ks
        have u0 := gf.1
        have u1 := gf.2
        have HQ3 := Lib.hid Q3
        have gB : W0.heap.size ≤ g := (Q3.lt g rfl).1
        have tl : (k : Int) < (st.1.length : Int) := by omega
        clear gf Q3 hK1 hS hS0 y0 y1 hsh hg e3
        go_wp2
        refine NoPanic.normal ?_
        go_wp2
        go_roundw
        case rel =>
          have h3 := ownI_set HQ3.out HIL ks r
          rw [HIV.out] at h3
          have cf : ∀ i v, w4.cell? ⟨w.heap.size, i, none⟩ = some v → _ := fun i v h => (World.cell?_setCell_other _ ⟨g, k, none⟩ ⟨w.heap.size, i, none⟩ (.int .i64 r) (by intro e; injection e with e; omega)).trans (keep HB4.out h)
          exact ⟨k + 1, by omega, by rw [HQ1.out]; go_num, by go_num, h3, bSet (p := ⟨g, k, none⟩) (bThen HB03.out HB4.out) gB (.int .i64 r), bSet (p := ⟨g, k, none⟩) (bThen HBW.out HB4.out) (by dsimp only; omega) (.int .i64 r), cf _ _ C4.out.1, cf _ _ C4.out.2.1, cf _ _ C4.out.2.2.1, cf _ _ C4.out.2.2.2⟩
        case measure => simp [intOf]; omega
      · have b0 : (kd == 0) = false := by simp [h0]
        have hq0 : ¬ x.1 = 0 := by rw [hkd]; exact h0
        have HQ1 := Lib.hid (inK_no hx hq0)
        have HIV := Lib.hid (insV_no (st := st.1) (ins := ins) hx hq0)
        have hba : ∀ o, Below w4.heap.size w4 (w4.alloc o) := fun o => bAlloc (Below.refl _ _) (Nat.le_refl _) _
        clear hx hxW hW hkd hq0 xb1 h0 hi2
        go_wp2
        go_roundw
        case rel => exact ⟨k + 1, by omega, by rw [HQ1.out], by go_num, by rw [HIV.out]; exact HO.out.below (hba _), bThen HB03.out (hba _), bThen HBW.out (hba _), keep (hba _) C4.out.1, keep (hba _) C4.out.2.1, keep (hba _) C4.out.2.2.1, keep (hba _) C4.out.2.2.2⟩
        case measure => simp [intOf]; omega
    · obtain rfl : k = m.1.length := by omega
      obtain ⟨V1, hV1⟩ : ∃ V1, insV m st.1 ins m.1.length = V1 := ⟨_, rfl⟩
      have HV1 := Lib.hid hV1
      have HVI := Lib.hid (show ValsIn V1 by rw [← hV1]; exact insV_in HP.out HV.out _)
      have HL1 := Lib.hid (show V1.length = st.1.length by rw [← hV1]; exact insV_len _)
      rw [hV1] at HO
      obtain ⟨rb, hrb⟩ : ∃ rb, (orderO m).isSome = rb := ⟨_, rfl⟩
      obtain ⟨O, hO⟩ : ∃ O, ordL m = O := ⟨_, rfl⟩
      have HRB := Lib.hid hrb
      have HORD := Lib.hid hO
      have o30 : O.length ≤ 30 := by rw [← hO]; exact ord_len HP.out
      clear hrb hO hV1 hlt
      go_wp2_with fail
      refine (implOrder_at m _ _ (rdUp good_Module HM.out HBW.out) (Nat.le_refl _) HRB.out HORD.out).mono ?_
      rintro e w5 ⟨v, rfl, hown, hb⟩
      obtain ⟨oA, oc, rfl, -⟩ := hown.shape
      have HOO := Lib.hid hown
      have HGL := Lib.hid (show ∀ g, (Value.slice A' st.1.length c').ownBlock = some g → g < w4.heap.size from fun g hg => (HO.out.lt g hg).2)
      have HO5 := Lib.hid (HO.out.below hb)
      have HB05 := Lib.hid (bThen HB03.out hb)
      have HB5 := Lib.hid (bThen HBW.out hb)
      replace c0 := keep hb c0
      replace c1 := keep hb c1
      clear hown hb c2 c3 C4 HO HB03
      go_wp2
      go_loopw [50] (fun iv wr => ∃ k : Nat, k ≤ O.length ∧ iv = .int .i64 (k : Int) ∧ OwnsI wr W0.heap.size (.slice A' st.1.length c') (runV m O V1 k) ∧ OwnsI wr w4.heap.size (.slice oA O.length oc) O ∧ Below W0.heap.size W0 wr ∧ Below w.heap.size w wr ∧ wr.cell? ⟨w.heap.size, 0, none⟩ = some (.slice mA0 (m.1).length mc0) ∧ wr.cell? ⟨w.heap.size, 1, none⟩ = some (.slice mA1 (m.2.1).length mc1)) (fun v _ => O.length - (intOf v).toNat)
      case atStart => exact ⟨0, Nat.zero_le _, rfl, HO5.out, HOO.out, HB05.out, HB5.out, c0, c1⟩
      case round =>
        obtain ⟨k, hk, rfl, hown, hoo, hb0, hb, c0, c1⟩ := hrel
        obtain ⟨w6, rfl⟩ : ∃ w6, w6 = wr := ⟨_, rfl⟩
        clear HOO HO5 HB5 HB05
        have HO := Lib.hid hown
        have HOO := Lib.hid hoo
        have HB06 := Lib.hid hb0
        replace HBW := Lib.hid hb
        have C6 := Lib.hid (And.intro c0 c1)
        have lt6 : w.heap.size < w6.heap.size := World.block_lt_of_cell? _ _ c0
        clear hown hoo hb hb0
        by_cases hlt : k < O.length
        · obtain ⟨ov, hov⟩ : ∃ ov : Int, O[k]? = some ov := ⟨_, List.getElem?_eq_getElem hlt⟩
          obtain ⟨i, t, a, x, W, rfl, ha, hat, hx, hxW, hW1, hW4, hops, hnp⟩ := ord_in HP.out (by rw [HORD.out]; exact hov)
          obtain ⟨oA2, oc2, oe, osh⟩ := HOO.out.shape
          injection oe with oe1 oe2 oe3
          obtain ⟨og, hog, oc0, -⟩ := osh k hlt
          rw [← oe1] at hog
          subst hog
          rw [List.getD_eq_getElem?_getD, hov] at oc0
          replace oc0 : w6.cell? ⟨og, k, none⟩ = some (.int .i64 (i : Int)) := oc0
          have og6 : og < w6.heap.size := World.block_lt_of_cell? _ _ oc0
          obtain ⟨ab, aq, aA, ac, rfl, ab1, a0, -, a1, aR⟩ := at_Assign (rdUp good_AssignS mR1.out HBW.out) ha
          have ab2 := ab1
          rw [hat] at a0
          obtain ⟨xb, xq, rfl, xb1, x0, -, x1, -, x2, -⟩ := at_Signal (good_SignalS.below mR0.out (Nat.le_refl _) HBW.out) hx
          have xb2 := Nat.lt_of_lt_of_le xb1 HBW.out.size
          rw [hxW] at x1
          have tk : (k : Int) < (O.length : Int) := by omega
          have il := (List.getElem?_eq_some_iff.1 ha).1
          have ti : (i : Int) < (m.2.1.length : Int) := by omega
          have tl := (List.getElem?_eq_some_iff.1 hx).1
          have tt : (t : Int) < (m.1.length : Int) := by omega
          have HAR := Lib.hid aR
          obtain ⟨Vc, hVc⟩ : ∃ Vc, runV m O V1 k = Vc := ⟨_, rfl⟩
          have HVc := Lib.hid (show ValsIn Vc by rw [← hVc]; exact runV_in HP.out HVI.out k)
          have hVl : Vc.length = m.1.length := by rw [← hVc, runV_len, HL1.out, HVL.out]
          obtain ⟨r, hr⟩ : ∃ r, exprV a.2 Vc W = r := ⟨_, rfl⟩
          have hst := runV_step (V := V1) hov ha hat hx hxW (show exprV a.2 (runV m O V1 k) W = r by rw [hVc]; exact hr)
          rw [hVc] at hst HO
          have HST := Lib.hid hst
          have HEV := Lib.hid hr
          have HVL2 := Lib.hid hVl
          have HOI := Lib.hid (And.intro (show opsB Vc.length a.2 = true by rw [hVl]; exact hops) hnp)
          have HWW := Lib.hid (And.intro hW1 hW4)
          have fit15 : ∀ z ∈ Vc, Fit z := fun z hz => by have := HVc.out.2 z hz; unfold Fit; omega
          clear hst hr hVl hW1 hW4 hVc
          clear hov ha hat hx hxW hops hnp oe1 oe2 oe3 osh x0 x2 ab1 xb1 aR
          go_wp2_with fail
          obtain ⟨V, hV⟩ : ∃ V, V = w6.alloc (.cells #[.int .i64 (t : Int), .slice aA (a.2).length ac] 102) := ⟨_, rfl⟩
          rw [← hV]
          have gN := eqbox1 hV
          have b0 : V.cell? ⟨w6.heap.size, 0, none⟩ = some (.int .i64 (t : Int)) := box_cell gN.1 0 _ rfl
          have b1 : V.cell? ⟨w6.heap.size, 1, none⟩ = some (.slice aA (a.2).length ac) := box_cell gN.1 1 _ rfl
          replace c0 := keep gN.2 c0
          replace x1 := keep gN.2 x1
          have HBV := Lib.hid gN.2
          clear hV gN c1 a0 a1 oc0
          have hS0 : (fun w' => Below V.heap.size V w' ∧ w'.cell? ⟨w6.heap.size, 0, none⟩ = some (.int .i64 (t : Int)) ∧ w'.cell? ⟨w6.heap.size, 1, none⟩ = some (.slice aA (a.2).length ac) ∧ w'.cell? ⟨w.heap.size, 0, none⟩ = some (.slice (some ⟨xb, xq, none⟩) (m.1).length mc0) ∧ w'.cell? ⟨xb, xq + t * 3 + 1, none⟩ = some (.int .i64 (W : Int))) V := ⟨Below.refl _ _, b0, b1, c0, x1⟩
          have hS : ∀ {w0 w' : World}, (fun w' => Below V.heap.size V w' ∧ w'.cell? ⟨w6.heap.size, 0, none⟩ = some (.int .i64 (t : Int)) ∧ w'.cell? ⟨w6.heap.size, 1, none⟩ = some (.slice aA (a.2).length ac) ∧ w'.cell? ⟨w.heap.size, 0, none⟩ = some (.slice (some ⟨xb, xq, none⟩) (m.1).length mc0) ∧ w'.cell? ⟨xb, xq + t * 3 + 1, none⟩ = some (.int .i64 (W : Int))) w0 → Below w0.heap.size w0 w' → (fun w' => Below V.heap.size V w' ∧ w'.cell? ⟨w6.heap.size, 0, none⟩ = some (.int .i64 (t : Int)) ∧ w'.cell? ⟨w6.heap.size, 1, none⟩ = some (.slice aA (a.2).length ac) ∧ w'.cell? ⟨w.heap.size, 0, none⟩ = some (.slice (some ⟨xb, xq, none⟩) (m.1).length mc0) ∧ w'.cell? ⟨xb, xq + t * 3 + 1, none⟩ = some (.int .i64 (W : Int))) w' := fun h hb => ⟨bThen h.1 hb, keep hb h.2.1, keep hb h.2.2.1, keep hb h.2.2.2.1, keep hb h.2.2.2.2⟩
          dsimp only at hS0 hS
          refine wp_region_noPanic ?_
          refine wp_region_kept 14 16 (fun w' => Below V.heap.size V w' ∧ w'.cell? ⟨w6.heap.size, 0, none⟩ = some (.int .i64 (t : Int)) ∧ w'.cell? ⟨w6.heap.size, 1, none⟩ = some (.slice aA (a.2).length ac) ∧ w'.cell? ⟨w.heap.size, 0, none⟩ = some (.slice (some ⟨xb, xq, none⟩) (m.1).length mc0) ∧ w'.cell? ⟨xb, xq + t * 3 + 1, none⟩ = some (.int .i64 (W : Int))) (by kernel_rfl) rfl (hS hS0 (Below.drew (Below.refl _ _))) (fun hK0 => ?_)
          refine Kept.take (v := ?vu0) 0 (by kernel_rfl) rfl (by kernel_rfl) (fun _ _ _ h => h) (Or.inl ⟨by rfl, ?hyu0⟩) hK0 ?restu0
          case hyu0 =>
            intro w0 hSw
            (try dsimp only at hSw)
            go_simp
            all_goals (with_reducible rfl)
          (try simp only [Act.put, List.setIfInBounds_toArray, List.set_cons_zero, List.set_cons_succ])
          refine Kept.take (v := ?vu1) 1 (by kernel_rfl) rfl (by kernel_rfl) (fun _ _ _ h => h) (Or.inl ⟨by rfl, ?hyu1⟩) hK0 ?restu1
          case hyu1 =>
            intro w0 hSw
            (try dsimp only at hSw)
            go_simp
            all_goals (with_reducible rfl)
          (try simp only [Act.put, List.setIfInBounds_toArray, List.set_cons_zero, List.set_cons_succ])
          refine Kept.take (v := ?vu2) 2 (by kernel_rfl) rfl (by kernel_rfl) (fun _ _ _ h => h) (Or.inl ⟨by rfl, ?hyu2⟩) hK0 ?restu2
          case hyu2 =>
            intro w0 hSw
            (try dsimp only at hSw)
            go_simp
            all_goals (with_reducible rfl)
          (try simp only [Act.put, List.setIfInBounds_toArray, List.set_cons_zero, List.set_cons_succ])
          refine Kept.take (v := ?vu3) 3 (by kernel_rfl) rfl (by kernel_rfl) (fun _ _ _ h => h) (Or.inl ⟨by rfl, ?hyu3⟩) hK0 ?restu3
          case hyu3 =>
            intro w0 hSw
            (try dsimp only at hSw)
            go_simp
            all_goals (with_reducible rfl)
          (try simp only [Act.put, List.setIfInBounds_toArray, List.set_cons_zero, List.set_cons_succ])
          refine Kept.take (v := ?vu4) 4 (by kernel_rfl) rfl (by kernel_rfl) (fun _ _ _ h => h) (Or.inl ⟨by rfl, ?hyu4⟩) hK0 ?restu4
          case hyu4 =>
            intro w0 hSw
            (try dsimp only at hSw)
            go_simp
            all_goals (with_reducible rfl)
          (try simp only [Act.put, List.setIfInBounds_toArray, List.set_cons_zero, List.set_cons_succ])
          refine Kept.take (v := ?vu5) 5 (by kernel_rfl) rfl (by kernel_rfl) (fun _ _ _ h => h) (Or.inl ⟨by rfl, ?hyu5⟩) hK0 ?restu5
          case hyu5 =>
            intro w0 hSw
            (try dsimp only at hSw)
            go_simp
            all_goals (with_reducible rfl)
          (try simp only [Act.put, List.setIfInBounds_toArray, List.set_cons_zero, List.set_cons_succ])
          refine Kept.take (v := ?vu6) 6 (by kernel_rfl) rfl (by kernel_rfl) (fun _ _ _ h => h) (Or.inl ⟨by rfl, ?hyu6⟩) hK0 ?restu6
          case hyu6 =>
            intro w0 hSw
            (try dsimp only at hSw)
            go_simp
            all_goals (with_reducible rfl)
          (try simp only [Act.put, List.setIfInBounds_toArray, List.set_cons_zero, List.set_cons_succ])
          refine Kept.take (v := ?vu7) 7 (by kernel_rfl) rfl (by kernel_rfl) (fun _ _ _ h => h) (Or.inl ⟨by rfl, ?hyu7⟩) hK0 ?restu7
          case hyu7 =>
            intro w0 hSw
            (try dsimp only at hSw)
            go_simp
            all_goals (with_reducible rfl)
          (try simp only [Act.put, List.setIfInBounds_toArray, List.set_cons_zero, List.set_cons_succ])
          refine Kept.take (v := ?vu8) 8 (by kernel_rfl) rfl (by kernel_rfl) (fun _ _ _ h => h) (Or.inl ⟨by rfl, ?hyu8⟩) hK0 ?restu8
          case hyu8 =>
            intro w0 hSw
            (try dsimp only at hSw)
            go_simp
            all_goals (with_reducible rfl)
          (try simp only [Act.put, List.setIfInBounds_toArray, List.set_cons_zero, List.set_cons_succ])
          refine Kept.take (v := ?vu9) 9 (by kernel_rfl) rfl (by kernel_rfl) (fun _ _ _ h => h) (Or.inl ⟨by rfl, ?hyu9⟩) hK0 ?restu9
          case hyu9 =>
            intro w0 hSw
            (try dsimp only at hSw)
            go_simp
            all_goals (with_reducible rfl)
          (try simp only [Act.put, List.setIfInBounds_toArray, List.set_cons_zero, List.set_cons_succ])
          refine Kept.take (v := ?vu10) 10 (by kernel_rfl) rfl (by kernel_rfl) (fun _ _ _ h => h) (Or.inl ⟨by rfl, ?hyu10⟩) hK0 ?restu10
          case hyu10 =>
            intro w0 hSw
            (try dsimp only at hSw)
            go_simp
            all_goals (with_reducible rfl)
          (try simp only [Act.put, List.setIfInBounds_toArray, List.set_cons_zero, List.set_cons_succ])
          refine Kept.take (v := ?vu11) 11 (by kernel_rfl) rfl (by kernel_rfl) (fun _ _ _ h => h) (Or.inl ⟨by rfl, ?hyu11⟩) hK0 ?restu11
          case hyu11 =>
            intro w0 hSw
            (try dsimp only at hSw)
            go_simp
            all_goals (with_reducible rfl)
          (try simp only [Act.put, List.setIfInBounds_toArray, List.set_cons_zero, List.set_cons_succ])
          refine Kept.take (v := ?vu12) 12 (by kernel_rfl) rfl (by kernel_rfl) (fun _ _ _ h => h) (Or.inl ⟨by rfl, ?hyu12⟩) hK0 ?restu12
          case hyu12 =>
            intro w0 hSw
            (try dsimp only at hSw)
            go_simp
            all_goals (with_reducible rfl)
          (try simp only [Act.put, List.setIfInBounds_toArray, List.set_cons_zero, List.set_cons_succ])
          refine Kept.one 13 (by kernel_rfl) rfl (fun K hK => ?_)
          go_simp
          go_at_call 116
          refine (implExpr_at (ov := .slice aA (a.2).length ac) (vv := .slice A' st.1.length c') HOI.out.1 HOI.out.2 HVc.out HWW.out.2 _ (rdUp good_OpS HAR.out (bThen HBV.out hK0.1)) (ownI_rd (HO.out.below (bThen HBV.out hK0.1)) fit15) HEV.out).mono ?_
          rintro e w8 ⟨rfl, hb8⟩
          go_simp
          refine hK.out _ _ (hS hK0 hb8) (fun hK1 => ?_)
          clear hK K hK0
          (try simp only [Act.put, List.setIfInBounds_toArray, List.set_cons_zero, List.set_cons_succ])
          refine Kept.tail (by rfl) (by kernel_rfl) ?_
          simp only [List.drop_succ_cons, List.drop_zero]
          have HB8 := Lib.hid (bThen HBV.out hK1.1)
          have Q3 := HO.out.below HB8.out
          have Q4 := HOO.out.below HB8.out
          have tl2 : t < m.1.length := by omega
          have ks : t < st.1.length := by rw [HVL.out]; exact tl2
          have hLc : Vc.length = st.1.length := by rw [HVL2.out, HVL.out]
          obtain ⟨A2, c2, e2, hsh⟩ := Q3.shape
          injection e2 with e2 e3 e4
          obtain ⟨g, hg, -⟩ := hsh t (by rw [hLc]; exact ks)
          rw [hg] at e2
          subst e2 e4
          have gf := ownI_cell Q3 hLc ks
          have u0 := gf.1
          have u1 := gf.2
          have HQ3 := Lib.hid Q3
          have HQ4 := Lib.hid Q4
          have gB : W0.heap.size ≤ g := (Q3.lt g rfl).1
          have gne : og ≠ g := by have a := (Q4.lt og rfl).1; have b := HGL.out g rfl; omega
          have HLC := Lib.hid hLc
          have tl3 : (t : Int) < (st.1.length : Int) := by omega
          clear gf Q3 Q4 hsh hg e3 hLc hK1 hS hS0 b0 b1 c0 x1 hb8
          go_wp2
          refine NoPanic.normal ?_
          go_wp2
          go_roundw
          case rel =>
            have h3 := ownI_set HQ3.out HLC.out ks r
            rw [HST.out] at h3
            have h4 := ownI_far (g := g) (k := t) (u := .int .i64 r) HQ4.out (by intro e; injection e with e; exact gne e)
            have cf : ∀ i v, w6.cell? ⟨w.heap.size, i, none⟩ = some v → _ := fun i v h => (World.cell?_setCell_other _ ⟨g, t, none⟩ ⟨w.heap.size, i, none⟩ (.int .i64 r) (by intro e; injection e with e; omega)).trans (keep HB8.out h)
            exact ⟨k + 1, by omega, by go_num, h3, h4, bSet (p := ⟨g, t, none⟩) (bThen HB06.out HB8.out) gB (.int .i64 r), bSet (p := ⟨g, t, none⟩) (bThen HBW.out HB8.out) (by dsimp only; omega) (.int .i64 r), cf _ _ C6.out.1, cf _ _ C6.out.2⟩
          case measure => simp [intOf]; omega
        · obtain rfl : k = O.length := by omega
          have HE := Lib.hid (show runV m O V1 O.length = L by rw [← HX.out]; unfold sigV; rw [HORD.out, HV1.out])
          rw [HE.out] at HO
          clear c0 c1 hlt
          go_wp2
          go_ret
          exact ⟨_, rfl, HO.out.lower (by omega), HBW.out⟩
set_option maxRecDepth 100000 in
set_option maxHeartbeats 6400000 in
theorem implSig_at (m : DModule) (st : DWordState) (ins : List Int) (us vs : List Value) (nv : Value) (w : World) (h : rdModule 0 w.heap.size w us m) (hs : rdWordState 0 w.heap.size w vs st) (hn : rdIntS 0 w.heap.size w [nv] ins) {L : List Int} (hL : sigO m st ins = L) :
    Calls Tryz.prog 23 #[.agg us.toArray, .agg vs.toArray, nv] w fun e w' => ∃ v, e = .returned v ∧ OwnsI w' w.heap.size v L ∧ Below w.heap.size w w' := by
  have HM := Lib.hid h
  have HS := Lib.hid hs
  have HX := Lib.hid hL
  clear hL
  obtain ⟨mu0, mu1, mu2, mu3, rfl, mh0, mh1, mh2, mh3⟩ := h
  obtain ⟨mA0, mc0, me0, mm0, -⟩ := slice_of mh0
  subst me0
  have mR0 := Lib.hid mh0
  clear mh0
  obtain ⟨mA1, mc1, me1, mm1, -⟩ := slice_of mh1
  subst me1
  have mR1 := Lib.hid mh1
  clear mh1
  obtain ⟨mA2, mc2, me2, mm2, -⟩ := slice_of mh2
  subst me2
  have mR2 := Lib.hid mh2
  clear mh2
  obtain ⟨mA3, mc3, me3, mm3, -⟩ := slice_of mh3
  subst me3
  have mR3 := Lib.hid mh3
  clear mh3
  obtain ⟨su0, su1, rfl, sh0, sh1⟩ := hs
  obtain ⟨sA0, sc0, se0, sm0, -⟩ := slice_of sh0
  subst se0
  have sR0 := Lib.hid sh0
  clear sh0
  obtain ⟨sA1, sc1, se1, sm1, -⟩ := slice_of sh1
  subst se1
  have sR1 := Lib.hid sh1
  clear sh1
  obtain ⟨nA, nc, rfl, nm, -⟩ := slice_of hn
  have HN := Lib.hid hn
  clear hn
  obtain ⟨f, hf⟩ : ∃ f, wsB m st = f := ⟨_, rfl⟩
  have HF := Lib.hid hf
  clear hf
  go_enter Tryz.func23, Tryz.ntmps23
  go_wp2_with fail
  obtain ⟨W0, hV⟩ : ∃ W0, W0 = ((w.alloc (.cells #[.slice mA0 (m.1).length mc0, .slice mA1 (m.2.1).length mc1, .slice mA2 (m.2.2.1).length mc2, .slice mA3 (m.2.2.2).length mc3] 31)).alloc (.cells #[.slice sA0 (st.1).length sc0, .slice sA1 (st.2).length sc1] 56)) := ⟨_, rfl⟩
  rw [← hV]
  have gN := eqbox2 hV
  have d0 : W0.cell? ⟨w.heap.size, 0, none⟩ = some (.slice mA0 (m.1).length mc0) := box_cell gN.1 0 _ rfl
  have d1 : W0.cell? ⟨w.heap.size, 1, none⟩ = some (.slice mA1 (m.2.1).length mc1) := box_cell gN.1 1 _ rfl
  have d2 : W0.cell? ⟨w.heap.size, 2, none⟩ = some (.slice mA2 (m.2.2.1).length mc2) := box_cell gN.1 2 _ rfl
  have d3 : W0.cell? ⟨w.heap.size, 3, none⟩ = some (.slice mA3 (m.2.2.2).length mc3) := box_cell gN.1 3 _ rfl
  have e0 : W0.cell? ⟨w.heap.size + 1, 0, none⟩ = some (.slice sA0 (st.1).length sc0) := box_cell gN.2.1 0 _ rfl
  have e1 : W0.cell? ⟨w.heap.size + 1, 1, none⟩ = some (.slice sA1 (st.2).length sc1) := box_cell gN.2.1 1 _ rfl
  have sW0 : W0.heap.size = w.heap.size + 2 := by rw [hV]; simp
  have HW0 := Lib.hid gN.2.2
  clear hV gN
  refine (implWs_at m st _ _ _ (rdUp good_Module HM.out HW0.out) (rdUp good_WordState HS.out HW0.out) HF.out).mono ?_
  rintro e w1 ⟨rfl, hb⟩
  replace d0 := keep hb d0
  replace d1 := keep hb d1
  replace d2 := keep hb d2
  replace d3 := keep hb d3
  replace e0 := keep hb e0
  replace e1 := keep hb e1
  have HB := Lib.hid (bThen HW0.out hb)
  clear hb
  cases f with
  | false =>
    have HE := Lib.hid (sig_no HX.out (.inl HF.out))
    go_wp2
    go_ret
    refine ⟨_, rfl, ?_, HB.out⟩
    rw [HE.out]
    exact own_nilI _ _
  | true =>
    have HP := Lib.hid (flatP_of (ws_flat HF.out))
    obtain ⟨b, hbb⟩ : ∃ b, insB m ins = b := ⟨_, rfl⟩
    have HBB := Lib.hid hbb
    clear hbb
    go_wp2_with fail
    refine (implOneEach_at m ins _ _ _ (rdUp good_Module HM.out HB.out) (rdUp good_IntS HN.out HB.out) HBB.out).mono ?_
    rintro e w2 ⟨rfl, hb⟩
    replace d0 := keep hb d0
    replace d1 := keep hb d1
    replace d2 := keep hb d2
    replace d3 := keep hb d3
    replace e0 := keep hb e0
    replace e1 := keep hb e1
    replace HB := Lib.hid (bThen HB.out hb)
    clear hb
    cases b with
    | false =>
      have HE := Lib.hid (sig_no HX.out (.inr (fun e => by have h := HBB.out; unfold insB at h; rw [decide_eq_true e] at h; cases h)))
      go_wp2
      go_ret
      refine ⟨_, rfl, ?_, HB.out⟩
      rw [HE.out]
      exact own_nilI _ _
    | true =>
      have hne : ins.length = (widthsL m 0).length := by have h := HBB.out; unfold insB at h; exact of_decide_eq_true h
      have hV := ws_vals HP.out HF.out
      have HVV := Lib.hid (And.intro hne hV)
      clear hne hV
      go_wp2_with fail
      refine (implSigV_at m st ins _ _ _ _ (rdUp good_Module HM.out HB.out) (rdUp good_WordState HS.out HB.out) (rdUp good_IntS HN.out HB.out) HP.out HVV.out.2.1 HVV.out.2.2 HVV.out.1 (sig_yes HX.out HF.out HVV.out.1)).mono ?_
      rintro e w3 ⟨v, rfl, hown, hb⟩
      obtain ⟨A, c, rfl, -⟩ := hown.shape
      have HO := Lib.hid hown
      have HB3 := Lib.hid (bThen HB.out hb)
      clear hown hb
      go_wp2
      go_ret
      exact ⟨_, rfl, HO.out.lower HB.out.size, HB3.out⟩
end Go.Proofs.YtmjofpfkgbnknaaGreat
