/-
  Balancing: the nodes that are needed; the copies; runs and depth.
-/
import Derived.Test.YtiejilmgchmppaaBlI
namespace Go.Proofs.Ytiejilmgchmppaa
open Go.RowKit
set_option linter.unusedVariables false
set_option linter.unusedSimpArgs false

/-- The nodes of the literals L marked, too. -/
def ndS (M : List Bool) (L : List Int) : List Bool := L.foldl (fun M l => M.set (l.toNat / 2) true) M
theorem ndS_len : ∀ (L : List Int) (M : List Bool), (ndS M L).length = M.length
  | [], M => rfl
  | l :: L, M => by
    have := ndS_len L (M.set (l.toNat / 2) true)
    rw [List.length_set] at this
    exact this
theorem ndS_keep {i : Nat} : ∀ (L : List Int) (M : List Bool), M.getD i false = true → (ndS M L).getD i false = true
  | [], M, h => h
  | l :: L, M, h => ndS_keep L (M.set (l.toNat / 2) true) (by
    rw [getD_set]
    split
    · rfl
    · exact h)
theorem ndS_mem {l : Nat} : ∀ (L : List Int) (M : List Bool), (l : Int) ∈ L → l / 2 < M.length → (ndS M L).getD (l / 2) false = true
  | [], M, h, _ => by cases h
  | x :: L, M, h, hl => by
    rcases List.mem_cons.1 h with h | h
    · refine ndS_keep L (M.set (x.toNat / 2) true) ?_
      rw [getD_set, if_pos ⟨by rw [← h, Int.toNat_natCast], hl⟩]
    · exact ndS_mem L (M.set (x.toNat / 2) true) h (by rw [List.length_set]; exact hl)
theorem ndS_out {i : Nat} : ∀ (L : List Int) (M : List Bool), (∀ x ∈ L, x.toNat / 2 ≠ i) → (ndS M L).getD i false = M.getD i false
  | [], M, _ => rfl
  | x :: L, M, h => by
    have h1 := ndS_out L (M.set (x.toNat / 2) true) fun y hy => h y (List.mem_cons_of_mem _ hy)
    have h2 := h x (List.mem_cons_self ..)
    rw [getD_set, if_neg (fun c => h2 c.1)] at h1
    exact h1
theorem ndS_step {M : List Bool} {L : List Int} {k x : Nat} (h : L[k]? = some (x : Int)) : ndS M (L.take (k + 1)) = (ndS M (L.take k)).set (x / 2) true := by
  unfold ndS
  rw [List.take_add_one, h, List.foldl_append]
  simp
theorem seenL_nd (N : Nat) (R : List Int) : seenL N R = ndS (List.replicate N false) R := rfl
/-- The nodes that are needed, the last j AND nodes seen. -/
def needK (n : DNet) : Nat → List Bool
  | 0 => seenL (netN n) (rootsL n)
  | j + 1 => if (needK n j).getD (firN n + (n.2.2.1.length - 1 - j)) false = true then ndS (needK n j) (cjL n (n.2.2.1.length - 1 - j)) else needK n j
def needO (n : DNet) : List Bool := needK n n.2.2.1.length
theorem needK_len (n : DNet) : ∀ j, (needK n j).length = netN n
  | 0 => seenL_len _ _
  | j + 1 => by
    unfold needK
    split
    · rw [ndS_len]; exact needK_len n j
    · exact needK_len n j
theorem needK_mono {n : DNet} {j i : Nat} (h : (needK n j).getD i false = true) : ∀ d, (needK n (j + d)).getD i false = true
  | 0 => h
  | d + 1 => by
    have ih := needK_mono h d
    rw [← Nat.add_assoc]
    unfold needK
    split
    · exact ndS_keep _ _ ih
    · exact ih
theorem needK_far {n : DNet} (hP : NetP n) {p j : Nat} (hp : firN n + (n.2.2.1.length - 1 - j) ≤ p) : ∀ d, j + d ≤ n.2.2.1.length → (needK n (j + d)).getD p false = (needK n j).getD p false
  | 0, _ => rfl
  | d + 1, hd => by
    have ih := needK_far hP hp d (by omega)
    rw [← Nat.add_assoc]
    conv => lhs; unfold needK
    split
    · rw [ndS_out _ _ fun x hx => ?_]
      · exact ih
      · have h := conj_all hP (t := n.2.2.1.length - 1 - (j + d)) (by omega)
        obtain ⟨l, rfl, h1, _⟩ := h.lit x hx
        rw [Int.toNat_natCast]
        omega
    · exact ih
structure NeedP (n : DNet) (need : List Bool) : Prop where
  len : need.length = netN n
  root : ∀ l : Nat, (l : Int) ∈ rootsL n → need.getD (l / 2) false = true
  conj : ∀ t, t < n.2.2.1.length → need.getD (firN n + t) false = true → ∀ l : Nat, (l : Int) ∈ cjL n t → need.getD (l / 2) false = true
theorem need_all {n : DNet} (hP : NetP n) : NeedP n (needO n) := by
  refine ⟨needK_len n _, fun l hl => ?_, fun t ht hn l hl => ?_⟩
  · obtain ⟨x, e, hx⟩ := hP.root _ hl
    have : l = x := by omega
    subst this
    have h0 := seenL_mem (netN n) hl hx
    have := needK_mono (n := n) (j := 0) h0 n.2.2.1.length
    rw [Nat.zero_add] at this
    exact this
  · obtain ⟨j, hj⟩ : ∃ j, n.2.2.1.length = j + 1 + t := ⟨n.2.2.1.length - 1 - t, by omega⟩
    have e1 : n.2.2.1.length - 1 - j = t := by omega
    have hf := needK_far hP (j := j) (p := firN n + t) (by omega) (1 + t) (by omega)
    have e2 : j + (1 + t) = n.2.2.1.length := by omega
    rw [e2] at hf
    unfold needO at hn ⊢
    rw [hf] at hn
    have hs : needK n (j + 1) = ndS (needK n j) (cjL n t) := by
      conv => lhs; unfold needK
      rw [e1, if_pos hn]
    have hc := conj_all hP ht
    obtain ⟨l', e, hl1, _⟩ := hc.lit _ hl
    have : l = l' := by omega
    subst this
    have h1 := ndS_mem (cjL n t) (needK n j) hl (by rw [needK_len]; unfold netN; omega)
    rw [← hs] at h1
    have := needK_mono h1 t
    rw [show j + 1 + t = n.2.2.1.length by omega] at this
    exact this
/-- The leaves of a tree. -/
def leafL (m : DNet) (to L : List Int) : List Int := (L.map (mapI to)).foldl (binL m) []
theorem fold_mem {m : DNet} {a : Int} : ∀ (L A : List Int), a ∈ L.foldl (binL m) A ↔ a ∈ A ∨ a ∈ L
  | [], A => by simp
  | x :: L, A => by
    rw [List.foldl_cons, fold_mem L, binL_mem, List.mem_cons]
    constructor
    · rintro ((h | h) | h)
      · exact .inr (.inl h)
      · exact .inl h
      · exact .inr (.inr h)
    · rintro (h | h | h)
      · exact .inl (.inr h)
      · exact .inl (.inl h)
      · exact .inr h
theorem fold_pw {m : DNet} : ∀ (L A : List Int), A.Pairwise (ltL m) → (L.foldl (binL m) A).Pairwise (ltL m)
  | [], A, h => h
  | x :: L, A, h => fold_pw L _ (binL_pw h)
theorem fold_wsum {m : DNet} : ∀ (L A : List Int), wsum m (L.foldl (binL m) A) ≤ wsum m A + wsum m L
  | [], A => by unfold wsum; simp
  | x :: L, A => by
    have h1 := fold_wsum (m := m) L (binL m A x)
    have h2 := wsum_binL m A x
    rw [List.foldl_cons, wsum_cons]
    omega
theorem fold_len {m : DNet} : ∀ (L A : List Int), (L.foldl (binL m) A).length ≤ A.length + L.length
  | [], A => by simp
  | x :: L, A => by
    have h1 := fold_len (m := m) L (binL m A x)
    have h2 := (binL_len m A x).1
    rw [List.foldl_cons, List.length_cons]
    omega
theorem leafL_len (m : DNet) (to L : List Int) : (leafL m to L).length ≤ L.length := by
  have := fold_len (m := m) (L.map (mapI to)) []
  rw [List.length_map] at this
  unfold leafL
  simpa using this
theorem leafL_mem {m : DNet} {to L : List Int} {a : Int} : a ∈ leafL m to L ↔ ∃ y ∈ L, mapI to y = a := by
  unfold leafL
  rw [fold_mem]
  simp
theorem leafL_step {m : DNet} {to L : List Int} {k : Nat} {y : Int} (h : L[k]? = some y) : leafL m to (L.take (k + 1)) = binL m (leafL m to (L.take k)) (mapI to y) := by
  unfold leafL
  rw [List.take_add_one, h, List.map_append, List.foldl_append]
  rfl
/-- The net and the literals of the copies, k AND nodes seen; d stands for what is not needed. -/
def balK (d : Int) (n : DNet) (need : List Bool) : Nat → Option (DNet × List Int)
  | 0 => some (emptyN n, toK0 n)
  | k + 1 => match balK d n need k with
    | none => none
    | some s => if need.getD (firN n + k) false = true then
        match treeF (cjL n k).length s.1 (leafL s.1 s.2 (cjL n k)) with
        | none => none
        | some r => some (r.1, s.2 ++ [r.2])
      else some (s.1, s.2 ++ [d])
theorem balK_none {d : Int} {n : DNet} {need : List Bool} {k : Nat} (h : balK d n need k = none) : ∀ i, balK d n need (k + i) = none
  | 0 => h
  | i + 1 => by
    have ih := balK_none h i
    rw [← Nat.add_assoc]
    conv => lhs; unfold balK
    rw [ih]
theorem balK_dead {d : Int} {n m : DNet} {need : List Bool} {k : Nat} {to : List Int} (h : balK d n need k = some (m, to)) (hn : need.getD (firN n + k) false = false) : balK d n need (k + 1) = some (m, to ++ [d]) := by
  conv => lhs; unfold balK
  rw [h]
  dsimp only
  rw [if_neg (by rw [hn]; decide)]
theorem balK_fail {d : Int} {n m : DNet} {need : List Bool} {k : Nat} {to : List Int} (h : balK d n need k = some (m, to)) (hn : need.getD (firN n + k) false = true) (ht : treeF (cjL n k).length m (leafL m to (cjL n k)) = none) : balK d n need (k + 1) = none := by
  conv => lhs; unfold balK
  rw [h]
  dsimp only
  rw [if_pos hn, ht]
theorem balK_tree {d x : Int} {n m m' : DNet} {need : List Bool} {k : Nat} {to : List Int} (h : balK d n need k = some (m, to)) (hn : need.getD (firN n + k) false = true) (ht : treeF (cjL n k).length m (leafL m to (cjL n k)) = some (m', x)) : balK d n need (k + 1) = some (m', to ++ [x]) := by
  conv => lhs; unfold balK
  rw [h]
  dsimp only
  rw [if_pos hn, ht]
/-- What the copies are like. -/
structure BInv (n : DNet) (need : List Bool) (k : Nat) (out : DNet) (to : List Int) : Prop where
  net : NetP out
  i : out.1 = n.1
  s : out.2.1 = (emptyN n).2.1
  o : out.2.2.2 = []
  tlen : to.length = firN n + k
  lit : ∀ j, j < firN n + k → Live n need j → ∃ z : Nat, to[j]? = some (z : Int) ∧ z / 2 < netN out
  val : ∀ (st : List Int) (x : Int), st.length = n.2.1.length → ∀ (j z : Nat), j < firN n + k → Live n need j → to[j]? = some (z : Int) → bitV (allV out st x) z = (allV n st x).getD j 0
  lev : ∀ j z : Nat, j < firN n + k → Live n need j → to[j]? = some (z : Int) → Go.Proofs.Ytiejilmgchmppaa.lev out (z / 2) ≤ Go.Proofs.Ytiejilmgchmppaa.lev n j
theorem BInv.fir {n : DNet} {need : List Bool} {k : Nat} {out : DNet} {to : List Int} (h : BInv n need k out to) : firN out = firN n := by
  unfold firN; rw [h.i, h.s]; unfold emptyN; simp
theorem BInv.slen {n : DNet} {need : List Bool} {k : Nat} {out : DNet} {to : List Int} (h : BInv n need k out to) : out.2.1.length = n.2.1.length := by rw [h.s]; unfold emptyN; simp
theorem binv_zero {n : DNet} (hP : NetP n) (need : List Bool) : BInv n need 0 (emptyN n) (toK0 n) := by
  have h := hinv_zero hP
  refine ⟨h.net, h.i, h.s, h.o, h.tlen, fun j hj _ => h.lit j hj, fun st x hl j z hj _ hz => h.val st x hl j z hj hz, fun j z hj _ hz => hash_lev hP 0 (Nat.zero_le _) j z hj hz⟩
theorem binv_map {n out : DNet} {need : List Bool} {to : List Int} {k l : Nat} (h : BInv n need k out to) (hP : NetP n) (hl : l / 2 < firN n + k) (hv : Live n need (l / 2)) : ∃ q : Nat, mapI to (l : Int) = (q : Int) ∧ q / 2 < netN out ∧ Go.Proofs.Ytiejilmgchmppaa.lev out (q / 2) ≤ Go.Proofs.Ytiejilmgchmppaa.lev n (l / 2) ∧ ∀ (st : List Int) (x : Int), st.length = n.2.1.length → bitV (allV out st x) q = bitV (allV n st x) l := by
  obtain ⟨z, hz, hzN⟩ := h.lit _ hl hv
  obtain ⟨q, e, hq, _⟩ := mapI_nat hz
  exact ⟨q, e, by omega, by rw [hq]; exact h.lev _ _ hl hv hz, fun st x hs => mapI_val hz (h.val st x hs _ _ hl hv hz) (allV_01 x hP hs _) e⟩
theorem need_live {n : DNet} {need : List Bool} {t : Nat} (hN : NeedP n need) (hP : NetP n) (ht : t < n.2.2.1.length) (hn : need.getD (firN n + t) false = true) : ∀ y ∈ cjL n t, ∃ l : Nat, y = (l : Int) ∧ l / 2 < firN n + t ∧ Live n need (l / 2) := fun y hy => by
  obtain ⟨l, rfl, h1, _⟩ := (conj_all hP ht).lit y hy
  exact ⟨l, rfl, h1, .inr (hN.conj t ht hn l hy)⟩
/-- The leaves of the tree of a node that is needed. -/
theorem leaf_tree {n out : DNet} {need : List Bool} {to : List Int} {t : Nat} (h : BInv n need t out to) (hP : NetP n) (hN : NeedP n need) (ht : t < n.2.2.1.length) (hn : need.getD (firN n + t) false = true) :
    TreeP out (leafL out to (cjL n t)) (Go.Proofs.Ytiejilmgchmppaa.lev n (firN n + t)).toNat (fun st x => (allV n st x).getD (firN n + t) 0 = 1) := by
  have hc := conj_all hP ht
  have hlv := need_live hN hP ht hn
  refine ⟨h.net, fun a ha => ?_, fun e => ?_, fold_pw _ _ List.Pairwise.nil, fun st x hl => ?_, ?_⟩
  · obtain ⟨y, hy, rfl⟩ := leafL_mem.1 ha
    obtain ⟨l, rfl, h1, h2⟩ := hlv y hy
    obtain ⟨q, e, hq, _⟩ := binv_map h hP h1 h2
    exact ⟨q, e, hq⟩
  · obtain ⟨y, hy⟩ : ∃ y, y ∈ cjL n t := List.exists_mem_of_ne_nil _ hc.ne
    have := (leafL_mem (m := out) (to := to)).2 ⟨y, hy, rfl⟩
    rw [e] at this
    cases this
  · have hl' : st.length = n.2.1.length := by rw [← h.slen]; exact hl
    rw [← hc.val st x hl']
    constructor
    · intro hall y hy
      obtain ⟨l, rfl, h1, h2⟩ := hlv y hy
      obtain ⟨q, e, hq, _, hv⟩ := binv_map h hP h1 h2
      have := hall _ (leafL_mem.2 ⟨_, hy, e⟩)
      rw [Int.toNat_natCast] at this ⊢
      rw [← hv st x hl', this]
    · intro hall a ha
      obtain ⟨y, hy, rfl⟩ := leafL_mem.1 ha
      obtain ⟨l, rfl, h1, h2⟩ := hlv y hy
      obtain ⟨q, e, hq, _, hv⟩ := binv_map h hP h1 h2
      have := hall _ hy
      rw [Int.toNat_natCast] at this
      rw [e, Int.toNat_natCast, hv st x hl', this]
  · refine Nat.le_trans ?_ hc.lev
    have h1 := fold_wsum (m := out) ((cjL n t).map (mapI to)) []
    have h2 : wsum out ((cjL n t).map (mapI to)) ≤ ((cjL n t).map fun y => wt n y.toNat).sum := by
      have : ∀ L : List Int, (∀ y ∈ L, ∃ l : Nat, y = (l : Int) ∧ l / 2 < firN n + t ∧ Live n need (l / 2)) → wsum out (L.map (mapI to)) ≤ (L.map fun y => wt n y.toNat).sum := by
        intro L hL
        induction L with
        | nil => unfold wsum; simp
        | cons y L ih =>
          rw [List.map_cons, wsum_cons, List.map_cons, List.sum_cons]
          have h3 := ih fun z hz => hL z (List.mem_cons_of_mem _ hz)
          obtain ⟨l, rfl, g1, g2⟩ := hL y (List.mem_cons_self ..)
          obtain ⟨q, e, hq, hlev, _⟩ := binv_map h hP g1 g2
          have h4 : wt out (mapI to (l : Int)).toNat ≤ wt n (l : Int).toNat := by
            rw [e, Int.toNat_natCast, Int.toNat_natCast]
            unfold wt
            exact Nat.pow_le_pow_right (by omega) (by omega)
          omega
      exact this _ hlv
    have h3 : wsum out [] = 0 := rfl
    unfold leafL
    omega
theorem binv_step {n m : DNet} {need : List Bool} {d : Int} (hP : NetP n) (hN : NeedP n need) {k : Nat} {to : List Int} (hk : k < n.2.2.1.length) (h : BInv n need k m to) (hb : balK d n need k = some (m, to)) {s : DNet × List Int} (hs : balK d n need (k + 1) = some s) : BInv n need (k + 1) s.1 s.2 := by
  have htl := h.tlen
  cases hn : need.getD (firN n + k) false with
  | false =>
    rw [balK_dead hb hn] at hs
    injection hs with hs
    subst hs
    have dead : ∀ j, j < firN n + (k + 1) → Live n need j → j < firN n + k := fun j hj hv => by
      by_cases e : j = firN n + k
      · subst e
        rcases hv with hv | hv
        · omega
        · rw [hn] at hv; cases hv
      · omega
    refine ⟨h.net, h.i, h.s, h.o, by rw [List.length_append, htl]; rfl, fun j hj hv => ?_, fun st x hl j z hj hv hz => ?_, fun j z hj hv hz => ?_⟩
    · obtain ⟨z, hz, hzN⟩ := h.lit j (dead j hj hv) hv
      exact ⟨z, app_low hz, hzN⟩
    · rcases app_at htl (by omega) hz with ⟨_, hz⟩ | ⟨e, _⟩
      · exact h.val st x hl j z (dead j hj hv) hv hz
      · have := dead j hj hv; omega
    · rcases app_at htl (by omega) hz with ⟨_, hz⟩ | ⟨e, _⟩
      · exact h.lev j z (dead j hj hv) hv hz
      · have := dead j hj hv; omega
  | true =>
    cases hT : treeF (cjL n k).length m (leafL m to (cjL n k)) with
    | none => rw [balK_fail hb hn hT] at hs; cases hs
    | some r =>
      obtain ⟨m', y⟩ := r
      rw [balK_tree hb hn hT] at hs
      injection hs with hs
      subst hs
      obtain ⟨hE, hP', ⟨w, rfl, hw⟩, hlv, hval⟩ := tree_all _ (leaf_tree h hP hN hk hn) hT
      have hnn := hE.netN
      refine ⟨hP', hE.i.trans h.i, hE.s.trans h.s, hE.o.trans h.o, by rw [List.length_append, htl]; rfl, fun j hj hv => ?_, fun st x hl j z hj hv hz => ?_, fun j z hj hv hz => ?_⟩
      · by_cases hjk : j < firN n + k
        · obtain ⟨z, hz, hzN⟩ := h.lit j hjk hv
          exact ⟨z, app_low hz, by dsimp only; omega⟩
        · have e : j = firN n + k := by omega
          subst e
          exact ⟨w, app_end htl, hw⟩
      · have hls : st.length = m.2.1.length := by rw [h.slen]; exact hl
        rcases app_at htl (by omega) hz with ⟨hjk, hz⟩ | ⟨e, ez⟩
        · obtain ⟨z', hz', hzN⟩ := h.lit j hjk hv
          rw [hz] at hz'
          injection hz' with hz'
          dsimp only
          rw [bit_ext hE x hls (by omega)]
          exact h.val st x hl j z hjk hv hz
        · have e2 : z = w := by omega
          subst e e2
          have hv1 := hval st x hls
          rw [Int.toNat_natCast] at hv1
          have b1 := bitV_in (allV m' st x) z
          have b2 := allV_01 (st := st) x hP hl (firN n + k)
          show bitV (allV m' st x) z = _
          rcases (mul_cases b1 b2).1 with c1 | c1 <;> rcases (mul_cases b1 b2).2 with c2 | c2
          · rw [c1, c2]
          · rw [hv1.2 c2] at c1; omega
          · rw [hv1.1 c1] at c2; omega
          · rw [c1, c2]
      · rcases app_at htl (by omega) hz with ⟨hjk, hz⟩ | ⟨e, ez⟩
        · obtain ⟨z', hz', hzN⟩ := h.lit j hjk hv
          rw [hz] at hz'
          injection hz' with hz'
          dsimp only
          rw [lev_ext h.net hP' hE _ (by omega)]
          exact h.lev j z hjk hv hz
        · have e2 : z = w := by omega
          subst e e2
          rw [Int.toNat_natCast] at hlv
          have := lev_pos n (firN n + k)
          dsimp only
          omega
theorem binv_all {n : DNet} {need : List Bool} (d : Int) (hP : NetP n) (hN : NeedP n need) : ∀ k, k ≤ n.2.2.1.length → ∀ s, balK d n need k = some s → BInv n need k s.1 s.2
  | 0, _, s, hs => by
    injection hs with hs
    subst hs
    exact binv_zero hP need
  | k + 1, hk, s, hs => by
    cases hb : balK d n need k with
    | none => rw [balK_none hb 1] at hs; cases hs
    | some r => exact binv_step hP hN (by omega) (binv_all d hP hN k (by omega) r hb) hb hs
/-- What is written for nodes that are not needed does not matter. -/
theorem mapI_of {to to' : List Int} {l : Nat} (h : to.getD (l / 2) 0 = to'.getD (l / 2) 0) : mapI to (l : Int) = mapI to' (l : Int) := by
  unfold mapI
  rw [Int.toNat_natCast, h]
theorem balK_same {n : DNet} {need : List Bool} (d : Int) (hP : NetP n) (hN : NeedP n need) : ∀ k, k ≤ n.2.2.1.length → (balK d n need k = none ∧ balK 0 n need k = none) ∨ ∃ (m : DNet) (to to' : List Int), balK d n need k = some (m, to) ∧ balK 0 n need k = some (m, to') ∧ to.length = firN n + k ∧ to'.length = firN n + k ∧ ∀ j, j < firN n + k → Live n need j → to.getD j 0 = to'.getD j 0
  | 0, _ => .inr ⟨emptyN n, toK0 n, toK0 n, rfl, rfl, toK0_len n, toK0_len n, fun _ _ _ => rfl⟩
  | k + 1, hk => by
    have last : ∀ {to : List Int} {x : Int}, to.length = firN n + k → (to ++ [x]).getD (firN n + k) 0 = x := fun {to x} e => by
      rw [List.getD_eq_getElem?_getD, app_end e]; rfl
    rcases balK_same d hP hN k (by omega) with ⟨h1, h2⟩ | ⟨m, to, to', h1, h2, l1, l2, hs⟩
    · exact .inl ⟨balK_none h1 1, balK_none h2 1⟩
    cases hn : need.getD (firN n + k) false with
    | false =>
      refine .inr ⟨m, to ++ [d], to' ++ [0], balK_dead h1 hn, balK_dead h2 hn, by rw [List.length_append, l1]; rfl, by rw [List.length_append, l2]; rfl, fun j hj hv => ?_⟩
      by_cases hjk : j < firN n + k
      · rw [getD_pre (by omega), getD_pre (by omega)]; exact hs j hjk hv
      · have e : j = firN n + k := by omega
        subst e
        rcases hv with hv | hv
        · omega
        · rw [hn] at hv; cases hv
    | true =>
      have e : leafL m to (cjL n k) = leafL m to' (cjL n k) := by
        unfold leafL
        congr 1
        refine List.map_congr_left fun y hy => ?_
        obtain ⟨l, rfl, g1, g2⟩ := need_live hN hP (by omega) hn y hy
        exact mapI_of (hs _ g1 g2)
      cases hT : treeF (cjL n k).length m (leafL m to' (cjL n k)) with
      | none => exact .inl ⟨balK_fail h1 hn (by rw [e]; exact hT), balK_fail h2 hn hT⟩
      | some r =>
        obtain ⟨m', y⟩ := r
        refine .inr ⟨m', to ++ [y], to' ++ [y], balK_tree h1 hn (by rw [e]; exact hT), balK_tree h2 hn hT, by rw [List.length_append, l1]; rfl, by rw [List.length_append, l2]; rfl, fun j hj hv => ?_⟩
        by_cases hjk : j < firN n + k
        · rw [getD_pre (by omega), getD_pre (by omega)]; exact hs j hjk hv
        · have e : j = firN n + k := by omega
          subst e
          rw [last l1, last l2]
/-- What Balance answers. -/
def balH (d : Int) (h : DNet) : DNet := match balK d h (needO h) h.2.2.1.length with
  | none => h
  | some s => sweepO (rootsTo h s.1.2.2.1 s.2)
def balO (n : DNet) : DNet := if netB n = true then balH 0 (hashO n) else zeroN
theorem bal_yes {n : DNet} (h : netB n = true) : balO n = balH 0 (hashO n) := by unfold balO; rw [if_pos h]
theorem bal_root {h : DNet} {d : Int} (hP : NetP h) {s : DNet × List Int} (hs : balK d h (needO h) h.2.2.1.length = some s) {r : Int} (hr : r ∈ rootsL h) :
    ∃ l q : Nat, r = (l : Int) ∧ l / 2 < netN h ∧ Live h (needO h) (l / 2) ∧ mapI s.2 r = (q : Int) ∧ q / 2 < firN h + s.1.2.2.1.length ∧ lev s.1 (q / 2) ≤ lev h (l / 2) ∧ ∀ (st : List Int) (x : Int), st.length = h.2.1.length → bitV (allV s.1 st x) q = bitV (allV h st x) l := by
  have hN := need_all hP
  have hB := binv_all d hP hN _ (Nat.le_refl _) s hs
  obtain ⟨l, rfl, hl⟩ := hP.root r hr
  have hv : Live h (needO h) (l / 2) := .inr (hN.root l hr)
  obtain ⟨q, e, hq, hlev, hval⟩ := binv_map hB hP hl hv
  refine ⟨l, q, rfl, hl, hv, e, ?_, hlev, hval⟩
  unfold netN at hq
  rw [hB.fir] at hq
  exact hq
theorem bal_pre {h : DNet} {d : Int} (hP : NetP h) {s : DNet × List Int} (hs : balK d h (needO h) h.2.2.1.length = some s) : NetP (rootsTo h s.1.2.2.1 s.2) := by
  have hB := binv_all d hP (need_all hP) _ (Nat.le_refl _) s hs
  refine rootsTo_net hP hB.net.sz.a300 (fun k a ha => ?_) (fun r hr => ?_)
  · have := hB.net.and_ k a ha
    rw [hB.fir] at this
    exact this
  · obtain ⟨l, q, _, _, _, e, hq, _⟩ := bal_root hP hs hr
    exact ⟨q, e, hq⟩
theorem balH_net {h : DNet} (d : Int) (hP : NetP h) : NetP (balH d h) := by
  unfold balH
  cases hs : balK d h (needO h) h.2.2.1.length with
  | none => exact hP
  | some s => exact sweep_net (bal_pre hP hs)
theorem balH_run {h : DNet} (d : Int) (hP : NetP h) (xs : List Int) : runO (balH d h) xs = runO h xs := by
  unfold balH
  cases hs : balK d h (needO h) h.2.2.1.length with
  | none => rfl
  | some s =>
    have hp := bal_pre hP hs
    dsimp only
    rw [sweep_run hp]
    have hB := binv_all d hP (need_all hP) _ (Nat.le_refl _) s hs
    refine run_copy hP hp (fun st x hl r hr => ?_) xs
    obtain ⟨l, q, e0, _, _, e, hq, _, hval⟩ := bal_root hP hs hr
    refine ⟨l, q, e0, e, ?_⟩
    rw [← hval st x hl]
    congr 1
    exact allV_same (n := s.1) (m := rootsTo h s.1.2.2.1 s.2) hB.i.symm (by rw [hB.slen]; unfold rootsTo; simp) rfl st x
theorem balH_dep {h : DNet} (d : Int) (hP : NetP h) : depO (balH d h) ≤ depO h := by
  unfold balH
  cases hs : balK d h (needO h) h.2.2.1.length with
  | none => exact Int.le_refl _
  | some s =>
    have hp := bal_pre hP hs
    have hB := binv_all d hP (need_all hP) _ (Nat.le_refl _) s hs
    refine Int.le_trans (sweep_dep hp) (dep_copy hP hp fun r hr => ?_)
    obtain ⟨l, q, e0, _, _, e, hq, hlev, _⟩ := bal_root hP hs hr
    rw [e, e0, Int.toNat_natCast, Int.toNat_natCast]
    rw [lev_same (n := s.1) (m := rootsTo h s.1.2.2.1 s.2) (by rw [rootsTo_fir, hB.fir]) rfl]
    exact hlev
theorem balH_any {h : DNet} (d : Int) (hP : NetP h) : balH d h = balH 0 h := by
  have hN := need_all hP
  unfold balH
  rcases balK_same d hP hN _ (Nat.le_refl _) with ⟨h1, h2⟩ | ⟨m, to, to', h1, h2, l1, l2, hs⟩
  · rw [h1, h2]
  rw [h1, h2]
  dsimp only
  have key : ∀ r ∈ rootsL h, mapI to r = mapI to' r := fun r hr => by
    obtain ⟨l, rfl, hl⟩ := hP.root r hr
    exact mapI_of (hs _ hl (.inr (hN.root l hr)))
  congr 1
  unfold rootsTo
  have e1 : h.2.1.map (fun s => (s.1, s.2.1, s.2.2.map (mapI to))) = h.2.1.map (fun s => (s.1, s.2.1, s.2.2.map (mapI to'))) := by
    refine List.map_congr_left fun s hm => ?_
    have : s.2.2.map (mapI to) = s.2.2.map (mapI to') := List.map_congr_left fun r hr => key r (by unfold rootsL; exact List.mem_append.2 (.inr (List.mem_flatMap.2 ⟨s, hm, hr⟩)))
    rw [this]
  have e2 : h.2.2.2.map (mapI to) = h.2.2.2.map (mapI to') := List.map_congr_left fun r hr => key r (by unfold rootsL; exact List.mem_append.2 (.inl hr))
  rw [e1, e2]
theorem bal_net {n : DNet} (hP : NetP n) : NetP (balO n) := by rw [bal_yes (netB_of hP)]; exact balH_net 0 (hash_net hP)
theorem bal_run {n : DNet} (hP : NetP n) (xs : List Int) : runO (balO n) xs = runO n xs := by rw [bal_yes (netB_of hP), balH_run 0 (hash_net hP), hash_run hP]
theorem bal_dep {n : DNet} (hP : NetP n) : depO (balO n) ≤ depO n := by rw [bal_yes (netB_of hP)]; exact Int.le_trans (balH_dep 0 (hash_net hP)) (hash_dep hP)
theorem sweep_in {n : DNet} (hP : NetP n) : (sweepO n).1 = n.1 := by rw [sweep_yes (netB_of hP)]; rfl
theorem bal_in {n : DNet} (hP : NetP n) : (balO n).1 = n.1 := by
  have h1 : (hashO n).1 = n.1 := by rw [hash_yes (netB_of hP), sweep_in (preN_net hP)]; rfl
  rw [bal_yes (netB_of hP)]
  unfold balH
  cases hs : balK 0 (hashO n) (needO (hashO n)) (hashO n).2.2.1.length with
  | none => exact h1
  | some s =>
    dsimp only
    rw [sweep_in (bal_pre (hash_net hP) hs)]
    exact h1
end Go.Proofs.Ytiejilmgchmppaa
