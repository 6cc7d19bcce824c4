/-
  The minimal cover, as the reference finds it.
-/
import Derived.Test.YtjibjnkabfmgaaaPri
namespace Go.Proofs.Ytjibjnkabfmgaaa
open Go.RowKit
set_option linter.unusedVariables false
set_option linter.unusedSimpArgs false

theorem pri_mem (N B m X : Nat) (c : Int × Int) (h : c ∈ priR N B X m) : ∃ Y : Nat, Y < m ∧ c = ((X : Int), (Y : Int)) := by
  unfold priR at h
  obtain ⟨Y, hY, rfl⟩ := List.mem_map.1 h
  exact ⟨Y, by simpa using (List.mem_filter.1 hY).1, rfl⟩
theorem pri_small (N B : Nat) (c : Int × Int) (h : c ∈ primesL N B) : ∃ X Y : Nat, c = ((X : Int), (Y : Int)) ∧ X < 2 ^ N ∧ Y < 2 ^ N := by
  unfold primesL priA at h
  obtain ⟨X, hX, hc⟩ := List.mem_flatMap.1 h
  obtain ⟨Y, hY, rfl⟩ := pri_mem N B _ X c hc
  exact ⟨X, Y, rfl, by simpa using hX, hY⟩
/-- Every element is a pair of small numbers. -/
def SmallM (L : List (Int × Int)) : Prop := ∀ c ∈ L, ∃ X Y : Nat, c = ((X : Int), (Y : Int)) ∧ X ≤ 15 ∧ Y ≤ 15
theorem SmallM.small {L : List (Int × Int)} (h : SmallM L) : Small L := fun k hk => by
  obtain ⟨X, Y, e, hX, hY⟩ := h _ (List.getElem_mem hk)
  exact ⟨X, Y, by rw [List.getD_eq_getElem?_getD, List.getElem?_eq_getElem hk]; exact e, hX, hY⟩
theorem SmallM.erase {L : List (Int × Int)} (h : SmallM L) (k : Nat) : SmallM (L.eraseIdx k) := fun c hc => h c (List.mem_of_mem_eraseIdx hc)
theorem primes_smallM (N B : Nat) (hN : N ≤ 4) : SmallM (primesL N B) := fun c hc => by
  obtain ⟨X, Y, e, hX, hY⟩ := pri_small N B c hc
  have := pow16 N hN
  exact ⟨X, Y, e, by omega, by omega⟩
/-- What the others than the one at k cover, as a number. -/
def minB (N : Nat) (L : List (Int × Int)) (k : Nat) : Nat := mkB (fun i => covB L k i) (2 ^ N)
/-- From the j first cubes on, the last first, those are left out that are not needed. -/
def minK (N B : Nat) : Nat → List (Int × Int) → List (Int × Int)
  | 0, L => L
  | k + 1, L => minK N B k (if minB N L k = B then L.eraseIdx k else L)
def minL (N B : Nat) : List (Int × Int) := minK N B (primesL N B).length (primesL N B)

theorem specTab_at (N : Nat) (A : Option Addr) (c : Nat) (L : List (Int × Int)) (k : Nat) {d : Nat} (w : World) (hN : N ≤ 4) (hL : RowP w A L.length L) (hS : Small L) (h : minB N L k = d) :
    Calls Try.prog 48 #[.int .i64 N, .slice A L.length c, .int .i64 k] w fun e w' => e = .returned (.agg #[.int .i64 N, .int .i64 (d : Nat)]) ∧ Below w.heap.size w w' := by
  subst h; exact specTab_any N A c L k w hN hL hS
theorem specPri_no (n b : Int) (w : World) (hok : okB n b = false) :
    Calls Try.prog 30 #[T n b] w fun e w' => ∃ v, e = .returned v ∧ OwnsCube w' w.heap.size v [] ∧ Below w.heap.size w w' := by
  unfold T
  go_enter Try.func30, Try.ntmps30
  go_wp2_with fail
  refine (specOkC_at n b _ hok).mono ?_
  rintro e w1 ⟨rfl, hb⟩
  have hO : OwnsCube w1 (w.heap.size + 1) (.slice (some ⟨w.heap.size + 1, 0, none⟩) 0 0) [] := by
    have h0 := ownR_new fP 2 32 (w.alloc (.cells #[.int .i64 n, .int .i64 b] 25)) (w.heap.size + 1) (by simp)
    exact (by simpa using h0 : OwnsCube _ _ (.slice (some ⟨w.heap.size + 1, 0, none⟩) 0 0) []).below hb
  have g := box2 hb
  have R := Lib.hid (And.intro (OwnsR.mono hO (Nat.le_succ _)) g.2.2)
  clear hO hb g
  go_wp2
  go_ret
  exact ⟨_, rfl, R.out.1, R.out.2⟩

theorem add_off (g o j : Nat) : ((⟨g, o, none⟩ : Addr).add j) = ⟨g, o + j, none⟩ := by unfold Addr.add; split <;> simp_all
/-- The cells of a slice without the one at m. -/
theorem cells_cut {w : World} {B c g : Nat} {L : List (Int × Int)} (h : OwnsCube w B (.slice (some ⟨g, 0, none⟩) L.length c) L) (m : Nat) (hm : m < L.length) :
    (∀ j u, ((L.take m).flatMap fP)[j]? = some u → w.cell? ((⟨g, 0, none⟩ : Addr).add j) = some u) ∧ (∀ j u, ((L.drop (m + 1)).flatMap fP)[j]? = some u → w.cell? ((⟨g, (m + 1) * 2, none⟩ : Addr).add j) = some u) := by
  have hc := World.ownsRow.cells h (g := g) rfl
  refine ⟨fun j u hu => hc j u ?_, fun j u hu => ?_⟩
  · have e : L.flatMap fP = (L.take m).flatMap fP ++ (L.drop m).flatMap fP := by rw [← List.flatMap_append, List.take_append_drop]
    rw [e, List.getElem?_append_left (List.getElem?_eq_some_iff.1 hu).1, hu]
  · have e : L.flatMap fP = (L.take (m + 1)).flatMap fP ++ (L.drop (m + 1)).flatMap fP := by rw [← List.flatMap_append, List.take_append_drop]
    have hl : ((L.take (m + 1)).flatMap fP).length = (m + 1) * 2 := by rw [flat_len fP 2 fP_len, List.length_take]; congr 1; omega
    have := hc ((m + 1) * 2 + j) u (by rw [e, List.getElem?_append_right (by omega), hl, Nat.add_sub_cancel_left, hu])
    rw [add_off] at this ⊢
    simpa using this
/-- append of a slice that may be empty, as a step of a region that draws. -/
theorem step_append_any {P : Program} {ops : Array Oper} {o : Oper} {a : Act} {w : World} {K : Act → World → Prop} {Q : Exit → Act → World → Prop} {E : Prop} (hgd : o.guard = none) (s x : Operand) (t : TypeId)
    (ho : o.op = .call { callee := .builtin .append, args := #[s, x], argTypes := #[t, t] })
    (base : Nat) (e : TypeId) (i : TypeInfo) (z : Value) (size bytes : Nat) (ht : P.underlying t = some (.slice e)) (hi : P.info? e = some i) (hz : i.zero = some z)
    (hsize : i.size = size) (hby : i.bytes = bytes) (hzs : z.cells.size = size) (hsz : 0 < size)
    (v : Value) (n : Nat) (xs : List Value) (hs : a.eval s = v) (hown : w.ownsRow base e size v n xs)
    (ad : Addr) (m c : Nat) (news : List Value) (hx : a.eval x = .slice (some ad) m c) (hl : news.length = m * size) (hnews : ∀ j u, news[j]? = some u → w.cell? (ad.add j) = some u) (h1 : ∀ u ∈ news, u.oneCell' = true)
    (h63 : n + m ≤ maxLen) (hbytes : (n + m) * bytes ≤ 140737488355328) (hbase : base ≤ w.heap.size)
    (h : ∀ v' w', w'.ownsRow base e size v' (n + m) (xs ++ news) → w.grownBy w' v.ownBlock → K (a.put o.dst v') w') :
    if Region.wanted o (yielded ops a.tmps) = true then Oper.wp P o a w K Q else E := by
  have hw : Region.wanted o (yielded ops a.tmps) = true := by simp [Region.wanted, hgd]
  rw [if_pos hw]
  obtain ⟨v', w', hr, h2, h3, _⟩ := run_append_own_at (P := P) w base t o.type e i z size bytes ht hi hz hsize hby hzs hsz v n xs hown ad m c news hl hnews h1 h63 hbytes hbase
  unfold Oper.wp execOp
  simp only [ho, resolve, invoke, builtin, Sem.run_bind, Sem.run_pure, Result.andThen_ok, List.map_toArray, List.map_cons, List.map_nil, hs, hx, hr]
  exact h v' w' h2 h3
theorem fP_one (L : List (Int × Int)) : ∀ u ∈ L.flatMap fP, u.oneCell' = true := fun u hu => by
  obtain ⟨c, _, hc⟩ := List.mem_flatMap.1 hu
  simp only [fP, List.mem_cons, List.not_mem_nil, or_false] at hc
  rcases hc with rfl | rfl <;> rfl

set_option maxHeartbeats 12800000 in
theorem specMin_yes (N B : Nat) (w : World) (hok : okB N B = true) (hN : N ≤ 4) (hB : B ≤ 65535) :
    Calls Try.prog 34 #[T N B] w fun e w' => ∃ v, e = .returned v ∧ OwnsCube w' w.heap.size v (minL N B) ∧ Below w.heap.size w w' := by
  obtain ⟨i0, hi, hz0, hz1, hz2⟩ := info_parts infoCube
  have h16 := pow16 N hN
  unfold T
  go_enter Try.func34, Try.ntmps34
  go_wp2_with fail
  refine (specPri_yes N B _ hok hN hB).mono ?_
  rintro e w1 ⟨v, rfl, hO, hb⟩
  have g := box1 hb
  have c0 : w1.cell? ⟨w.heap.size, 0, none⟩ = some (.int .i64 N) := box_cell g.1 0 _ rfl
  have c1 : w1.cell? ⟨w.heap.size, 1, none⟩ = some (.int .i64 B) := box_cell g.1 1 _ rfl
  obtain ⟨A, cp, rfl, hLA⟩ := OwnsR.shape fP_len hO
  have HO1 := Lib.hid (OwnsR.mono hO (by simp : w.heap.size + 1 ≤ _))
  have HB1 := Lib.hid g.2
  have l0 := World.block_lt_of_cell? _ _ c0
  clear hb g hO hLA
  go_wp2_with fail
  refine (specOkC_at N B _ hok).mono ?_
  rintro e w2 ⟨rfl, hb⟩
  have u0 := keep hb c0
  have u1 := keep hb c1
  have HO2 := Lib.hid (OwnsR.below HO1.out hb)
  have HB2 := Lib.hid (bThen HB1.out hb)
  clear hb c0 c1
  have hPl : (primesL N B).length ≤ 256 := Nat.le_trans (priA_len N B _) (Nat.le_trans (Nat.mul_le_mul h16 h16) (by decide))
  have HPS := Lib.hid (primes_smallM N B hN)
  go_wp2
  go_loopw [3, 4] (fun v x wr => ∃ (j : Nat) (L : List (Int × Int)), j ≤ L.length ∧ x = .int .i64 ((j : Int) - 1) ∧ minK N B j L = minL N B ∧ SmallM L ∧ L.length ≤ 256 ∧ OwnsCube wr (w.heap.size + 1) v L ∧ Below w2.heap.size w2 wr) (fun _ x _ => (intOf x + 1).toNat)
  case atStart => exact ⟨_, _, Nat.le_refl _, rfl, rfl, HPS.out, hPl, HO2.out, Below.refl _ _⟩
  case round =>
    obtain ⟨j, L, hj, rfl, hmin, hsm, hLl, hown, hbel⟩ := hrel
    have s0 := keep hbel u0
    have s1 := keep hbel u1
    obtain ⟨A2, c2, rfl, hrow⟩ := OwnsR.rowP hown (by unfold maxLen; omega)
    have HR := Lib.hid hrow
    have HOW := Lib.hid hown
    have HBL := Lib.hid hbel
    have HSM := Lib.hid hsm
    have HMK := Lib.hid hmin
    clear hown hbel hrow u0 u1 hsm hmin HO2 HO1 HPS
    cases j with
    | zero =>
      go_wp2
      go_ret
      exact ⟨_, rfl, by rw [← HMK.out]; exact OwnsR.mono HOW.out (Nat.le_succ _), bThen HB2.out HBL.out⟩
    | succ m =>
      obtain ⟨d, hd⟩ : ∃ d, minB N L m = d := ⟨_, rfl⟩
      have HD := Lib.hid hd
      have k0 := cell_regrown s0
      have k1 := cell_regrown s1
      clear hd
      have hm1 : (((m + 1 : Nat) : Int) - 1) = (m : Int) := by omega
      rw [hm1]
      clear hm1
      have t1 : 0 ≤ (m : Int) := by omega
      by_cases hdB : d = B
      · subst hdB
        go_wp2
        refine wp_region_quiet_below (by kernel_rfl) (by kernel_rfl) ?_
        repeat (go_big_quiet_step (first | (go_at_call 48; refine Calls.regrown_of (specTab_at N A2 c2 L m _ hN (RowP.below HR.out (below_regrown _ _ _)) HSM.out.small HD.out))))
        refine wpQuiet_nil ?_
        intro _ hw'
        obtain ⟨⟨dq, osq⟩, hw''⟩ := hw'
        subst hw''
        go_wp2
        obtain ⟨W, hW⟩ : ∃ W, W = Sort.grow (redrawn wr dq) osq := ⟨_, rfl⟩
        rw [← hW]
        have hbW : Below wr.heap.size wr W := by rw [hW]; exact below_regrown _ _ _
        have hoW := OwnsR.below HOW.out hbW
        have HBW := Lib.hid (bThen HBL.out hbW)
        obtain ⟨g, rfl, hbg, hgW, hnc, hcm⟩ : ∃ g, A2 = some ⟨g, 0, none⟩ ∧ w.heap.size + 1 ≤ g ∧ g < W.heap.size ∧ L.length ≤ c2 ∧ c2 ≤ maxLen := by
          have hlt := OwnsR.shape fP_len hoW
          rcases hoW.2 with ⟨hv, h0⟩ | ⟨g, cap, cur, hv, hbg, hg, hnc, hcm, _⟩
          · omega
          · simp only [Value.slice.injEq] at hv
            obtain ⟨rfl, _, rfl⟩ := hv
            refine ⟨g, rfl, hbg, ?_, hnc, hcm⟩
            rcases Nat.lt_or_ge g W.heap.size with h | h
            · exact h
            · rw [Array.getElem?_eq_none h] at hg; cases hg
        have HOWW := Lib.hid hoW
        have hcm2 := hcm
        unfold maxLen at hcm2
        clear hW hbW hoW s0 s1 k0 k1 hcm HR
        have hmL : m < L.length := by omega
        have hq1 : m ≤ c2 := by omega
        have hq2 : m + 1 ≤ L.length := by omega
        have hq3 : m + 1 ≤ c2 := by omega
        obtain ⟨hn1, hn2⟩ := cells_cut HOWW.out m hmL
        have hN1 : ((L.take m).flatMap fP).length = m * 2 := by rw [flat_len fP 2 fP_len, List.length_take]; congr 1; omega
        have hN2 : ((L.drop (m + 1)).flatMap fP).length = (L.length - (m + 1)) * 2 := by rw [flat_len fP 2 fP_len, List.length_drop]
        obtain ⟨p, hp⟩ : ∃ p, m + 1 = p := ⟨_, rfl⟩
        have hwr : IntKind.i64.wrap ((m : Int) + 1) = (p : Int) := by
          rw [IntKind.wrap_i64]; omega
        rw [hp] at hN2 hn2 hq2 hq3
        have HPP := Lib.hid hp
        clear hp
        by_cases hcc : c2 = p
        · have hD0 : (L.drop p).flatMap fP = [] := by rw [List.drop_eq_nil_of_le (by omega)]; rfl
          have HD0 := Lib.hid hD0
          replace hN2 : ((L.drop p).flatMap fP).length = 0 * 2 := by rw [hD0]; rfl
          replace hcc := hcc.symm
          subst hcc
          clear hD0
          go_region_law (first | (refine step_append_any (by rfl) _ _ _ (by rfl) W.heap.size 32 i0 _ 2 16 Try.underlying28 hi hz0 hz1 hz2 rfl (by omega) (.slice (some ⟨W.heap.size, 0, none⟩) 0 0) 0 [] (by rfl) (by repeat' (first | exact ownR_new fP 2 32 _ W.heap.size (Nat.le_refl _) | refine World.ownsRow.drew ?_)) ⟨g, 0, none⟩ m p ((L.take m).flatMap fP) (by rfl) hN1 (fun j u hu => keep (by repeat' (first | exact Below.refl _ _ | refine Below.drew ?_ | refine bAlloc ?_ (Nat.le_refl _) _)) (hn1 j u hu)) (fP_one _) (by unfold maxLen; omega) (by omega) (by simp) ?_; intro v1 w3 hown1 hgrow1; have hb1 : Below W.heap.size W w3 := Below.grown (by repeat' (first | exact Below.refl _ _ | refine Below.drew ?_ | refine bAlloc ?_ (Nat.le_refl _) _)) hgrow1 (by simp) (fun j hj => by simp [Value.ownBlock] at hj; omega); have hs1 := hb1.size; clear hgrow1) | (refine step_append_any (by rfl) _ _ _ (by rfl) W.heap.size 32 i0 _ 2 16 Try.underlying28 hi hz0 hz1 hz2 rfl (by omega) v1 (0 + m) ([] ++ (L.take m).flatMap fP) (by rfl) (by repeat' (first | exact hown1 | refine World.ownsRow.drew ?_)) ⟨g, 0, none⟩ 0 0 ((L.drop p).flatMap fP) (by rfl) hN2 (fun j u hu => keep (by repeat' (first | exact hb1 | refine Below.drew ?_)) (by have h0 := HD0.out; rw [h0] at hu; simp at hu)) (fP_one _) (by unfold maxLen; omega) (by omega) hs1 ?_; intro v2 w4 hown2 hgrow2; have hb2 : Below W.heap.size W w4 := Below.grown (by repeat' (first | exact hb1 | refine Below.drew ?_)) hgrow2 hs1 (fun j hj => (hown1.lt j hj).1); clear hgrow2))
          have hR : OwnsCube w4 W.heap.size v2 (L.eraseIdx m) := by
            have e1 : (L.eraseIdx m).length = 0 + m + 0 := by rw [List.length_eraseIdx_of_lt hmL]; have := HPP.out; omega
            have e2 : (L.eraseIdx m).flatMap fP = [] ++ (L.take m).flatMap fP ++ (L.drop p).flatMap fP := by rw [List.eraseIdx_eq_take_drop_succ, HPP.out, List.flatMap_append, List.nil_append]
            unfold OwnsCube OwnsR
            rw [e1, e2]
            exact hown2
          have RR := Lib.hid (And.intro (OwnsR.mono hR (Nat.le_of_lt (Nat.lt_of_le_of_lt hbg hgW))) (bTrans HBW.out (HBW.out.size) hb2))
          clear hR hown2 hown1 hb1 hb2 hs1 hn1 hn2
          go_wp2
          go_roundw
          case rel =>
            refine ⟨m, L.eraseIdx m, ?_, by go_num, ?_, HSM.out.erase m, ?_, RR.out.1, RR.out.2⟩
            · rw [List.length_eraseIdx_of_lt hmL]; omega
            · rw [← HMK.out]; simp only [minK]; rw [HD.out, if_pos rfl]
            · rw [List.length_eraseIdx_of_lt hmL]; omega
          case measure => simp [intOf] <;> omega
        · go_region_law (first | (refine step_append_any (by rfl) _ _ _ (by rfl) W.heap.size 32 i0 _ 2 16 Try.underlying28 hi hz0 hz1 hz2 rfl (by omega) (.slice (some ⟨W.heap.size, 0, none⟩) 0 0) 0 [] (by rfl) (by repeat' (first | exact ownR_new fP 2 32 _ W.heap.size (Nat.le_refl _) | refine World.ownsRow.drew ?_)) ⟨g, 0, none⟩ m c2 ((L.take m).flatMap fP) (by rfl) hN1 (fun j u hu => keep (by repeat' (first | exact Below.refl _ _ | refine Below.drew ?_ | refine bAlloc ?_ (Nat.le_refl _) _)) (hn1 j u hu)) (fP_one _) (by unfold maxLen; omega) (by omega) (by simp) ?_; intro v1 w3 hown1 hgrow1; have hb1 : Below W.heap.size W w3 := Below.grown (by repeat' (first | exact Below.refl _ _ | refine Below.drew ?_ | refine bAlloc ?_ (Nat.le_refl _) _)) hgrow1 (by simp) (fun j hj => by simp [Value.ownBlock] at hj; omega); have hs1 := hb1.size; clear hgrow1) | (refine step_append_any (by rfl) _ _ _ (by rfl) W.heap.size 32 i0 _ 2 16 Try.underlying28 hi hz0 hz1 hz2 rfl (by omega) v1 (0 + m) ([] ++ (L.take m).flatMap fP) (by rfl) (by repeat' (first | exact hown1 | refine World.ownsRow.drew ?_)) ⟨g, p * 2, none⟩ (L.length - p) (c2 - p) ((L.drop p).flatMap fP) (by rfl) hN2 (fun j u hu => keep (by repeat' (first | exact hb1 | refine Below.drew ?_)) (hn2 j u hu)) (fP_one _) (by unfold maxLen; omega) (by omega) hs1 ?_; intro v2 w4 hown2 hgrow2; have hb2 : Below W.heap.size W w4 := Below.grown (by repeat' (first | exact hb1 | refine Below.drew ?_)) hgrow2 hs1 (fun j hj => (hown1.lt j hj).1); clear hgrow2))
          have hR : OwnsCube w4 W.heap.size v2 (L.eraseIdx m) := by
            have e1 : (L.eraseIdx m).length = 0 + m + (L.length - p) := by rw [List.length_eraseIdx_of_lt hmL]; have := HPP.out; omega
            have e2 : (L.eraseIdx m).flatMap fP = [] ++ (L.take m).flatMap fP ++ (L.drop p).flatMap fP := by rw [List.eraseIdx_eq_take_drop_succ, HPP.out, List.flatMap_append, List.nil_append]
            unfold OwnsCube OwnsR
            rw [e1, e2]
            exact hown2
          have RR := Lib.hid (And.intro (OwnsR.mono hR (Nat.le_of_lt (Nat.lt_of_le_of_lt hbg hgW))) (bTrans HBW.out (HBW.out.size) hb2))
          clear hR hown2 hown1 hb1 hb2 hs1 hn1 hn2
          go_wp2
          go_roundw
          case rel =>
            refine ⟨m, L.eraseIdx m, ?_, by go_num, ?_, HSM.out.erase m, ?_, RR.out.1, RR.out.2⟩
            · rw [List.length_eraseIdx_of_lt hmL]; omega
            · rw [← HMK.out]; simp only [minK]; rw [HD.out, if_pos rfl]
            · rw [List.length_eraseIdx_of_lt hmL]; omega
          case measure => simp [intOf] <;> omega
      · go_wp2
        refine wp_region_quiet_below (by kernel_rfl) (by kernel_rfl) ?_
        repeat (go_big_quiet_step (first | (go_at_call 48; refine Calls.regrown_of (specTab_at N A2 c2 L m _ hN (RowP.below HR.out (below_regrown _ _ _)) HSM.out.small HD.out))))
        refine wpQuiet_nil ?_
        intro _ hw'
        obtain ⟨⟨dq, osq⟩, hw''⟩ := hw'
        subst hw''
        go_wp2
        go_roundw
        case rel =>
          refine ⟨m, L, by omega, by go_num, ?_, HSM.out, hLl, OwnsR.below HOW.out (below_regrown _ _ _), bThen HBL.out (below_regrown _ _ _)⟩
          rw [← HMK.out]; simp only [minK]; rw [HD.out, if_neg hdB]
        case measure => simp [intOf] <;> omega

theorem specMin_no (n b : Int) (w : World) (hok : okB n b = false) :
    Calls Try.prog 34 #[T n b] w fun e w' => ∃ v, e = .returned v ∧ OwnsCube w' w.heap.size v [] ∧ Below w.heap.size w w' := by
  unfold T
  go_enter Try.func34, Try.ntmps34
  go_wp2_with fail
  refine (specPri_no n b _ hok).mono ?_
  rintro e w1 ⟨v, rfl, hO, hb⟩
  have g := box1 hb
  have c0 : w1.cell? ⟨w.heap.size, 0, none⟩ = some (.int .i64 n) := box_cell g.1 0 _ rfl
  have c1 : w1.cell? ⟨w.heap.size, 1, none⟩ = some (.int .i64 b) := box_cell g.1 1 _ rfl
  obtain ⟨A, cp, rfl, hLA⟩ := OwnsR.shape fP_len hO
  have HO1 := Lib.hid (OwnsR.mono hO (by simp : w.heap.size ≤ _))
  have HB1 := Lib.hid g.2
  clear hb g hO hLA
  go_wp2_with fail
  refine (specOkC_at n b _ hok).mono ?_
  rintro e w2 ⟨rfl, hb⟩
  have R := Lib.hid (And.intro (OwnsR.below HO1.out hb) (bThen HB1.out hb))
  clear hb c0 c1
  go_wp2
  go_ret
  exact ⟨_, rfl, R.out.1, R.out.2⟩
end Go.Proofs.Ytjibjnkabfmgaaa
