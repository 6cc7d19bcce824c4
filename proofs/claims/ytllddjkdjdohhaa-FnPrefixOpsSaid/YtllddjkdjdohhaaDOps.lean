/-
  The contract of DrawOpsOk.
-/
import Derived.Test.YtllddjkdjdohhaaPlace
import Derived.Test.YtllddjkdjdohhaaRowsO
import Derived.Test.YtllddjkdjdohhaaIntS
namespace Go.Proofs.Ytllddjkdjdohhaa
open Go.RowKit
set_option linter.unusedVariables false
set_option linter.unusedSimpArgs false

theorem RowsO.mono {w : World} {B B' : Nat} {v : Value} {L : List DOp} (h : RowsO w B v L) (hB : B' ≤ B) : RowsO w B' v L := by
  obtain ⟨b, c, e, h1, h2, h3, h4⟩ := h
  exact ⟨b, c, e, h1, h2, by omega, h4⟩
theorem avail_of {w : World} {B g : Nat} {v : Value} {L : List Int} (h : OwnsI w B v L) (hB : g < B) (hl : L.length ≤ 1000) (hf : ∀ x ∈ L, Fit x) : ∃ A c, v = .slice A L.length c ∧ Avail A L.length g w := by
  have hlt := World.ownsRow.lt h
  obtain ⟨A, c, rfl, hs⟩ := h.shape
  refine ⟨A, c, rfl, hl, fun j => L.getD j 0, fun j hj => ?_, fun h0 => ?_⟩
  · show Fit (L.getD j 0)
    rw [List.getD_eq_getElem?_getD, List.getElem?_eq_getElem hj]
    exact hf _ (List.getElem_mem hj)
  · obtain ⟨b, rfl, _⟩ := hs 0 h0
    refine ⟨b, 0, rfl, fun w' hc j hj => ?_⟩
    obtain ⟨b', e, hx, _⟩ := hs j hj
    injection e with e
    injection e with e
    subst e
    rw [Nat.zero_add]
    have hb := hlt b rfl
    exact (hc.cell (p := ⟨b, j, none⟩) hb.2 (by show b ≠ g; omega)).trans hx
theorem OwnsI.chg {g B : Nat} {w w' : World} {v : Value} {L : List Int} (h : OwnsI w B v L) (hc : Chg g w w') (hg : g < B) : OwnsI w' B v L :=
  World.ownsRow.kept h hc.grown (by
    cases hv : v.ownBlock with
    | none => exact .inl rfl
    | some j => exact .inr (fun e => by have := (World.ownsRow.lt h j hv).1; injection e with e; omega))
theorem info_I0 : (Try.prog.info? 3).map (fun i => (i.zero, i.size, i.bytes)) = some (some (.int .i64 0), 1, 8) := by kernel_rfl
/-- What DrawOpsOk leaves. -/
def OpsD (w : World) (e : Ending) (w' : World) : Prop :=
  ∃ v L, ∃ na : Nat, e = .returned (.tuple #[v, .int .i64 na]) ∧ na ≤ 3 ∧ RowsO w' w.heap.size v L ∧ Below w.heap.size w w'
theorem opsD_of {w w' : World} {B na : Nat} {v : Value} {L : List DOp} (hna : na ≤ 3) (hB : w.heap.size ≤ B) (h : RowsO w' B v L) (hb : Below w.heap.size w w') : OpsD w (.returned (.tuple #[v, .int .i64 na])) w' :=
  ⟨v, L, na, rfl, hna, h.mono hB, hb⟩
theorem OwnsO.store {w : World} {B g c j : Nat} {L : List DOp} (h : OwnsO w B (.slice (some ⟨g, 0, none⟩) L.length c) L) (hj : j < L.length) (k a b : Int) :
    OwnsO (((w.setCell ⟨g, j * 3, none⟩ (.int .i64 k)).setCell ⟨g, j * 3 + 1, none⟩ (.int .i64 a)).setCell ⟨g, j * 3 + 2, none⟩ (.int .i64 b)) B (.slice (some ⟨g, 0, none⟩) L.length c) (L.set j (k, a, b)) := by
  have h0 := (OwnsR.stored fO_len (j := j) (i := 0) (u := .int .i64 k) (y := (k, L[j].2.1, L[j].2.2)) h hj (by omega) rfl).1
  have h1 := (OwnsR.stored fO_len (j := j) (i := 1) (u := .int .i64 a) (y := (k, a, L[j].2.2)) (L := L.set j (k, L[j].2.1, L[j].2.2)) (by rw [List.length_set]; exact h0) (by rw [List.length_set]; exact hj) (by omega) (by rw [List.getElem_set_self]; rfl)).1
  have h2 := (OwnsR.stored fO_len (j := j) (i := 2) (u := .int .i64 b) (y := (k, a, b)) (L := (L.set j (k, L[j].2.1, L[j].2.2)).set j (k, a, L[j].2.2)) (by rw [List.length_set, List.length_set] at *; exact h1) (by rw [List.length_set, List.length_set]; exact hj) (by omega) (by rw [List.getElem_set_self]; rfl)).1
  rw [List.length_set, List.length_set, List.set_set, List.set_set] at h2
  exact h2
theorem fit_set {L : List DOp} {j : Nat} {y : DOp} (h : ∀ x ∈ L, FitO x) (hy : FitO y) : ∀ x ∈ L.set j y, FitO x := by
  intro x hx
  rcases List.mem_or_eq_of_mem_set hx with hx | rfl
  · exact h x hx
  · exact hy
theorem fit_app {L : List DOp} {y : DOp} (h : ∀ x ∈ L, FitO x) (hy : FitO y) : ∀ x ∈ L ++ [y], FitO x := by
  intro x hx
  rcases List.mem_append.1 hx with hx | hx
  · exact h x hx
  · simp at hx; subst hx; exact hy
theorem own_addO {B : Nat} {wr w1 : World} {v' : Value} {L : List DOp} {k a b : Int} (hown' : w1.ownsRow B 49 3 v' (L.length + 1) (L.flatMap fO ++ [.int .i64 k, .int .i64 a, .int .i64 b])) : OwnsO w1 B v' (L ++ [(k, a, b)]) := by
  unfold OwnsO OwnsR
  rw [List.length_append, List.flatMap_append]
  exact hown'
theorem fitO_zero : FitO (0, 0, 0) := by unfold FitO Fit; decide
theorem fitO_not : FitO (4, 0, 0) := by unfold FitO Fit; decide
/-- The length of a slice value. -/
def lenV : Value → Nat
  | .slice _ n _ => n
  | _ => 0

set_option maxRecDepth 100000 in
set_option maxHeartbeats 12800000 in
theorem drawOps_any (a : Option Addr) (len cap : Nat) (w : World) (hcode : CodeW w a len) :
    Calls Try.prog 20 #[.slice a len cap] w (OpsD w) := by
  obtain ⟨i0, hi, hz0, hz1, hz2⟩ := info_parts info_Op
  obtain ⟨j0, hji, hjz0, hjz1, hjz2⟩ := info_parts info_I0
  go_enter Try.func20, Try.ntmps20
  go_wp2_with fail
  refine (new_any a len cap w hcode).mono ?_
  rintro e w1 ⟨rfl, hcu, hb1⟩
  obtain ⟨g, hg⟩ : ∃ g, w.heap.size = g := ⟨_, rfl⟩
  have HB1 := Lib.hid hb1
  have HG := Lib.hid hg
  rw [hg] at hcu ⊢
  have HC1 := Lib.hid hcu
  clear hcode hcu hb1 hg
  go_wp2_with fail
  refine (below_any g len 4 _ (by omega) (by omega) HC1.out).mono ?_
  rintro e w2 ⟨x, rfl, ⟨hx0, hx1⟩, hcu, hch⟩
  obtain ⟨na, rfl⟩ := Int.eq_ofNat_of_zero_le hx0
  have HC2 := Lib.hid hcu
  have HH2 := Lib.hid hch
  have hna : na ≤ 3 := by omega
  have hgw2 : g < w2.heap.size := hcu.lt
  clear hcu hch hx0 hx1
  go_wp2
  go_loopw [6, 7] (fun v i wr => ∃ (k : Nat) (L : List Int), k ≤ na ∧ i = .int .i64 k ∧ L.length = k ∧ (∀ x ∈ L, Fit x) ∧ OwnsI wr w2.heap.size v L ∧ Cur 125 wr g len ∧ Chg g w2 wr) (fun _ i _ => na - (intOf i).toNat)
  case atStart =>
    exact ⟨0, [], Nat.zero_le _, rfl, rfl, fun x hx => by simp at hx, own_newI w2 _ (Nat.le_refl _), HC2.out.keep (bAlloc (Below.refl _ _) (Nat.le_refl _) _), (Chg.refl g w2).alloc _⟩
  case round =>
    obtain ⟨k, L, hk, rfl, hL, hfit, hown, hcu, hch⟩ := hrel
    subst hL
    have HO := Lib.hid hown
    have HC := Lib.hid hcu
    have HH := Lib.hid hch
    have HF := Lib.hid hfit
    have hbase := HH2.out.size
    clear hown hcu hch hfit
    by_cases hlt : L.length < na
    · have hbw : w2.heap.size ≤ (wr.alloc (.cells #[.int .i64 (L.length : Nat)] 3)).heap.size := by
        have := HH.out.size
        simp
        omega
      go_wp2_with (refine wpList_append_lies _ rfl _ _ 64 (by rfl) w2.heap.size 3 j0 _ 1 8 Try.underlying64 hji hjz0 hjz1 hjz2 rfl (by omega) u6 L.length _ (by rfl) (HO.out.alloc _) ⟨wr.heap.size, 0, none⟩ 1 1 [.int .i64 (L.length : Nat)] (by rfl) (by rfl) (World.news_of_block (heap_alloc_new wr _)) (by simp [Value.oneCell']) (by omega) (by unfold maxLen; omega) (by omega) hbw (wr.heap.size + 1) (by simp) ?_; intro gg cap w3 hown3 hgrow3 hat3 hlt3)
      have hlo : ∀ i, u6.ownBlock = some i → w2.heap.size ≤ i := fun i hi => (World.ownsRow.lt HO.out i hi).1
      have hc3 := cur_grown HC.out (bAlloc (Below.refl _ _) (Nat.le_refl _) _) hgrow3 (fun i hi => by have := hlo i hi; omega)
      have hh3 := chg_grown HH.out (bAlloc (Below.refl _ _) (Nat.le_refl _) _) hgrow3 hlo
      have HR3 := Lib.hid (And.intro hown3 (And.intro hc3 hh3))
      clear hown3 hgrow3 hat3 hlt3 hc3 hh3 hlo
      go_roundw
      case rel =>
        refine ⟨L.length + 1, L ++ [(L.length : Int)], by omega, by go_num, by simp, ?_, ?_, HR3.out.2.1, HR3.out.2.2⟩
        · intro x hx
          rcases List.mem_append.1 hx with hx | hx
          · exact HF.out x hx
          · simp at hx; subst hx; exact fit_of (by omega) (by omega)
        · have h3 := HR3.out.1
          unfold OwnsI
          rw [List.length_append, List.map_append]
          exact h3
      case measure => simp [intOf]; omega
    · obtain rfl : L.length = na := by omega
      obtain ⟨A, ca, rfl, hav⟩ := avail_of HO.out hgw2 (by omega) HF.out
      have HAV := Lib.hid hav
      clear hav
      go_wp2_with fail
      refine (expr_any g len 15 A L.length ca wr (by omega) (by omega) HC.out HAV.out).mono ?_
      rintro e w4 ⟨v, M, rfl, hown, hM0, hM1, hMf, hcu, hch⟩
      have hgB : g < wr.heap.size := HC.out.lt
      obtain ⟨B, hB⟩ : ∃ B, wr.heap.size = B := ⟨_, rfl⟩
      rw [hB] at hown hgB
      have hBw : w.heap.size ≤ B := by have := HG.out; omega
      have hBw1 : w1.heap.size ≤ B := by have := HH.out.size; omega
      have HC4 := Lib.hid hcu
      have HH4 := Lib.hid (HH2.out.trans (HH.out.trans hch))
      have HO4 := Lib.hid hown
      have HMF := Lib.hid hMf
      clear hown hcu hch hMf hB
      go_wp2_with fail
      refine (below_any g len 6 _ (by omega) (by omega) HC4.out).mono ?_
      rintro e w5 ⟨dd, rfl, ⟨hd0, hd1⟩, hcu, hch⟩
      have HC5 := Lib.hid hcu
      have HH5 := Lib.hid (HH4.out.trans hch)
      have HO5 := Lib.hid (OwnsO.chg HO4.out hch hgB)
      clear hcu hch
      obtain ⟨gb, cb, rfl, hgb, hgb2⟩ := World.ownsRow.form HO5.out hM0
      by_cases e0 : dd = 0
      · subst e0
        go_wp2_with fail
        refine (below_any g len (M.length : Int) _ (by omega) (by omega) HC5.out).mono ?_
        rintro e wa ⟨jx, rfl, ⟨hj0, hj1⟩, hcu, hch⟩
        have HCwa := Lib.hid hcu
        have HHwa := Lib.hid (HH5.out.trans hch)
        have HOwa := Lib.hid (OwnsO.chg HO5.out hch hgB)
        clear hcu hch
        obtain ⟨j, rfl⟩ := Int.eq_ofNat_of_zero_le hj0
        have hjm : j < M.length := by omega
        go_wp2_with fail
        refine (below_any g len 15 _ (by omega) (by omega) HCwa.out).mono ?_
        rintro e wb ⟨kx, rfl, ⟨hk0, hk1⟩, hcu, hch⟩
        have HCwb := Lib.hid hcu
        have HHwb := Lib.hid (HHwa.out.trans hch)
        have HOwb := Lib.hid (OwnsO.chg HOwa.out hch hgB)
        clear hcu hch
        go_wp2_with fail
        refine (place_any g len 16 _ (by omega) (by omega) HCwb.out).mono ?_
        rintro e wc ⟨ax, rfl, hax, hcu, hch⟩
        have HCwc := Lib.hid hcu
        have HHwc := Lib.hid (HHwb.out.trans hch)
        have HOwc := Lib.hid (OwnsO.chg HOwb.out hch hgB)
        clear hcu hch
        go_wp2_with fail
        refine (below_any g len 6 _ (by omega) (by omega) HCwc.out).mono ?_
        rintro e wd ⟨bx, rfl, ⟨hb0, hb1⟩, hcu, hch⟩
        have HCwd := Lib.hid hcu
        have HHwd := Lib.hid (HHwc.out.trans hch)
        have HOwd := Lib.hid (OwnsO.chg HOwc.out hch hgB)
        clear hcu hch
        have hat := HOwd.out
        obtain ⟨A', c', hv', hs'⟩ := OwnsR.shape fO_len hat
        injection hv' with hv1 hv2 hv3
        subst hv1 hv3
        obtain ⟨g', hg', hcell⟩ := hs' j hjm
        injection hg' with hg'
        injection hg' with hg'
        subst hg'
        obtain ⟨c0, d0⟩ := hcell 0 _ rfl
        obtain ⟨c1, d1⟩ := hcell 1 _ rfl
        obtain ⟨c2, d2⟩ := hcell 2 _ rfl
        rw [Nat.add_zero] at c0 d0
        clear hat hs' hcell hv2
        go_wp2
        go_ret2
        have HF := Lib.hid (fit_set (j := j) HMF.out (show FitO (kx - 1, ax, bx - 1) from ⟨(fit_of (by omega) (by omega) : Fit (kx - 1)), hax, (fit_of (by omega) (by omega) : Fit (bx - 1))⟩))
        have hst := OwnsO.store HOwd.out hjm (kx - 1) ax (bx - 1)
        have hbl : Below w.heap.size w wd := Chg.below HB1.out HHwd.out HB1.out.size (by have := HG.out; omega)
        rw [show M.length = (M.set j (kx - 1, ax, bx - 1)).length from List.length_set.symm] at hst
        have hro := RowsO.of_owns hst (by rw [List.length_set]; omega) (by rw [List.length_set]; omega) HF.out
        rw [List.length_set] at hro
        exact opsD_of hna hBw hro (bSet (bSet (bSet hbl (by show w.heap.size ≤ gb; omega) _) (by show w.heap.size ≤ gb; omega) _) (by show w.heap.size ≤ gb; omega) _)
      · have f0 : (dd == 0) = false := by simpa using e0
        by_cases e1 : dd = 1
        · subst e1
          go_wp2_with (refine wpList_append_lies _ rfl _ _ 44 (by rfl) B 49 i0 _ 3 24 Try.underlying44 hi hz0 hz1 hz2 rfl (by omega) (.slice (some ⟨gb, 0, none⟩) M.length cb) M.length _ (by rfl) (World.ownsRow.alloc HO5.out _) ⟨w5.heap.size, 0, none⟩ 1 1 [.int .i64 0, .int .i64 0, .int .i64 0] (by rfl) (by rfl) (World.news_of_block (heap_alloc_new w5 _)) (by simp [Value.oneCell']) (by omega) (by unfold maxLen; omega) (by omega) (by simp; omega) (w5.heap.size + 1) (by simp) ?_; intro gg capw6 w6 hownw6 hgroww6 hatw6 hltw6)
          have how6 := own_addO (wr := w5) hownw6
          have hlow6 : ∀ i, Value.ownBlock (.slice (some ⟨gb, 0, none⟩) M.length cb) = some i → B ≤ i := fun i hi => (World.ownsRow.lt HO5.out i hi).1
          have hh6 := chg_grown HH5.out (bAlloc (Below.refl _ _) (Nat.le_refl _) _) hgroww6 (fun i hi => by have := hlow6 i hi; omega)
          have HR := Lib.hid (And.intro how6 hh6)
          clear hgroww6 hatw6 hltw6 how6 hlow6 hh6
          go_wp2
          go_ret2
          exact opsD_of hna hBw (RowsO.of_owns HR.out.1 (by simp) (by simp; omega) (fit_app HMF.out fitO_zero)) (Chg.below HB1.out HR.out.2 HB1.out.size (by have := HG.out; omega))
        · have f1 : (dd == 1) = false := by simpa using e1
          by_cases e2 : dd = 2
          · subst e2
            obtain ⟨p, hp⟩ : ∃ p, M.length = p + 1 := ⟨M.length - 1, by omega⟩
            have hro := RowsO.of_owns HO5.out hM0 (by omega) HMF.out
            have hcap : M.length ≤ cb := by
              obtain ⟨b9, c9, e9, h9, _⟩ := hro
              injection e9 with _ _ e9
              omega
            have HRO := Lib.hid (RowsO.take hro (k := p) (by omega))
            have ep : IntKind.i64.wrap ((M.length : Int) - 1) = (p : Int) := (wrap64_int _ (by omega) (by omega)).trans (by omega)
            clear hro
            go_wp2
            go_ret2
            exact opsD_of hna hBw HRO.out (Chg.below HB1.out HH5.out HB1.out.size (by have := HG.out; omega))
          · have f2 : (dd == 2) = false := by simpa using e2
            by_cases e3 : dd = 3
            · subst e3
              have hB5 : w1.heap.size ≤ w5.heap.size := HH5.out.size
              have hBw5 : w.heap.size ≤ w5.heap.size := by omega
              have hg5 : g < w5.heap.size := by omega
              go_wp2
              go_loopw [9] (fun v wq => ∃ (K : List DOp) (A' : Option Addr) (c' : Nat), v = .slice A' K.length c' ∧ K.length ≤ 15 ∧ (∀ x ∈ K, FitO x) ∧ OwnsO wq w5.heap.size v K ∧ Cur 125 wq g len ∧ Chg g w5 wq) (fun v _ => 16 - lenV v)
              case atStart =>
                exact ⟨[], _, _, rfl, by simp, fun x hx => by simp at hx, ownR_new fO 3 49 w5 _ (Nat.le_refl _), HC5.out.keep (bAlloc (Below.refl _ _) (Nat.le_refl _) _), (Chg.refl g w5).alloc _⟩
              case round =>
                obtain ⟨K, A', c', rfl, hK, hKf, hown, hcu, hch⟩ := hrel
                have HKO := Lib.hid hown
                have HKC := Lib.hid hcu
                have HKH := Lib.hid hch
                have HKF := Lib.hid hKf
                clear hown hcu hch hKf
                go_wp2_with fail
                refine (below_any g len 2 _ (by omega) (by omega) HKC.out).mono ?_
                rintro e w6 ⟨zz, rfl, ⟨hz0', hz1'⟩, hcu, hch⟩
                have HC6 := Lib.hid hcu
                have HH6 := Lib.hid (HKH.out.trans hch)
                have HO6 := Lib.hid (OwnsO.chg HKO.out hch hg5)
                clear hcu hch
                have ez : IntKind.i64.wrap (14 + zz) = 14 + zz := wrap64_int _ (by omega) (by omega)
                have hs6 : w5.heap.size ≤ w6.heap.size := HH6.out.size
                by_cases hlt' : (K.length : Int) < 14 + zz
                · skip
                  go_wp2_with (refine wpList_append_lies _ rfl _ _ 44 (by rfl) w5.heap.size 49 i0 _ 3 24 Try.underlying44 hi hz0 hz1 hz2 rfl (by omega) (.slice A' K.length c') K.length _ (by rfl) (World.ownsRow.alloc HO6.out _) ⟨w6.heap.size, 0, none⟩ 1 1 [.int .i64 4, .int .i64 0, .int .i64 0] (by rfl) (by rfl) (World.news_of_block (heap_alloc_new w6 _)) (by simp [Value.oneCell']) (by omega) (by unfold maxLen; omega) (by omega) (by simp; omega) (w6.heap.size + 1) (by simp) ?_; intro gg capw7 w7 hownw7 hgroww7 hatw7 hltw7)
                  have how7 := own_addO (wr := w6) hownw7
                  have hlow7 : ∀ i, Value.ownBlock (.slice A' K.length c') = some i → w5.heap.size ≤ i := fun i hi => (World.ownsRow.lt HO6.out i hi).1
                  have hh7 := chg_grown HH6.out (bAlloc (Below.refl _ _) (Nat.le_refl _) _) hgroww7 (fun i hi => by have := hlow7 i hi; omega)
                  have hc7 := cur_grown HC6.out (bAlloc (Below.refl _ _) (Nat.le_refl _) _) hgroww7 (fun i hi => by have := hlow7 i hi; omega)
                  have HR := Lib.hid (And.intro how7 (And.intro hc7 hh7))
                  clear hownw7 hgroww7 hatw7 hltw7 how7 hlow7 hh7 hc7
                  go_roundw
                  case rel =>
                    exact ⟨K ++ [(4, 0, 0)], _, _, by rw [List.length_append]; rfl, by simp; omega, fit_app HKF.out fitO_not, HR.out.1, HR.out.2.1, HR.out.2.2⟩
                  case measure => simp [lenV]; omega
                · skip
                  go_wp2_with (refine wpList_append_lies _ rfl _ _ 44 (by rfl) w5.heap.size 49 i0 _ 3 24 Try.underlying44 hi hz0 hz1 hz2 rfl (by omega) (.slice A' K.length c') K.length _ (by rfl) (World.ownsRow.alloc HO6.out _) ⟨w6.heap.size, 0, none⟩ 1 1 [.int .i64 0, .int .i64 0, .int .i64 0] (by rfl) (by rfl) (World.news_of_block (heap_alloc_new w6 _)) (by simp [Value.oneCell']) (by omega) (by unfold maxLen; omega) (by omega) (by simp; omega) (w6.heap.size + 1) (by simp) ?_; intro gg capw7 w7 hownw7 hgroww7 hatw7 hltw7)
                  have how7 := own_addO (wr := w6) hownw7
                  have hlow7 : ∀ i, Value.ownBlock (.slice A' K.length c') = some i → w5.heap.size ≤ i := fun i hi => (World.ownsRow.lt HO6.out i hi).1
                  have hh7 := chg_grown HH6.out (bAlloc (Below.refl _ _) (Nat.le_refl _) _) hgroww7 (fun i hi => by have := hlow7 i hi; omega)
                  have HR := Lib.hid (And.intro how7 hh7)
                  clear hownw7 hgroww7 hatw7 hltw7 how7 hlow7 hh7
                  go_wp2
                  go_ret2
                  exact opsD_of hna hBw5 (RowsO.of_owns HR.out.1 (by simp) (by simp; omega) (fit_app HKF.out fitO_zero)) (Chg.below HB1.out (HH5.out.trans HR.out.2) HB1.out.size (by have := HG.out; omega))
            · have f3 : (dd == 3) = false := by simpa using e3
              go_wp2
              go_ret2
              exact opsD_of hna hBw (RowsO.of_owns HO5.out hM0 (by omega) HMF.out) (Chg.below HB1.out HH5.out HB1.out.size (by have := HG.out; omega))

end Go.Proofs.Ytllddjkdjdohhaa
