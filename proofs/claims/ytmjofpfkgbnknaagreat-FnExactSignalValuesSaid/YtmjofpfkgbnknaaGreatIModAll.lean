/-
  IModA, IModB, IModC, IModD as one text.
-/
import Derived.Test.YtmjofpfkgbnknaaGreatModMath
import Derived.Test.YtmjofpfkgbnknaaGreatIOps
import Derived.Test.YtmjofpfkgbnknaaGreatIDC
/- IModA: The parts of a valid module, as the program judges them. -/
namespace Go.Proofs.YtmjofpfkgbnknaaGreat
open Go.RowKit
set_option linter.unusedVariables false
set_option linter.unusedSimpArgs false

theorem inL_at (x : Int) (L : List Int) (i : Nat) (h : i < L.length) (he : x = L[i]) : inL x L = true := by
  unfold inL; rw [List.any_eq_true]; exact ⟨L[i], List.getElem_mem h, by simp [he]⟩
theorem inL_take (x : Int) (L : List Int) (i : Nat) (y : Int) (h : L[i]? = some y) (hn : ¬ x = y) (hi : inL x (L.take i) = false) : inL x (L.take (i + 1)) = false := by
  unfold inL at hi ⊢; rw [List.take_add_one, h, List.any_append, hi]; simp [hn]
set_option maxHeartbeats 1600000 in
theorem index_any (x : Int) (L : List Int) (v : Value) {B T : Nat} (w : World) (h : rdIntS B T w [v] L) :
    Calls Tryz.prog 164 #[v, .int .i64 x] w fun e w' => (∃ r : Int, e = .returned (.int .i64 r) ∧ decide (0 ≤ r) = inL x L) ∧ w = w' := by
  obtain ⟨A, c, ea, hm, hA⟩ := h
  injection ea with ea
  subst ea
  unfold maxLen at hm
  have HA := Lib.hid hA
  clear hA
  go_enter Tryz.func164, Tryz.ntmps164
  go_wp2
  go_loop [8] (fun v => ∃ i : Nat, i ≤ L.length ∧ v = .int .i64 i ∧ inL x (L.take i) = false) (fun v => L.length - (intOf v).toNat)
  case atStart => exact ⟨0, Nat.zero_le _, rfl, by simp [inL]⟩
  case round =>
    obtain ⟨i, hi, rfl, hno⟩ := hrel
    have HN := Lib.hid hno
    clear hno
    by_cases hlt : i < L.length
    · obtain ⟨b, o, rfl, _, _, us, _, hc, ⟨e0, _⟩⟩ := HA.out i hlt
      subst e0
      have x0 := hc 0 _ rfl
      rw [Nat.add_zero, Nat.mul_one] at x0
      have HX := Lib.hid (show L[i]? = some (L[i]'hlt) from List.getElem?_eq_getElem hlt)
      have HI := Lib.hid (inL_at x L i hlt)
      clear hc
      obtain ⟨y, hy⟩ : ∃ y, L[i]'hlt = y := ⟨_, rfl⟩
      rw [hy] at x0 HX HI
      clear hy
      by_cases hxy : x = y
      · have HY := Lib.hid (HI.out hxy)
        subst hxy
        go_wp2
        go_ret
        exact ⟨⟨_, rfl, by rw [HY.out]; simp⟩, rfl⟩
      · have hxy' : (x == y) = false := by simpa using hxy
        have HY := Lib.hid (inL_take x L i y HX.out hxy HN.out)
        go_wp2
        go_round
        case rel => exact ⟨i + 1, by omega, by go_num, HY.out⟩
        case measure => simp [intOf]; omega
    · obtain rfl : i = L.length := by omega
      have hf : inL x L = false := by have := HN.out; rwa [List.take_length] at this
      have HF := Lib.hid hf
      clear hf
      go_wp2
      go_ret
      exact ⟨⟨_, rfl, by rw [HF.out]; rfl⟩, rfl⟩
theorem contains_any (x : Int) (L : List Int) (v : Value) {B T : Nat} {r : Bool} (w : World) (h : rdIntS B T w [v] L) (hr : inL x L = r) :
    Calls Tryz.prog 159 #[v, .int .i64 x] w fun e w' => e = .returned (.bool r) ∧ w = w' := by
  subst hr
  go_enter Tryz.func159, Tryz.ntmps159
  go_wp2_with fail
  refine (index_any x L v _ h).mono ?_
  rintro e w1 ⟨⟨r, rfl, hr⟩, rfl⟩
  have HR := Lib.hid hr
  clear hr
  go_wp2
  go_ret
  exact ⟨ret_bool HR.out, rfl⟩

set_option maxHeartbeats 3200000 in
theorem implHasKind_any (m : DModule) (s : Int) (L : List Int) (us : List Value) (v : Value) {B T B' T' : Nat} (w : World) (h : rdModule B T w us m) (hT : T ≤ w.heap.size) (hL : rdIntS B' T' w [v] L) (hT' : T' ≤ w.heap.size) :
    Calls Tryz.prog 144 #[.agg us.toArray, .int .i64 s, v] w fun e w' => e = .returned (.bool (kindAt m L s)) ∧ Below w.heap.size w w' := by
  obtain ⟨mu0, mu1, mu2, mu3, rfl, mh0, mh1, mh2, mh3⟩ := h
  obtain ⟨mA0, mq0, mf0, mm0, mk0⟩ := mh0
  injection mf0 with mf0
  subst mf0
  unfold maxLen at mm0
  have mE0 := Lib.hid mk0
  clear mk0
  obtain ⟨mA1, mq1, mf1, mm1, mk1⟩ := mh1
  injection mf1 with mf1
  subst mf1
  unfold maxLen at mm1
  have mE1 := Lib.hid mk1
  clear mk1
  obtain ⟨mA2, mq2, mf2, mm2, mk2⟩ := mh2
  injection mf2 with mf2
  subst mf2
  unfold maxLen at mm2
  have mE2 := Lib.hid mk2
  clear mk2
  obtain ⟨mA3, mq3, mf3, mm3, mk3⟩ := mh3
  injection mf3 with mf3
  subst mf3
  unfold maxLen at mm3
  have mE3 := Lib.hid mk3
  clear mk3
  have HL := Lib.hid hL
  obtain ⟨lA, lc, le, -⟩ := hL
  injection le with le
  subst le
  by_cases h0 : 0 ≤ s
  · obtain ⟨S, rfl⟩ := Int.eq_ofNat_of_zero_le h0
    by_cases h1 : S < m.1.length
    · skip
      obtain ⟨xb, xo, xe, _, _, xus, _, xhc, xhr⟩ := mE0.out S h1
      obtain ⟨x, xx⟩ : ∃ x, m.1[S]'h1 = x := ⟨_, rfl⟩
      have xx? : m.1[S]? = some x := by rw [List.getElem?_eq_getElem h1, xx]
      rw [xx] at xhr
      subst xe
      obtain ⟨xu0, xu1, xu2, rfl, xh0, xh1, xh2⟩ := xhr
      obtain ⟨xf0, -⟩ := xh0
      injection xf0 with xf0
      subst xf0
      obtain ⟨xf1, -⟩ := xh1
      injection xf1 with xf1
      subst xf1
      obtain ⟨xf2, -⟩ := xh2
      injection xf2 with xf2
      subst xf2
      have xc0 : w.cell? ⟨xb, xo + S * 3, none⟩ = some (.int .i64 x.1) := (xhc 0 _ rfl)
      have xc1 : w.cell? ⟨xb, xo + S * 3 + 1, none⟩ = some (.int .i64 x.2.1) := (xhc 1 _ rfl)
      have xc2 : w.cell? ⟨xb, xo + S * 3 + 2, none⟩ = some (.int .i64 x.2.2) := (xhc 2 _ rfl)
      have xlt : xb < w.heap.size := World.block_lt_of_cell? _ _ xc0
      clear xhc xx
      rw [kindAt_yes xx?]
      obtain ⟨r, hr⟩ : ∃ r, inL x.1 L = r := ⟨_, rfl⟩
      rw [hr]
      have HR := Lib.hid hr
      clear hr xx?
      go_enter Tryz.func144, Tryz.ntmps144
      go_wp2_with fail
      refine (contains_any x.1 L _ _ (good_IntS.below HL.out hT' (by (repeat' (first | assumption | exact Below.refl _ _ | refine bDrewN ?_ _ | refine Below.drew ?_ | refine bAlloc ?_ (Nat.le_refl _) _ | refine bSet ?_ (by first | exact Nat.le_refl _ | omega | (simp <;> omega)) _)))) HR.out).mono ?_
      rintro e w1 ⟨rfl, rfl⟩
      go_wp2
      go_ret
      exact ⟨rfl, by (repeat' (first | assumption | exact Below.refl _ _ | refine bDrewN ?_ _ | refine Below.drew ?_ | refine bAlloc ?_ (Nat.le_refl _) _ | refine bSet ?_ (by first | exact Nat.le_refl _ | omega | (simp <;> omega)) _))⟩
    · rw [kindAt_no (by omega)]
      go_enter Tryz.func144, Tryz.ntmps144
      go_wp2
      go_ret
      exact ⟨rfl, by (repeat' (first | assumption | exact Below.refl _ _ | refine bDrewN ?_ _ | refine Below.drew ?_ | refine bAlloc ?_ (Nat.le_refl _) _ | refine bSet ?_ (by first | exact Nat.le_refl _ | omega | (simp <;> omega)) _))⟩
  · rw [kindAt_no (by omega)]
    go_enter Tryz.func144, Tryz.ntmps144
    go_wp2
    go_ret
    exact ⟨rfl, by (repeat' (first | assumption | exact Below.refl _ _ | refine bDrewN ?_ _ | refine Below.drew ?_ | refine bAlloc ?_ (Nat.le_refl _) _ | refine bSet ?_ (by first | exact Nat.le_refl _ | omega | (simp <;> omega)) _))⟩
theorem implHasKind_at (m : DModule) (s : Int) (L : List Int) (us : List Value) (v : Value) {B T B' T' : Nat} {r : Bool} (w : World) (h : rdModule B T w us m) (hT : T ≤ w.heap.size) (hL : rdIntS B' T' w [v] L) (hT' : T' ≤ w.heap.size) (hr : kindAt m L s = r) :
    Calls Tryz.prog 144 #[.agg us.toArray, .int .i64 s, v] w fun e w' => e = .returned (.bool r) ∧ Below w.heap.size w w' := by subst hr; exact implHasKind_any m s L us v w h hT hL hT'

set_option maxHeartbeats 3200000 in
theorem implExist_any (m : DModule) (L : List Int) (us : List Value) (v : Value) {B T B' T' : Nat} (w : World) (h : rdModule B T w us m) (hT : T ≤ w.heap.size) (hL : rdIntS B' T' w [v] L) (hT' : T' ≤ w.heap.size) :
    Calls Tryz.prog 146 #[.agg us.toArray, v] w fun e w' => e = .returned (.bool (sigEx m L)) ∧ Below w.heap.size w w' := by
  obtain ⟨mu0, mu1, mu2, mu3, rfl, mh0, mh1, mh2, mh3⟩ := h
  obtain ⟨mA0, mq0, mf0, mm0, mk0⟩ := mh0
  injection mf0 with mf0
  subst mf0
  unfold maxLen at mm0
  have mE0 := Lib.hid mk0
  clear mk0
  obtain ⟨mA1, mq1, mf1, mm1, mk1⟩ := mh1
  injection mf1 with mf1
  subst mf1
  unfold maxLen at mm1
  have mE1 := Lib.hid mk1
  clear mk1
  obtain ⟨mA2, mq2, mf2, mm2, mk2⟩ := mh2
  injection mf2 with mf2
  subst mf2
  unfold maxLen at mm2
  have mE2 := Lib.hid mk2
  clear mk2
  obtain ⟨mA3, mq3, mf3, mm3, mk3⟩ := mh3
  injection mf3 with mf3
  subst mf3
  unfold maxLen at mm3
  have mE3 := Lib.hid mk3
  clear mk3
  obtain ⟨A, c, ea, hm, hA⟩ := hL
  injection ea with ea
  subst ea
  unfold maxLen at hm
  have HA := Lib.hid hA
  clear hA
  unfold sigEx
  go_enter Tryz.func146, Tryz.ntmps146
  go_wp2
  obtain ⟨W, hW⟩ : ∃ W, W = w.alloc (.cells #[.slice mA0 (m.1).length mq0, .slice mA1 (m.2.1).length mq1, .slice mA2 (m.2.2.1).length mq2, .slice mA3 (m.2.2.2).length mq3] 31) := ⟨_, rfl⟩
  rw [← hW]
  have g := eqbox1 hW
  have b0 : W.cell? ⟨w.heap.size, 0, none⟩ = some (.slice mA0 (m.1).length mq0) := box_cell g.1 0 _ rfl
  have HW := Lib.hid g.2
  clear hW g
  go_loop [9] (fun v => ∃ i : Nat, i ≤ L.length ∧ v = .int .i64 i ∧ (L.take i).all (inR m) = true) (fun v => L.length - (intOf v).toNat)
  case atStart => exact ⟨0, Nat.zero_le _, rfl, by simp⟩
  case round =>
    obtain ⟨i, hi, rfl, hall⟩ := hrel
    have HN := Lib.hid hall
    clear hall
    by_cases hlt : i < L.length
    · obtain ⟨b, o, rfl, _, _, vs, _, hc, ⟨e0, _⟩⟩ := HA.out i hlt
      subst e0
      have x0 := keep HW.out (hc 0 _ rfl)
      rw [Nat.add_zero, Nat.mul_one] at x0
      have hx : L[i]? = some (L[i]'hlt) := List.getElem?_eq_getElem hlt
      have HS := Lib.hid (And.intro (all_take_step (inR m) L i _ hx) (fun hf => all_false_at (inR m) L i _ hx hf))
      clear hc hx
      obtain ⟨y, hy⟩ : ∃ y, L[i]'hlt = y := ⟨_, rfl⟩
      rw [hy] at x0 HS
      clear hy
      by_cases h0 : 0 ≤ y
      · by_cases h1 : y < (m.1.length : Int)
        · have hyes : inR m y = true := decide_eq_true ⟨h0, h1⟩
          have HY := Lib.hid hyes
          clear hyes
          go_wp2
          go_round
          case rel => exact ⟨i + 1, by omega, by go_num, by rw [HS.out.1, HN.out, HY.out]; rfl⟩
          case measure => simp [intOf]; omega
        · have HY := Lib.hid (HS.out.2 (inR_no (by omega)))
          go_wp2
          go_ret
          exact ⟨ret_bool (by rw [HY.out]), HW.out⟩
      · have HY := Lib.hid (HS.out.2 (inR_no (by omega)))
        go_wp2
        go_ret
        exact ⟨ret_bool (by rw [HY.out]), HW.out⟩
    · obtain rfl : i = L.length := by omega
      have hf : L.all (inR m) = true := by have := HN.out; rwa [List.take_length] at this
      have HF := Lib.hid hf
      clear hf
      go_wp2
      go_ret
      exact ⟨ret_bool (by rw [HF.out]), HW.out⟩
theorem implExist_at (m : DModule) (L : List Int) (us : List Value) (v : Value) {B T B' T' : Nat} {r : Bool} (w : World) (h : rdModule B T w us m) (hT : T ≤ w.heap.size) (hL : rdIntS B' T' w [v] L) (hT' : T' ≤ w.heap.size) (hr : sigEx m L = r) :
    Calls Tryz.prog 146 #[.agg us.toArray, v] w fun e w' => e = .returned (.bool r) ∧ Below w.heap.size w w' := by subst hr; exact implExist_any m L us v w h hT hL hT'

/-- A slice of ints that was just laid. -/
theorem rd_lit {w : World} {g : Nat} {L : List Int} {t : TypeId} {fr : Nat × Nat} (h : w.heap[g]? = some (.cells (L.map fun x => Value.int .i64 x).toArray t fr)) (hl : L.length ≤ 1000) (hf : ∀ x ∈ L, Fit x) :
    rdIntS 0 w.heap.size w [.slice (some ⟨g, 0, none⟩) L.length L.length] L := by
  have hg : g < w.heap.size := (Array.getElem?_eq_some_iff.1 h).1
  refine ⟨_, _, rfl, by unfold maxLen; omega, fun j hj => ⟨g, 0, rfl, Nat.zero_le _, hg, [.int .i64 L[j]], rfl, fun i u hu => ?_, ⟨rfl, hf _ (List.getElem_mem hj)⟩⟩⟩
  match i, hu with
  | 0, hu =>
    simp at hu; subst hu
    rw [Nat.zero_add, Nat.mul_one, Nat.add_zero]
    exact box_cell h j _ (by simp [hj])
end Go.Proofs.YtmjofpfkgbnknaaGreat
/- IModB: Valid modules and designs, as the program judges them. -/
namespace Go.Proofs.YtmjofpfkgbnknaaGreat
open Go.RowKit
set_option linter.unusedVariables false
set_option linter.unusedSimpArgs false

theorem fit_lit {L : List Int} (h : ∀ x ∈ L, 0 ≤ x ∧ x ≤ 1000) : ∀ x ∈ L, Fit x := fun x hx => by have := h x hx; unfold Fit; omega
def AllT {α : Type} (f : α → Bool) (L : List α) : Prop := L.all f = true
theorem AllT.nil {α : Type} (f : α → Bool) (L : List α) : AllT f (L.take 0) := by simp [AllT]
theorem AllT.step {α : Type} {f : α → Bool} {L : List α} {i : Nat} {x : α} (h : L[i]? = some x) (hf : f x = true) (h0 : AllT f (L.take i)) : AllT f (L.take (i + 1)) := by
  unfold AllT at *; rw [all_take_step f L i x h, h0, hf]; rfl
theorem AllT.done {α : Type} {f : α → Bool} {L : List α} (h : AllT f (L.take L.length)) : L.all f = true := by unfold AllT at h; rwa [List.take_length] at h

set_option maxRecDepth 100000 in
set_option maxHeartbeats 6400000 in
theorem implSignals_at (m : DModule) (us : List Value) {B T : Nat} {r : Bool} (w : World) (h : rdModule B T w us m) (hT : T ≤ w.heap.size) (hr : m.1.all (sigOk) = r) :
    Calls Tryz.prog 124 #[.agg us.toArray] w fun e w' => e = .returned (.bool r) ∧ Below w.heap.size w w' := by
  have HR := Lib.hid hr
  have HM := Lib.hid h
  clear hr
  obtain ⟨mu0, mu1, mu2, mu3, rfl, mh0, mh1, mh2, mh3⟩ := h
  obtain ⟨mA0, mq0, mf0, mm0, mk0⟩ := mh0
  injection mf0 with mf0
  subst mf0
  unfold maxLen at mm0
  have mE0 := Lib.hid mk0
  clear mk0
  obtain ⟨mA1, mq1, mf1, mm1, mk1⟩ := mh1
  injection mf1 with mf1
  subst mf1
  unfold maxLen at mm1
  have mE1 := Lib.hid mk1
  clear mk1
  obtain ⟨mA2, mq2, mf2, mm2, mk2⟩ := mh2
  injection mf2 with mf2
  subst mf2
  unfold maxLen at mm2
  have mE2 := Lib.hid mk2
  clear mk2
  obtain ⟨mA3, mq3, mf3, mm3, mk3⟩ := mh3
  injection mf3 with mf3
  subst mf3
  unfold maxLen at mm3
  have mE3 := Lib.hid mk3
  clear mk3
  go_enter Tryz.func124, Tryz.ntmps124
  go_wp2
  obtain ⟨W, hW⟩ : ∃ W, W = w.alloc (.cells #[.slice mA0 (m.1).length mq0, .slice mA1 (m.2.1).length mq1, .slice mA2 (m.2.2.1).length mq2, .slice mA3 (m.2.2.2).length mq3] 31) := ⟨_, rfl⟩
  rw [← hW]
  have g := eqbox1 hW
  have b0 : W.cell? ⟨w.heap.size, 0, none⟩ = some (.slice mA0 (m.1).length mq0) := box_cell g.1 0 _ rfl
  have b1 : W.cell? ⟨w.heap.size, 1, none⟩ = some (.slice mA1 (m.2.1).length mq1) := box_cell g.1 1 _ rfl
  have b2 : W.cell? ⟨w.heap.size, 2, none⟩ = some (.slice mA2 (m.2.2.1).length mq2) := box_cell g.1 2 _ rfl
  have b3 : W.cell? ⟨w.heap.size, 3, none⟩ = some (.slice mA3 (m.2.2.2).length mq3) := box_cell g.1 3 _ rfl
  have HW := Lib.hid g.2
  clear hW g
  go_loopw [8] (fun v wr => ∃ i : Nat, i ≤ m.1.length ∧ v = .int .i64 i ∧ AllT (sigOk) (m.1.take i) ∧ Below W.heap.size W wr) (fun v _ => m.1.length - (intOf v).toNat)
  case atStart => exact ⟨0, Nat.zero_le _, rfl, AllT.nil _ _, Below.refl _ _⟩
  case round =>
    obtain ⟨i, hi, rfl, hall, hb⟩ := hrel
    obtain ⟨W2, rfl⟩ : ∃ W2, W2 = wr := ⟨_, rfl⟩
    have HL := Lib.hid hall
    have HB := Lib.hid hb
    have HW2 := Lib.hid (bThen HW.out hb)
    have e0 := keep hb b0
    have e1 := keep hb b1
    have e2 := keep hb b2
    have e3 := keep hb b3
    have elt : w.heap.size < W2.heap.size := World.block_lt_of_cell? _ _ e0
    clear hb hall
    by_cases hlt : i < m.1.length
    · skip
      obtain ⟨xb, xo, xe, _, _, xus, _, xhc, xhr⟩ := mE0.out i hlt
      obtain ⟨x, xx⟩ : ∃ x, m.1[i]'hlt = x := ⟨_, rfl⟩
      have xx? : m.1[i]? = some x := by rw [List.getElem?_eq_getElem hlt, xx]
      rw [xx] at xhr
      subst xe
      have XR := Lib.hid xhr
      obtain ⟨xu0, xu1, xu2, rfl, xh0, xh1, xh2⟩ := xhr
      obtain ⟨xf0, -⟩ := xh0
      injection xf0 with xf0
      subst xf0
      obtain ⟨xf1, -⟩ := xh1
      injection xf1 with xf1
      subst xf1
      obtain ⟨xf2, -⟩ := xh2
      injection xf2 with xf2
      subst xf2
      have xc0 : W2.cell? ⟨xb, xo + i * 3, none⟩ = some (.int .i64 x.1) := keep HW2.out (xhc 0 _ rfl)
      have xc1 : W2.cell? ⟨xb, xo + i * 3 + 1, none⟩ = some (.int .i64 x.2.1) := keep HW2.out (xhc 1 _ rfl)
      have xc2 : W2.cell? ⟨xb, xo + i * 3 + 2, none⟩ = some (.int .i64 x.2.2) := keep HW2.out (xhc 2 _ rfl)
      have xlt : xb < W2.heap.size := World.block_lt_of_cell? _ _ xc0
      clear xhc xx
      have HS := Lib.hid (And.intro (fun (h0 : AllT (sigOk) (m.1.take i)) (hf : (sigOk) x = true) => AllT.step xx? hf h0) (fun hf : (sigOk) x = false => all_false_at (sigOk) m.1 i _ xx? hf))
      clear xx?
      obtain ⟨k, hk⟩ : ∃ k, x.1 = k := ⟨_, rfl⟩
      obtain ⟨a, ha⟩ : ∃ a, x.2.1 = a := ⟨_, rfl⟩
      obtain ⟨n, hn⟩ : ∃ n, x.2.2 = n := ⟨_, rfl⟩
      have HX := Lib.hid (show sigOk x = (decide (0 ≤ k ∧ k ≤ 3) && decide (0 ≤ a ∧ a ≤ 4) && (decide (n = 0) || (decide (k = 3) && decide (0 ≤ n ∧ n ≤ 15)))) by unfold sigOk; rw [hk, ha, hn])
      rw [hk] at xc0
      rw [ha] at xc1
      rw [hn] at xc2
      clear hk ha hn XR HM
      by_cases h1 : 0 ≤ k
      · by_cases h2 : k ≤ 3
        · by_cases h3 : 0 ≤ a
          · by_cases h4 : a ≤ 4
            · by_cases h5 : n = 0
              · have hok : sigOk x = true := by rw [HX.out]; simp only [Bool.and_eq_true, Bool.or_eq_true, decide_eq_true_eq]; omega
                have HOK := Lib.hid hok
                clear hok HX
                subst h5
                go_wp2
                go_roundw
                case rel => exact ⟨i + 1, by omega, by go_num, HS.out.1 HL.out HOK.out, bThen HB.out (bAlloc (Below.refl _ _) (Nat.le_refl _) _)⟩
                case measure => simp [intOf]; omega
              · have h5' : (n == 0) = false := by simpa using h5
                have h5'' : (n != 0) = true := by simpa using h5
                by_cases h6 : k = 3
                · by_cases h7 : 0 ≤ n
                  · by_cases h8 : n ≤ 15
                    · have hok : sigOk x = true := by rw [HX.out]; simp only [Bool.and_eq_true, Bool.or_eq_true, decide_eq_true_eq]; omega
                      have HOK := Lib.hid hok
                      clear hok HX
                      subst h6
                      go_wp2
                      go_roundw
                      case rel => exact ⟨i + 1, by omega, by go_num, HS.out.1 HL.out HOK.out, bThen HB.out (bAlloc (Below.refl _ _) (Nat.le_refl _) _)⟩
                      case measure => simp [intOf]; omega
                    · have hno : sigOk x = false := by rw [← Bool.not_eq_true, HX.out]; simp only [Bool.and_eq_true, Bool.or_eq_true, decide_eq_true_eq]; omega
                      have HNO := Lib.hid (HS.out.2 hno)
                      clear hno HX
                      subst h6
                      go_wp2
                      go_ret
                      exact ⟨ret_bool (by rw [← HR.out]; exact HNO.out.symm), bThen HW2.out (bAlloc (Below.refl _ _) (Nat.le_refl _) _)⟩
                  · have hno : sigOk x = false := by rw [← Bool.not_eq_true, HX.out]; simp only [Bool.and_eq_true, Bool.or_eq_true, decide_eq_true_eq]; omega
                    have HNO := Lib.hid (HS.out.2 hno)
                    clear hno HX
                    subst h6
                    go_wp2
                    go_ret
                    exact ⟨ret_bool (by rw [← HR.out]; exact HNO.out.symm), bThen HW2.out (bAlloc (Below.refl _ _) (Nat.le_refl _) _)⟩
                · have h6' : (k == 3) = false := by simpa using h6
                  have h6'' : (k != 3) = true := by simpa using h6
                  have hno : sigOk x = false := by rw [← Bool.not_eq_true, HX.out]; simp only [Bool.and_eq_true, Bool.or_eq_true, decide_eq_true_eq]; omega
                  have HNO := Lib.hid (HS.out.2 hno)
                  clear hno HX
                  go_wp2
                  go_ret
                  exact ⟨ret_bool (by rw [← HR.out]; exact HNO.out.symm), bThen HW2.out (bAlloc (Below.refl _ _) (Nat.le_refl _) _)⟩
            · have hno : sigOk x = false := by rw [← Bool.not_eq_true, HX.out]; simp only [Bool.and_eq_true, Bool.or_eq_true, decide_eq_true_eq]; omega
              have HNO := Lib.hid (HS.out.2 hno)
              clear hno HX
              go_wp2
              go_ret
              exact ⟨ret_bool (by rw [← HR.out]; exact HNO.out.symm), bThen HW2.out (bAlloc (Below.refl _ _) (Nat.le_refl _) _)⟩
          · have hno : sigOk x = false := by rw [← Bool.not_eq_true, HX.out]; simp only [Bool.and_eq_true, Bool.or_eq_true, decide_eq_true_eq]; omega
            have HNO := Lib.hid (HS.out.2 hno)
            clear hno HX
            go_wp2
            go_ret
            exact ⟨ret_bool (by rw [← HR.out]; exact HNO.out.symm), bThen HW2.out (bAlloc (Below.refl _ _) (Nat.le_refl _) _)⟩
        · have hno : sigOk x = false := by rw [← Bool.not_eq_true, HX.out]; simp only [Bool.and_eq_true, Bool.or_eq_true, decide_eq_true_eq]; omega
          have HNO := Lib.hid (HS.out.2 hno)
          clear hno HX
          go_wp2
          go_ret
          exact ⟨ret_bool (by rw [← HR.out]; exact HNO.out.symm), bThen HW2.out (bAlloc (Below.refl _ _) (Nat.le_refl _) _)⟩
      · have hno : sigOk x = false := by rw [← Bool.not_eq_true, HX.out]; simp only [Bool.and_eq_true, Bool.or_eq_true, decide_eq_true_eq]; omega
        have HNO := Lib.hid (HS.out.2 hno)
        clear hno HX
        go_wp2
        go_ret
        exact ⟨ret_bool (by rw [← HR.out]; exact HNO.out.symm), bThen HW2.out (bAlloc (Below.refl _ _) (Nat.le_refl _) _)⟩
    · obtain rfl : i = m.1.length := by omega
      have HF := Lib.hid HL.out.done
      go_wp2
      go_ret
      exact ⟨ret_bool (by rw [← HR.out]; exact HF.out.symm), HW2.out⟩

theorem implOps_at (n : Int) (L : List DOp) (v : Value) {B T : Nat} {d : Bool} (w : World) (h : rdOpS B T w [v] L) (hT : T ≤ w.heap.size) (hd : opsB n L = d) :
    Calls Tryz.prog 145 #[v, .int .i64 n] w fun e w' => e = .returned (.bool d) ∧ Below w.heap.size w w' := by subst hd; exact implOps_any n L v w h hT

set_option maxRecDepth 100000 in
set_option maxHeartbeats 6400000 in
theorem implAssigns_at (m : DModule) (us : List Value) {B T : Nat} {r : Bool} (w : World) (h : rdModule B T w us m) (hT : T ≤ w.heap.size) (hr : m.2.1.all (asgOk m) = r) :
    Calls Tryz.prog 125 #[.agg us.toArray] w fun e w' => e = .returned (.bool r) ∧ Below w.heap.size w w' := by
  have HR := Lib.hid hr
  have HM := Lib.hid h
  clear hr
  obtain ⟨mu0, mu1, mu2, mu3, rfl, mh0, mh1, mh2, mh3⟩ := h
  obtain ⟨mA0, mq0, mf0, mm0, mk0⟩ := mh0
  injection mf0 with mf0
  subst mf0
  unfold maxLen at mm0
  have mE0 := Lib.hid mk0
  clear mk0
  obtain ⟨mA1, mq1, mf1, mm1, mk1⟩ := mh1
  injection mf1 with mf1
  subst mf1
  unfold maxLen at mm1
  have mE1 := Lib.hid mk1
  clear mk1
  obtain ⟨mA2, mq2, mf2, mm2, mk2⟩ := mh2
  injection mf2 with mf2
  subst mf2
  unfold maxLen at mm2
  have mE2 := Lib.hid mk2
  clear mk2
  obtain ⟨mA3, mq3, mf3, mm3, mk3⟩ := mh3
  injection mf3 with mf3
  subst mf3
  unfold maxLen at mm3
  have mE3 := Lib.hid mk3
  clear mk3
  go_enter Tryz.func125, Tryz.ntmps125
  go_wp2
  obtain ⟨W, hW⟩ : ∃ W, W = w.alloc (.cells #[.slice mA0 (m.1).length mq0, .slice mA1 (m.2.1).length mq1, .slice mA2 (m.2.2.1).length mq2, .slice mA3 (m.2.2.2).length mq3] 31) := ⟨_, rfl⟩
  rw [← hW]
  have g := eqbox1 hW
  have b0 : W.cell? ⟨w.heap.size, 0, none⟩ = some (.slice mA0 (m.1).length mq0) := box_cell g.1 0 _ rfl
  have b1 : W.cell? ⟨w.heap.size, 1, none⟩ = some (.slice mA1 (m.2.1).length mq1) := box_cell g.1 1 _ rfl
  have b2 : W.cell? ⟨w.heap.size, 2, none⟩ = some (.slice mA2 (m.2.2.1).length mq2) := box_cell g.1 2 _ rfl
  have b3 : W.cell? ⟨w.heap.size, 3, none⟩ = some (.slice mA3 (m.2.2.2).length mq3) := box_cell g.1 3 _ rfl
  have HW := Lib.hid g.2
  clear hW g
  go_loopw [8] (fun v wr => ∃ i : Nat, i ≤ m.2.1.length ∧ v = .int .i64 i ∧ AllT (asgOk m) (m.2.1.take i) ∧ Below W.heap.size W wr) (fun v _ => m.2.1.length - (intOf v).toNat)
  case atStart => exact ⟨0, Nat.zero_le _, rfl, AllT.nil _ _, Below.refl _ _⟩
  case round =>
    obtain ⟨i, hi, rfl, hall, hb⟩ := hrel
    obtain ⟨W2, rfl⟩ : ∃ W2, W2 = wr := ⟨_, rfl⟩
    have HL := Lib.hid hall
    have HB := Lib.hid hb
    have HW2 := Lib.hid (bThen HW.out hb)
    have e0 := keep hb b0
    have e1 := keep hb b1
    have e2 := keep hb b2
    have e3 := keep hb b3
    have elt : w.heap.size < W2.heap.size := World.block_lt_of_cell? _ _ e0
    clear hb hall
    by_cases hlt : i < m.2.1.length
    · skip
      obtain ⟨xb, xo, xe, _, _, xus, _, xhc, xhr⟩ := mE1.out i hlt
      obtain ⟨x, xx⟩ : ∃ x, m.2.1[i]'hlt = x := ⟨_, rfl⟩
      have xx? : m.2.1[i]? = some x := by rw [List.getElem?_eq_getElem hlt, xx]
      rw [xx] at xhr
      subst xe
      have XR := Lib.hid xhr
      obtain ⟨xu0, xu1, rfl, xh0, xh1⟩ := xhr
      obtain ⟨xf0, -⟩ := xh0
      injection xf0 with xf0
      subst xf0
      obtain ⟨xA1, xq1, xf1, xm1, xk1⟩ := xh1
      injection xf1 with xf1
      subst xf1
      unfold maxLen at xm1
      have xE1 := Lib.hid xk1
      clear xk1
      have xc0 : W2.cell? ⟨xb, xo + i * 2, none⟩ = some (.int .i64 x.1) := keep HW2.out (xhc 0 _ rfl)
      have xc1 : W2.cell? ⟨xb, xo + i * 2 + 1, none⟩ = some (.slice xA1 (x.2).length xq1) := keep HW2.out (xhc 1 _ rfl)
      have xlt : xb < W2.heap.size := World.block_lt_of_cell? _ _ xc0
      clear xhc xx
      have HS := Lib.hid (And.intro (fun (h0 : AllT (asgOk m) (m.2.1.take i)) (hf : (asgOk m) x = true) => AllT.step xx? hf h0) (fun hf : (asgOk m) x = false => all_false_at (asgOk m) m.2.1 i _ xx? hf))
      clear xx?
      have hA : asgOk m x = (kindAt m [1, 2, 3] x.1 && opsB m.1.length x.2) := rfl
      have HX := Lib.hid hA
      obtain ⟨q, hq⟩ : ∃ q, kindAt m [1, 2, 3] x.1 = q := ⟨_, rfl⟩
      obtain ⟨z, hz⟩ : ∃ z, opsB m.1.length x.2 = z := ⟨_, rfl⟩
      have HQ := Lib.hid (And.intro hq hz)
      have HOPS := Lib.hid (show rdOpS B T w [.slice xA1 x.2.length xq1] x.2 from ⟨_, _, rfl, by unfold maxLen; exact xm1, xE1.out⟩)
      clear hq hz hA
      go_wp2_with fail
      obtain ⟨V, hV⟩ : ∃ V, V = (W2.alloc (.cells #[.int .i64 x.1, .slice xA1 (x.2).length xq1] 102)).alloc (.cells #[.int .i64 1, .int .i64 2, .int .i64 3] 3) := ⟨_, rfl⟩
      rw [← hV]
      have g := eqbox2 hV
      have y1 : V.cell? ⟨W2.heap.size, 1, none⟩ = some (.slice xA1 x.2.length xq1) := box_cell g.1 1 _ rfl
      have HV := Lib.hid g.2.2
      have hlit : rdIntS 0 V.heap.size V [.slice (some ⟨W2.heap.size + 1, 0, none⟩) 3 3] [1, 2, 3] := rd_lit (L := [1, 2, 3]) g.2.1 (by decide) (fit_lit (by decide))
      clear hV g
      refine (implHasKind_at m x.1 [1, 2, 3] _ _ _ (good_Module.below HM.out hT (bThen HW2.out HV.out)) (Nat.le_trans hT (bThen HW2.out HV.out).size) hlit (Nat.le_refl _) HQ.out.1).mono ?_
      rintro e w3 ⟨rfl, hb3⟩
      replace y1 := keep hb3 y1
      replace e0 := keep hb3 (keep HV.out e0)
      have HW3 := Lib.hid (bThen (bThen HW2.out HV.out) hb3)
      have HB3 := Lib.hid (bThen (bThen HB.out HV.out) hb3)
      clear hb3 hlit
      cases q
      · have HNO := Lib.hid (HS.out.2 (by rw [HX.out, HQ.out.1]; rfl))
        go_wp2
        go_ret
        exact ⟨ret_bool (by rw [← HR.out]; exact HNO.out.symm), HW3.out⟩
      · go_wp2_with fail
        refine (implOps_at (m.1.length : Int) x.2 _ _ (good_OpS.below HOPS.out hT HW3.out) (Nat.le_trans hT HW3.out.size) HQ.out.2).mono ?_
        rintro e w4 ⟨rfl, hb4⟩
        have HW4 := Lib.hid (bThen HW3.out hb4)
        have HB4 := Lib.hid (bThen HB3.out hb4)
        clear hb4
        cases z
        · have HNO := Lib.hid (HS.out.2 (by rw [HX.out, HQ.out.1, HQ.out.2]; rfl))
          go_wp2
          go_ret
          exact ⟨ret_bool (by rw [← HR.out]; exact HNO.out.symm), HW4.out⟩
        · have HOK := Lib.hid (show asgOk m x = true by rw [HX.out, HQ.out.1, HQ.out.2]; rfl)
          go_wp2
          go_roundw
          case rel => exact ⟨i + 1, by omega, by go_num, HS.out.1 HL.out HOK.out, HB4.out⟩
          case measure => simp [intOf]; omega
    · obtain rfl : i = m.2.1.length := by omega
      have HF := Lib.hid HL.out.done
      go_wp2
      go_ret
      exact ⟨ret_bool (by rw [← HR.out]; exact HF.out.symm), HW2.out⟩

set_option maxRecDepth 100000 in
set_option maxHeartbeats 6400000 in
theorem implMems_at (m : DModule) (us : List Value) {B T : Nat} {r : Bool} (w : World) (h : rdModule B T w us m) (hT : T ≤ w.heap.size) (hr : m.2.2.2.all (memOk m) = r) :
    Calls Tryz.prog 127 #[.agg us.toArray] w fun e w' => e = .returned (.bool r) ∧ Below w.heap.size w w' := by
  have HR := Lib.hid hr
  have HM := Lib.hid h
  clear hr
  obtain ⟨mu0, mu1, mu2, mu3, rfl, mh0, mh1, mh2, mh3⟩ := h
  obtain ⟨mA0, mq0, mf0, mm0, mk0⟩ := mh0
  injection mf0 with mf0
  subst mf0
  unfold maxLen at mm0
  have mE0 := Lib.hid mk0
  clear mk0
  obtain ⟨mA1, mq1, mf1, mm1, mk1⟩ := mh1
  injection mf1 with mf1
  subst mf1
  unfold maxLen at mm1
  have mE1 := Lib.hid mk1
  clear mk1
  obtain ⟨mA2, mq2, mf2, mm2, mk2⟩ := mh2
  injection mf2 with mf2
  subst mf2
  unfold maxLen at mm2
  have mE2 := Lib.hid mk2
  clear mk2
  obtain ⟨mA3, mq3, mf3, mm3, mk3⟩ := mh3
  injection mf3 with mf3
  subst mf3
  unfold maxLen at mm3
  have mE3 := Lib.hid mk3
  clear mk3
  go_enter Tryz.func127, Tryz.ntmps127
  go_wp2
  obtain ⟨W, hW⟩ : ∃ W, W = w.alloc (.cells #[.slice mA0 (m.1).length mq0, .slice mA1 (m.2.1).length mq1, .slice mA2 (m.2.2.1).length mq2, .slice mA3 (m.2.2.2).length mq3] 31) := ⟨_, rfl⟩
  rw [← hW]
  have g := eqbox1 hW
  have b0 : W.cell? ⟨w.heap.size, 0, none⟩ = some (.slice mA0 (m.1).length mq0) := box_cell g.1 0 _ rfl
  have b1 : W.cell? ⟨w.heap.size, 1, none⟩ = some (.slice mA1 (m.2.1).length mq1) := box_cell g.1 1 _ rfl
  have b2 : W.cell? ⟨w.heap.size, 2, none⟩ = some (.slice mA2 (m.2.2.1).length mq2) := box_cell g.1 2 _ rfl
  have b3 : W.cell? ⟨w.heap.size, 3, none⟩ = some (.slice mA3 (m.2.2.2).length mq3) := box_cell g.1 3 _ rfl
  have HW := Lib.hid g.2
  clear hW g
  go_loopw [8] (fun v wr => ∃ i : Nat, i ≤ m.2.2.2.length ∧ v = .int .i64 i ∧ AllT (memOk m) (m.2.2.2.take i) ∧ Below W.heap.size W wr) (fun v _ => m.2.2.2.length - (intOf v).toNat)
  case atStart => exact ⟨0, Nat.zero_le _, rfl, AllT.nil _ _, Below.refl _ _⟩
  case round =>
    obtain ⟨i, hi, rfl, hall, hb⟩ := hrel
    obtain ⟨W2, rfl⟩ : ∃ W2, W2 = wr := ⟨_, rfl⟩
    have HL := Lib.hid hall
    have HB := Lib.hid hb
    have HW2 := Lib.hid (bThen HW.out hb)
    have e0 := keep hb b0
    have e1 := keep hb b1
    have e2 := keep hb b2
    have e3 := keep hb b3
    have elt : w.heap.size < W2.heap.size := World.block_lt_of_cell? _ _ e0
    clear hb hall
    by_cases hlt : i < m.2.2.2.length
    · skip
      obtain ⟨xb, xo, xe, _, _, xus, _, xhc, xhr⟩ := mE3.out i hlt
      obtain ⟨x, xx⟩ : ∃ x, m.2.2.2[i]'hlt = x := ⟨_, rfl⟩
      have xx? : m.2.2.2[i]? = some x := by rw [List.getElem?_eq_getElem hlt, xx]
      rw [xx] at xhr
      subst xe
      have XR := Lib.hid xhr
      obtain ⟨xu0, xu1, xu2, xu3, rfl, xh0, xh1, xh2, xh3⟩ := xhr
      obtain ⟨xf0, -⟩ := xh0
      injection xf0 with xf0
      subst xf0
      obtain ⟨xf1, -⟩ := xh1
      injection xf1 with xf1
      subst xf1
      obtain ⟨xf2, -⟩ := xh2
      injection xf2 with xf2
      subst xf2
      obtain ⟨xf3, -⟩ := xh3
      injection xf3 with xf3
      subst xf3
      have xc0 : W2.cell? ⟨xb, xo + i * 4, none⟩ = some (.int .i64 x.1) := keep HW2.out (xhc 0 _ rfl)
      have xc1 : W2.cell? ⟨xb, xo + i * 4 + 1, none⟩ = some (.int .i64 x.2.1) := keep HW2.out (xhc 1 _ rfl)
      have xc2 : W2.cell? ⟨xb, xo + i * 4 + 2, none⟩ = some (.int .i64 x.2.2.1) := keep HW2.out (xhc 2 _ rfl)
      have xc3 : W2.cell? ⟨xb, xo + i * 4 + 3, none⟩ = some (.int .i64 x.2.2.2) := keep HW2.out (xhc 3 _ rfl)
      have xlt : xb < W2.heap.size := World.block_lt_of_cell? _ _ xc0
      clear xhc xx
      have HS := Lib.hid (And.intro (fun (h0 : AllT (memOk m) (m.2.2.2.take i)) (hf : (memOk m) x = true) => AllT.step xx? hf h0) (fun hf : (memOk m) x = false => all_false_at (memOk m) m.2.2.2 i _ xx? hf))
      clear xx?
      have hA : memOk m x = (sigEx m [x.1, x.2.1, x.2.2.1] && kindAt m [1, 2] x.2.2.2) := rfl
      have HX := Lib.hid hA
      obtain ⟨q, hq⟩ : ∃ q, sigEx m [x.1, x.2.1, x.2.2.1] = q := ⟨_, rfl⟩
      obtain ⟨z, hz⟩ : ∃ z, kindAt m [1, 2] x.2.2.2 = z := ⟨_, rfl⟩
      have HQ := Lib.hid (And.intro hq hz)
      obtain ⟨v0, v1, v2, v3, vv, ⟨-, F0⟩, ⟨-, F1⟩, ⟨-, F2⟩, -⟩ := XR.out
      clear hq hz hA vv
      go_wp2_with fail
      obtain ⟨V, hV⟩ : ∃ V, V = (W2.alloc (.cells #[.int .i64 x.1, .int .i64 x.2.1, .int .i64 x.2.2.1, .int .i64 x.2.2.2] 111)).alloc (.cells #[.int .i64 x.1, .int .i64 x.2.1, .int .i64 x.2.2.1] 3) := ⟨_, rfl⟩
      rw [← hV]
      have g := eqbox2 hV
      have y3 : V.cell? ⟨W2.heap.size, 3, none⟩ = some (.int .i64 x.2.2.2) := box_cell g.1 3 _ rfl
      have HV := Lib.hid g.2.2
      have hlit : rdIntS 0 V.heap.size V [.slice (some ⟨W2.heap.size + 1, 0, none⟩) 3 3] [x.1, x.2.1, x.2.2.1] := rd_lit (L := [x.1, x.2.1, x.2.2.1]) g.2.1 (by simp) (by intro y hy; simp at hy; rcases hy with rfl | rfl | rfl <;> assumption)
      clear hV g
      refine (implExist_at m [x.1, x.2.1, x.2.2.1] _ _ _ (good_Module.below HM.out hT (bThen HW2.out HV.out)) (Nat.le_trans hT (bThen HW2.out HV.out).size) hlit (Nat.le_refl _) HQ.out.1).mono ?_
      rintro e w3 ⟨rfl, hb3⟩
      replace e0 := keep hb3 (keep HV.out e0)
      replace e1 := keep hb3 (keep HV.out e1)
      replace e2 := keep hb3 (keep HV.out e2)
      replace e3 := keep hb3 (keep HV.out e3)
      replace y3 := keep hb3 y3
      have HW3 := Lib.hid (bThen (bThen HW2.out HV.out) hb3)
      have HB3 := Lib.hid (bThen (bThen HB.out HV.out) hb3)
      clear hb3 hlit elt
      cases q
      · have HNO := Lib.hid (HS.out.2 (by rw [HX.out, HQ.out.1]; rfl))
        go_wp2
        go_ret
        exact ⟨ret_bool (by rw [← HR.out]; exact HNO.out.symm), HW3.out⟩
      · go_wp2_with fail
        obtain ⟨V2, hV2⟩ : ∃ V2, V2 = w3.alloc (.cells #[.int .i64 1, .int .i64 2] 3) := ⟨_, rfl⟩
        rw [← hV2]
        have g := eqbox1 hV2
        have HV2 := Lib.hid g.2
        have hlit : rdIntS 0 V2.heap.size V2 [.slice (some ⟨w3.heap.size, 0, none⟩) 2 2] [1, 2] := rd_lit (L := [1, 2]) g.1 (by decide) (fit_lit (by decide))
        clear hV2 g
        refine (implHasKind_at m x.2.2.2 [1, 2] _ _ _ (good_Module.below HM.out hT (bThen HW3.out HV2.out)) (Nat.le_trans hT (bThen HW3.out HV2.out).size) hlit (Nat.le_refl _) HQ.out.2).mono ?_
        rintro e w4 ⟨rfl, hb4⟩
        have HW4 := Lib.hid (bThen (bThen HW3.out HV2.out) hb4)
        have HB4 := Lib.hid (bThen (bThen HB3.out HV2.out) hb4)
        clear hb4 hlit
        cases z
        · have HNO := Lib.hid (HS.out.2 (by rw [HX.out, HQ.out.1, HQ.out.2]; rfl))
          go_wp2
          go_ret
          exact ⟨ret_bool (by rw [← HR.out]; exact HNO.out.symm), HW4.out⟩
        · have HOK := Lib.hid (show memOk m x = true by rw [HX.out, HQ.out.1, HQ.out.2]; rfl)
          go_wp2
          go_roundw
          case rel => exact ⟨i + 1, by omega, by go_num, HS.out.1 HL.out HOK.out, HB4.out⟩
          case measure => simp [intOf]; omega
    · obtain rfl : i = m.2.2.2.length := by omega
      have HF := Lib.hid HL.out.done
      go_wp2
      go_ret
      exact ⟨ret_bool (by rw [← HR.out]; exact HF.out.symm), HW2.out⟩
end Go.Proofs.YtmjofpfkgbnknaaGreat
/- IModC: Valid modules and designs, as the program judges them: instances, drivers, the whole. -/
namespace Go.Proofs.YtmjofpfkgbnknaaGreat
open Go.RowKit
set_option linter.unusedVariables false
set_option linter.unusedSimpArgs false

set_option maxRecDepth 100000 in
set_option maxHeartbeats 12800000 in
theorem implInsts_at (d : DDesign) (m : DModule) (us vs : List Value) {B T B' T' : Nat} {r : Bool} (w : World) (hd : rdDesign B T w us d) (hT : T ≤ w.heap.size) (h : rdModule B' T' w vs m) (hT' : T' ≤ w.heap.size)
    (hI : ∀ (i : Nat) (n : DInst), m.2.2.1[i]? = some n → ∃ (N : Nat) (c : DModule), n.1 = N ∧ d[N]? = some c ∧ n.2.2.length = (portsL c).length) (hr : m.2.2.1.all (insOk d m) = r) :
    Calls Tryz.prog 126 #[.agg us.toArray, .agg vs.toArray] w fun e w' => e = .returned (.bool r) ∧ Below w.heap.size w w' := by
  have HR := Lib.hid hr
  have HM := Lib.hid h
  have HI := Lib.hid hI
  clear hr hI
  have HD := Lib.hid hd
  obtain ⟨du, rfl, dh⟩ := hd
  obtain ⟨dA, dq, de, dm, dk⟩ := dh
  injection de with de
  subst de
  unfold maxLen at dm
  have DE := Lib.hid dk
  clear dk
  obtain ⟨mu0, mu1, mu2, mu3, rfl, mh0, mh1, mh2, mh3⟩ := h
  obtain ⟨mA0, mq0, mf0, mm0, mk0⟩ := mh0
  injection mf0 with mf0
  subst mf0
  unfold maxLen at mm0
  have mE0 := Lib.hid mk0
  clear mk0
  obtain ⟨mA1, mq1, mf1, mm1, mk1⟩ := mh1
  injection mf1 with mf1
  subst mf1
  unfold maxLen at mm1
  have mE1 := Lib.hid mk1
  clear mk1
  obtain ⟨mA2, mq2, mf2, mm2, mk2⟩ := mh2
  injection mf2 with mf2
  subst mf2
  unfold maxLen at mm2
  have mE2 := Lib.hid mk2
  clear mk2
  obtain ⟨mA3, mq3, mf3, mm3, mk3⟩ := mh3
  injection mf3 with mf3
  subst mf3
  unfold maxLen at mm3
  have mE3 := Lib.hid mk3
  clear mk3
  go_enter Tryz.func126, Tryz.ntmps126
  go_wp2
  obtain ⟨W, hW⟩ : ∃ W, W = (w.alloc (.cells #[.slice dA d.length dq] 36)).alloc (.cells #[.slice mA0 (m.1).length mq0, .slice mA1 (m.2.1).length mq1, .slice mA2 (m.2.2.1).length mq2, .slice mA3 (m.2.2.2).length mq3] 31) := ⟨_, rfl⟩
  rw [← hW]
  have g := eqbox2 hW
  have e0 : W.cell? ⟨w.heap.size, 0, none⟩ = some (.slice dA d.length dq) := box_cell g.1 0 _ rfl
  have f0 : W.cell? ⟨w.heap.size + 1, 0, none⟩ = some (.slice mA0 (m.1).length mq0) := box_cell g.2.1 0 _ rfl
  have f1 : W.cell? ⟨w.heap.size + 1, 1, none⟩ = some (.slice mA1 (m.2.1).length mq1) := box_cell g.2.1 1 _ rfl
  have f2 : W.cell? ⟨w.heap.size + 1, 2, none⟩ = some (.slice mA2 (m.2.2.1).length mq2) := box_cell g.2.1 2 _ rfl
  have f3 : W.cell? ⟨w.heap.size + 1, 3, none⟩ = some (.slice mA3 (m.2.2.2).length mq3) := box_cell g.2.1 3 _ rfl
  have HW := Lib.hid g.2.2
  clear hW g
  go_loopw [12] (fun v wr => ∃ i : Nat, i ≤ m.2.2.1.length ∧ v = .int .i64 i ∧ AllT (insOk d m) (m.2.2.1.take i) ∧ Below W.heap.size W wr) (fun v _ => m.2.2.1.length - (intOf v).toNat)
  case atStart => exact ⟨0, Nat.zero_le _, rfl, AllT.nil _ _, Below.refl _ _⟩
  case round =>
    obtain ⟨i, hi, rfl, hall, hb⟩ := hrel
    obtain ⟨W2, rfl⟩ : ∃ W2, W2 = wr := ⟨_, rfl⟩
    have HL := Lib.hid hall
    have HB := Lib.hid hb
    have HW2 := Lib.hid (bThen HW.out hb)
    replace e0 := keep hb e0
    replace f0 := keep hb f0
    replace f1 := keep hb f1
    replace f2 := keep hb f2
    replace f3 := keep hb f3
    have elt : w.heap.size + 1 < W2.heap.size := World.block_lt_of_cell? _ _ f0
    have elt0 : w.heap.size < W2.heap.size := by omega
    clear hb hall
    by_cases hlt : i < m.2.2.1.length
    · skip
      obtain ⟨nb, no, ne, _, _, nus, _, nhc, nhr⟩ := mE2.out i hlt
      obtain ⟨n, nx⟩ : ∃ n, m.2.2.1[i]'hlt = n := ⟨_, rfl⟩
      have nx? : m.2.2.1[i]? = some n := by rw [List.getElem?_eq_getElem hlt, nx]
      rw [nx] at nhr
      subst ne
      have NR := Lib.hid nhr
      obtain ⟨nu0, nu1, nu2, rfl, nh0, nh1, nh2⟩ := nhr
      obtain ⟨nf0, -⟩ := nh0
      injection nf0 with nf0
      subst nf0
      obtain ⟨nf1, -⟩ := nh1
      injection nf1 with nf1
      subst nf1
      obtain ⟨nA2, nq2, nf2, nm2, nk2⟩ := nh2
      injection nf2 with nf2
      subst nf2
      unfold maxLen at nm2
      have nE2 := Lib.hid nk2
      clear nk2
      have nc0 : W2.cell? ⟨nb, no + i * 3, none⟩ = some (.int .i64 n.1) := keep HW2.out (nhc 0 _ rfl)
      have nc1 : W2.cell? ⟨nb, no + i * 3 + 1, none⟩ = some (.int .i64 n.2.1) := keep HW2.out (nhc 1 _ rfl)
      have nc2 : W2.cell? ⟨nb, no + i * 3 + 2, none⟩ = some (.slice nA2 (n.2.2).length nq2) := keep HW2.out (nhc 2 _ rfl)
      have nlt : nb < W2.heap.size := World.block_lt_of_cell? _ _ nc0
      clear nhc nx
      have HS := Lib.hid (And.intro (fun (h0 : AllT (insOk d m) (m.2.2.1.take i)) (hf : insOk d m n = true) => AllT.step nx? hf h0) (fun hf : insOk d m n = false => all_false_at (insOk d m) m.2.2.1 i _ nx? hf))
      obtain ⟨N, c, hN, hc, hl⟩ := HI.out i n nx?
      have hdl := drivenL_len c n.2.2
      obtain ⟨L, hL⟩ : ∃ L, drivenL c n.2.2 = L := ⟨_, rfl⟩
      obtain ⟨z, hz⟩ : ∃ z, sigEx m n.2.2 = z := ⟨_, rfl⟩
      obtain ⟨a, ha⟩ : ∃ a, n.2.1 = a := ⟨_, rfl⟩
      have HX := Lib.hid (show insOk d m n = (widthOk n.2.1 && sigEx m n.2.2 && L.all (kindAt m [1, 2])) by unfold insOk childOf; rw [hN, Int.toNat_natCast, hc, ← hL]; rfl)
      have HH := Lib.hid (And.intro hN (And.intro hc (And.intro hl hL)))
      have HZ := Lib.hid hz
      have HAA := Lib.hid ha
      have HPO := Lib.hid (show rdIntS B' T' w [.slice nA2 n.2.2.length nq2] n.2.2 from ⟨_, _, rfl, by unfold maxLen; exact nm2, nE2.out⟩)
      rw [hL] at hdl
      rw [ha] at nc1
      clear hN hc hl hL hz ha nx?
      by_cases h1 : 0 ≤ a
      · by_cases h2 : a ≤ 4
        · have HP := Lib.hid (show widthOk n.2.1 = true by rw [HAA.out]; exact decide_eq_true ⟨h1, h2⟩)
          go_wp2_with fail
          obtain ⟨V, hV⟩ : ∃ V, V = W2.alloc (.cells #[.int .i64 n.1, .int .i64 a, .slice nA2 (n.2.2).length nq2] 120) := ⟨_, rfl⟩
          rw [← hV]
          have g := eqbox1 hV
          have n0 : V.cell? ⟨W2.heap.size, 0, none⟩ = some (.int .i64 n.1) := box_cell g.1 0 _ rfl
          have n1 : V.cell? ⟨W2.heap.size, 1, none⟩ = some (.int .i64 a) := box_cell g.1 1 _ rfl
          have n2 : V.cell? ⟨W2.heap.size, 2, none⟩ = some (.slice nA2 (n.2.2).length nq2) := box_cell g.1 2 _ rfl
          have HV := Lib.hid g.2
          clear hV g
          refine (implExist_at m n.2.2 _ _ _ (good_Module.below HM.out hT' (bThen HW2.out HV.out)) (Nat.le_trans hT' (bThen HW2.out HV.out).size) (good_IntS.below HPO.out hT' (bThen HW2.out HV.out)) (Nat.le_trans hT' (bThen HW2.out HV.out).size) HZ.out).mono ?_
          rintro e w3 ⟨rfl, hb3⟩
          have HW3 := Lib.hid (bThen (bThen HW2.out HV.out) hb3)
          have HB3 := Lib.hid (bThen (bThen HB.out HV.out) hb3)
          cases z
          · have HNO := Lib.hid (HS.out.2 (by rw [HX.out, HZ.out, Bool.and_false, Bool.false_and]))
            clear hb3
            go_wp2
            go_ret
            exact ⟨ret_bool (by rw [← HR.out]; exact HNO.out.symm), HW3.out⟩
          · replace e0 := keep hb3 (keep HV.out e0)
            replace f0 := keep hb3 (keep HV.out f0)
            replace f1 := keep hb3 (keep HV.out f1)
            replace f2 := keep hb3 (keep HV.out f2)
            replace f3 := keep hb3 (keep HV.out f3)
            replace n0 := keep hb3 n0
            replace n1 := keep hb3 n1
            replace n2 := keep hb3 n2
            clear hb3 elt
            go_wp2_with fail
            have HN1 := Lib.hid (show rdInst B' T' w [.int .i64 n.1, .int .i64 a, .slice nA2 (n.2.2).length nq2] n by have h := NR.out; rw [← HAA.out]; exact h)
            refine (implDriven_any d n N c [.slice dA d.length dq] [.int .i64 n.1, .int .i64 a, .slice nA2 (n.2.2).length nq2] _ (good_Design.below HD.out hT HW3.out) (Nat.le_trans hT HW3.out.size) (good_Inst.below HN1.out hT' HW3.out) (Nat.le_trans hT' HW3.out.size) HH.out.1 HH.out.2.1 HH.out.2.2.1).mono ?_
            rintro e w5 ⟨v, rfl, ho, hb5⟩
            rw [HH.out.2.2.2] at ho
            obtain ⟨oA, oc, rfl, hoA⟩ := ho.shape
            have HOA := Lib.hid hoA
            replace f0 := keep hb5 f0
            replace f1 := keep hb5 f1
            replace f2 := keep hb5 f2
            replace f3 := keep hb5 f3
            replace e0 := keep hb5 e0
            have HW5 := Lib.hid (bThen HW3.out hb5)
            have HB5 := Lib.hid (bThen HB3.out hb5)
            clear ho hoA hb5 n0 n1 n2 nc0 nc1 nc2 nlt
            go_wp2
            go_loopw [35] (fun v ws => ∃ j : Nat, j ≤ L.length ∧ v = .int .i64 j ∧ AllT (kindAt m [1, 2]) (L.take j) ∧ Below w5.heap.size w5 ws) (fun v _ => L.length - (intOf v).toNat)
            case atStart => exact ⟨0, Nat.zero_le _, rfl, AllT.nil _ _, Below.refl _ _⟩
            case round =>
              obtain ⟨j, hj, rfl, hall, hb⟩ := hrel
              obtain ⟨W6, rfl⟩ : ∃ W6, W6 = wr := ⟨_, rfl⟩
              have HLJ := Lib.hid hall
              have HB6 := Lib.hid hb
              have HW6 := Lib.hid (bThen HW5.out hb)
              replace f0 := keep hb f0
              replace f1 := keep hb f1
              replace f2 := keep hb f2
              replace f3 := keep hb f3
              have flt : w.heap.size + 1 < W6.heap.size := World.block_lt_of_cell? _ _ f0
              clear hb hall
              by_cases hlj : j < L.length
              · obtain ⟨g, rfl, hg, _⟩ := HOA.out j hlj
                have x0 := keep HB6.out hg
                have hx? : L[j]? = some (L.getD j 0) := by rw [List.getD_eq_getElem?_getD, List.getElem?_eq_getElem hlj]; rfl
                have HSJ := Lib.hid (And.intro (fun (h0 : AllT (kindAt m [1, 2]) (L.take j)) (hf : kindAt m [1, 2] (L.getD j 0) = true) => AllT.step hx? hf h0) (fun hf : kindAt m [1, 2] (L.getD j 0) = false => all_false_at (kindAt m [1, 2]) L j _ hx? hf))
                clear hg hx?
                obtain ⟨x, hx⟩ : ∃ x, L.getD j 0 = x := ⟨_, rfl⟩
                rw [hx] at x0 HSJ
                obtain ⟨q, hq⟩ : ∃ q, kindAt m [1, 2] x = q := ⟨_, rfl⟩
                have HQ := Lib.hid hq
                clear hx hq
                go_wp2_with fail
                obtain ⟨V, hV⟩ : ∃ V, V = W6.alloc (.cells #[.int .i64 1, .int .i64 2] 3) := ⟨_, rfl⟩
                rw [← hV]
                have g := eqbox1 hV
                have HV := Lib.hid g.2
                have hlit : rdIntS 0 V.heap.size V [.slice (some ⟨W6.heap.size, 0, none⟩) 2 2] [1, 2] := rd_lit (L := [1, 2]) g.1 (by decide) (fit_lit (by decide))
                clear hV g
                refine (implHasKind_at m x [1, 2] _ _ _ (good_Module.below HM.out hT' (bThen HW6.out HV.out)) (Nat.le_trans hT' (bThen HW6.out HV.out).size) hlit (Nat.le_refl _) HQ.out).mono ?_
                rintro e w7 ⟨rfl, hb7⟩
                have HW7 := Lib.hid (bThen (bThen HW6.out HV.out) hb7)
                have HB7 := Lib.hid (bThen (bThen HB6.out HV.out) hb7)
                clear hb7 hlit
                cases q
                · have HNO := Lib.hid (HS.out.2 (by rw [HX.out, HSJ.out.2 HQ.out, Bool.and_false]))
                  go_wp2
                  go_ret
                  exact ⟨ret_bool (by rw [← HR.out]; exact HNO.out.symm), HW7.out⟩
                · go_wp2
                  go_roundw
                  case rel => exact ⟨j + 1, by omega, by go_num, HSJ.out.1 HLJ.out HQ.out, HB7.out⟩
                  case measure => simp [intOf]; omega
              · obtain rfl : j = L.length := by omega
                have HOK := Lib.hid (show insOk d m n = true by rw [HX.out, HLJ.out.done, HZ.out, HP.out]; rfl)
                go_wp2
                go_roundw
                case rel => exact ⟨i + 1, by omega, by go_num, HS.out.1 HL.out HOK.out, bThen HB5.out HB6.out⟩
                case measure => simp [intOf]; omega
        · have HNO := Lib.hid (HS.out.2 (by rw [HX.out, show widthOk n.2.1 = false from decide_eq_false (by rw [HAA.out]; omega)]; rfl))
          go_wp2
          go_ret
          exact ⟨ret_bool (by rw [← HR.out]; exact HNO.out.symm), bThen HW2.out (bAlloc (Below.refl _ _) (Nat.le_refl _) _)⟩
      · have HNO := Lib.hid (HS.out.2 (by rw [HX.out, show widthOk n.2.1 = false from decide_eq_false (by rw [HAA.out]; omega)]; rfl))
        go_wp2
        go_ret
        exact ⟨ret_bool (by rw [← HR.out]; exact HNO.out.symm), bThen HW2.out (bAlloc (Below.refl _ _) (Nat.le_refl _) _)⟩
    · obtain rfl : i = m.2.2.1.length := by omega
      have HNO := Lib.hid HL.out.done
      go_wp2
      go_ret
      exact ⟨ret_bool (by rw [← HR.out]; exact HNO.out.symm), HW2.out⟩

def AllR (f : Nat → Bool) (i : Nat) : Prop := (List.range i).all f = true
theorem AllR.nil (f : Nat → Bool) : AllR f 0 := by simp [AllR]
theorem AllR.step {f : Nat → Bool} {i : Nat} (hf : f i = true) (h0 : AllR f i) : AllR f (i + 1) := by unfold AllR at *; rw [range_all_step, h0, hf]; rfl
set_option maxRecDepth 100000 in
set_option maxHeartbeats 6400000 in
theorem implOnce_at (d : DDesign) (K : Nat) (m : DModule) (us : List Value) {B T : Nat} {r : Bool} (w : World) (hd : rdDesign B T w us d) (hT : T ≤ w.heap.size) (hm : d[K]? = some m) (hr : onceAll d K m = r) :
    Calls Tryz.prog 128 #[.agg us.toArray, .int .i64 K] w fun e w' => e = .returned (.bool r) ∧ Below w.heap.size w w' := by
  have HR := Lib.hid hr
  have hKl : K < d.length := (List.getElem?_eq_some_iff.1 hm).1
  have HD := Lib.hid hd
  obtain ⟨du, rfl, dh⟩ := hd
  obtain ⟨dA, dq, de, dm, dk⟩ := dh
  injection de with de
  subst de
  unfold maxLen at dm
  have DE := Lib.hid dk
  clear dk
  obtain ⟨mb, mo, me, _, _, mus, _, mhc, mhr⟩ := DE.out K hKl
  obtain ⟨m', mx⟩ : ∃ m', d[K]'hKl = m' := ⟨_, rfl⟩
  have mx? : d[K]? = some m' := by rw [List.getElem?_eq_getElem hKl, mx]
  rw [mx] at mhr
  subst me
  obtain ⟨mu0, mu1, mu2, mu3, rfl, mh0, mh1, mh2, mh3⟩ := mhr
  obtain ⟨mA0, mq0, mf0, mm0, mk0⟩ := mh0
  injection mf0 with mf0
  subst mf0
  unfold maxLen at mm0
  have mE0 := Lib.hid mk0
  clear mk0
  obtain ⟨mA1, mq1, mf1, mm1, mk1⟩ := mh1
  injection mf1 with mf1
  subst mf1
  unfold maxLen at mm1
  have mE1 := Lib.hid mk1
  clear mk1
  obtain ⟨mA2, mq2, mf2, mm2, mk2⟩ := mh2
  injection mf2 with mf2
  subst mf2
  unfold maxLen at mm2
  have mE2 := Lib.hid mk2
  clear mk2
  obtain ⟨mA3, mq3, mf3, mm3, mk3⟩ := mh3
  injection mf3 with mf3
  subst mf3
  unfold maxLen at mm3
  have mE3 := Lib.hid mk3
  clear mk3
  have mc0 : w.cell? ⟨mb, mo + K * 4, none⟩ = some (.slice mA0 (m'.1).length mq0) := (mhc 0 _ rfl)
  have mc1 : w.cell? ⟨mb, mo + K * 4 + 1, none⟩ = some (.slice mA1 (m'.2.1).length mq1) := (mhc 1 _ rfl)
  have mc2 : w.cell? ⟨mb, mo + K * 4 + 2, none⟩ = some (.slice mA2 (m'.2.2.1).length mq2) := (mhc 2 _ rfl)
  have mc3 : w.cell? ⟨mb, mo + K * 4 + 3, none⟩ = some (.slice mA3 (m'.2.2.2).length mq3) := (mhc 3 _ rfl)
  have mlt : mb < w.heap.size := World.block_lt_of_cell? _ _ mc0
  clear mhc mx
  obtain rfl : m' = m := by rw [mx?] at hm; injection hm
  unfold onceAll at hr
  clear hm mx? hr
  go_enter Tryz.func128, Tryz.ntmps128
  go_wp2
  obtain ⟨W, hW⟩ : ∃ W, W = w.alloc (.cells #[.slice (some ⟨mb, mo, none⟩) d.length dq] 36) := ⟨_, rfl⟩
  rw [← hW]
  have g := eqbox1 hW
  have e0 : W.cell? ⟨w.heap.size, 0, none⟩ = some (.slice (some ⟨mb, mo, none⟩) d.length dq) := box_cell g.1 0 _ rfl
  have HW := Lib.hid g.2
  clear hW g mc0 mc1 mc2 mc3 mlt
  go_loopw [14] (fun v wr => ∃ i : Nat, i ≤ m'.1.length ∧ v = .int .i64 i ∧ AllR (onceB d K m') i ∧ Below W.heap.size W wr) (fun v _ => m'.1.length - (intOf v).toNat)
  case atStart => exact ⟨0, Nat.zero_le _, rfl, AllR.nil _, Below.refl _ _⟩
  case round =>
    obtain ⟨i, hi, rfl, hall, hb⟩ := hrel
    obtain ⟨W2, rfl⟩ : ∃ W2, W2 = wr := ⟨_, rfl⟩
    have HL := Lib.hid hall
    have HB := Lib.hid hb
    have HW2 := Lib.hid (bThen HW.out hb)
    replace e0 := keep hb e0
    have elt0 : w.heap.size < W2.heap.size := World.block_lt_of_cell? _ _ e0
    clear hb hall
    by_cases hlt : i < m'.1.length
    · skip
      obtain ⟨xb, xo, xe, _, _, xus, _, xhc, xhr⟩ := mE0.out i hlt
      obtain ⟨x, xx⟩ : ∃ x, m'.1[i]'hlt = x := ⟨_, rfl⟩
      have xx? : m'.1[i]? = some x := by rw [List.getElem?_eq_getElem hlt, xx]
      rw [xx] at xhr
      subst xe
      obtain ⟨xu0, xu1, xu2, rfl, xh0, xh1, xh2⟩ := xhr
      obtain ⟨xf0, -⟩ := xh0
      injection xf0 with xf0
      subst xf0
      obtain ⟨xf1, -⟩ := xh1
      injection xf1 with xf1
      subst xf1
      obtain ⟨xf2, -⟩ := xh2
      injection xf2 with xf2
      subst xf2
      have xc0 : W2.cell? ⟨xb, xo + i * 3, none⟩ = some (.int .i64 x.1) := keep HW2.out (xhc 0 _ rfl)
      have xc1 : W2.cell? ⟨xb, xo + i * 3 + 1, none⟩ = some (.int .i64 x.2.1) := keep HW2.out (xhc 1 _ rfl)
      have xc2 : W2.cell? ⟨xb, xo + i * 3 + 2, none⟩ = some (.int .i64 x.2.2) := keep HW2.out (xhc 2 _ rfl)
      have xlt : xb < W2.heap.size := World.block_lt_of_cell? _ _ xc0
      clear xhc xx
      have hk := kindI_yes xx?
      obtain ⟨q, hq⟩ : ∃ q, driversI d K i = q := ⟨_, rfl⟩
      have HX := Lib.hid (show onceB d K m' i = (decide (x.1 = 0) || decide (q = 1)) by unfold onceB; rw [hk, hq])
      have HS := Lib.hid (show onceB d K m' i = false → onceAll d K m' = false from fun hf => range_all_false _ i _ hlt hf)
      have HQ := Lib.hid hq
      clear hq hk xx?
      obtain ⟨k, hk⟩ : ∃ k, x.1 = k := ⟨_, rfl⟩
      rw [hk] at xc0 HX
      clear hk
      by_cases h0 : k = 0
      · have HOK := Lib.hid (show onceB d K m' i = true by rw [HX.out, decide_eq_true h0]; rfl)
        have h0' : (k != 0) = false := by simpa using h0
        subst h0
        go_wp2
        go_roundw
        case rel => exact ⟨i + 1, by omega, by go_num, AllR.step HOK.out HL.out, bThen HB.out (bAlloc (Below.refl _ _) (Nat.le_refl _) _)⟩
        case measure => simp [intOf]; omega
      · have h0' : (k == 0) = false := by simpa using h0
        have h0'' : (k != 0) = true := by simpa using h0
        go_wp2_with fail
        obtain ⟨V, hV⟩ : ∃ V, V = W2.alloc (.cells #[.int .i64 k, .int .i64 x.2.1, .int .i64 x.2.2] 97) := ⟨_, rfl⟩
        rw [← hV]
        have g := eqbox1 hV
        have HV := Lib.hid g.2
        clear hV g
        refine (implDrivers_at d K i _ _ (good_Design.below HD.out hT (bThen HW2.out HV.out)) (Nat.le_trans hT (bThen HW2.out HV.out).size) HQ.out).mono ?_
        rintro e w3 ⟨rfl, hb3⟩
        have HW3 := Lib.hid (bThen (bThen HW2.out HV.out) hb3)
        have HB3 := Lib.hid (bThen (bThen HB.out HV.out) hb3)
        clear hb3
        by_cases h1 : q = 1
        · have HOK := Lib.hid (show onceB d K m' i = true by rw [HX.out, decide_eq_true h1, Bool.or_true])
          subst h1
          go_wp2
          go_roundw
          case rel => exact ⟨i + 1, by omega, by go_num, AllR.step HOK.out HL.out, HB3.out⟩
          case measure => simp [intOf]; omega
        · have HNO := Lib.hid (HS.out (by rw [HX.out, decide_eq_false h0, decide_eq_false h1]; rfl))
          have h1' : (q == 1) = false := by simpa using h1
          have h1'' : (q != 1) = true := by simpa using h1
          go_wp2
          go_ret
          exact ⟨ret_bool (by rw [← HR.out]; exact HNO.out.symm), HW3.out⟩
    · obtain rfl : i = m'.1.length := by omega
      have HNO := Lib.hid (show onceAll d K m' = true from HL.out)
      go_wp2
      go_ret
      exact ⟨ret_bool (by rw [← HR.out]; exact HNO.out.symm), HW2.out⟩
end Go.Proofs.YtmjofpfkgbnknaaGreat
/- IModD: Valid modules and designs, as the program judges them: the whole. -/
namespace Go.Proofs.YtmjofpfkgbnknaaGreat
open Go.RowKit
set_option linter.unusedVariables false
set_option linter.unusedSimpArgs false

set_option maxRecDepth 100000 in
set_option maxHeartbeats 12800000 in
theorem implModule_at (d : DDesign) (k : Int) (us : List Value) {B T : Nat} {r : Bool} (w : World) (hd : rdDesign B T w us d) (hT : T ≤ w.heap.size) (hr : moduleB d k = r) :
    Calls Tryz.prog 87 #[.agg us.toArray, .int .i64 k] w fun e w' => e = .returned (.bool r) ∧ Below w.heap.size w w' := by
  have HD := Lib.hid hd
  obtain ⟨du, rfl, dh⟩ := hd
  obtain ⟨dA, dq, de, dm, dk⟩ := dh
  injection de with de
  subst de
  unfold maxLen at dm
  have DE := Lib.hid dk
  clear dk
  obtain ⟨b, hb⟩ : ∃ b, countsB d k = b := ⟨_, rfl⟩
  have HC := Lib.hid hb
  cases b
  · rw [moduleB_no hb] at hr
    subst hr
    clear hb
    go_enter Tryz.func87, Tryz.ntmps87
    go_wp2_with fail
    refine (implInstsFit_at d k _ _ (good_Design.below HD.out hT (by (repeat' (first | assumption | exact Below.refl _ _ | refine bDrewN ?_ _ | refine Below.drew ?_ | refine bAlloc ?_ (Nat.le_refl _) _ | refine bSet ?_ (by first | exact Nat.le_refl _ | omega | (simp <;> omega)) _)))) (Nat.le_trans hT (by simp <;> omega)) HC.out).mono ?_
    rintro e w1 ⟨rfl, hb⟩
    have g := box1 hb
    have HW1 := Lib.hid g.2
    clear hb g
    go_wp2
    go_ret
    exact ⟨rfl, HW1.out⟩
  · obtain ⟨K, m0, rfl, hd4, hKl, hm?, q0, q1, q2, q3, hI⟩ := counts_facts hb
    rw [moduleB_eq hb hm?] at hr
    have HR := Lib.hid hr
    have HM0 := Lib.hid hm?
    have HI := Lib.hid (show ∀ (i : Nat) (n : DInst), m0.2.2.1[i]? = some n → ∃ (N : Nat) (c : DModule), n.1 = N ∧ d[N]? = some c ∧ n.2.2.length = (portsL c).length from fun i n hn => by
      obtain ⟨N, c, h1, _, h2, h3⟩ := hI i n hn
      exact ⟨N, c, h1, h2, h3⟩)
    clear hb hr hI
    obtain ⟨mb, mo, me, _, _, mus, _, mhc, mhr⟩ := DE.out K hKl
    obtain ⟨m, mx⟩ : ∃ m, d[K]'hKl = m := ⟨_, rfl⟩
    have mx? : d[K]? = some m := by rw [List.getElem?_eq_getElem hKl, mx]
    rw [mx] at mhr
    subst me
    have MR := Lib.hid mhr
    obtain ⟨mu0, mu1, mu2, mu3, rfl, mh0, mh1, mh2, mh3⟩ := mhr
    obtain ⟨mA0, mq0, mf0, mm0, mk0⟩ := mh0
    injection mf0 with mf0
    subst mf0
    unfold maxLen at mm0
    have mE0 := Lib.hid mk0
    clear mk0
    obtain ⟨mA1, mq1, mf1, mm1, mk1⟩ := mh1
    injection mf1 with mf1
    subst mf1
    unfold maxLen at mm1
    have mE1 := Lib.hid mk1
    clear mk1
    obtain ⟨mA2, mq2, mf2, mm2, mk2⟩ := mh2
    injection mf2 with mf2
    subst mf2
    unfold maxLen at mm2
    have mE2 := Lib.hid mk2
    clear mk2
    obtain ⟨mA3, mq3, mf3, mm3, mk3⟩ := mh3
    injection mf3 with mf3
    subst mf3
    unfold maxLen at mm3
    have mE3 := Lib.hid mk3
    clear mk3
    have mc0 : w.cell? ⟨mb, mo + K * 4, none⟩ = some (.slice mA0 (m.1).length mq0) := (mhc 0 _ rfl)
    have mc1 : w.cell? ⟨mb, mo + K * 4 + 1, none⟩ = some (.slice mA1 (m.2.1).length mq1) := (mhc 1 _ rfl)
    have mc2 : w.cell? ⟨mb, mo + K * 4 + 2, none⟩ = some (.slice mA2 (m.2.2.1).length mq2) := (mhc 2 _ rfl)
    have mc3 : w.cell? ⟨mb, mo + K * 4 + 3, none⟩ = some (.slice mA3 (m.2.2.2).length mq3) := (mhc 3 _ rfl)
    have mlt : mb < w.heap.size := World.block_lt_of_cell? _ _ mc0
    clear mhc mx
    obtain rfl : m = m0 := by rw [mx?] at hm?; injection hm?
    have HM := HM0
    clear hm? mx?
    obtain ⟨q1, h1⟩ : ∃ q, m.1.all sigOk = q := ⟨_, rfl⟩
    obtain ⟨q2, h2⟩ : ∃ q, m.2.1.all (asgOk m) = q := ⟨_, rfl⟩
    obtain ⟨q3, h3⟩ : ∃ q, m.2.2.1.all (insOk d m) = q := ⟨_, rfl⟩
    obtain ⟨q4, h4⟩ : ∃ q, m.2.2.2.all (memOk m) = q := ⟨_, rfl⟩
    obtain ⟨q5, h5⟩ : ∃ q, onceAll d K m = q := ⟨_, rfl⟩
    have HP := Lib.hid (And.intro h1 (And.intro h2 (And.intro h3 (And.intro h4 h5))))
    have HPB := Lib.hid (show partsB d K m = (q1 && q2 && q3 && q4 && q5) by unfold partsB; rw [h1, h2, h3, h4, h5])
    clear h1 h2 h3 h4 h5
    go_enter Tryz.func87, Tryz.ntmps87
    go_wp2_with fail
    refine (implInstsFit_at d K _ _ (good_Design.below HD.out hT (by (repeat' (first | assumption | exact Below.refl _ _ | refine bDrewN ?_ _ | refine Below.drew ?_ | refine bAlloc ?_ (Nat.le_refl _) _ | refine bSet ?_ (by first | exact Nat.le_refl _ | omega | (simp <;> omega)) _)))) (Nat.le_trans hT (by simp <;> omega)) HC.out).mono ?_
    rintro e w1 ⟨rfl, hb⟩
    have g := box1 hb
    have e0 : w1.cell? ⟨w.heap.size, 0, none⟩ = some (.slice (some ⟨mb, mo, none⟩) d.length dq) := box_cell g.1 0 _ rfl
    have HW1 := Lib.hid g.2
    replace mc0 := keep g.2 mc0
    replace mc1 := keep g.2 mc1
    replace mc2 := keep g.2 mc2
    replace mc3 := keep g.2 mc3
    have mlt1 : mb < w1.heap.size := World.block_lt_of_cell? _ _ mc0
    have elt : w.heap.size < w1.heap.size := World.block_lt_of_cell? _ _ e0
    clear hb g mlt
    go_wp2_with fail
    obtain ⟨W2, hW⟩ : ∃ W, W = w1.alloc (.cells #[.slice mA0 (m.1).length mq0, .slice mA1 (m.2.1).length mq1, .slice mA2 (m.2.2.1).length mq2, .slice mA3 (m.2.2.2).length mq3] 31) := ⟨_, rfl⟩
    rw [← hW]
    have g := eqbox1 hW
    have c0 : W2.cell? ⟨w1.heap.size, 0, none⟩ = some (.slice mA0 (m.1).length mq0) := box_cell g.1 0 _ rfl
    have c1 : W2.cell? ⟨w1.heap.size, 1, none⟩ = some (.slice mA1 (m.2.1).length mq1) := box_cell g.1 1 _ rfl
    have c2 : W2.cell? ⟨w1.heap.size, 2, none⟩ = some (.slice mA2 (m.2.2.1).length mq2) := box_cell g.1 2 _ rfl
    have c3 : W2.cell? ⟨w1.heap.size, 3, none⟩ = some (.slice mA3 (m.2.2.2).length mq3) := box_cell g.1 3 _ rfl
    replace e0 := keep g.2 e0
    have HW2 := Lib.hid (bThen HW1.out g.2)
    clear hW g mc0 mc1 mc2 mc3 mlt1 elt
    refine (implSignals_at m _ _ (good_Module.below MR.out hT HW2.out) (Nat.le_trans hT HW2.out.size) HP.out.1).mono ?_
    rintro e w3 ⟨rfl, hb⟩
    replace c0 := keep hb c0
    replace c1 := keep hb c1
    replace c2 := keep hb c2
    replace c3 := keep hb c3
    replace e0 := keep hb e0
    have HW3 := Lib.hid (bThen HW2.out hb)
    clear hb
    cases q1
    · go_wp2
      go_ret
      exact ⟨ret_bool (by rw [← HR.out, HPB.out]; simp), HW3.out⟩
    · go_wp2_with fail
      refine (implAssigns_at m _ _ (good_Module.below MR.out hT HW3.out) (Nat.le_trans hT HW3.out.size) HP.out.2.1).mono ?_
      rintro e w4 ⟨rfl, hb⟩
      replace c0 := keep hb c0
      replace c1 := keep hb c1
      replace c2 := keep hb c2
      replace c3 := keep hb c3
      replace e0 := keep hb e0
      have HW4 := Lib.hid (bThen HW3.out hb)
      clear hb
      cases q2
      · go_wp2
        go_ret
        exact ⟨ret_bool (by rw [← HR.out, HPB.out]; simp), HW4.out⟩
      · go_wp2_with fail
        refine (implInsts_at d m _ _ _ (good_Design.below HD.out hT HW4.out) (Nat.le_trans hT HW4.out.size) (good_Module.below MR.out hT HW4.out) (Nat.le_trans hT HW4.out.size) HI.out HP.out.2.2.1).mono ?_
        rintro e w5 ⟨rfl, hb⟩
        replace c0 := keep hb c0
        replace c1 := keep hb c1
        replace c2 := keep hb c2
        replace c3 := keep hb c3
        replace e0 := keep hb e0
        have HW5 := Lib.hid (bThen HW4.out hb)
        clear hb
        cases q3
        · go_wp2
          go_ret
          exact ⟨ret_bool (by rw [← HR.out, HPB.out]; simp), HW5.out⟩
        · go_wp2_with fail
          refine (implMems_at m _ _ (good_Module.below MR.out hT HW5.out) (Nat.le_trans hT HW5.out.size) HP.out.2.2.2.1).mono ?_
          rintro e w6 ⟨rfl, hb⟩
          replace c0 := keep hb c0
          replace c1 := keep hb c1
          replace c2 := keep hb c2
          replace c3 := keep hb c3
          replace e0 := keep hb e0
          have HW6 := Lib.hid (bThen HW5.out hb)
          clear hb
          cases q4
          · go_wp2
            go_ret
            exact ⟨ret_bool (by rw [← HR.out, HPB.out]; simp), HW6.out⟩
          · go_wp2_with fail
            refine (implOnce_at d K m _ _ (good_Design.below HD.out hT HW6.out) (Nat.le_trans hT HW6.out.size) HM.out HP.out.2.2.2.2).mono ?_
            rintro e w7 ⟨rfl, hb⟩
            replace c0 := keep hb c0
            replace c1 := keep hb c1
            replace c2 := keep hb c2
            replace c3 := keep hb c3
            replace e0 := keep hb e0
            have HW7 := Lib.hid (bThen HW6.out hb)
            clear hb
            cases q5
            · go_wp2
              go_ret
              exact ⟨ret_bool (by rw [← HR.out, HPB.out]; simp), HW7.out⟩
            · go_wp2
              go_ret
              exact ⟨ret_bool (by rw [← HR.out, HPB.out]; simp), HW7.out⟩

theorem designB_no {d : List DModule} (K : Nat) (hK : K < d.length) (h : moduleB d K = false) : designB d = false := by
  unfold designB; rw [range_all_false (fun k : Nat => moduleB d k) K _ hK h, Bool.and_false]
theorem designB_yes {d : List DModule} (h : AllR (fun k : Nat => moduleB d k) d.length) : designB d = decide (0 < d.length) := by
  unfold designB
  rw [show (List.range d.length).all (fun k : Nat => moduleB d k) = true from h, Bool.and_true]
  by_cases h0 : 0 < d.length
  · have h4 : d.length ≤ 4 := by
      apply Decidable.byContradiction
      intro h4
      have := List.all_eq_true.1 (show (List.range d.length).all (fun k : Nat => moduleB d k) = true from h) 0 (List.mem_range.2 h0)
      rw [moduleB_long _ h4] at this
      cases this
    rw [decide_eq_true h0, decide_eq_true (by omega)]
  · rw [decide_eq_false h0, decide_eq_false (by omega)]
set_option maxRecDepth 100000 in
set_option maxHeartbeats 6400000 in
theorem implDesign_at (d : DDesign) (us : List Value) {B T : Nat} {r : Bool} (w : World) (hd : rdDesign B T w us d) (hT : T ≤ w.heap.size) (hr : designB d = r) :
    Calls Tryz.prog 47 #[.agg us.toArray] w fun e w' => e = .returned (.bool r) ∧ Below w.heap.size w w' := by
  have HR := Lib.hid hr
  have HD := Lib.hid hd
  obtain ⟨du, rfl, dh⟩ := hd
  obtain ⟨dA, dq, de, dm, dk⟩ := dh
  injection de with de
  subst de
  unfold maxLen at dm
  have DE := Lib.hid dk
  clear dk
  clear hr
  go_enter Tryz.func47, Tryz.ntmps47
  go_wp2
  obtain ⟨W, hW⟩ : ∃ W, W = w.alloc (.cells #[.slice dA d.length dq] 36) := ⟨_, rfl⟩
  rw [← hW]
  have g := eqbox1 hW
  have e0 : W.cell? ⟨w.heap.size, 0, none⟩ = some (.slice dA d.length dq) := box_cell g.1 0 _ rfl
  have HW := Lib.hid g.2
  clear hW g
  go_loopw [7] (fun v wr => ∃ i : Nat, i ≤ d.length ∧ v = .int .i64 i ∧ AllR (fun k : Nat => moduleB d k) i ∧ Below W.heap.size W wr) (fun v _ => d.length - (intOf v).toNat)
  case atStart => exact ⟨0, Nat.zero_le _, rfl, AllR.nil _, Below.refl _ _⟩
  case round =>
    obtain ⟨i, hi, rfl, hall, hb⟩ := hrel
    obtain ⟨W2, rfl⟩ : ∃ W2, W2 = wr := ⟨_, rfl⟩
    have HL := Lib.hid hall
    have HB := Lib.hid hb
    have HW2 := Lib.hid (bThen HW.out hb)
    replace e0 := keep hb e0
    clear hb hall
    by_cases hlt : i < d.length
    · obtain ⟨q, hq⟩ : ∃ q, moduleB d i = q := ⟨_, rfl⟩
      have HQ := Lib.hid hq
      clear hq
      go_wp2_with fail
      refine (implModule_at d i _ _ (good_Design.below HD.out hT HW2.out) (Nat.le_trans hT HW2.out.size) HQ.out).mono ?_
      rintro e w3 ⟨rfl, hb3⟩
      have HW3 := Lib.hid (bThen HW2.out hb3)
      have HB3 := Lib.hid (bThen HB.out hb3)
      clear hb3
      cases q
      · have HNO := Lib.hid (designB_no i hlt HQ.out)
        go_wp2
        go_ret
        exact ⟨ret_bool (by rw [← HR.out]; exact HNO.out.symm), HW3.out⟩
      · go_wp2
        go_roundw
        case rel => exact ⟨i + 1, by omega, by go_num, AllR.step HQ.out HL.out, HB3.out⟩
        case measure => simp [intOf]; omega
    · obtain rfl : i = d.length := by omega
      have HY := Lib.hid (designB_yes HL.out)
      go_wp2
      go_ret
      exact ⟨ret_bool (by rw [← HR.out, HY.out] <;> simp), HW2.out⟩
end Go.Proofs.YtmjofpfkgbnknaaGreat
