/-
  The parts of a valid module, as the program judges them.
-/
import Derived.Test.YtllddjkdjdohhaaModMath
import Derived.Test.YtllddjkdjdohhaaIOps
import Derived.Test.YtllddjkdjdohhaaIDC
namespace Go.Proofs.Ytllddjkdjdohhaa
open Go.RowKit
set_option linter.unusedVariables false
set_option linter.unusedSimpArgs false

theorem inL_at (x : Int) (L : List Int) (i : Nat) (h : i < L.length) (he : x = L[i]) : inL x L = true := by
  unfold inL; rw [List.any_eq_true]; exact ⟨L[i], List.getElem_mem h, by simp [he]⟩
theorem inL_take (x : Int) (L : List Int) (i : Nat) (y : Int) (h : L[i]? = some y) (hn : ¬ x = y) (hi : inL x (L.take i) = false) : inL x (L.take (i + 1)) = false := by
  unfold inL at hi ⊢; rw [List.take_add_one, h, List.any_append, hi]; simp [hn]
set_option maxHeartbeats 1600000 in
theorem index_any (x : Int) (L : List Int) (v : Value) {B T : Nat} (w : World) (h : rdIntS B T w [v] L) :
    Calls Try.prog 116 #[v, .int .i64 x] w fun e w' => (∃ r : Int, e = .returned (.int .i64 r) ∧ decide (0 ≤ r) = inL x L) ∧ w = w' := by
  obtain ⟨A, c, ea, hm, hA⟩ := h
  injection ea with ea
  subst ea
  unfold maxLen at hm
  have HA := Lib.hid hA
  clear hA
  go_enter Try.func116, Try.ntmps116
  go_wp2
  go_loop [8] (fun v => ∃ i : Nat, i ≤ L.length ∧ v = .int .i64 i ∧ inL x (L.take i) = false) (fun v => L.length - (intOf v).toNat)
  case atStart => exact ⟨0, Nat.zero_le _, rfl, by simp [inL]⟩
  case round =>
    obtain ⟨i, hi, rfl, hno⟩ := hrel
    have HN := Lib.hid hno
    clear hno
    by_cases hlt : i < L.length
    · obtain ⟨b, o, rfl, _, _, us, _, hc, ⟨e0, _⟩⟩ := HA.out i hlt
      subst e0
      have x0 := hc 0 _ rfl
      rw [Nat.add_zero, Nat.mul_one] at x0
      have HX := Lib.hid (show L[i]? = some (L[i]'hlt) from List.getElem?_eq_getElem hlt)
      have HI := Lib.hid (inL_at x L i hlt)
      clear hc
      obtain ⟨y, hy⟩ : ∃ y, L[i]'hlt = y := ⟨_, rfl⟩
      rw [hy] at x0 HX HI
      clear hy
      by_cases hxy : x = y
      · have HY := Lib.hid (HI.out hxy)
        subst hxy
        go_wp2
        go_ret
        exact ⟨⟨_, rfl, by rw [HY.out]; simp⟩, rfl⟩
      · have hxy' : (x == y) = false := by simpa using hxy
        have HY := Lib.hid (inL_take x L i y HX.out hxy HN.out)
        go_wp2
        go_round
        case rel => exact ⟨i + 1, by omega, by go_num, HY.out⟩
        case measure => simp [intOf]; omega
    · obtain rfl : i = L.length := by omega
      have hf : inL x L = false := by have := HN.out; rwa [List.take_length] at this
      have HF := Lib.hid hf
      clear hf
      go_wp2
      go_ret
      exact ⟨⟨_, rfl, by rw [HF.out]; rfl⟩, rfl⟩
theorem contains_any (x : Int) (L : List Int) (v : Value) {B T : Nat} {r : Bool} (w : World) (h : rdIntS B T w [v] L) (hr : inL x L = r) :
    Calls Try.prog 112 #[v, .int .i64 x] w fun e w' => e = .returned (.bool r) ∧ w = w' := by
  subst hr
  go_enter Try.func112, Try.ntmps112
  go_wp2_with fail
  refine (index_any x L v _ h).mono ?_
  rintro e w1 ⟨⟨r, rfl, hr⟩, rfl⟩
  have HR := Lib.hid hr
  clear hr
  go_wp2
  go_ret
  exact ⟨ret_bool HR.out, rfl⟩

set_option maxHeartbeats 3200000 in
theorem implHasKind_any (m : DModule) (s : Int) (L : List Int) (us : List Value) (v : Value) {B T B' T' : Nat} (w : World) (h : rdModule B T w us m) (hT : T ≤ w.heap.size) (hL : rdIntS B' T' w [v] L) (hT' : T' ≤ w.heap.size) :
    Calls Try.prog 92 #[.agg us.toArray, .int .i64 s, v] w fun e w' => e = .returned (.bool (kindAt m L s)) ∧ Below w.heap.size w w' := by
  obtain ⟨mu0, mu1, mu2, mu3, rfl, mh0, mh1, mh2, mh3⟩ := h
  obtain ⟨mA0, mq0, mf0, mm0, mk0⟩ := mh0
  injection mf0 with mf0
  subst mf0
  unfold maxLen at mm0
  have mE0 := Lib.hid mk0
  clear mk0
  obtain ⟨mA1, mq1, mf1, mm1, mk1⟩ := mh1
  injection mf1 with mf1
  subst mf1
  unfold maxLen at mm1
  have mE1 := Lib.hid mk1
  clear mk1
  obtain ⟨mA2, mq2, mf2, mm2, mk2⟩ := mh2
  injection mf2 with mf2
  subst mf2
  unfold maxLen at mm2
  have mE2 := Lib.hid mk2
  clear mk2
  obtain ⟨mA3, mq3, mf3, mm3, mk3⟩ := mh3
  injection mf3 with mf3
  subst mf3
  unfold maxLen at mm3
  have mE3 := Lib.hid mk3
  clear mk3
  have HL := Lib.hid hL
  obtain ⟨lA, lc, le, -⟩ := hL
  injection le with le
  subst le
  by_cases h0 : 0 ≤ s
  · obtain ⟨S, rfl⟩ := Int.eq_ofNat_of_zero_le h0
    by_cases h1 : S < m.1.length
    · skip
      obtain ⟨xb, xo, xe, _, _, xus, _, xhc, xhr⟩ := mE0.out S h1
      obtain ⟨x, xx⟩ : ∃ x, m.1[S]'h1 = x := ⟨_, rfl⟩
      have xx? : m.1[S]? = some x := by rw [List.getElem?_eq_getElem h1, xx]
      rw [xx] at xhr
      subst xe
      obtain ⟨xu0, xu1, xu2, rfl, xh0, xh1, xh2⟩ := xhr
      obtain ⟨xf0, -⟩ := xh0
      injection xf0 with xf0
      subst xf0
      obtain ⟨xf1, -⟩ := xh1
      injection xf1 with xf1
      subst xf1
      obtain ⟨xf2, -⟩ := xh2
      injection xf2 with xf2
      subst xf2
      have xc0 : w.cell? ⟨xb, xo + S * 3, none⟩ = some (.int .i64 x.1) := (xhc 0 _ rfl)
      have xc1 : w.cell? ⟨xb, xo + S * 3 + 1, none⟩ = some (.int .i64 x.2.1) := (xhc 1 _ rfl)
      have xc2 : w.cell? ⟨xb, xo + S * 3 + 2, none⟩ = some (.int .i64 x.2.2) := (xhc 2 _ rfl)
      have xlt : xb < w.heap.size := World.block_lt_of_cell? _ _ xc0
      clear xhc xx
      rw [kindAt_yes xx?]
      obtain ⟨r, hr⟩ : ∃ r, inL x.1 L = r := ⟨_, rfl⟩
      rw [hr]
      have HR := Lib.hid hr
      clear hr xx?
      go_enter Try.func92, Try.ntmps92
      go_wp2_with fail
      refine (contains_any x.1 L _ _ (good_IntS.below HL.out hT' (by (repeat' (first | assumption | exact Below.refl _ _ | refine bDrewN ?_ _ | refine Below.drew ?_ | refine bAlloc ?_ (Nat.le_refl _) _ | refine bSet ?_ (by first | exact Nat.le_refl _ | omega | (simp <;> omega)) _)))) HR.out).mono ?_
      rintro e w1 ⟨rfl, rfl⟩
      go_wp2
      go_ret
      exact ⟨rfl, by (repeat' (first | assumption | exact Below.refl _ _ | refine bDrewN ?_ _ | refine Below.drew ?_ | refine bAlloc ?_ (Nat.le_refl _) _ | refine bSet ?_ (by first | exact Nat.le_refl _ | omega | (simp <;> omega)) _))⟩
    · rw [kindAt_no (by omega)]
      go_enter Try.func92, Try.ntmps92
      go_wp2
      go_ret
      exact ⟨rfl, by (repeat' (first | assumption | exact Below.refl _ _ | refine bDrewN ?_ _ | refine Below.drew ?_ | refine bAlloc ?_ (Nat.le_refl _) _ | refine bSet ?_ (by first | exact Nat.le_refl _ | omega | (simp <;> omega)) _))⟩
  · rw [kindAt_no (by omega)]
    go_enter Try.func92, Try.ntmps92
    go_wp2
    go_ret
    exact ⟨rfl, by (repeat' (first | assumption | exact Below.refl _ _ | refine bDrewN ?_ _ | refine Below.drew ?_ | refine bAlloc ?_ (Nat.le_refl _) _ | refine bSet ?_ (by first | exact Nat.le_refl _ | omega | (simp <;> omega)) _))⟩
theorem implHasKind_at (m : DModule) (s : Int) (L : List Int) (us : List Value) (v : Value) {B T B' T' : Nat} {r : Bool} (w : World) (h : rdModule B T w us m) (hT : T ≤ w.heap.size) (hL : rdIntS B' T' w [v] L) (hT' : T' ≤ w.heap.size) (hr : kindAt m L s = r) :
    Calls Try.prog 92 #[.agg us.toArray, .int .i64 s, v] w fun e w' => e = .returned (.bool r) ∧ Below w.heap.size w w' := by subst hr; exact implHasKind_any m s L us v w h hT hL hT'

set_option maxHeartbeats 3200000 in
theorem implExist_any (m : DModule) (L : List Int) (us : List Value) (v : Value) {B T B' T' : Nat} (w : World) (h : rdModule B T w us m) (hT : T ≤ w.heap.size) (hL : rdIntS B' T' w [v] L) (hT' : T' ≤ w.heap.size) :
    Calls Try.prog 93 #[.agg us.toArray, v] w fun e w' => e = .returned (.bool (sigEx m L)) ∧ Below w.heap.size w w' := by
  obtain ⟨mu0, mu1, mu2, mu3, rfl, mh0, mh1, mh2, mh3⟩ := h
  obtain ⟨mA0, mq0, mf0, mm0, mk0⟩ := mh0
  injection mf0 with mf0
  subst mf0
  unfold maxLen at mm0
  have mE0 := Lib.hid mk0
  clear mk0
  obtain ⟨mA1, mq1, mf1, mm1, mk1⟩ := mh1
  injection mf1 with mf1
  subst mf1
  unfold maxLen at mm1
  have mE1 := Lib.hid mk1
  clear mk1
  obtain ⟨mA2, mq2, mf2, mm2, mk2⟩ := mh2
  injection mf2 with mf2
  subst mf2
  unfold maxLen at mm2
  have mE2 := Lib.hid mk2
  clear mk2
  obtain ⟨mA3, mq3, mf3, mm3, mk3⟩ := mh3
  injection mf3 with mf3
  subst mf3
  unfold maxLen at mm3
  have mE3 := Lib.hid mk3
  clear mk3
  obtain ⟨A, c, ea, hm, hA⟩ := hL
  injection ea with ea
  subst ea
  unfold maxLen at hm
  have HA := Lib.hid hA
  clear hA
  unfold sigEx
  go_enter Try.func93, Try.ntmps93
  go_wp2
  obtain ⟨W, hW⟩ : ∃ W, W = w.alloc (.cells #[.slice mA0 (m.1).length mq0, .slice mA1 (m.2.1).length mq1, .slice mA2 (m.2.2.1).length mq2, .slice mA3 (m.2.2.2).length mq3] 35) := ⟨_, rfl⟩
  rw [← hW]
  have g := eqbox1 hW
  have b0 : W.cell? ⟨w.heap.size, 0, none⟩ = some (.slice mA0 (m.1).length mq0) := box_cell g.1 0 _ rfl
  have HW := Lib.hid g.2
  clear hW g
  go_loop [9] (fun v => ∃ i : Nat, i ≤ L.length ∧ v = .int .i64 i ∧ (L.take i).all (inR m) = true) (fun v => L.length - (intOf v).toNat)
  case atStart => exact ⟨0, Nat.zero_le _, rfl, by simp⟩
  case round =>
    obtain ⟨i, hi, rfl, hall⟩ := hrel
    have HN := Lib.hid hall
    clear hall
    by_cases hlt : i < L.length
    · obtain ⟨b, o, rfl, _, _, vs, _, hc, ⟨e0, _⟩⟩ := HA.out i hlt
      subst e0
      have x0 := keep HW.out (hc 0 _ rfl)
      rw [Nat.add_zero, Nat.mul_one] at x0
      have hx : L[i]? = some (L[i]'hlt) := List.getElem?_eq_getElem hlt
      have HS := Lib.hid (And.intro (all_take_step (inR m) L i _ hx) (fun hf => all_false_at (inR m) L i _ hx hf))
      clear hc hx
      obtain ⟨y, hy⟩ : ∃ y, L[i]'hlt = y := ⟨_, rfl⟩
      rw [hy] at x0 HS
      clear hy
      by_cases h0 : 0 ≤ y
      · by_cases h1 : y < (m.1.length : Int)
        · have hyes : inR m y = true := decide_eq_true ⟨h0, h1⟩
          have HY := Lib.hid hyes
          clear hyes
          go_wp2
          go_round
          case rel => exact ⟨i + 1, by omega, by go_num, by rw [HS.out.1, HN.out, HY.out]; rfl⟩
          case measure => simp [intOf]; omega
        · have HY := Lib.hid (HS.out.2 (inR_no (by omega)))
          go_wp2
          go_ret
          exact ⟨ret_bool (by rw [HY.out]), HW.out⟩
      · have HY := Lib.hid (HS.out.2 (inR_no (by omega)))
        go_wp2
        go_ret
        exact ⟨ret_bool (by rw [HY.out]), HW.out⟩
    · obtain rfl : i = L.length := by omega
      have hf : L.all (inR m) = true := by have := HN.out; rwa [List.take_length] at this
      have HF := Lib.hid hf
      clear hf
      go_wp2
      go_ret
      exact ⟨ret_bool (by rw [HF.out]), HW.out⟩
theorem implExist_at (m : DModule) (L : List Int) (us : List Value) (v : Value) {B T B' T' : Nat} {r : Bool} (w : World) (h : rdModule B T w us m) (hT : T ≤ w.heap.size) (hL : rdIntS B' T' w [v] L) (hT' : T' ≤ w.heap.size) (hr : sigEx m L = r) :
    Calls Try.prog 93 #[.agg us.toArray, v] w fun e w' => e = .returned (.bool r) ∧ Below w.heap.size w w' := by subst hr; exact implExist_any m L us v w h hT hL hT'

/-- A slice of ints that was just laid. -/
theorem rd_lit {w : World} {g : Nat} {L : List Int} {t : TypeId} {fr : Nat × Nat} (h : w.heap[g]? = some (.cells (L.map fun x => Value.int .i64 x).toArray t fr)) (hl : L.length ≤ 1000) (hf : ∀ x ∈ L, Fit x) :
    rdIntS 0 w.heap.size w [.slice (some ⟨g, 0, none⟩) L.length L.length] L := by
  have hg : g < w.heap.size := (Array.getElem?_eq_some_iff.1 h).1
  refine ⟨_, _, rfl, by unfold maxLen; omega, fun j hj => ⟨g, 0, rfl, Nat.zero_le _, hg, [.int .i64 L[j]], rfl, fun i u hu => ?_, ⟨rfl, hf _ (List.getElem_mem hj)⟩⟩⟩
  match i, hu with
  | 0, hu =>
    simp at hu; subst hu
    rw [Nat.zero_add, Nat.mul_one, Nat.add_zero]
    exact box_cell h j _ (by simp [hj])
end Go.Proofs.Ytllddjkdjdohhaa
