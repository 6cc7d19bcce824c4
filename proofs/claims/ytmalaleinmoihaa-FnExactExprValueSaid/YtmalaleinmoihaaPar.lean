/-
  Operators among operators: slices.Index and slices.Contains.
-/
import Derived.Test.YtmalaleinmoihaaFlatMath
import Derived.Test.YtmalaleinmoihaaDpAll
import Derived.Test.YtmalaleinmoihaaQui
import Derived.Laws.StructEq
namespace Go.Proofs.Ytmalaleinmoihaa
open Go.RowKit
set_option linter.unusedVariables false
set_option linter.unusedSimpArgs false

/-- Among these operators, the one for the parameter has no other fields. -/
def ParPlain (L : List DOp) : Prop := ∀ o ∈ L, o.1 = 1 → o = (1, 0, 0)
theorem parPlain_of {n : Int} {L : List DOp} (h : opsB n L = true) : ParPlain L := fun o ho h1 => opB_par ((opsB_all h).2 o ho) h1
def isPar (o : DOp) : Bool := decide (o.1 = 1)
set_option maxHeartbeats 3200000 in
theorem indexPar_at (L : List DOp) (v : Value) {B T : Nat} (w : World) (hv : rdOpS B T w [v] L) (hT : T ≤ w.heap.size) (hok : ParPlain L) :
    Calls Try.prog 29 #[v, .agg #[.int .i64 1, .int .i64 0, .int .i64 0]] w fun e w' => (∃ r : Int, e = .returned (.int .i64 r) ∧ decide (0 ≤ r) = L.any isPar) ∧ Below w.heap.size w w' := by
  have HK := Lib.hid hok
  clear hok
  obtain ⟨vA, vc, ve, vm, vk⟩ := hv
  injection ve with ve
  subst ve
  unfold maxLen at vm
  have HV := Lib.hid vk
  clear vk
  go_enter Try.func29, Try.ntmps29
  go_wp2
  obtain ⟨W, hW⟩ : ∃ W, W = w.alloc (.cells #[.int .i64 1, .int .i64 0, .int .i64 0] 35) := ⟨_, rfl⟩
  rw [← hW]
  have g := eqbox1 hW
  have z0 : W.cell? ⟨w.heap.size, 0, none⟩ = some (.int .i64 1) := box_cell g.1 0 _ rfl
  have z1 : W.cell? ⟨w.heap.size, 1, none⟩ = some (.int .i64 0) := box_cell g.1 1 _ rfl
  have z2 : W.cell? ⟨w.heap.size, 2, none⟩ = some (.int .i64 0) := box_cell g.1 2 _ rfl
  have HW := Lib.hid g.2
  clear hW g
  go_loopw [8] (fun x wr => ∃ i : Nat, i ≤ L.length ∧ x = .int .i64 i ∧ (L.take i).any isPar = false ∧ Below W.heap.size W wr) (fun x _ => L.length - (intOf x).toNat)
  case atStart => exact ⟨0, Nat.zero_le _, rfl, by simp, Below.refl _ _⟩
  case round =>
    obtain ⟨i, hi, rfl, hno, hb⟩ := hrel
    have HN := Lib.hid hno
    have HB := Lib.hid hb
    have q0 := keep hb z0
    have q1 := keep hb z1
    have q2 := keep hb z2
    clear hno hb
    by_cases hlt : i < L.length
    · skip
      obtain ⟨xb, xo, xe, _, _, xus, _, xhc, xhr⟩ := HV.out i hlt
      obtain ⟨x, xx⟩ : ∃ x, L[i]'hlt = x := ⟨_, rfl⟩
      have xx? : L[i]? = some x := by rw [List.getElem?_eq_getElem hlt, xx]
      rw [xx] at xhr
      subst xe
      obtain ⟨xu0, xu1, xu2, rfl, xh0, xh1, xh2⟩ := xhr
      obtain ⟨xf0, -⟩ := xh0
      injection xf0 with xf0
      subst xf0
      obtain ⟨xf1, -⟩ := xh1
      injection xf1 with xf1
      subst xf1
      obtain ⟨xf2, -⟩ := xh2
      injection xf2 with xf2
      subst xf2
      have xc0 : wr.cell? ⟨xb, xo + i * 3, none⟩ = some (.int .i64 x.1) := keep HB.out (keep HW.out (xhc 0 _ rfl))
      have xc1 : wr.cell? ⟨xb, xo + i * 3 + 1, none⟩ = some (.int .i64 x.2.1) := keep HB.out (keep HW.out (xhc 1 _ rfl))
      have xc2 : wr.cell? ⟨xb, xo + i * 3 + 2, none⟩ = some (.int .i64 x.2.2) := keep HB.out (keep HW.out (xhc 2 _ rfl))
      have xlt : xb < wr.heap.size := World.block_lt_of_cell? _ _ xc0
      clear xhc xx
      have HX := Lib.hid xx?
      have HI := Lib.hid (HK.out x (List.mem_of_getElem? xx?))
      clear xx?
      obtain ⟨k, a, b⟩ := x
      dsimp only at xc0 xc1 xc2
      by_cases h1 : k = 1
      · have h2 := HI.out h1
        injection h2 with e0 e1
        injection e1 with e1 e2
        subst e0 e1 e2
        have HE := Lib.hid (show L.any isPar = true by rw [List.any_eq_true]; exact ⟨_, List.mem_of_getElem? HX.out, rfl⟩)
        clear h1
        go_wp2
        go_quiet (fail)
        go_wp2
        go_ret
        exact ⟨⟨_, rfl, by rw [HE.out]; simp⟩, bThen HW.out (HB.out.trans ⟨rfl, rfl, rfl, Nat.le_refl _, fun _ _ => rfl⟩)⟩
      · have HS := Lib.hid (show (L.take (i + 1)).any isPar = false by rw [List.take_add_one, HX.out, List.any_append, HN.out]; simp [isPar, h1])
        have b1 : (k == 1) = false := by simpa using h1
        have b2 : (1 == k) = false := by simpa using fun e => h1 e.symm
        clear h1
        go_wp2
        go_quiet (fail)
        go_wp2
        go_roundw
        case rel => exact ⟨i + 1, by omega, by go_num, HS.out, HB.out.trans ⟨rfl, rfl, rfl, Nat.le_refl _, fun _ _ => rfl⟩⟩
        case measure => simp [intOf]; omega
    · obtain rfl : i = L.length := by omega
      have HE := Lib.hid (show L.any isPar = false by have h := HN.out; rw [List.take_length] at h; exact h)
      go_wp2
      go_ret
      exact ⟨⟨_, rfl, by rw [HE.out]; rfl⟩, bThen HW.out HB.out⟩
theorem containsPar_at (L : List DOp) (v : Value) {B T : Nat} {r : Bool} (w : World) (hv : rdOpS B T w [v] L) (hT : T ≤ w.heap.size) (hok : ParPlain L) (hr : L.any isPar = r) :
    Calls Try.prog 24 #[v, .agg #[.int .i64 1, .int .i64 0, .int .i64 0]] w fun e w' => e = .returned (.bool r) ∧ Below w.heap.size w w' := by
  have HR := Lib.hid hr
  have HV := Lib.hid hv
  have HK := Lib.hid hok
  obtain ⟨vA, vc, ve, -⟩ := hv
  injection ve with ve
  subst ve
  clear hr hok
  go_enter Try.func24, Try.ntmps24
  go_wp2_with fail
  refine (indexPar_at L _ _ (good_OpS.below HV.out hT (by (repeat' (first | assumption | exact Below.refl _ _ | refine bDrewN ?_ _ | refine Below.drew ?_ | refine bAlloc ?_ (Nat.le_refl _) _ | refine bSet ?_ (by first | exact Nat.le_refl _ | omega | (simp <;> omega)) _)))) (Nat.le_trans hT (by simp <;> omega)) HK.out).mono ?_
  rintro e w1 ⟨⟨q, rfl, hq⟩, hb⟩
  have HB := Lib.hid (show Below w.heap.size w w1 from bThen (by (repeat' (first | assumption | exact Below.refl _ _ | refine bDrewN ?_ _ | refine Below.drew ?_ | refine bAlloc ?_ (Nat.le_refl _) _ | refine bSet ?_ (by first | exact Nat.le_refl _ | omega | (simp <;> omega)) _))) hb)
  have HQ := Lib.hid (hq.trans HR.out)
  clear hq hb
  go_wp2
  go_ret
  exact ⟨ret_bool HQ.out, HB.out⟩
end Go.Proofs.Ytmalaleinmoihaa
