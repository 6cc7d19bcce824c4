/-
  IFmA, IFmB, IFmC, LaidW as one text.
-/
import Derived.Test.YtdfcbccpdflbfaaGreatDoorTxMath
import Derived.Test.YtdfcbccpdflbfaaGreatDoorIOpTx
import Derived.Test.YtdfcbccpdflbfaaGreatDoorReads
import Derived.Deep.CutRange
import Derived.Deep.RegionHeld3
import Derived.BigQuiet
import Derived.Lib.QuietBelow
import Derived.Test.YtdfcbccpdflbfaaGreatDoorAppS
import Derived.Test.YtdfcbccpdflbfaaGreatDoorIModAll
import Derived.Lib.LaidTab
import Derived.ChangeArms
/- IFmA: The lines of a module: the program's small functions. -/
namespace Go.Proofs.YtdfcbccpdflbfaaGreatDoor
open Go.RowKit
set_option linter.unusedVariables false
set_option linter.unusedSimpArgs false

theorem implNum_at {n : Int} {s : ByteArray} (w : World) (h : numB n = s) (h0 : 0 ≤ n) (h1 : n ≤ 1000000000) (ht : PowTab w) :
    Calls Tryz.prog 51 #[.int .i64 n] w fun e w' => e = .returned (.string s) ∧ Below w.heap.size w w' := implFmt_at w h h0 h1 ht
theorem widB_0 : widB 0 = ⟨#[87]⟩ := rfl
theorem widB_n {n : Int} (h : ¬ n = 0) : widB n = numB n := if_neg h
theorem paramText_at {n : Int} {s : ByteArray} (w : World) (h : widB n = s) (h0 : 0 ≤ n) (h1 : n ≤ 1000000000) (ht : PowTab w) :
    Calls Tryz.prog 52 #[.int .i64 n] w fun e w' => e = .returned (.string s) ∧ Below w.heap.size w w' := by
  by_cases hn : n = 0
  · subst hn
    subst h
    go_enter Tryz.func52, Tryz.ntmps52
    go_wp2
    go_ret
    exact ⟨rfl, by (repeat' (first | assumption | exact Below.refl _ _ | refine bDrewN ?_ _ | refine Below.drew ?_ | refine bAlloc ?_ (Nat.le_refl _) _ | refine bSet ?_ (by first | exact Nat.le_refl _ | omega | (simp <;> omega)) _))⟩
  · rw [widB_n hn] at h
    have HT := Lib.hid ht
    clear ht
    go_enter Tryz.func52, Tryz.ntmps52
    go_wp2_with fail
    refine (implNum_at _ h h0 h1 (HT.out.keep (by (repeat' (first | assumption | exact Below.refl _ _ | refine bDrewN ?_ _ | refine Below.drew ?_ | refine bAlloc ?_ (Nat.le_refl _) _ | refine bSet ?_ (by first | exact Nat.le_refl _ | omega | (simp <;> omega)) _))))).mono ?_
    rintro e w1 ⟨rfl, hb⟩
    go_wp2
    go_ret
    exact ⟨rfl, by first | exact hb | (repeat' (first | assumption | exact Below.refl _ _ | refine bDrewN ?_ _ | refine Below.drew ?_ | refine bAlloc ?_ (Nat.le_refl _) _ | refine bSet ?_ (by first | exact Nat.le_refl _ | omega | (simp <;> omega)) _))⟩
/-- What signalList gives. -/
def lstT (L : List Int) : ByteArray := L.foldl (fun l p => l ++ (⟨#[32]⟩ ++ tx (115 :: Lib.itoa p))) ⟨#[]⟩
theorem lstT_step {L : List Int} {i : Nat} {p : Int} (h : L[i]? = some p) : lstT (L.take (i + 1)) = lstT (L.take i) ++ (⟨#[32]⟩ ++ tx (115 :: Lib.itoa p)) := by
  unfold lstT; rw [take_next h, List.foldl_append]; rfl
theorem sgB_small {n : Int} (h0 : 0 ≤ n) (h1 : n ≤ 1000000000) : ∃ s, tx (115 :: Lib.itoa n) = s ∧ s.size ≤ 11 := by
  refine ⟨_, rfl, ?_⟩
  rw [tx_size]
  have : (Lib.itoa n).length ≤ 10 := IsNum.len ⟨h0, h1, rfl⟩
  simp; omega
theorem size1 (t s : ByteArray) (c : UInt8) : (t ++ (ByteArray.mk #[c] ++ s)).size = t.size + (1 + s.size) := by
  rw [ByteArray.size_append, ByteArray.size_append]; rfl
set_option maxHeartbeats 1600000 in
theorem signalList_at (L : List Int) (v : Value) {B T : Nat} {r : ByteArray} (w : World) (h : rdIntS B T w [v] L) (hl : L.length ≤ 100) (hf : ∀ p ∈ L, 0 ≤ p ∧ p < 30) (hr : lstT L = r) (ht : PowTab w) :
    Calls Tryz.prog 53 #[v] w fun e w' => e = .returned (.string r) ∧ Below w.heap.size w w' := by
  subst hr
  have HT := Lib.hid ht
  obtain ⟨A, c, ea, hm, hA⟩ := h
  injection ea with ea
  subst ea
  clear hm ht
  have HA := Lib.hid hA
  have HF := Lib.hid hf
  clear hA hf
  go_enter Tryz.func53, Tryz.ntmps53
  go_wp2
  go_loopw [3, 8] (fun l v wr => ∃ i : Nat, i ≤ L.length ∧ v = .int .i64 i ∧ (∃ t : ByteArray, lstT (L.take i) = t ∧ t.size ≤ 12 * i ∧ l = .string t) ∧ Below w.heap.size w wr) (fun _ v _ => L.length - (intOf v).toNat)
  case atStart => exact ⟨0, Nat.zero_le _, rfl, ⟨_, rfl, by show (0 : Nat) ≤ _; omega, rfl⟩, Below.refl _ _⟩
  case round =>
    obtain ⟨i, hi, rfl, ⟨t, ht, hz, rfl⟩, hb⟩ := hrel
    have HB := Lib.hid hb
    have HR := Lib.hid ht
    clear hb ht
    by_cases hlt : i < L.length
    · obtain ⟨b, o, rfl, _, _, us, _, hc, ⟨e0, _⟩⟩ := HA.out i hlt
      subst e0
      have x0 := keep HB.out (hc 0 _ rfl)
      rw [Nat.add_zero, Nat.mul_one] at x0
      obtain ⟨p, hp⟩ : ∃ p, L[i]'hlt = p := ⟨_, rfl⟩
      have hx : L[i]? = some p := by rw [List.getElem?_eq_getElem hlt, hp]
      have hpf := HF.out p (List.mem_of_getElem? hx)
      obtain ⟨s, hs, hsz⟩ := sgB_small (n := p) (by omega) (by omega)
      rw [hp] at x0
      have HX := Lib.hid (show lstT (L.take (i + 1)) = t ++ (⟨#[32]⟩ ++ s) by rw [lstT_step hx, HR.out, hs])
      have HS := Lib.hid hs
      clear hc hp hx hs
      go_wp2_with fail
      refine (sigText_any p _ HS.out (by omega) (by omega) (HT.out.keep HB.out)).mono ?_
      rintro e w1 ⟨rfl, hb⟩
      replace HB := Lib.hid (bThen HB.out hb)
      clear hb x0
      go_wp2
      go_roundw
      case rel => exact ⟨i + 1, by omega, by go_num, ⟨_, HX.out, by rw [size1]; omega, rfl⟩, HB.out⟩
      case measure => simp [intOf]; omega
    · obtain rfl : i = L.length := by omega
      rw [List.take_length] at HR
      go_wp2
      go_ret
      exact ⟨congrArg (fun x => Ending.returned (.string x)) HR.out.symm, HB.out⟩

/-- The words of the kinds of signals lie in the program's variable. -/
def Words (W : World) : Prop := ∀ (i : Nat) (s : ByteArray), ([kwB 0, kwB 1, kwB 2, kwB 3] : List ByteArray)[i]? = some s → W.cell? ⟨0, i, none⟩ = some (.string s)
theorem Words.keep {W W' : World} (h : Words W) (hb : Below W.heap.size W W') : Words W' := fun i s hs => Go.Proofs.YtdfcbccpdflbfaaGreatDoor.keep hb (h i s hs)
set_option maxHeartbeats 3200000 in
theorem signalLine_at (k a n : Int) {r : ByteArray} (w : World) (h : sigT (k, a, n) = r) (hk : 0 ≤ k ∧ k ≤ 3) (ha : 0 ≤ a ∧ a ≤ 4) (hn : 0 ≤ n ∧ n ≤ 15) (ht : PowTab w) (hww : Words w) :
    Calls Tryz.prog 49 #[.agg #[.int .i64 k, .int .i64 a, .int .i64 n]] w fun e w' => e = .returned (.string r) ∧ Below w.heap.size w w' := by
  have HT := Lib.hid ht
  obtain ⟨sw, hw1, hz1⟩ := widB_small (n := a) (by omega) (by omega)
  obtain ⟨sn, hw2, hz2⟩ := numB_small (n := n) (by omega) (by omega)
  unfold sigT at h
  dsimp only at h
  rw [hw1, hw2] at h
  obtain ⟨sk, hk', hz0⟩ := kwB_small k
  rw [hk'] at h
  clear ht
  go_enter Tryz.func49, Tryz.ntmps49
  go_wp2_with fail
  obtain ⟨W, hW⟩ : ∃ W, W = w.alloc (.cells #[.int .i64 k, .int .i64 a, .int .i64 n] 50) := ⟨_, rfl⟩
  rw [← hW]
  have g := eqbox1 hW
  have y0 : W.cell? ⟨w.heap.size, 0, none⟩ = some (.int .i64 k) := box_cell g.1 0 _ rfl
  have y1 : W.cell? ⟨w.heap.size, 1, none⟩ = some (.int .i64 a) := box_cell g.1 1 _ rfl
  have y2 : W.cell? ⟨w.heap.size, 2, none⟩ = some (.int .i64 n) := box_cell g.1 2 _ rfl
  have HW := Lib.hid g.2
  replace hww := hww.keep g.2
  clear hW g
  rcases (by omega : k = 0 ∨ k = 1 ∨ k = 2 ∨ k = 3) with rfl | rfl | rfl | rfl
  · skip
    have gk := hww 0 _ rfl
    rw [hk'] at gk
    have HH := Lib.hid h
    have q0 := cell_regrown y0
    have q1 := cell_regrown y1
    have qk := cell_regrown gk
    have HY := Lib.hid (And.intro y0 y2)
    clear y0 y1 y2 gk
    go_wp2
    refine wp_region_quiet_below (by kernel_rfl) (by kernel_rfl) ?_
    repeat (go_big_quiet_step (first | (go_at_call 52; refine Calls.regrown_of (paramText_at _ hw1 (by omega) (by omega) (HT.out.keep (bThen HW.out (below_regrown _ _ _)))))))
    refine wpQuiet_nil ?_
    intro _ hw'
    obtain ⟨⟨dq', osq⟩, hw''⟩ := hw'
    subst hw''
    obtain ⟨W7, hW7⟩ : ∃ W7, W7 = Sort.grow (redrawn W dq') osq := ⟨_, rfl⟩
    have hbr : Below W.heap.size W W7 := by rw [hW7]; exact below_regrown _ _ _
    rw [← hW7]
    clear hW7 q0 q1 qk
    have y0 := keep hbr HY.out.1
    have y2 := keep hbr HY.out.2
    skip
    have HB9 := Lib.hid (bThen HW.out hbr)
    clear hbr
    go_wp2
    go_ret
    exact ⟨by rw [← HH.out]; rfl, HB9.out⟩
  · skip
    have gk := hww 1 _ rfl
    rw [hk'] at gk
    have HH := Lib.hid h
    have q0 := cell_regrown y0
    have q1 := cell_regrown y1
    have qk := cell_regrown gk
    have HY := Lib.hid (And.intro y0 y2)
    clear y0 y1 y2 gk
    go_wp2
    refine wp_region_quiet_below (by kernel_rfl) (by kernel_rfl) ?_
    repeat (go_big_quiet_step (first | (go_at_call 52; refine Calls.regrown_of (paramText_at _ hw1 (by omega) (by omega) (HT.out.keep (bThen HW.out (below_regrown _ _ _)))))))
    refine wpQuiet_nil ?_
    intro _ hw'
    obtain ⟨⟨dq', osq⟩, hw''⟩ := hw'
    subst hw''
    obtain ⟨W7, hW7⟩ : ∃ W7, W7 = Sort.grow (redrawn W dq') osq := ⟨_, rfl⟩
    have hbr : Below W.heap.size W W7 := by rw [hW7]; exact below_regrown _ _ _
    rw [← hW7]
    clear hW7 q0 q1 qk
    have y0 := keep hbr HY.out.1
    have y2 := keep hbr HY.out.2
    skip
    have HB9 := Lib.hid (bThen HW.out hbr)
    clear hbr
    go_wp2
    go_ret
    exact ⟨by rw [← HH.out]; rfl, HB9.out⟩
  · skip
    have gk := hww 2 _ rfl
    rw [hk'] at gk
    have HH := Lib.hid h
    have q0 := cell_regrown y0
    have q1 := cell_regrown y1
    have qk := cell_regrown gk
    have HY := Lib.hid (And.intro y0 y2)
    clear y0 y1 y2 gk
    go_wp2
    refine wp_region_quiet_below (by kernel_rfl) (by kernel_rfl) ?_
    repeat (go_big_quiet_step (first | (go_at_call 52; refine Calls.regrown_of (paramText_at _ hw1 (by omega) (by omega) (HT.out.keep (bThen HW.out (below_regrown _ _ _)))))))
    refine wpQuiet_nil ?_
    intro _ hw'
    obtain ⟨⟨dq', osq⟩, hw''⟩ := hw'
    subst hw''
    obtain ⟨W7, hW7⟩ : ∃ W7, W7 = Sort.grow (redrawn W dq') osq := ⟨_, rfl⟩
    have hbr : Below W.heap.size W W7 := by rw [hW7]; exact below_regrown _ _ _
    rw [← hW7]
    clear hW7 q0 q1 qk
    have y0 := keep hbr HY.out.1
    have y2 := keep hbr HY.out.2
    skip
    have HB9 := Lib.hid (bThen HW.out hbr)
    clear hbr
    go_wp2
    go_ret
    exact ⟨by rw [← HH.out]; rfl, HB9.out⟩
  · skip
    have gk := hww 3 _ rfl
    rw [hk'] at gk
    have HH := Lib.hid h
    have q0 := cell_regrown y0
    have q1 := cell_regrown y1
    have qk := cell_regrown gk
    have HY := Lib.hid (And.intro y0 y2)
    clear y0 y1 y2 gk
    go_wp2
    refine wp_region_quiet_below (by kernel_rfl) (by kernel_rfl) ?_
    repeat (go_big_quiet_step (first | (go_at_call 52; refine Calls.regrown_of (paramText_at _ hw1 (by omega) (by omega) (HT.out.keep (bThen HW.out (below_regrown _ _ _)))))))
    refine wpQuiet_nil ?_
    intro _ hw'
    obtain ⟨⟨dq', osq⟩, hw''⟩ := hw'
    subst hw''
    obtain ⟨W7, hW7⟩ : ∃ W7, W7 = Sort.grow (redrawn W dq') osq := ⟨_, rfl⟩
    have hbr : Below W.heap.size W W7 := by rw [hW7]; exact below_regrown _ _ _
    rw [← hW7]
    clear hW7 q0 q1 qk
    have y0 := keep hbr HY.out.1
    have y2 := keep hbr HY.out.2
    go_wp2_with fail
    refine (implNum_at _ hw2 (by omega) (by omega) (HT.out.keep (bThen HW.out hbr))).mono ?_
    rintro e w9 ⟨rfl, hb9⟩
    have HB9 := Lib.hid (bThen (bThen HW.out hbr) hb9)
    clear hb9 hbr
    go_wp2
    go_ret
    exact ⟨by rw [← HH.out]; exact congrArg (fun x => Ending.returned (.string x)) (ByteArray.append_assoc ..).symm, HB9.out⟩

theorem rdInt_new (w : World) (x : Int) (hf : Fit x) : rdIntS 0 (w.alloc (.cells #[.int .i64 x] 3)).heap.size (w.alloc (.cells #[.int .i64 x] 3)) [.slice (some ⟨w.heap.size, 0, none⟩) 1 1] [x] := by
  refine ⟨_, _, rfl, by simp [maxLen], fun j hj => ⟨w.heap.size, 0, rfl, Nat.zero_le _, by simp, [.int .i64 x], rfl, fun i u hu => ?_, ?_⟩⟩
  · have hj0 : j = 0 := by simpa using hj
    subst hj0
    rw [World.cell?_alloc_at _ _ _ _ rfl]
    simpa using hu
  · have hj0 : j = 0 := by simpa using hj
    subst hj0
    exact ⟨rfl, hf⟩
theorem setB_eq {n : Int} {s : ByteArray} (h : lstT [n] = s) : (ByteArray.mk #[115, 101, 116]) ++ s = ⟨#[115, 101, 116, 32, 115]⟩ ++ numB n := by
  subst h
  exact bytes_eq (by simp [lstT, numB, tx])
theorem fit_small {x : Int} (h0 : -1000000 ≤ x) (h1 : x ≤ 1000000) : Fit x := by unfold Fit; omega
set_option maxHeartbeats 3200000 in
theorem assignLine_at (a : DAssign) (us : List Value) {B T : Nat} {r : ByteArray} (w : World) (hd : rdAssign B T w us a) (hT : T ≤ w.heap.size) (h : setT a = r) (h0 : 0 ≤ a.1 ∧ a.1 < 30) (hl : a.2.length ≤ 15) (ht : PowTab w) :
    Calls Tryz.prog 50 #[.agg us.toArray] w fun e w' => e = .returned (.string r) ∧ Below w.heap.size w w' := by
  subst h
  have HT := Lib.hid ht
  obtain ⟨au0, au1, rfl, ah0, ah1⟩ := hd
  obtain ⟨af0, -⟩ := ah0
  injection af0 with af0
  subst af0
  obtain ⟨aA1, aq1, af1, am1, ak1⟩ := ah1
  injection af1 with af1
  subst af1
  unfold maxLen at am1
  have aE1 := Lib.hid ak1
  clear ak1
  obtain ⟨t, ht1⟩ : ∃ t, a.1 = t := ⟨_, rfl⟩
  rw [ht1] at h0
  obtain ⟨s1, hs1⟩ : ∃ s, lstT [t] = s := ⟨_, rfl⟩
  have hz1 : s1.size ≤ 12 := by
    obtain ⟨q, hq, hqz⟩ := sgB_small (n := t) (by omega) (by omega)
    rw [← hs1]
    show (ByteArray.mk #[] ++ (ByteArray.mk #[32] ++ tx (115 :: Lib.itoa t))).size ≤ 12
    rw [hq, size1]
    show 0 + (1 + q.size) ≤ 12
    omega
  have HP := Lib.hid (show setT a = opsT (ByteArray.mk #[115, 101, 116] ++ s1) a.2 by unfold setT; rw [ht1, ← setB_eq hs1])
  have HS1 := Lib.hid hs1
  rw [ht1]
  clear ht ht1 hs1
  go_enter Tryz.func50, Tryz.ntmps50
  go_wp2_with fail
  obtain ⟨W, hW⟩ : ∃ W, W = w.alloc (.cells #[.int .i64 t, .slice aA1 a.2.length aq1] 54) := ⟨_, rfl⟩
  rw [← hW]
  have g := eqbox1 hW
  have y0 : W.cell? ⟨w.heap.size, 0, none⟩ = some (.int .i64 t) := box_cell g.1 0 _ rfl
  have y1 : W.cell? ⟨w.heap.size, 1, none⟩ = some (.slice aA1 a.2.length aq1) := box_cell g.1 1 _ rfl
  have HW := Lib.hid g.2
  have hws : W.heap.size = w.heap.size + 1 := by rw [hW]; simp
  clear hW g
  have hrd := rdInt_new W t (fit_small (by omega) (by omega))
  rw [hws] at hrd
  have hpw := HT.out.keep (bThen HW.out (show Below W.heap.size W (W.alloc (.cells #[.int .i64 t] 3)) by (repeat' (first | assumption | exact Below.refl _ _ | refine bDrewN ?_ _ | refine Below.drew ?_ | refine bAlloc ?_ (Nat.le_refl _) _ | refine bSet ?_ (by first | exact Nat.le_refl _ | omega | (simp <;> omega)) _))))
  have hfa : ∀ p ∈ [t], 0 ≤ p ∧ p < 30 := fun p hp => by obtain rfl := List.mem_singleton.1 hp; exact h0
  refine (signalList_at [t] _ _ hrd (by show (1 : Nat) ≤ 100; omega) hfa HS1.out hpw).mono ?_
  clear hrd hpw hfa hws
  rintro e w1 ⟨rfl, hb⟩
  have HX := Lib.hid (bThen (show Below W.heap.size W (W.alloc (.cells #[.int .i64 t] 3)) by (repeat' (first | assumption | exact Below.refl _ _ | refine bDrewN ?_ _ | refine Below.drew ?_ | refine bAlloc ?_ (Nat.le_refl _) _ | refine bSet ?_ (by first | exact Nat.le_refl _ | omega | (simp <;> omega)) _))) hb)
  clear hb
  replace y1 := keep HX.out y1
  clear y0
  go_wp2
  go_loopw [3, 16] (fun l v wr => ∃ i : Nat, i ≤ a.2.length ∧ v = .int .i64 i ∧ (∃ q : ByteArray, opsT (ByteArray.mk #[115, 101, 116] ++ s1) (a.2.take i) = q ∧ q.size ≤ 20 + 101 * i ∧ l = .string q) ∧ Below w1.heap.size w1 wr) (fun _ v _ => a.2.length - (intOf v).toNat)
  case atStart => exact ⟨0, Nat.zero_le _, rfl, ⟨_, rfl, by show (ByteArray.mk #[115, 101, 116] ++ s1).size ≤ _; rw [ByteArray.size_append]; show 3 + s1.size ≤ _; omega, rfl⟩, Below.refl _ _⟩
  case round =>
    obtain ⟨i, hi, rfl, ⟨q, hq, hz, rfl⟩, hb⟩ := hrel
    have HB := Lib.hid (bThen (bThen HW.out HX.out) hb)
    have HB1 := Lib.hid hb
    have HR := Lib.hid hq
    clear hb hq
    by_cases hlt : i < a.2.length
    · skip
      obtain ⟨xb, xo, xe, _, _, xus, _, xhc, xhr⟩ := aE1.out i hlt
      obtain ⟨x, xx⟩ : ∃ x, a.2[i]'hlt = x := ⟨_, rfl⟩
      have xx? : a.2[i]? = some x := by rw [List.getElem?_eq_getElem hlt, xx]
      rw [xx] at xhr
      subst xe
      obtain ⟨xu0, xu1, xu2, rfl, xh0, xh1, xh2⟩ := xhr
      obtain ⟨xf0, -⟩ := xh0
      injection xf0 with xf0
      subst xf0
      obtain ⟨xf1, -⟩ := xh1
      injection xf1 with xf1
      subst xf1
      obtain ⟨xf2, -⟩ := xh2
      injection xf2 with xf2
      subst xf2
      have xc0 : wr.cell? ⟨xb, xo + i * 3, none⟩ = some (.int .i64 x.1) := keep HB.out (xhc 0 _ rfl)
      have xc1 : wr.cell? ⟨xb, xo + i * 3 + 1, none⟩ = some (.int .i64 x.2.1) := keep HB.out (xhc 1 _ rfl)
      have xc2 : wr.cell? ⟨xb, xo + i * 3 + 2, none⟩ = some (.int .i64 x.2.2) := keep HB.out (xhc 2 _ rfl)
      have xlt : xb < wr.heap.size := World.block_lt_of_cell? _ _ xc0
      clear xhc xx
      obtain ⟨s, hs⟩ : ∃ s, opTextS x = s := ⟨_, rfl⟩
      obtain ⟨d, hd⟩ : ∃ d, opB 30 x = d := ⟨_, rfl⟩
      have hsz : s.size ≤ 100 := by rw [← hs]; exact opTextS_small x
      have HX2 := Lib.hid (show opsT (ByteArray.mk #[115, 101, 116] ++ s1) (a.2.take (i + 1)) = q ++ (⟨#[32]⟩ ++ s) by rw [opsT_step xx?, HR.out, hs, ByteArray.append_assoc])
      have HS := Lib.hid (And.intro hs hd)
      clear xx? hs hd
      go_wp2_with fail
      obtain ⟨V, hV⟩ : ∃ V, V = wr.alloc (.cells #[.int .i64 x.1, .int .i64 x.2.1, .int .i64 x.2.2] 57) := ⟨_, rfl⟩
      rw [← hV]
      have g := eqbox1 hV
      have HV := Lib.hid g.2
      clear hV g xc0 xc1 xc2 xlt
      refine (implText_at x _ HS.out.1 HS.out.2 (HT.out.keep (bThen HB.out HV.out))).mono ?_
      rintro e w2 ⟨rfl, hb⟩
      replace HB1 := Lib.hid (bThen (bThen HB1.out HV.out) hb)
      clear hb HV
      go_wp2
      go_roundw
      case rel => exact ⟨i + 1, by omega, by go_num, ⟨_, HX2.out, by rw [size1]; omega, rfl⟩, HB1.out⟩
      case measure => simp [intOf]; omega
    · obtain rfl : i = a.2.length := by omega
      rw [List.take_length] at HR
      go_wp2
      go_ret
      exact ⟨congrArg (fun x => Ending.returned (.string x)) (HP.out.trans HR.out).symm, HB.out⟩
end Go.Proofs.YtdfcbccpdflbfaaGreatDoor
/- IFmB: The lines of a module: impl.moduleLines. -/
namespace Go.Proofs.YtdfcbccpdflbfaaGreatDoor
open Go.RowKit
set_option linter.unusedVariables false
set_option linter.unusedSimpArgs false

theorem lst_acc (s : ByteArray) (L : List Int) : ∀ t : ByteArray, L.foldl (fun l p => l ++ (⟨#[32]⟩ ++ tx (115 :: Lib.itoa p))) (s ++ t) = s ++ L.foldl (fun l p => l ++ (⟨#[32]⟩ ++ tx (115 :: Lib.itoa p))) t := by
  induction L with
  | nil => intro t; rfl
  | cons p L ih => intro t; simp only [List.foldl_cons]; rw [ByteArray.append_assoc, ih]
theorem sp_num (p : Int) (s : ByteArray) : (s ++ ⟨#[32, 115]⟩) ++ numB p = s ++ (⟨#[32]⟩ ++ tx (115 :: Lib.itoa p)) := bytes_eq (by simp [numB, tx])
theorem lst_cons (p : Int) (L : List Int) : lstT (p :: L) = (⟨#[32]⟩ ++ tx (115 :: Lib.itoa p)) ++ lstT L := by
  have h2 : lstT (p :: L) = L.foldl (fun l p => l ++ (⟨#[32]⟩ ++ tx (115 :: Lib.itoa p))) ((⟨#[32]⟩ ++ tx (115 :: Lib.itoa p)) ++ ⟨#[]⟩) := by
    unfold lstT
    rw [List.foldl_cons]
    congr 1
    exact bytes_eq (by simp)
  rw [h2, lst_acc]
  rfl
theorem prt_lst (L : List Int) : ∀ s, prtT s L = s ++ lstT L := by
  induction L with
  | nil => intro s; exact (bytes_eq (by simp [prtT, lstT]))
  | cons p L ih =>
    intro s
    have h1 : prtT s (p :: L) = prtT ((s ++ ⟨#[32, 115]⟩) ++ numB p) L := rfl
    rw [h1, ih, lst_cons, sp_num, ByteArray.append_assoc]
theorem lstT_small (L : List Int) (h : ∀ p ∈ L, 0 ≤ p ∧ p < 30) : (lstT L).size ≤ 12 * L.length := by
  induction L with
  | nil => show (0 : Nat) ≤ _; omega
  | cons p L ih =>
    have ih := ih (fun q hq => h q (List.mem_cons_of_mem _ hq))
    have hp := h p (List.mem_cons_self ..)
    obtain ⟨s, hs, hz⟩ := sgB_small (n := p) (by omega) (by omega)
    rw [lst_cons, hs, ByteArray.size_append, ByteArray.size_append, List.length_cons]
    show 1 + s.size + (lstT L).size ≤ _
    omega
theorem useT_eq (x : DInst) : useT x = (((⟨#[117, 115, 101, 32, 109]⟩ ++ numB x.1) ++ ⟨#[32]⟩) ++ widB x.2.1) ++ lstT x.2.2 := by unfold useT; rw [prt_lst]
theorem memT_eq (x : DMem) : memT x = ⟨#[109, 101, 109]⟩ ++ lstT [x.1, x.2.1, x.2.2.1, x.2.2.2] := bytes_eq (by simp [memT, lstT, numB, tx])
theorem rdInt_new4 (w : World) (x y z u : Int) (hx : Fit x) (hy : Fit y) (hz : Fit z) (hu : Fit u) : rdIntS 0 (w.alloc (.cells #[.int .i64 x, .int .i64 y, .int .i64 z, .int .i64 u] 3)).heap.size (w.alloc (.cells #[.int .i64 x, .int .i64 y, .int .i64 z, .int .i64 u] 3)) [.slice (some ⟨w.heap.size, 0, none⟩) 4 4] [x, y, z, u] := by
  refine ⟨_, _, rfl, by simp [maxLen], fun j hj => ⟨w.heap.size, 0, rfl, Nat.zero_le _, by simp, [.int .i64 ([x, y, z, u][j]'hj)], rfl, fun i v hv => ?_, rfl, ?_⟩⟩
  · have hi0 : i = 0 := by cases i with | zero => rfl | succ i => simp at hv
    subst hi0
    rw [World.cell?_alloc_at _ _ _ _ rfl]
    have hj4 : j < 4 := hj
    match j, hj4 with
    | 0, _ | 1, _ | 2, _ | 3, _ => simpa using hv
  · have hj4 : j < 4 := hj
    match j, hj4 with
    | 0, _ => exact hx
    | 1, _ => exact hy
    | 2, _ => exact hz
    | 3, _ => exact hu
set_option maxRecDepth 100000 in
set_option maxHeartbeats 12800000 in
theorem moduleLines_at (m : DModule) (us : List Value) {B T : Nat} (w : World) (hd : rdModule B T w us m) (hT : T ≤ w.heap.size) (hf : ModFit m) (ht : PowTab w) (hww : Words w) :
    Calls Tryz.prog 23 #[.agg us.toArray] w fun e w' => ∃ v, e = .returned v ∧ OwnsS w' w.heap.size v (modT m) ∧ Below w.heap.size w w' := by
  obtain ⟨i0, hi, hz0, hz1, hz2⟩ := info_parts infoStr
  have HI := Lib.hid (And.intro hi (And.intro hz0 (And.intro hz1 hz2)))
  have HT := Lib.hid (And.intro ht hww)
  have HFIT := Lib.hid hf
  have hl0 := hf.l0
  have hl1 := hf.l1
  have hl2 := hf.l2
  have hl3 := hf.l3
  obtain ⟨mu0, mu1, mu2, mu3, rfl, mh0, mh1, mh2, mh3⟩ := hd
  obtain ⟨mA0, mq0, mf0, mm0, mk0⟩ := mh0
  injection mf0 with mf0
  subst mf0
  unfold maxLen at mm0
  have mE0 := Lib.hid mk0
  clear mk0
  obtain ⟨mA1, mq1, mf1, mm1, mk1⟩ := mh1
  injection mf1 with mf1
  subst mf1
  unfold maxLen at mm1
  have mE1 := Lib.hid mk1
  clear mk1
  obtain ⟨mA2, mq2, mf2, mm2, mk2⟩ := mh2
  injection mf2 with mf2
  subst mf2
  unfold maxLen at mm2
  have mE2 := Lib.hid mk2
  clear mk2
  obtain ⟨mA3, mq3, mf3, mm3, mk3⟩ := mh3
  injection mf3 with mf3
  subst mf3
  unfold maxLen at mm3
  have mE3 := Lib.hid mk3
  clear mk3
  clear hf ht hww hi hz0 hz1 hz2
  go_enter Tryz.func23, Tryz.ntmps23
  go_wp2_with fail
  obtain ⟨V, hV⟩ : ∃ V, V = w.alloc (.cells #[.slice mA0 (m.1).length mq0, .slice mA1 (m.2.1).length mq1, .slice mA2 (m.2.2.1).length mq2, .slice mA3 (m.2.2.2).length mq3] 48) := ⟨_, rfl⟩
  rw [← hV]
  have g := eqbox1 hV
  have e0 : V.cell? ⟨w.heap.size, 0, none⟩ = some (.slice mA0 (m.1).length mq0) := box_cell g.1 0 _ rfl
  have e1 : V.cell? ⟨w.heap.size, 1, none⟩ = some (.slice mA1 (m.2.1).length mq1) := box_cell g.1 1 _ rfl
  have e2 : V.cell? ⟨w.heap.size, 2, none⟩ = some (.slice mA2 (m.2.2.1).length mq2) := box_cell g.1 2 _ rfl
  have e3 : V.cell? ⟨w.heap.size, 3, none⟩ = some (.slice mA3 (m.2.2.2).length mq3) := box_cell g.1 3 _ rfl
  have hvs : V.heap.size = w.heap.size + 1 := by rw [hV]; simp
  have HV := Lib.hid g.2
  clear hV g
  obtain ⟨L0, hL0⟩ : ∃ L, L = [(⟨#[109, 111, 100, 117, 108, 101]⟩ : ByteArray)] := ⟨_, rfl⟩
  have p0 : L0.length ≤ 1 := by rw [hL0]; show (1 : Nat) ≤ 1; omega
  have HO := Lib.hid (show OwnsS (V.alloc (.cells #[.string ⟨#[109, 111, 100, 117, 108, 101]⟩] 9)) V.heap.size (.slice (some ⟨w.heap.size + 1, 0, none⟩) 1 1) L0 by rw [hL0, ← hvs]; exact own_new1S V V.heap.size (Nat.le_refl _) _)
  have HB := Lib.hid (show Below V.heap.size V (V.alloc (.cells #[.string ⟨#[109, 111, 100, 117, 108, 101]⟩] 9)) by (repeat' (first | assumption | exact Below.refl _ _ | refine bDrewN ?_ _ | refine Below.drew ?_ | refine bAlloc ?_ (Nat.le_refl _) _ | refine bSet ?_ (by first | exact Nat.le_refl _ | omega | (simp <;> omega)) _)))
  clear hvs
  go_wp2
  go_loopw [3, 16] (fun l v wr => ∃ (i : Nat) (L : List ByteArray), i ≤ m.1.length ∧ v = .int .i64 i ∧ L = L0 ++ (m.1.take i).map sigT ∧ OwnsS wr V.heap.size l L ∧ Below V.heap.size V wr) (fun _ v _ => m.1.length - (intOf v).toNat)
  case atStart => exact ⟨0, _, Nat.zero_le _, rfl, by simp, HO.out, HB.out⟩
  case round =>
    obtain ⟨i, L1, hi, rfl, hL, ho, hb⟩ := hrel
    obtain ⟨W0, rfl⟩ : ∃ W, W = wr := ⟨_, rfl⟩
    replace HO := Lib.hid ho
    replace HB := Lib.hid hb
    have p1 : L1.length ≤ 31 := by rw [hL, List.length_append, List.length_map, List.length_take]; omega
    have HL0 := Lib.hid hL
    have HW := Lib.hid (bThen HV.out hb)
    have e0' := keep hb e0
    have e1' := keep hb e1
    have e2' := keep hb e2
    have e3' := keep hb e3
    have hsz := hb.size
    clear ho hb hL
    by_cases hlt : i < m.1.length
    · have elt : w.heap.size < W0.heap.size := World.block_lt_of_cell? _ _ e0'
      obtain ⟨xb, xo, xe, _, _, xus, _, xhc, xhr⟩ := mE0.out i hlt
      obtain ⟨x, xx⟩ : ∃ x, m.1[i]'hlt = x := ⟨_, rfl⟩
      have xx? : m.1[i]? = some x := by rw [List.getElem?_eq_getElem hlt, xx]
      rw [xx] at xhr
      subst xe
      have HXR := Lib.hid xhr
      obtain ⟨xu0, xu1, xu2, rfl, xh0, xh1, xh2⟩ := xhr
      obtain ⟨xf0, -⟩ := xh0
      injection xf0 with xf0
      subst xf0
      obtain ⟨xf1, -⟩ := xh1
      injection xf1 with xf1
      subst xf1
      obtain ⟨xf2, -⟩ := xh2
      injection xf2 with xf2
      subst xf2
      have xc0 : W0.cell? ⟨xb, xo + i * 3, none⟩ = some (.int .i64 x.1) := keep HW.out (xhc 0 _ rfl)
      have xc1 : W0.cell? ⟨xb, xo + i * 3 + 1, none⟩ = some (.int .i64 x.2.1) := keep HW.out (xhc 1 _ rfl)
      have xc2 : W0.cell? ⟨xb, xo + i * 3 + 2, none⟩ = some (.int .i64 x.2.2) := keep HW.out (xhc 2 _ rfl)
      have xlt : xb < W0.heap.size := World.block_lt_of_cell? _ _ xc0
      clear xhc xx
      have hf := HFIT.out.sig x (List.mem_of_getElem? xx?)
      have XQ := Lib.hid xx?
      obtain ⟨s, hs⟩ : ∃ s, sigT x = s := ⟨_, rfl⟩
      have HS := Lib.hid hs
      clear xx? hs
      go_wp2_with fail
      refine (signalLine_at x.1 x.2.1 x.2.2 _ HS.out hf.1 hf.2.1 hf.2.2 (HT.out.1.keep (bThen HW.out (show Below W0.heap.size W0 _ by (repeat' (first | assumption | exact Below.refl _ _ | refine bDrewN ?_ _ | refine Below.drew ?_ | refine bAlloc ?_ (Nat.le_refl _) _ | refine bSet ?_ (by first | exact Nat.le_refl _ | omega | (simp <;> omega)) _))))) (HT.out.2.keep (bThen HW.out (show Below W0.heap.size W0 _ by (repeat' (first | assumption | exact Below.refl _ _ | refine bDrewN ?_ _ | refine Below.drew ?_ | refine bAlloc ?_ (Nat.le_refl _) _ | refine bSet ?_ (by first | exact Nat.le_refl _ | omega | (simp <;> omega)) _)))))).mono ?_
      rintro e w8 ⟨rfl, hb8⟩
      obtain ⟨_, hb9⟩ := box1 hb8
      have HO9 := Lib.hid (HO.out.below hb9)
      have HB9 := Lib.hid (bThen HB.out hb9)
      have hsz9 := HB9.out.size
      clear hb8 hb9 elt xlt e0' e1' e2' e3' xc0 xc1 xc2
      go_wp2_with (refine wpList_append_lies _ rfl _ _ 26 (by rfl) V.heap.size 9 i0 _ 1 16 Tryz.underlying26 HI.out.1 HI.out.2.1 HI.out.2.2.1 HI.out.2.2.2 rfl (by omega) u3 L1.length _ (by rfl) (HO9.out.alloc _) ⟨w8.heap.size, 0, none⟩ 1 1 [.string s] (by rfl) (by rfl) (World.news_of_block (heap_alloc_new w8 _)) (by simp [Value.oneCell']) (by omega) (by unfold maxLen; omega) (by omega) (by simp; omega) (w8.heap.size + 1) (by simp) ?_; intro gg cap w9 hown2 hgrow2 hat2 hlt2)
      have R := own_addS HO9.out hsz9 HB9.out ((Below.refl _ _).alloc (Nat.le_refl _) _) hgrow2 hown2
      go_roundw
      case rel => exact ⟨i + 1, _, by omega, by go_num, map_step XQ.out HL0.out, by rw [HS.out]; exact R.1, R.2⟩
      case measure => simp [intOf]; omega
    · obtain rfl : i = m.1.length := by omega
      rw [List.take_length] at HL0
      clear hlt
      go_wp2
      go_loopw [3, 29] (fun l v wr => ∃ (i : Nat) (L : List ByteArray), i ≤ m.2.1.length ∧ v = .int .i64 i ∧ L = L1 ++ (m.2.1.take i).map setT ∧ OwnsS wr V.heap.size l L ∧ Below V.heap.size V wr) (fun _ v _ => m.2.1.length - (intOf v).toNat)
      case atStart => exact ⟨0, _, Nat.zero_le _, rfl, by simp, HO.out, HB.out⟩
      case round =>
        obtain ⟨i, L2, hi, rfl, hL, ho, hb⟩ := hrel
        obtain ⟨W1, rfl⟩ : ∃ W, W = wr := ⟨_, rfl⟩
        replace HO := Lib.hid ho
        replace HB := Lib.hid hb
        have p2 : L2.length ≤ 61 := by rw [hL, List.length_append, List.length_map, List.length_take]; omega
        have HL1 := Lib.hid hL
        have HW := Lib.hid (bThen HV.out hb)
        have e0' := keep hb e0
        have e1' := keep hb e1
        have e2' := keep hb e2
        have e3' := keep hb e3
        have hsz := hb.size
        clear ho hb hL
        by_cases hlt : i < m.2.1.length
        · have elt : w.heap.size < W1.heap.size := World.block_lt_of_cell? _ _ e0'
          obtain ⟨xb, xo, xe, _, _, xus, _, xhc, xhr⟩ := mE1.out i hlt
          obtain ⟨x, xx⟩ : ∃ x, m.2.1[i]'hlt = x := ⟨_, rfl⟩
          have xx? : m.2.1[i]? = some x := by rw [List.getElem?_eq_getElem hlt, xx]
          rw [xx] at xhr
          subst xe
          have HXR := Lib.hid xhr
          obtain ⟨xu0, xu1, rfl, xh0, xh1⟩ := xhr
          obtain ⟨xf0, -⟩ := xh0
          injection xf0 with xf0
          subst xf0
          obtain ⟨xA1, xq1, xf1, xm1, xk1⟩ := xh1
          injection xf1 with xf1
          subst xf1
          unfold maxLen at xm1
          have xE1 := Lib.hid xk1
          clear xk1
          have xc0 : W1.cell? ⟨xb, xo + i * 2, none⟩ = some (.int .i64 x.1) := keep HW.out (xhc 0 _ rfl)
          have xc1 : W1.cell? ⟨xb, xo + i * 2 + 1, none⟩ = some (.slice xA1 (x.2).length xq1) := keep HW.out (xhc 1 _ rfl)
          have xlt : xb < W1.heap.size := World.block_lt_of_cell? _ _ xc0
          clear xhc xx
          have hf := HFIT.out.asg x (List.mem_of_getElem? xx?)
          have XQ := Lib.hid xx?
          obtain ⟨s, hs⟩ : ∃ s, setT x = s := ⟨_, rfl⟩
          have HS := Lib.hid hs
          clear xx? hs
          go_wp2_with fail
          refine (assignLine_at x [.int .i64 x.1, .slice xA1 (x.2).length xq1] _ (good_Assign.below HXR.out hT (bThen HW.out (show Below W1.heap.size W1 _ by (repeat' (first | assumption | exact Below.refl _ _ | refine bDrewN ?_ _ | refine Below.drew ?_ | refine bAlloc ?_ (Nat.le_refl _) _ | refine bSet ?_ (by first | exact Nat.le_refl _ | omega | (simp <;> omega)) _))))) (Nat.le_trans hT (bThen HW.out (show Below W1.heap.size W1 _ by (repeat' (first | assumption | exact Below.refl _ _ | refine bDrewN ?_ _ | refine Below.drew ?_ | refine bAlloc ?_ (Nat.le_refl _) _ | refine bSet ?_ (by first | exact Nat.le_refl _ | omega | (simp <;> omega)) _)))).size) HS.out hf.1 hf.2 (HT.out.1.keep (bThen HW.out (show Below W1.heap.size W1 _ by (repeat' (first | assumption | exact Below.refl _ _ | refine bDrewN ?_ _ | refine Below.drew ?_ | refine bAlloc ?_ (Nat.le_refl _) _ | refine bSet ?_ (by first | exact Nat.le_refl _ | omega | (simp <;> omega)) _)))))).mono ?_
          rintro e w8 ⟨rfl, hb8⟩
          obtain ⟨_, hb9⟩ := box1 hb8
          have HO9 := Lib.hid (HO.out.below hb9)
          have HB9 := Lib.hid (bThen HB.out hb9)
          have hsz9 := HB9.out.size
          clear hb8 hb9 elt xlt e0' e1' e2' e3' xc0 xc1
          go_wp2_with (refine wpList_append_lies _ rfl _ _ 26 (by rfl) V.heap.size 9 i0 _ 1 16 Tryz.underlying26 HI.out.1 HI.out.2.1 HI.out.2.2.1 HI.out.2.2.2 rfl (by omega) u3 L2.length _ (by rfl) (HO9.out.alloc _) ⟨w8.heap.size, 0, none⟩ 1 1 [.string s] (by rfl) (by rfl) (World.news_of_block (heap_alloc_new w8 _)) (by simp [Value.oneCell']) (by omega) (by unfold maxLen; omega) (by omega) (by simp; omega) (w8.heap.size + 1) (by simp) ?_; intro gg cap w9 hown2 hgrow2 hat2 hlt2)
          have R := own_addS HO9.out hsz9 HB9.out ((Below.refl _ _).alloc (Nat.le_refl _) _) hgrow2 hown2
          go_roundw
          case rel => exact ⟨i + 1, _, by omega, by go_num, map_step XQ.out HL1.out, by rw [HS.out]; exact R.1, R.2⟩
          case measure => simp [intOf]; omega
        · obtain rfl : i = m.2.1.length := by omega
          rw [List.take_length] at HL1
          clear hlt
          go_wp2
          go_loopw [3, 42] (fun l v wr => ∃ (i : Nat) (L : List ByteArray), i ≤ m.2.2.1.length ∧ v = .int .i64 i ∧ L = L2 ++ (m.2.2.1.take i).map useT ∧ OwnsS wr V.heap.size l L ∧ Below V.heap.size V wr) (fun _ v _ => m.2.2.1.length - (intOf v).toNat)
          case atStart => exact ⟨0, _, Nat.zero_le _, rfl, by simp, HO.out, HB.out⟩
          case round =>
            obtain ⟨i, L3, hi, rfl, hL, ho, hb⟩ := hrel
            obtain ⟨W2, rfl⟩ : ∃ W, W = wr := ⟨_, rfl⟩
            replace HO := Lib.hid ho
            replace HB := Lib.hid hb
            have p3 : L3.length ≤ 64 := by rw [hL, List.length_append, List.length_map, List.length_take]; omega
            have HL2 := Lib.hid hL
            have HW := Lib.hid (bThen HV.out hb)
            have e0' := keep hb e0
            have e1' := keep hb e1
            have e2' := keep hb e2
            have e3' := keep hb e3
            have hsz := hb.size
            clear ho hb hL
            by_cases hlt : i < m.2.2.1.length
            · have elt : w.heap.size < W2.heap.size := World.block_lt_of_cell? _ _ e0'
              obtain ⟨xb, xo, xe, _, _, xus, _, xhc, xhr⟩ := mE2.out i hlt
              obtain ⟨x, xx⟩ : ∃ x, m.2.2.1[i]'hlt = x := ⟨_, rfl⟩
              have xx? : m.2.2.1[i]? = some x := by rw [List.getElem?_eq_getElem hlt, xx]
              rw [xx] at xhr
              subst xe
              have HXR := Lib.hid xhr
              obtain ⟨xu0, xu1, xu2, rfl, xh0, xh1, xh2⟩ := xhr
              obtain ⟨xf0, -⟩ := xh0
              injection xf0 with xf0
              subst xf0
              obtain ⟨xf1, -⟩ := xh1
              injection xf1 with xf1
              subst xf1
              obtain ⟨xA2, xq2, xf2, xm2, xk2⟩ := xh2
              injection xf2 with xf2
              subst xf2
              unfold maxLen at xm2
              have xE2 := Lib.hid xk2
              clear xk2
              have xc0 : W2.cell? ⟨xb, xo + i * 3, none⟩ = some (.int .i64 x.1) := keep HW.out (xhc 0 _ rfl)
              have xc1 : W2.cell? ⟨xb, xo + i * 3 + 1, none⟩ = some (.int .i64 x.2.1) := keep HW.out (xhc 1 _ rfl)
              have xc2 : W2.cell? ⟨xb, xo + i * 3 + 2, none⟩ = some (.slice xA2 (x.2.2).length xq2) := keep HW.out (xhc 2 _ rfl)
              have xlt : xb < W2.heap.size := World.block_lt_of_cell? _ _ xc0
              clear xhc xx
              have hf := HFIT.out.ins x (List.mem_of_getElem? xx?)
              have XQ := Lib.hid xx?
              have HXI := Lib.hid (show rdIntS B T w [.slice xA2 (x.2.2).length xq2] x.2.2 from ⟨_, _, rfl, by unfold maxLen; exact xm2, xE2.out⟩)
              have hfa := hf.2.2.2
              obtain ⟨s1, h1, z1⟩ := numB_small (n := x.1) (by omega) (by omega)
              obtain ⟨s2, h2, z2⟩ := widB_small (n := x.2.1) (by omega) (by omega)
              obtain ⟨s3, h3⟩ : ∃ s, lstT x.2.2 = s := ⟨_, rfl⟩
              have z3 : s3.size ≤ 12 * x.2.2.length := by rw [← h3]; exact lstT_small _ hfa
              have hs : useT x = (((⟨#[117, 115, 101, 32, 109]⟩ ++ s1) ++ ⟨#[32]⟩) ++ s2) ++ s3 := by rw [← h1, ← h2, ← h3]; exact useT_eq x
              have HS := Lib.hid hs
              clear xx? hs
              go_wp2_with fail
              obtain ⟨U, hU⟩ : ∃ U, U = W2.alloc (.cells #[.int .i64 x.1, .int .i64 x.2.1, .slice xA2 (x.2.2).length xq2] 60) := ⟨_, rfl⟩
              rw [← hU]
              have g := eqbox1 hU
              have hS0 : (fun w' => Below V.heap.size V w' ∧ w'.cell? ⟨W2.heap.size, 0, none⟩ = some (.int .i64 x.1) ∧ w'.cell? ⟨W2.heap.size, 1, none⟩ = some (.int .i64 x.2.1) ∧ w'.cell? ⟨W2.heap.size, 2, none⟩ = some (.slice xA2 (x.2.2).length xq2) ∧ OwnsS w' V.heap.size u3 L3) U := ⟨bThen HB.out g.2, box_cell g.1 0 _ rfl, box_cell g.1 1 _ rfl, box_cell g.1 2 _ rfl, HO.out.below g.2⟩
              clear hU g e0' e1' e2' e3' elt xc0 xc1 xc2 xlt
              have hlow : ∀ j, u3.ownBlock = some j → V.heap.size ≤ j := fun j hj => (HO.out.lt j hj).1
              have hne : u3.ownBlock ≠ some W2.heap.size := fun e => by have := (HO.out.lt _ e).2; omega
              have hS : ∀ {w0 w' : World}, (fun w' => Below V.heap.size V w' ∧ w'.cell? ⟨W2.heap.size, 0, none⟩ = some (.int .i64 x.1) ∧ w'.cell? ⟨W2.heap.size, 1, none⟩ = some (.int .i64 x.2.1) ∧ w'.cell? ⟨W2.heap.size, 2, none⟩ = some (.slice xA2 (x.2.2).length xq2) ∧ OwnsS w' V.heap.size u3 L3) w0 → Below w0.heap.size w0 w' → (fun w' => Below V.heap.size V w' ∧ w'.cell? ⟨W2.heap.size, 0, none⟩ = some (.int .i64 x.1) ∧ w'.cell? ⟨W2.heap.size, 1, none⟩ = some (.int .i64 x.2.1) ∧ w'.cell? ⟨W2.heap.size, 2, none⟩ = some (.slice xA2 (x.2.2).length xq2) ∧ OwnsS w' V.heap.size u3 L3) w' := fun h hb => ⟨bThen h.1 hb, keep hb h.2.1, keep hb h.2.2.1, keep hb h.2.2.2.1, h.2.2.2.2.below hb⟩
              have hSA : ∀ {w0 w' : World}, (fun w' => Below V.heap.size V w' ∧ w'.cell? ⟨W2.heap.size, 0, none⟩ = some (.int .i64 x.1) ∧ w'.cell? ⟨W2.heap.size, 1, none⟩ = some (.int .i64 x.2.1) ∧ w'.cell? ⟨W2.heap.size, 2, none⟩ = some (.slice xA2 (x.2.2).length xq2) ∧ OwnsS w' V.heap.size u3 L3) w0 → w0.grownBy w' u3.ownBlock → w'.ownsRow V.heap.size 9 1 u3 L3.length (L3.map Value.string) → (fun w' => Below V.heap.size V w' ∧ w'.cell? ⟨W2.heap.size, 0, none⟩ = some (.int .i64 x.1) ∧ w'.cell? ⟨W2.heap.size, 1, none⟩ = some (.int .i64 x.2.1) ∧ w'.cell? ⟨W2.heap.size, 2, none⟩ = some (.slice xA2 (x.2.2).length xq2) ∧ OwnsS w' V.heap.size u3 L3) w' := fun h hg hk => ⟨h.1.grown hg h.1.size hlow, grown_at hg h.2.1 hne, grown_at hg h.2.2.1 hne, grown_at hg h.2.2.2.1 hne, hk⟩
              have f1 : ¬ 9223372036854775807 < 5 + s1.size := by omega
              have f2 : ¬ 9223372036854775807 < 5 + s1.size + 1 := by omega
              have f3 : ¬ 9223372036854775807 < 5 + s1.size + 1 + s2.size := by omega
              have f4 : ¬ 9223372036854775807 < 5 + s1.size + 1 + s2.size + s3.size := by omega
              dsimp only at hS0 hS hSA
              go_region_held3 (fun w' => Below V.heap.size V w' ∧ w'.cell? ⟨W2.heap.size, 0, none⟩ = some (.int .i64 x.1) ∧ w'.cell? ⟨W2.heap.size, 1, none⟩ = some (.int .i64 x.2.1) ∧ w'.cell? ⟨W2.heap.size, 2, none⟩ = some (.slice xA2 (x.2.2).length xq2) ∧ OwnsS w' V.heap.size u3 L3) (first | exact hS0 | exact HA | exact hS (‹Below V.heap.size V _ ∧ _›) (by repeat' (first | assumption | exact Below.refl _ _ | refine Below.drew ?_ | refine bAlloc ?_ (Nat.le_refl _) _))) (first | (go_at_call 51; refine (implNum_at _ h1 (by omega) (by omega) (HT.out.1.keep (bThen HV.out (‹Below V.heap.size V _ ∧ _›).1))).mono ?_; rintro e w1 ⟨rfl, hb⟩) | (go_at_call 52; refine (paramText_at _ h2 (by omega) (by omega) (HT.out.1.keep (bThen HV.out (‹Below V.heap.size V _ ∧ _›).1))).mono ?_; rintro e w1 ⟨rfl, hb⟩) | (go_at_call 53; refine (signalList_at x.2.2 _ _ (good_IntS.below HXI.out hT (bThen HV.out (‹Below V.heap.size V _ ∧ _›).1)) (by omega) hfa h3 (HT.out.1.keep (bThen HV.out (‹Below V.heap.size V _ ∧ _›).1))).mono ?_; rintro e w1 ⟨rfl, hb⟩) | (refine step_append_keep (by rfl) _ _ _ (by rfl) V.heap.size 9 i0 _ 1 16 Tryz.underlying26 HI.out.1 HI.out.2.1 HI.out.2.2.1 HI.out.2.2.2 rfl (by omega) u3 L3.length (L3.map Value.string) (by rfl) (‹Below V.heap.size V _ ∧ _ ∧ _ ∧ _ ∧ _›).2.2.2.2 _ 1 1 [.string ((((⟨#[117, 115, 101, 32, 109]⟩ ++ s1) ++ ⟨#[32]⟩) ++ s2) ++ s3)] (by rfl) (by rfl) (by exact World.news_of_block (heap_alloc_new _ _)) (by simp [Value.oneCell']) (by unfold maxLen; omega) (by omega) (‹Below V.heap.size V _ ∧ _›).1.size ?_; intro v5 w5 hown5 hgrow5 hkeep5; have HA := hSA (‹Below V.heap.size V _ ∧ _›) hgrow5 hkeep5))
              all_goals
                have R3 : OwnsS w5 V.heap.size v5 (L3 ++ [useT x]) := by rw [HS.out]; unfold OwnsS; rw [List.length_append, List.map_append]; exact hown5
                have HR3 := Lib.hid (And.intro R3 (‹Below V.heap.size V _ ∧ _›).1)
                clear R3 hS hSA hS0
                go_wp2
                go_roundw
                case rel => exact ⟨i + 1, _, by omega, by go_num, map_step XQ.out HL2.out, HR3.out.1, HR3.out.2⟩
                case measure => simp [intOf]; omega
            · obtain rfl : i = m.2.2.1.length := by omega
              rw [List.take_length] at HL2
              clear hlt
              go_wp2
              go_loopw [3, 66] (fun l v wr => ∃ (i : Nat) (L : List ByteArray), i ≤ m.2.2.2.length ∧ v = .int .i64 i ∧ L = L3 ++ (m.2.2.2.take i).map memT ∧ OwnsS wr V.heap.size l L ∧ Below V.heap.size V wr) (fun _ v _ => m.2.2.2.length - (intOf v).toNat)
              case atStart => exact ⟨0, _, Nat.zero_le _, rfl, by simp, HO.out, HB.out⟩
              case round =>
                obtain ⟨i, L4, hi, rfl, hL, ho, hb⟩ := hrel
                obtain ⟨W3, rfl⟩ : ∃ W, W = wr := ⟨_, rfl⟩
                replace HO := Lib.hid ho
                replace HB := Lib.hid hb
                have p4 : L4.length ≤ 66 := by rw [hL, List.length_append, List.length_map, List.length_take]; omega
                have HL3 := Lib.hid hL
                have HW := Lib.hid (bThen HV.out hb)
                have e0' := keep hb e0
                have e1' := keep hb e1
                have e2' := keep hb e2
                have e3' := keep hb e3
                have hsz := hb.size
                clear ho hb hL
                by_cases hlt : i < m.2.2.2.length
                · have elt : w.heap.size < W3.heap.size := World.block_lt_of_cell? _ _ e0'
                  obtain ⟨xb, xo, xe, _, _, xus, _, xhc, xhr⟩ := mE3.out i hlt
                  obtain ⟨x, xx⟩ : ∃ x, m.2.2.2[i]'hlt = x := ⟨_, rfl⟩
                  have xx? : m.2.2.2[i]? = some x := by rw [List.getElem?_eq_getElem hlt, xx]
                  rw [xx] at xhr
                  subst xe
                  have HXR := Lib.hid xhr
                  obtain ⟨xu0, xu1, xu2, xu3, rfl, xh0, xh1, xh2, xh3⟩ := xhr
                  obtain ⟨xf0, -⟩ := xh0
                  injection xf0 with xf0
                  subst xf0
                  obtain ⟨xf1, -⟩ := xh1
                  injection xf1 with xf1
                  subst xf1
                  obtain ⟨xf2, -⟩ := xh2
                  injection xf2 with xf2
                  subst xf2
                  obtain ⟨xf3, -⟩ := xh3
                  injection xf3 with xf3
                  subst xf3
                  have xc0 : W3.cell? ⟨xb, xo + i * 4, none⟩ = some (.int .i64 x.1) := keep HW.out (xhc 0 _ rfl)
                  have xc1 : W3.cell? ⟨xb, xo + i * 4 + 1, none⟩ = some (.int .i64 x.2.1) := keep HW.out (xhc 1 _ rfl)
                  have xc2 : W3.cell? ⟨xb, xo + i * 4 + 2, none⟩ = some (.int .i64 x.2.2.1) := keep HW.out (xhc 2 _ rfl)
                  have xc3 : W3.cell? ⟨xb, xo + i * 4 + 3, none⟩ = some (.int .i64 x.2.2.2) := keep HW.out (xhc 3 _ rfl)
                  have xlt : xb < W3.heap.size := World.block_lt_of_cell? _ _ xc0
                  clear xhc xx
                  have hf := HFIT.out.mem x (List.mem_of_getElem? xx?)
                  have XQ := Lib.hid xx?
                  obtain ⟨s, hs⟩ : ∃ s, lstT [x.1, x.2.1, x.2.2.1, x.2.2.2] = s := ⟨_, rfl⟩
                  have hfa : ∀ p ∈ [x.1, x.2.1, x.2.2.1, x.2.2.2], 0 ≤ p ∧ p < 30 := by
                    intro p hp
                    simp only [List.mem_cons, List.not_mem_nil, or_false] at hp
                    rcases hp with rfl | rfl | rfl | rfl
                    · exact hf.1
                    · exact hf.2.1
                    · exact hf.2.2.1
                    · exact hf.2.2.2
                  have z := lstT_small _ hfa
                  rw [hs] at z
                  have z4 : s.size ≤ 48 := z
                  have HS := Lib.hid (show memT x = ⟨#[109, 101, 109]⟩ ++ s by rw [← hs]; exact memT_eq x)
                  have HS0 := Lib.hid hs
                  have HFA := Lib.hid hfa
                  clear xx? hs z hfa
                  go_wp2_with fail
                  obtain ⟨U, hU⟩ : ∃ U, U = W3.alloc (.cells #[.int .i64 x.1, .int .i64 x.2.1, .int .i64 x.2.2.1, .int .i64 x.2.2.2] 62) := ⟨_, rfl⟩
                  rw [← hU]
                  have g := eqbox1 hU
                  have hus : U.heap.size = W3.heap.size + 1 := by rw [hU]; simp
                  have HBU := Lib.hid g.2
                  clear hU g e0' e1' e2' e3' elt xc0 xc1 xc2 xc3 xlt
                  have hrd := rdInt_new4 U x.1 x.2.1 x.2.2.1 x.2.2.2 (fit_small (by omega) (by omega)) (fit_small (by omega) (by omega)) (fit_small (by omega) (by omega)) (fit_small (by omega) (by omega))
                  rw [hus] at hrd
                  refine (signalList_at _ _ _ hrd (by show (4 : Nat) ≤ 100; omega) HFA.out HS0.out (HT.out.1.keep (bThen HW.out (bThen HBU.out (by (repeat' (first | assumption | exact Below.refl _ _ | refine bDrewN ?_ _ | refine Below.drew ?_ | refine bAlloc ?_ (Nat.le_refl _) _ | refine bSet ?_ (by first | exact Nat.le_refl _ | omega | (simp <;> omega)) _))))))).mono ?_
                  rintro e w8 ⟨rfl, hb8⟩
                  obtain ⟨_, hb9⟩ := box1 hb8
                  have hb10 := bThen HBU.out hb9
                  have HO9 := Lib.hid (HO.out.below hb10)
                  have HB9 := Lib.hid (bThen HB.out hb10)
                  have hsz9 := HB9.out.size
                  clear hb8 hb9 hb10 hrd hus
                  go_wp2_with (refine wpList_append_lies _ rfl _ _ 26 (by rfl) V.heap.size 9 i0 _ 1 16 Tryz.underlying26 HI.out.1 HI.out.2.1 HI.out.2.2.1 HI.out.2.2.2 rfl (by omega) u3 L4.length _ (by rfl) (HO9.out.alloc _) ⟨w8.heap.size, 0, none⟩ 1 1 [.string (⟨#[109, 101, 109]⟩ ++ s)] (by rfl) (by rfl) (World.news_of_block (heap_alloc_new w8 _)) (by simp [Value.oneCell']) (by omega) (by unfold maxLen; omega) (by omega) (by simp; omega) (w8.heap.size + 1) (by simp) ?_; intro gg cap w9 hown2 hgrow2 hat2 hlt2)
                  have R := own_addS HO9.out hsz9 HB9.out ((Below.refl _ _).alloc (Nat.le_refl _) _) hgrow2 hown2
                  go_roundw
                  case rel => exact ⟨i + 1, _, by omega, by go_num, map_step XQ.out HL3.out, by rw [HS.out]; exact R.1, R.2⟩
                  case measure => simp [intOf]; omega
                · obtain rfl : i = m.2.2.2.length := by omega
                  rw [List.take_length] at HL3
                  clear hlt
                  go_wp2_with (refine wpList_append_lies _ rfl _ _ 26 (by rfl) V.heap.size 9 i0 _ 1 16 Tryz.underlying26 HI.out.1 HI.out.2.1 HI.out.2.2.1 HI.out.2.2.2 rfl (by omega) u3 L4.length _ (by rfl) (HO.out.alloc _) ⟨W3.heap.size, 0, none⟩ 1 1 [.string ⟨#[101, 110, 100]⟩] (by rfl) (by rfl) (World.news_of_block (heap_alloc_new W3 _)) (by simp [Value.oneCell']) (by omega) (by unfold maxLen; omega) (by omega) (by simp; omega) (W3.heap.size + 1) (by simp) ?_; intro gg cap w9 hown2 hgrow2 hat2 hlt2)
                  have R := own_addS HO.out HB.out.size HB.out ((Below.refl _ _).alloc (Nat.le_refl _) _) hgrow2 hown2
                  go_ret
                  refine ⟨_, rfl, ?_, bThen HV.out R.2⟩
                  have hE : modT m = L4 ++ [⟨#[101, 110, 100]⟩] := by
                    rw [HL3.out, HL2.out, HL1.out, HL0.out, hL0]
                    simp [modT, List.append_assoc]
                  rw [hE]
                  exact R.1.low HV.out.size
end Go.Proofs.YtdfcbccpdflbfaaGreatDoor
/- IFmC: The lines of a module: the program's FormatModule; both sides with letters. -/
namespace Go.Proofs.YtdfcbccpdflbfaaGreatDoor
open Go.RowKit
set_option linter.unusedVariables false
set_option linter.unusedSimpArgs false

def fmtL (z : DDesign) (k : Int) : List ByteArray := if moduleB z k = true then modT ((z[k.toNat]?).getD ([], [], [], [])) else []
theorem modT_len {m : DModule} (h : ModFit m) : (modT m).length ≤ 67 := by
  have := h.l0
  have := h.l1
  have := h.l2
  have := h.l3
  unfold modT
  simp only [List.length_append, List.length_cons, List.length_map, List.length_nil]
  omega
theorem fmtL_len (z : DDesign) (k : Int) : (fmtL z k).length ≤ 67 := by
  unfold fmtL
  by_cases h : moduleB z k = true
  · rw [if_pos h]
    obtain ⟨K, m, rfl, _, _, hm, hf⟩ := modFit_of h
    rw [Int.toNat_natCast, hm]
    exact modT_len hf
  · rw [if_neg h]; simp
set_option maxHeartbeats 1600000 in
theorem implFmtMod_at (z : DDesign) (k : Int) (us : List Value) {B T : Nat} {r : Bool} {L : List ByteArray} (w : World) (hd : rdDesign B T w us z) (hT : T ≤ w.heap.size) (hr : moduleB z k = r) (hL : fmtL z k = L) (ht : PowTab w) (hww : Words w) :
    Calls Tryz.prog 8 #[.agg us.toArray, .int .i64 k] w fun e w' => ∃ v, e = .returned (.tuple #[v, .bool r]) ∧ OwnsS w' w.heap.size v L ∧ Below w.heap.size w w' := by
  have HT := Lib.hid (And.intro ht hww)
  have HD := Lib.hid hd
  obtain ⟨du, rfl, dh⟩ := hd
  obtain ⟨dA, dq, de, dm, dk⟩ := dh
  injection de with de
  subst de
  unfold maxLen at dm
  have DE := Lib.hid dk
  have HR := Lib.hid hr
  have HL := Lib.hid hL
  clear dk hr hL ht hww
  go_enter Tryz.func8, Tryz.ntmps8
  go_wp2_with fail
  refine (implModule_at z k _ _ (good_Design.below HD.out hT (by (repeat' (first | assumption | exact Below.refl _ _ | refine bDrewN ?_ _ | refine Below.drew ?_ | refine bAlloc ?_ (Nat.le_refl _) _ | refine bSet ?_ (by first | exact Nat.le_refl _ | omega | (simp <;> omega)) _)))) (by simp <;> omega) HR.out).mono ?_
  rintro e w1 ⟨rfl, hb⟩
  have g := box1 hb
  have d0 : w1.cell? ⟨w.heap.size, 0, none⟩ = some (.slice dA z.length dq) := box_cell g.1 0 _ rfl
  have HW1 := Lib.hid g.2
  clear hb g
  cases r with
  | false =>
    go_wp2
    go_ret2
    exact ⟨_, rfl, by rw [← HL.out]; unfold fmtL; rw [if_neg (by rw [HR.out]; simp)]; exact own_nilS _ _ _ rfl, HW1.out⟩
  | true =>
    obtain ⟨K, m, rfl, hK, hd4, hzm, hf⟩ := modFit_of HR.out
    have hE : modT m = L := by rw [← HL.out]; unfold fmtL; rw [if_pos HR.out, Int.toNat_natCast, hzm]; rfl
    have HFIT := Lib.hid hf
    have HE := Lib.hid hE
    have dlt : w.heap.size < w1.heap.size := World.block_lt_of_cell? _ _ d0
    obtain ⟨mb, mo, me, _, _, mus, _, mhc, mhr⟩ := DE.out K hK
    rw [(List.getElem?_eq_some_iff.1 hzm).2] at mhr
    clear hzm hf hE
    subst me
    have HM := Lib.hid mhr
    obtain ⟨mu0, mu1, mu2, mu3, rfl, mh0, mh1, mh2, mh3⟩ := mhr
    obtain ⟨mA0, mq0, mf0, mm0, mk0⟩ := mh0
    injection mf0 with mf0
    subst mf0
    unfold maxLen at mm0
    have mE0 := Lib.hid mk0
    clear mk0
    obtain ⟨mA1, mq1, mf1, mm1, mk1⟩ := mh1
    injection mf1 with mf1
    subst mf1
    unfold maxLen at mm1
    have mE1 := Lib.hid mk1
    clear mk1
    obtain ⟨mA2, mq2, mf2, mm2, mk2⟩ := mh2
    injection mf2 with mf2
    subst mf2
    unfold maxLen at mm2
    have mE2 := Lib.hid mk2
    clear mk2
    obtain ⟨mA3, mq3, mf3, mm3, mk3⟩ := mh3
    injection mf3 with mf3
    subst mf3
    unfold maxLen at mm3
    have mE3 := Lib.hid mk3
    clear mk3
    have mc0 : w1.cell? ⟨mb, mo + K * 4, none⟩ = some (.slice mA0 (m.1).length mq0) := keep HW1.out (mhc 0 _ rfl)
    have mc1 : w1.cell? ⟨mb, mo + K * 4 + 1, none⟩ = some (.slice mA1 (m.2.1).length mq1) := keep HW1.out (mhc 1 _ rfl)
    have mc2 : w1.cell? ⟨mb, mo + K * 4 + 2, none⟩ = some (.slice mA2 (m.2.2.1).length mq2) := keep HW1.out (mhc 2 _ rfl)
    have mc3 : w1.cell? ⟨mb, mo + K * 4 + 3, none⟩ = some (.slice mA3 (m.2.2.2).length mq3) := keep HW1.out (mhc 3 _ rfl)
    have mlt : mb < w1.heap.size := World.block_lt_of_cell? _ _ mc0
    clear mhc
    go_wp2_with fail
    refine (moduleLines_at m [.slice mA0 (m.1).length mq0, .slice mA1 (m.2.1).length mq1, .slice mA2 (m.2.2.1).length mq2, .slice mA3 (m.2.2.2).length mq3] _ (good_Module.below HM.out hT HW1.out) (Nat.le_trans hT HW1.out.size) HFIT.out (HT.out.1.keep HW1.out) (HT.out.2.keep HW1.out)).mono ?_
    rintro e w2 ⟨v, rfl, ho, hb⟩
    have HO := Lib.hid ho
    have HB2 := Lib.hid (bThen HW1.out hb)
    clear ho hb
    go_wp2
    go_ret2
    exact ⟨_, rfl, by rw [← HE.out]; exact HO.out.low HW1.out.size, HB2.out⟩
end Go.Proofs.YtdfcbccpdflbfaaGreatDoor
/- LaidW: The words of the kinds of signals, as the row's condition lays them. -/
namespace Go.Proofs.YtdfcbccpdflbfaaGreatDoor
open Go.RowKit Go.Lib Go.ChangeShapes Go.WideShapes
set_option linter.unusedVariables false
set_option linter.unusedSimpArgs false

/-- A table of texts. -/
def txtData {H : Type} (L : List ByteArray) : DataW H := .agg (L.map fun s => .lit (.string s.data.toList))
theorem cells_of_txt {H : Type} {enc : TypeId × Value → H} {P : Program} {w : World} {base : Nat} {sp : Nat → Bool} {held : Bool} {fuel : Nat} {t e : TypeId} {n : Nat} {cs : List Value} {L : List ByteArray} {p : List MemPlace}
    (ht : P.underlying t = some (.array n e)) (he : P.underlying e = some .string) (hce : P.cellsOf e = 1) (hct : P.cellsOf t = n)
    (h : DataW.trod enc P w base sp held fuel t cs = some (txtData L, p)) : cs = L.map Value.string := by
  cases fuel with
  | zero => simp [DataW.trod] at h
  | succ fuel =>
    simp only [DataW.trod, ht, hce, hct, Nat.mul_one] at h
    split at h
    · rename_i hl
      obtain ⟨xs, hm, hx⟩ := Option.map_eq_some_iff.1 h
      have hxs : xs.map (·.1) = L.map fun s => (DataW.lit (.string s.data.toList) : DataW H) := by
        have := congrArg Prod.fst hx
        simpa [txtData] using this
      have hxl : xs.length = n := by simpa using mapM_length hm
      have hzl : L.length = n := by
        have := congrArg List.length hxs
        simp at this
        omega
      apply List.ext_getElem?
      intro i
      by_cases hi : i < n
      · obtain ⟨b, hb, hf⟩ := mapM_at hm i i (by simp [hi])
        obtain ⟨s, hc, rfl, _⟩ := DataW.trod_string he hf
        have h1 : cs[i]? = some (.string s) := by
          have := congrArg (·[0]?) hc
          simpa [List.getElem?_take, List.getElem?_drop] using this
        have h2 : (xs.map (·.1))[i]? = some (DataW.lit (.string s.data.toList) : DataW H) := by simp [hb]
        rw [hxs] at h2
        simp only [List.getElem?_map, Option.map_eq_some_iff, DataW.lit.injEq, Lit.string.injEq] at h2
        obtain ⟨s', hs', he'⟩ := h2
        have : s' = s := bytes_eq he'
        subst this
        simp [h1, hs']
      · rw [List.getElem?_eq_none (by omega), List.getElem?_eq_none (by simp; omega)]
    · cases h
theorem txtIs_of_head {P : Program} {W : World} {name : String} {L : List ByteArray} {rest : List (String × DataW Unit)} {g : Nat} {t e : TypeId} {n : Nat}
    (hg : P.globalNamed name = some g) (hty : (P.globals[g]?).map (·.type) = some t) (ht : P.underlying t = some (.array n e)) (he : P.underlying e = some .string) (hce : P.cellsOf e = 1) (hct : P.cellsOf t = n)
    (h : laidMet P ((name, txtData L) :: rest) W) : W.var? P name = some (L.map Value.string).toArray := by
  obtain ⟨ps, ⟨g', t', cs, fuel, p, q, hg', ht', hvar, hd, _, _⟩, _⟩ := h
  obtain rfl := Option.some.inj (hg.symm.trans hg')
  obtain rfl := Option.some.inj (hty.symm.trans ht')
  rw [hvar, ← cells_of_txt ht he hce hct hd]
theorem gWords : Tryz.prog.globalNamed "loop.example/g03311/impl.signalWords" = some 0 := by kernel_rfl
theorem arrW : ∃ t e, (Tryz.prog.globals[0]?).map (·.type) = some t ∧ Tryz.prog.underlying t = some (.array 4 e) ∧ Tryz.prog.underlying e = some .string ∧ Tryz.prog.cellsOf e = 1 ∧ Tryz.prog.cellsOf t = 4 :=
  ⟨117, 9, by kernel_rfl, by kernel_rfl, by kernel_rfl, by kernel_rfl, by kernel_rfl⟩
theorem words_of {W : World} {rest : List (String × DataW Unit)} (h : laidMet Tryz.prog (("loop.example/g03311/impl.signalWords", Rows.laid_loop_example_g03311_impl_signalWords) :: rest) W) : Words W := by
  obtain ⟨t, e, h1, h2, h3, h4, h5⟩ := arrW
  have hv := txtIs_of_head (L := [kwB 0, kwB 1, kwB 2, kwB 3]) (rest := rest) gWords h1 h2 h3 h4 h5 h
  intro i s hs
  rw [World.var?_cell gWords hv i, List.getElem?_toArray, List.getElem?_map, hs]
  rfl
end Go.Proofs.YtdfcbccpdflbfaaGreatDoor
