/-
  What the walks of EvalOrder use on both sides.
-/
import Derived.Test.YtmjofpfkgbnknaaGreatWaitS
import Derived.Test.YtmjofpfkgbnknaaGreatIntS
import Derived.Test.YtmjofpfkgbnknaaGreatDpAll
import Derived.Laws.MakeOwn
namespace Go.Proofs.YtmjofpfkgbnknaaGreat
open Go.RowKit
set_option linter.unusedVariables false
set_option linter.unusedSimpArgs false

theorem eqbox3 {w W : World} {o1 o2 o3 : Obj} (h : W = ((w.alloc o1).alloc o2).alloc o3) : W.heap[w.heap.size]? = some o1 ∧ W.heap[w.heap.size + 1]? = some o2 ∧ W.heap[w.heap.size + 1 + 1]? = some o3 ∧ Below w.heap.size w W := by subst h; exact box3 (Below.refl _ _)
theorem infoB : (Tryz.prog.info? 4).map (fun i => (i.zero, i.size, i.bytes)) = some (some (.bool false), 1, 1) := by kernel_rfl
/-- A design of one module, whose cells lie in a block of their own. -/
theorem rd_one {m : DModule} {us : List Value} {T : Nat} {W : World} {b : Nat} {t : TypeId} (h : rdModule 0 T W us m) (hT : T ≤ W.heap.size) (hb : W.heap[b]? = some (.cells us.toArray t (0, 0))) : rdDesign 0 W.heap.size W [.slice (some ⟨b, 0, none⟩) 1 1] [m] := by
  refine ⟨_, rfl, some ⟨b, 0, none⟩, 1, rfl, by simp [maxLen], fun j hj => ?_⟩
  have hj0 : j = 0 := by simpa using hj
  subst hj0
  have hl : us.length = 4 := by obtain ⟨u0, u1, u2, u3, rfl, _⟩ := h; rfl
  refine ⟨b, 0, rfl, Nat.zero_le _, (Array.getElem?_eq_some_iff.1 hb).1, us, hl, fun i u hu => ?_, good_Module.wider h (Nat.le_refl _) hT⟩
  rw [Nat.zero_mul, Nat.zero_add]
  exact box_cell hb i u (by simpa using hu)
theorem OwnsB.shapeN {w : World} {B g n c : Nat} {W : List Bool} (h : OwnsB w B (.slice (some ⟨g, 0, none⟩) n c) W) {t : Nat} (hn : W.length = n) (ht : t < n) : w.cell? ⟨g, t, none⟩ = some (.bool (W.getD t false)) ∧ w.frozen? ⟨g, t, none⟩ = false := by
  obtain ⟨A, c', hv, hsh⟩ := OwnsR.shape fB_len h
  injection hv with e1 e2 e3
  obtain ⟨g', hg, hc⟩ := hsh t (by omega)
  rw [← e1] at hg; injection hg with hg; injection hg with hg; subst hg
  have h0 := hc 0 _ rfl
  rw [Nat.mul_one, Nat.add_zero] at h0
  rw [List.getD_eq_getElem?_getD, List.getElem?_eq_getElem (by omega)]
  exact h0
theorem OwnsB.set {w : World} {B g n c : Nat} {W : List Bool} (h : OwnsB w B (.slice (some ⟨g, 0, none⟩) n c) W) {t : Nat} (hn : W.length = n) (ht : t < n) (b : Bool) : OwnsB (w.setCell ⟨g, t, none⟩ (.bool b)) B (.slice (some ⟨g, 0, none⟩) n c) (W.set t b) := by
  subst hn
  have h1 := (OwnsR.stored fB_len (j := t) (i := 0) (u := (.bool b : Value)) (y := b) h ht (by omega) rfl).1
  rw [Nat.mul_one, Nat.add_zero] at h1
  exact h1
theorem OwnsI.atI {w w' : World} {B : Nat} {v : Value} {L : List Int} (h : OwnsI w B v L) (hk : ∀ j, v.ownBlock = some j → w'.heap[j]? = w.heap[j]?) : OwnsI w' B v L := by
  obtain ⟨h1, h2⟩ := h
  refine ⟨h1, ?_⟩
  rcases h2 with h2 | ⟨g, cap, cur, rfl, e2, e3, e4⟩
  · exact .inl h2
  · exact .inr ⟨g, cap, cur, rfl, e2, (hk g rfl).trans e3, e4⟩
theorem OwnsI.setFar {w : World} {B : Nat} {v : Value} {L : List Int} (h : OwnsI w B v L) {g t : Nat} {u : Value} (hne : v.ownBlock ≠ some g) : OwnsI (w.setCell ⟨g, t, none⟩ u) B v L :=
  h.atI fun j hj => Below.heap_setCell w _ _ j (by intro e; exact hne (by rw [hj]; exact congrArg some e))
theorem OwnsB.atB {w w' : World} {B g n c : Nat} {W : List Bool} (h : OwnsB w B (.slice (some ⟨g, 0, none⟩) n c) W) (hk : w'.heap[g]? = w.heap[g]?) : OwnsB w' B (.slice (some ⟨g, 0, none⟩) n c) W := by
  obtain ⟨h1, h2⟩ := h
  refine ⟨h1, ?_⟩
  rcases h2 with ⟨h2, _⟩ | ⟨g', cap, cur, e1, e2, e3, e4⟩
  · cases h2
  · injection e1 with e5 e6 e7; injection e5 with e5; injection e5 with e5; subst e5
    exact .inr ⟨g, c, cur, by rw [e6], e2, hk.trans e3, by rw [e7]; exact e4⟩
theorem OwnsB.ltN {w : World} {B g n c : Nat} {W : List Bool} (h : OwnsB w B (.slice (some ⟨g, 0, none⟩) n c) W) : g < w.heap.size ∧ B ≤ g := by
  rcases h.2 with ⟨h2, _⟩ | ⟨g', cap, cur, e1, e2, e3, e4⟩
  · cases h2
  · injection e1 with e5 e6 e7; injection e5 with e5; injection e5 with e5; subst e5
    exact ⟨(Array.getElem?_eq_some_iff.1 e3).1, e2⟩
/-- What both answers come to. -/
theorem order_no {m : DModule} {r : Bool} {L : List Int} (hr : (orderO m).isSome = r) (hL : (orderO m).getD [] = L) (h : designB [m] = false) : r = false ∧ L = [] := by
  have e : orderO m = none := by unfold orderO; rw [h]; rfl
  rw [e] at hr hL; exact ⟨hr.symm, hL.symm⟩
theorem order_end {m : DModule} {r : Bool} {L : List Int} (hr : (orderO m).isSome = r) (hL : (orderO m).getD [] = L) (h : designB [m] = true) {W : List Bool} {acc : List Int} (hn : nextA m.2.1 W = none) (hf : evalF m.2.1 (wait0 m) [] = evalF m.2.1 W acc) :
    r = !W.any id ∧ (W.any id = true → L = []) ∧ (W.any id = false → L = acc) := by
  have e : orderO m = if W.any id then none else some acc := by unfold orderO; rw [h, hf, evalF_none hn]; rfl
  rw [e] at hr hL
  cases hb : W.any id with
  | true => rw [hb] at hr hL; exact ⟨hr.symm, fun _ => hL.symm, fun h => by cases h⟩
  | false => rw [hb] at hr hL; exact ⟨hr.symm, (fun h => by cases h), fun _ => hL.symm⟩
theorem order_len {m : DModule} : ((orderO m).getD []).length ≤ 30 := by
  have hgo : ∀ (L : List DAssign) (n : Nat) (W : List Bool) (acc : List Int), (evalGo L n W acc).2.length ≤ acc.length + n := by
    intro L n
    induction n with
    | zero => intro W acc; simp [evalGo]
    | succ n ih =>
      intro W acc
      unfold evalGo
      split
      · simp
      · have := ih (W.set (tgt L ‹_›) false) (acc ++ [((‹Nat› : Nat) : Int)])
        simp at this ⊢
        omega
  unfold orderO
  split
  · rename_i hd
    split
    · simp
    · have h1 := hgo m.2.1 (cntT (wait0 m)) (wait0 m) []
      have h2 := cntT_le (wait0 m)
      have h3 : (wait0 m).length = m.1.length := waitK_len m _
      rw [design_one] at hd
      have h4 := (modOk_of (d := [m]) (K := 0) rfl hd).2.l0
      show (evalF m.2.1 (wait0 m) []).2.length ≤ 30
      unfold evalF
      simp at h1
      omega
  · simp
set_option maxHeartbeats 1600000 in
theorem indexB_at (Wt : List Bool) (v : Value) {B T : Nat} (w : World) (h : rdBoolS B T w [v] Wt) :
    Calls Tryz.prog 152 #[v, .bool true] w fun e w' => (∃ r : Int, e = .returned (.int .i64 r) ∧ decide (0 ≤ r) = Wt.any id) ∧ w = w' := by
  obtain ⟨A, c, ea, hm, hA⟩ := h
  injection ea with ea
  subst ea
  unfold maxLen at hm
  have HA := Lib.hid hA
  clear hA
  go_enter Tryz.func152, Tryz.ntmps152
  go_wp2
  go_loop [8] (fun v => ∃ i : Nat, i ≤ Wt.length ∧ v = .int .i64 i ∧ (Wt.take i).any id = false) (fun v => Wt.length - (intOf v).toNat)
  case atStart => exact ⟨0, Nat.zero_le _, rfl, by simp⟩
  case round =>
    obtain ⟨i, hi, rfl, hno⟩ := hrel
    have HN := Lib.hid hno
    clear hno
    by_cases hlt : i < Wt.length
    · obtain ⟨b, o, rfl, _, _, us, _, hc, hr⟩ := HA.out i hlt
      have hr' : us = [.bool (Wt[i]'hlt)] := hr
      subst hr'
      have x0 := hc 0 _ rfl
      rw [Nat.add_zero, Nat.mul_one] at x0
      have HX := Lib.hid (show Wt[i]? = some (Wt[i]'hlt) from List.getElem?_eq_getElem hlt)
      clear hc hr
      obtain ⟨y, hy⟩ : ∃ y, Wt[i]'hlt = y := ⟨_, rfl⟩
      rw [hy] at x0 HX
      clear hy
      cases y with
      | true =>
        have HY := Lib.hid (show Wt.any id = true by rw [List.any_eq_true]; exact ⟨true, List.mem_of_getElem? HX.out, rfl⟩)
        go_wp2
        go_ret
        exact ⟨⟨_, rfl, by rw [HY.out]; simp⟩, rfl⟩
      | false =>
        have HY := Lib.hid (show (Wt.take (i + 1)).any id = false by rw [List.take_add_one, HX.out, List.any_append, HN.out]; rfl)
        go_wp2
        go_round
        case rel => exact ⟨i + 1, by omega, by go_num, HY.out⟩
        case measure => simp [intOf]; omega
    · obtain rfl : i = Wt.length := by omega
      have HF := Lib.hid (show Wt.any id = false by have := HN.out; rwa [List.take_length] at this)
      go_wp2
      go_ret
      exact ⟨⟨_, rfl, by rw [HF.out]; rfl⟩, rfl⟩
theorem containsB_at (Wt : List Bool) (v : Value) {B T : Nat} {r : Bool} (w : World) (h : rdBoolS B T w [v] Wt) (hr : Wt.any id = r) :
    Calls Tryz.prog 131 #[v, .bool true] w fun e w' => e = .returned (.bool r) ∧ w = w' := by
  have HR := Lib.hid hr
  clear hr
  go_enter Tryz.func131, Tryz.ntmps131
  go_wp2_with fail
  refine (indexB_at Wt v _ h).mono ?_
  rintro e w1 ⟨⟨q, rfl, hq⟩, rfl⟩
  have HQ := Lib.hid (hq.trans HR.out)
  clear hq
  go_wp2
  go_ret
  exact ⟨ret_bool HQ.out, rfl⟩
end Go.Proofs.YtmjofpfkgbnknaaGreat
