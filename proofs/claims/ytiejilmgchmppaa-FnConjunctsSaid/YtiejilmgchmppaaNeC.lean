/-
  Net9, Net10, Net11, Back, Lift, Net12, Net13 as one text.
-/
import Derived.Test.YtiejilmgchmppaaNeB
import Derived.Test.YtiejilmgchmppaaOwnB
import Derived.Deep.RegionHeld3
import Derived.Test.YtiejilmgchmppaaAtAll
import Derived.Test.YtiejilmgchmppaaNeA
import Derived.RangeFuncNested
import Derived.RangeFuncBound
import Derived.RangeFuncCalls
import Derived.RangeFuncLeaves
import Derived.Shelf.Abstract
import Derived.Shelf.RegionOpen
import Derived.OwnWalkIn
import Derived.TacticsInMore
import Derived.LoopNIn
import Derived.LoopIn
import Derived.Test.YtiejilmgchmppaaRgN
import Derived.RegionIn
/- Net9: Marks spread through a net: the reference. -/
namespace Go.Proofs.Ytiejilmgchmppaa
open Go.RowKit
set_option linter.unusedVariables false
set_option linter.unusedSimpArgs false

theorem fB_one (L : List Bool) : ∀ u ∈ L.flatMap fB, u.oneCell' = true := fun u hu => by
  obtain ⟨c, _, hc⟩ := List.mem_flatMap.1 hu
  simp only [fB, List.mem_cons, List.not_mem_nil, or_false] at hc
  subst hc; rfl
theorem usBool (B T : Nat) (w : World) (us : List Value) (x : Bool) (h : rdBool B T w us x) : us = fB x := h
theorem OwnsB.below {w w' : World} {B : Nat} {v : Value} {L : List Bool} (h : OwnsB w B v L) (hb : Below w.heap.size w w') : OwnsB w' B v L := ownI_below h hb
theorem OwnsB.lower {w : World} {B B' : Nat} {v : Value} {L : List Bool} (h : OwnsB w B v L) (hB : B' ≤ B) : OwnsB w B' v L := by
  obtain ⟨h1, h2⟩ := h
  refine ⟨h1, ?_⟩
  rcases h2 with h2 | ⟨g, cap, cur, e1, e2, e3⟩
  · exact .inl h2
  · exact .inr ⟨g, cap, cur, e1, Nat.le_trans hB e2, e3⟩
theorem own_makeB {w : World} {B : Nat} {v : Value} {n : Nat} (h : w.ownsRow B 4 1 v n (madeCells (Value.bool false).cells (n * 1)).toList) : OwnsB w B v (List.replicate n false) := by
  unfold OwnsB OwnsR
  rw [List.length_replicate, ← made_rows fB 1 fB_len false (.bool false : Value).cells rfl (by omega)]
  exact h
theorem mark_hit {n : DNet} {M : List Bool} {j i x y : Nat} (hi : n.2.2.1.length - 1 - j = i) (h : n.2.2.1[i]? = some ((x : Int), (y : Int))) (hb : (markK n M j).getD (firN n + i) false = true) :
    markK n M (j + 1) = ((markK n M j).set (x / 2) true).set (y / 2) true := by
  conv => lhs; unfold markK
  rw [hi, h]
  simp only [hb, if_true, Int.toNat_natCast]
theorem mark_miss {n : DNet} {M : List Bool} {j i : Nat} {a : DAnd} (hi : n.2.2.1.length - 1 - j = i) (h : n.2.2.1[i]? = some a) (hb : (markK n M j).getD (firN n + i) false = false) : markK n M (j + 1) = markK n M j := by
  conv => lhs; unfold markK
  rw [hi, h]
  simp only [hb, Bool.false_eq_true, if_false]
end Go.Proofs.Ytiejilmgchmppaa
/- Net10: Cones and what is reached: the reference. -/
namespace Go.Proofs.Ytiejilmgchmppaa
open Go.RowKit
set_option linter.unusedVariables false
set_option linter.unusedSimpArgs false

theorem cone_no {n : DNet} {v : Int} (h : ¬ (netB n = true ∧ 0 ≤ v ∧ v < ncI n)) : coneO n v = [] := by unfold coneO; rw [if_neg h]
theorem cone_yes {n : DNet} {k : Nat} (h : netB n = true) (hk : k < netN n) : coneO n (k : Int) = coneK (markL n (oneL (netN n) k)) (netN n) := by
  unfold coneO
  rw [if_pos ⟨h, by omega, by rw [(netP_of h).sz.nc]; omega⟩, Int.toNat_natCast]
theorem coneO_in (n : DNet) (v : Int) : (coneO n v).length ≤ 333 ∧ ∀ x ∈ coneO n v, Fit x := by
  unfold coneO
  split
  · rename_i h
    have hN := (netP_of h.1).sz.net_le
    refine ⟨Nat.le_trans (coneK_len _ _) hN.1, fun x hx => ?_⟩
    unfold coneK at hx
    obtain ⟨i, hi, rfl⟩ := List.mem_map.1 hx
    have := List.mem_range.1 (List.mem_filter.1 hi).1
    unfold Fit; omega
  · simp
end Go.Proofs.Ytiejilmgchmppaa
/- Net11: What is reached: the reference. -/
namespace Go.Proofs.Ytiejilmgchmppaa
open Go.RowKit
set_option linter.unusedVariables false
set_option linter.unusedSimpArgs false

theorem reach_no {n : DNet} (h : netB n = false) : reachO n = [] := by unfold reachO; rw [h]; rfl
theorem reach_yes {n : DNet} (h : netB n = true) : reachO n = markL n (seenL (netN n) (rootsL n)) := by unfold reachO; rw [if_pos h]
theorem reachO_len (n : DNet) : (reachO n).length ≤ 333 := by
  unfold reachO
  split
  · rename_i h
    unfold markL
    rw [markK_len, seenL_len]
    exact (netP_of h).sz.net_le.1
  · simp
theorem own_nilB (w : World) (B : Nat) : OwnsB w B (.slice none 0 0) [] := ownR_nil _ _ _ _ _
theorem own_newB (w : World) (B : Nat) (hB : B ≤ w.heap.size) : OwnsB (w.alloc (.cells #[] 4)) B (.slice (some ⟨w.heap.size, 0, none⟩) 0 0) [] := ownR_new fB 1 4 w B hB
end Go.Proofs.Ytiejilmgchmppaa
/- Back: slices.Backward over a slice of AND nodes: the iterator's contract. -/
namespace Go.Proofs.Ytiejilmgchmppaa
open Go.RowKit
set_option linter.unusedVariables false
set_option linter.unusedSimpArgs false

attribute [local go_sem] Oper.semAt_some

/-- The rounds of A elements: the last element first. -/
abbrev Rnd (A : Nat) : Type := { j : Nat // j < A }
def rnds (A : Nat) : List (Rnd A) := (List.finRange A).map fun j => ⟨j.1, j.2⟩
theorem rnds_len (A : Nat) : (rnds A).length = A := by simp [rnds]
theorem rnds_at {A k : Nat} (hk : k < A) : (rnds A)[k]? = some ⟨k, hk⟩ := by
  unfold rnds
  rw [List.getElem?_map, List.getElem?_eq_getElem (by simp; exact hk)]
  simp
theorem rnds_step {A k : Nat} (hk : k < A) : (rnds A).take (k + 1) = (rnds A).take k ++ [⟨k, hk⟩] := by
  rw [List.take_add_one, rnds_at hk]; rfl
/-- What a round is handed. -/
def backV (L : List DAnd) (x : Rnd L.length) : Array Value := #[.int .i64 ((L.length : Int) - 1 - x.1), .agg #[.int .i64 (L.getD (L.length - 1 - x.1) (0, 0)).1, .int .i64 (L.getD (L.length - 1 - x.1) (0, 0)).2]]
/-- What the rounds keep: what lay below n, and the block b. -/
def KeepB (n b : Nat) (W W' : World) : Prop := Below n W W' ∧ W'.heap[b]? = W.heap[b]?
theorem keepB_t {n b : Nat} {X Y Z : World} (h : KeepB n b X Y) (k : KeepB n b Y Z) : KeepB n b X Z := ⟨h.1.trans k.1, k.2.trans h.2⟩
theorem keepB_b {n b : Nat} {w : World} (hn : n ≤ w.heap.size) (hb : b < w.heap.size) (W : World) (l : Nat) (o o' : Obj) (hl : w.heap.size ≤ l) (h : W.heap[l]? = some o) (h1 : o.isCells = false) (h2 : o.isWalk = false) : KeepB n b W (W.putObj l o') :=
  ⟨belowK_b hn W l o o' hl h h1 h2, World.putObj_heap_other (by omega)⟩
theorem KeepB.cell {n b : Nat} {W W' : World} (h : KeepB n b W W') {v : Value} {i : Nat} (hc : W.cell? ⟨b, i, none⟩ = some v) : W'.cell? ⟨b, i, none⟩ = some v := (World.cell?_of_block (w := W) (w' := W') (a := ⟨b, i, none⟩) h.2).trans hc
set_option maxHeartbeats 1000000 in
theorem backward_at (A : Option Addr) (len cap : Nat) (w : World) :
    Calls Try.prog 58 #[.slice A len cap] w fun e w' => e = .returned (.func (.func 72) #[] #[.pointer (some ⟨w.heap.size, 0, none⟩)]) ∧ w' = w.alloc (.cells #[.slice A len cap] 25) := by
  go_enter Try.func58, Try.ntmps58
  go_wp2
  go_ret
  exact ⟨rfl, rfl⟩
set_option maxRecDepth 100000 in
set_option maxHeartbeats 4000000 in
theorem back1_in (F : Fence) (n : Nat) (h8 : F.fn 72) (hro : F.round = none) (hn : 1 ≤ n) (l Bs n0 : Nat) (A : Option Addr) (cap : Nat) (L : List DAnd) (hl : L.length ≤ 1000) (J Jx : List (Rnd L.length) → World → Prop)
    (hY : ∀ pre x W, J pre W → pre.length < L.length → YieldAt F (n - 1) Try.prog l (backV L x) W fun e W' =>
      (e = .returned (.bool true) ∧ J (pre ++ [x]) W' ∧ KeepB n0 Bs W W') ∨ (e = .returned (.bool false) ∧ Jx (pre ++ [x]) W'))
    (W : World) (hBs : W.cell? ⟨Bs, 0, none⟩ = some (.slice A L.length cap)) (hr : rdAndS 0 n0 W [.slice A L.length cap] L) (h0 : J [] W) :
    CallsIn F n Try.prog 72 #[.func (.yield l) #[] #[], .pointer (some ⟨Bs, 0, none⟩)] W fun e W' => (∃ v, e = .returned v) ∧
      ((∃ ys, ys = rnds L.length ∧ J ys W') ∨ (∃ pre, True ∧ Jx pre W')) := by
  have HR := Lib.hid hr
  have HY := Lib.hid hY
  clear hr hY
  refine callsIn_of_wp Try.func72 rfl h8 ?_ hro
  simp only [Try.ntmps72, List.size_toArray, List.length_cons, List.length_nil, Nat.reduceAdd, Nat.reduceSub, Array.replicate_succ, Array.replicate_zero, List.push_toArray, List.append_toArray, List.nil_append, List.cons_append]
  gi_wp2
  gi_loopw [3] (fun v wr => ∃ k : Nat, k ≤ L.length ∧ v = .int .i64 ((L.length : Int) - 1 - k) ∧ J ((rnds L.length).take k) wr ∧ KeepB n0 Bs W wr)
    (fun v _ => (intOf v + 1).toNat)
  case atStart => exact ⟨0, Nat.zero_le _, by simp, h0, Below.refl _ _, rfl⟩
  case round =>
    obtain ⟨k, hk, rfl, hJs, hnx⟩ := hrel
    have hb := hnx.cell hBs
    by_cases hlt : k < L.length
    · obtain ⟨fn, tmps, assign, body, hy, hR⟩ := HY.out _ ⟨k, hlt⟩ wr hJs (by rw [List.length_take, rnds_len]; omega)
      obtain ⟨i, hi⟩ : ∃ i, L.length - 1 - k = i := ⟨_, rfl⟩
      have hil : i < L.length := by omega
      have hie : ((L.length : Int) - 1 - k) = (i : Int) := by omega
      have hd : L.getD (L.length - 1 - k) (0, 0) = L[i] := by rw [hi, List.getD_eq_getElem?_getD, List.getElem?_eq_getElem hil]; rfl
      obtain ⟨b, q, rfl, hb1, x0, -, x1, -⟩ := at_And (good_AndS _ _ _ _ _ _ _ _ HR.out (Nat.le_refl _) (Nat.le_refl _) (fun b _ hb => hnx.1.block b hb)) (List.getElem?_eq_getElem hil)
      obtain ⟨x, hx⟩ : ∃ x, L[i].1 = x := ⟨_, rfl⟩
      obtain ⟨y, hyy⟩ : ∃ y, L[i].2 = y := ⟨_, rfl⟩
      rw [hx] at x0
      rw [hyy] at x1
      unfold backV at hy
      dsimp only at hy
      rw [hd, hx, hyy, hie] at hy
      rw [hie]
      have ti : (i : Int) < (L.length : Int) := by omega
      have HK := Lib.hid hnx
      have HI := Lib.hid hi
      clear hnx hJs hd hx hyy hi hie hb1
      gi_wp2
      refine hR.mono ?_
      rintro e W3 (⟨rfl, hJ3, hk3⟩ | ⟨rfl, hJx3⟩)
      · have HJ := Lib.hid (show J ((rnds L.length).take (k + 1)) W3 by rw [rnds_step hlt]; exact hJ3)
        have HK3 := Lib.hid (keepB_t HK.out hk3)
        clear hJ3 hk3 x0 x1 hb
        gi_wp2
        go_roundw
        case rel => exact ⟨k + 1, by omega, by have := HI.out; go_num, HJ.out, HK3.out⟩
        case measure => simp [intOf] <;> omega
      · clear x0 x1 hb
        gi_wp2
        refine bodyPost_ret (results_none rfl _ _ _) rfl ?_
        exact ⟨⟨_, rfl⟩, .inr ⟨_, trivial, hJx3⟩⟩
    · obtain rfl : k = L.length := by omega
      have HJ := Lib.hid (show J (rnds L.length) wr by rw [← List.take_length (l := rnds L.length), rnds_len]; exact hJs)
      clear hJs hnx hb
      gi_wp2
      go_end0
      exact ⟨⟨_, rfl⟩, .inl ⟨_, rfl, HJ.out⟩⟩
theorem back_stops (F : Fence) (n : Nat) (h8 : F.fn 72) (hro : F.round = none) (hn : 1 ≤ n) (Bs n0 : Nat) (A : Option Addr) (cap : Nat) (L : List DAnd) (hl : L.length ≤ 1000)
    (w : World) (hB : Bs < w.heap.size) (hn0 : n0 ≤ w.heap.size) (hc : w.cell? ⟨Bs, 0, none⟩ = some (.slice A L.length cap)) (hr : rdAndS 0 n0 w [.slice A L.length cap] L) :
    SeqStopsK F n Try.prog 72 #[.pointer (some ⟨Bs, 0, none⟩)] (backV L) (KeepB n0 Bs) (fun ys => ys = rnds L.length) (fun _ => True) L.length w := fun l J Jx W hW _ _ hY h0 =>
  back1_in F n h8 hro hn l Bs n0 A cap L hl J Jx hY W ((hW.cell (p := ⟨Bs, 0, none⟩) hB).trans hc) (good_AndS _ _ _ _ _ _ _ _ hr (Nat.le_refl _) (Nat.le_refl _) (fun b _ hb => hW.block b (Nat.lt_of_lt_of_le hb hn0))) h0
end Go.Proofs.Ytiejilmgchmppaa
/- Lift: Regions that draw their order in the round of a range over a function: as anywhere, at the wide fence. -/
namespace Go.Proofs.Ytiejilmgchmppaa
open Go.RowKit
set_option linter.unusedVariables false

/-- The normal way alone. -/
def OnlyN (Q : Exit → Act → World → Prop) : Exit → Act → World → Prop
  | .normal, a, w => Q .normal a w
  | _, _, _ => False
theorem OnlyN.normal {Q : Exit → Act → World → Prop} {a : Act} {w : World} (h : Q .normal a w) : OnlyN Q .normal a w := h
theorem OnlyN.imp {Q : Exit → Act → World → Prop} : ∀ (e : Exit) (a : Act) (w : World), OnlyN Q e a w → Q e a w := fun e a w h => by
  cases e <;> first | exact h | exact (h : False).elim
def noDefer (ops : Array Oper) : Bool := ops.all fun o => match o.op with | .defer _ => false | _ => true
section
variable {P : Program} {ops : Array Oper} {Q : Exit → Act → World → Prop} {S : World → Prop} {l m : Nat}
theorem opLift {o : Oper} {a : Act} {w : World} {next : Act → World → Prop} (hd : ∀ c, o.op ≠ .defer c) (h : Oper.wp P o a w next Q) : Oper.wpIn (Fence.wide.inRound l) m P o a w next Q := by
  refine ⟨fun _ _ => trivial, ?_⟩
  rw [Fence.inRound_round, Oper.semAt_some l _ _ hd]
  unfold Oper.wp at h
  generalize (execOp a.eval o).run P w = r at h ⊢
  cases r with
  | halt x w' => cases x <;> first | exact h | exact (h : False).elim
  | ok x w' =>
    cases x with
    | value v => exact h
    | skip => exact h
    | defer d => exact h
    | enter f args => exact ⟨(fun h' => by cases h'), CallsIn.inRound l (callsIn_wide.2 h)⟩
    | row row args => exact ⟨(fun h' => by cases h'), fun c cs _ => let ⟨v, w'', r, s⟩ := (h : Rows P row args w' _) c cs; ⟨v, w'', r, stepsIn_wide.2 s⟩⟩
    | _ => exact (h : False).elim
theorem wpAnyLift (hd : noDefer ops = true) (hQ : ∀ a w, ¬ Q .outgrown a w) : ∀ (f : Nat) (L : Array Bool) (a : Act) (w : World), wpAny P .any ops Q f L a w → wpAnyIn (Fence.wide.inRound l) m P .any ops Q f L a w := by
  intro f
  induction f with
  | zero => intro L a w h; exact h
  | succ f ih =>
    intro L a w h
    refine ⟨h.1, fun i hi => ?_⟩
    have h2 := h.2 i hi
    unfold wpOp at h2
    unfold wpOpIn
    cases ho : ops[i]? with
    | none => rw [ho] at h2; exact ih _ _ _ h2
    | some o =>
      rw [ho] at h2
      dsimp only at h2 ⊢
      have hm : o ∈ ops := Array.mem_of_getElem? ho
      have hdo : ∀ c, o.op ≠ .defer c := fun c e => by
        have h3 := Array.all_eq_true'.1 hd o hm
        rw [e] at h3; cases h3
      by_cases hw : Region.wanted o (yielded ops a.tmps) = true
      · rw [if_pos hw] at h2 ⊢
        rcases h2 with h2 | ⟨_, h2⟩
        · exact Oper.wpIn_mono (fun a w h => ih _ a w h) (opLift hdo h2)
        · obtain ⟨a', w', h3⟩ := h2
          exact absurd h3 (hQ a' w')
      · rw [if_neg hw] at h2 ⊢
        exact ⟨fun _ _ => trivial, ih _ _ _ h2⟩
theorem wpIn_region_kept {id : Nat} {a : Act} {w : World} (n N : Nat) (S : World → Prop) (hm : P.follows .mixedOrders = true) (hN : ops.size = N) (hd : noDefer ops = true) (hS : S w.drew) (h : S w.drew → Kept P .any ops (OnlyN Q) S n N (Array.replicate N false) a w.drew) :
    (Code.region id ops true).wpIn (Fence.wide.inRound l) m P Q a w := by
  subst hN
  refine wpIn_mono (Q := OnlyN Q) (wpIn_region_any hm (wpAnyLift hd (fun _ _ h => h) _ _ _ _ (wpKept.any _ _ _ _ (h hS ⟨by simp, fun j oj _ hl => (by rw [getD_replicate_false] at hl; cases hl), fun t _ ht => getD_in (by simpa using ht) (getD_replicate_false _ _)⟩)))) OnlyN.imp
end
end Go.Proofs.Ytiejilmgchmppaa
/- Net12: The cones of nodes: the program. -/
namespace Go.Proofs.Ytiejilmgchmppaa
open Go.RowKit
set_option linter.unusedVariables false
set_option linter.unusedSimpArgs false

attribute [local go_sem] Oper.semAt_some

theorem calls_marks {P : Program} (n : Nat) {f : FuncId} {fn : Func} {c : Code} {args : Array Value} {w : World} {R : Ending → World → Prop} (hf : P.funcs[f]? = some fn) (hb : fn.body = some c)
    (h : c.wp P (bodyPostM Fence.wide n P fn R) { tmps := args ++ Array.replicate (fn.ntmps - args.size) undef, defers := [] } w) : Calls P f args w R :=
  callsIn_wide.1 (callsIn_of_wp_marks (n := n) hf hb trivial (wpIn_wide.2 h) rfl)
/-- The law of a range over a function whose loop variable is boxed: the frame of a round in the words of the frame ahead of it. -/
theorem rangeBox {F : Fence} {n : Nat} {P : Program} {α : Type} {g : Operand} {ps : Array Tmp} {assign body : Code} {Q : Exit → Act → World → Prop} {a : Act} {w : World}
    (hro : F.round = none) (h1 : 1 ≤ n) {gf : Nat} {lb : Array Value} (hg : a.eval g = .func (.func gf) #[] lb) (hFg : F.fn gf) (eg : ∀ args w, (callFunc gf args).run P w = .ok (.enter gf args) w)
    {encs : α → Array Value} {Kp : World → World → Prop} {S Sp : List α → Prop} {N : Nat} {w0 : World} (hseq : SeqStopsK F (n - 1) P gf lb encs Kp S Sp N w0)
    (hKt : ∀ {A B C : World}, Kp A B → Kp B C → Kp A C) (hKb : ∀ (W : World) (l : Nat) (o o' : Obj), w.heap.size ≤ l → W.heap[l]? = some o → o.isCells = false → o.isWalk = false → Kp W (W.putObj l o')) (hb0 : Below w0.heap.size w0 w) (hps : ∀ x, (encs x).size = ps.size)
    (I : List α → World → Prop) (hI : OwnFrom w.heap.size I) (h0 : I [] w) (bx : α → Nat → World → Prop) (hbx : ∀ x b, OwnFrom w.heap.size (fun (_ : Unit) W => bx x b W)) (setA : Array Value → α → Nat → Array Value)
    (hassign : ∀ (l : Nat) (pre : List α) (x : α) (W : World) (K : Act → World → Prop), I pre W → (∀ b W', KeepsFrom w.heap.size W W' → Kp W W' → I pre W' → bx x b W' → K { tmps := setA a.tmps x b, defers := [] } W') →
      assign.wpIn (F.inRound l) (n - 1 - 1) P (Exit.then K (fun _ _ _ => False)) { tmps := (ps.zip (encs x)).foldl (fun t (p, v) => t.setIfInBounds p v) a.tmps, defers := [] } W)
    (hbody : ∀ (l : Nat) (pre : List α) (x : α) (b : Nat) (W : World), I pre W → bx x b W → pre.length < N → body.wpIn (F.inRound l) (n - 1 - 1) P (ownPostG w.heap.size Kp I (fun _ _ _ => False) (pre ++ [x]) W) { tmps := setA a.tmps x b, defers := [] } W)
    (hdone : ∀ (D : Nat) (xs : List α) (W : World), w.heap.size ≤ D → S xs → I xs W → W.heap[D]? = some (.deferred (some [])) → Q .normal { a with defers := { target := .collected D, args := #[] } :: a.defers } W) :
    (Code.rangeFunc g ps assign body).wpIn F n P Q a w := by
  refine wpIn_rangeFunc_ownH hro h1 hg hFg eg hseq hKt hKb hb0 hps I (fun _ _ _ => False) hI (fun _ _ _ _ _ hs _ _ => hs) h0 (fun x a' W => ∃ b, bx x b W ∧ a' = { tmps := setA a.tmps x b, defers := [] }) ?_ ?_ ?_ hdone (fun _ _ _ _ _ _ h _ => h.elim)
  · rintro x a' s W W' row ⟨b, hb, he⟩ hg hr
    exact ⟨b, hbx x b () W W' row hb hg hr, he⟩
  · intro l pre x W K hi hK
    exact hassign l pre x W K hi fun b W' h1 h2 h3 h4 => hK _ W' h1 h2 h3 ⟨b, h4, rfl⟩
  · rintro l pre x a' W - - hi ⟨b, hb, rfl⟩ hlt
    exact hbody l pre x b W hi hb hlt
theorem bThen' {B : Nat} {a w1 w2 : World} (h : Below B a w1) (hB : B ≤ a.heap.size) (hs : a.heap.size ≤ w1.heap.size) (k : Below w1.heap.size w1 w2) : Below B a w2 := h.trans (k.mono (Nat.le_trans hB hs))
theorem keeps_below {W W' : World} (h : Below W.heap.size W W') : KeepsOthers W W' := ⟨h.size, fun k o hk _ => (h.block k (Array.getElem?_eq_some_iff.1 hk).1).trans hk⟩
theorem ownsB_own {β : Type} (B : Nat) (v : Value) (f : β → List Bool) : Own (fun s W => OwnsB W B v (f s)) := by
  intro s X Y row h hg hrow
  refine World.ownsRow.kept h (row := row) hg ?_
  rcases h.2 with ⟨rfl, _⟩ | ⟨g, cap, cur, rfl, _, hgb, _⟩
  · exact .inl rfl
  · refine .inr (fun e => ?_)
    obtain ⟨o, ho, hc⟩ := hrow g e.symm
    rw [hgb] at ho; cases ho; cases hc
/-- The marks M, spread from the AND node of round j. -/
def stepM (n : DNet) (M : List Bool) (j : Nat) : List Bool := match n.2.2.1[n.2.2.1.length - 1 - j]? with
  | some a => if M.getD (firN n + (n.2.2.1.length - 1 - j)) false then (M.set (a.1.toNat / 2) true).set (a.2.toNat / 2) true else M
  | none => M
theorem markK_stepM (n : DNet) (M : List Bool) (j : Nat) : markK n M (j + 1) = stepM n (markK n M j) j := rfl
theorem stepM_len (n : DNet) (M : List Bool) (j : Nat) : (stepM n M j).length = M.length := by
  unfold stepM
  split
  · split <;> simp
  · rfl
def foldM (n : DNet) (M : List Bool) (xs : List (Rnd n.2.2.1.length)) : List Bool := xs.foldl (fun M x => stepM n M x.1) M
theorem foldM_add (n : DNet) (M : List Bool) (xs : List (Rnd n.2.2.1.length)) (x : Rnd n.2.2.1.length) : foldM n M (xs ++ [x]) = stepM n (foldM n M xs) x.1 := by simp [foldM]
theorem foldM_len (n : DNet) (xs : List (Rnd n.2.2.1.length)) : ∀ M : List Bool, (foldM n M xs).length = M.length := by
  unfold foldM
  induction xs with
  | nil => intro M; rfl
  | cons x xs ih => intro M; rw [List.foldl_cons, ih, stepM_len]
theorem foldM_take (n : DNet) (M : List Bool) : ∀ k, k ≤ n.2.2.1.length → foldM n M ((rnds n.2.2.1.length).take k) = markK n M k
  | 0, _ => by simp [foldM, markK]
  | k + 1, h => by rw [rnds_step (by omega), foldM_add, foldM_take n M k (by omega), markK_stepM]
theorem foldM_all (n : DNet) (M : List Bool) : foldM n M (rnds n.2.2.1.length) = markL n M := by
  have h := foldM_take n M n.2.2.1.length (Nat.le_refl _)
  rw [List.take_of_length_le (by rw [rnds_len]; exact Nat.le_refl _)] at h
  exact h
theorem stepM_hit {n : DNet} {M : List Bool} {j i x y : Nat} (hi : n.2.2.1.length - 1 - j = i) (h : n.2.2.1[i]? = some ((x : Int), (y : Int))) (hb : M.getD (firN n + i) false = true) : stepM n M j = (M.set (x / 2) true).set (y / 2) true := by
  unfold stepM; rw [hi, h]; simp only [hb, if_true, Int.toNat_natCast]
theorem stepM_miss {n : DNet} {M : List Bool} {j i : Nat} {a : DAnd} (hi : n.2.2.1.length - 1 - j = i) (h : n.2.2.1[i]? = some a) (hb : M.getD (firN n + i) false = false) : stepM n M j = M := by
  unfold stepM; rw [hi, h]; simp only [hb, Bool.false_eq_true, if_false]
/-- The nodes P marked. -/
def setsL (N : Nat) (P : List Int) : List Bool := P.foldl (fun M x => M.set x.toNat true) (List.replicate N false)
theorem setsL_len (N : Nat) (P : List Int) : (setsL N P).length = N := by
  unfold setsL
  suffices ∀ (P : List Int) (M : List Bool), (P.foldl (fun M x => M.set x.toNat true) M).length = M.length by rw [this]; simp
  intro P
  induction P with
  | nil => intro M; rfl
  | cons r P ih => intro M; rw [List.foldl_cons, ih, List.length_set]
theorem setsL_step {N : Nat} {P : List Int} {k p : Nat} (h : P[k]? = some (p : Int)) : setsL N (P.take (k + 1)) = (setsL N (P.take k)).set p true := by
  unfold setsL
  rw [List.take_add_one, h, List.foldl_append]
  simp
theorem sets_nodes (N : Nat) (R : List Int) : setsL N (nodesL R) = seenL N R := by
  unfold setsL nodesL seenL
  rw [List.foldl_map]
  congr 1
end Go.Proofs.Ytiejilmgchmppaa
/- Net13: Cones and what is reached: the program. -/
namespace Go.Proofs.Ytiejilmgchmppaa
open Go.RowKit
set_option linter.unusedVariables false
set_option linter.unusedSimpArgs false

theorem rd_lit1N {w : World} {g : Nat} {x : Int} (h : w.heap[g]? = some (.cells #[.int .i64 x] 3 (0, 0))) (hx : Fit x) : rdIntS g (g + 1) w [.slice (some ⟨g, 0, none⟩) 1 1] [x] := by
  refine ⟨_, _, rfl, by simp [maxLen], fun j hj => ⟨g, 0, rfl, Nat.le_refl _, Nat.lt_succ_self _, ?_⟩⟩
  match j, hj with
  | 0, _ => exact ⟨[.int .i64 x], rfl, fun i u hu => (by match i, hu with | 0, hu => (injection hu with hu; subst hu; exact box_cell h 0 _ rfl)), rfl, hx⟩
theorem fit_nodes {L : List Int} {N : Nat} (hN : N ≤ 1000) (h : ∀ (k : Nat) (x : Int), L[k]? = some x → ∃ p : Nat, x = (p : Int) ∧ p < N) : ∀ x ∈ L, Fit x := fun x hx => by
  obtain ⟨k, hk, e⟩ := List.getElem_of_mem hx
  obtain ⟨p, rfl, hp⟩ := h k x (by rw [List.getElem?_eq_getElem hk, e])
  unfold Fit; omega
theorem nodes_in {n : DNet} (hP : NetP n) : ∀ (k : Nat) (x : Int), (nodesL (rootsL n))[k]? = some x → ∃ p : Nat, x = (p : Int) ∧ p < netN n := fun k x h => by
  unfold nodesL at h
  rw [List.getElem?_map] at h
  cases hg : (rootsL n)[k]? with
  | none => rw [hg] at h; cases h
  | some y =>
    rw [hg] at h
    obtain ⟨l, rfl, hl⟩ := hP.root y (List.mem_of_getElem? hg)
    exact ⟨l / 2, by simpa using h.symm, hl⟩
end Go.Proofs.Ytiejilmgchmppaa
