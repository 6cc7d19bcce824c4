/-
  Slices of bools: of one's own, read, compared, marked, held.
-/
import Derived.Test.YtnobdbppechccaaOwN
import Derived.Laws.MakeOwn
import Derived.Test.YtnobdbppechccaaBits64
namespace Go.Proofs.Ytnobdbppechccaa
open Go.RowKit
set_option linter.unusedVariables false
set_option linter.unusedSimpArgs false

def rdBool : Rd Bool := fun _ _ _ vs x => vs = [.bool x]
theorem good_Bool : Rd.Good rdBool := fun _ _ _ _ _ _ _ _ h _ _ _ => h
abbrev rdBoolS : Rd (List Bool) := rdS 1 rdBool
theorem good_BoolS : Rd.Good rdBoolS := rdS_good 1 good_Bool
def fB (x : Bool) : List Value := [.bool x]
theorem fB_len (x : Bool) : (fB x).length = 1 := rfl
abbrev OwnsB (w : World) (B : Nat) (v : Value) (W : List Bool) : Prop := OwnsR fB 1 4 w B v W
theorem OwnsB.rd {w : World} {B : Nat} {v : Value} {W : List Bool} (h : OwnsB w B v W) : rdBoolS B w.heap.size w [v] W := by
  obtain ⟨A, c, hv, hsh⟩ := OwnsR.shape fB_len h
  have hm : W.length ≤ maxLen ∧ W.length ≤ c := by
    rcases h.2 with ⟨e, h0⟩ | ⟨g, cap, cur, e, _, _, h1, h2, _⟩
    · omega
    · rw [hv] at e; injection e with _ _ e; omega
  refine ⟨A, c, by rw [hv], hm, fun j hj => ?_⟩
  obtain ⟨g, hg, hc⟩ := hsh j hj
  have hB : B ≤ g := by
    rcases h.2 with ⟨e, h0⟩ | ⟨g', cap, cur, e, e2, _⟩
    · omega
    · rw [hv] at e; injection e with e; rw [hg] at e; injection e with e; injection e with e; omega
  refine ⟨g, 0, hg, hB, World.block_lt_of_cell? _ _ (hc 0 _ rfl).1, [.bool W[j]], rfl, fun i u hu => ?_, rfl⟩
  rw [Nat.zero_add]
  exact (hc i u hu).1
theorem eqbox3 {w W : World} {o1 o2 o3 : Obj} (h : W = ((w.alloc o1).alloc o2).alloc o3) : W.heap[w.heap.size]? = some o1 ∧ W.heap[w.heap.size + 1]? = some o2 ∧ W.heap[w.heap.size + 1 + 1]? = some o3 ∧ Below w.heap.size w W := by subst h; exact box3 (Below.refl _ _)
theorem infoB : (Try.prog.info? 4).map (fun i => (i.zero, i.size, i.bytes)) = some (some (.bool false), 1, 1) := by kernel_rfl
theorem OwnsB.shapeN {w : World} {B g n c : Nat} {W : List Bool} (h : OwnsB w B (.slice (some ⟨g, 0, none⟩) n c) W) {t : Nat} (hn : W.length = n) (ht : t < n) : w.cell? ⟨g, t, none⟩ = some (.bool (W.getD t false)) ∧ w.frozen? ⟨g, t, none⟩ = false := by
  obtain ⟨A, c', hv, hsh⟩ := OwnsR.shape fB_len h
  injection hv with e1 e2 e3
  obtain ⟨g', hg, hc⟩ := hsh t (by omega)
  rw [← e1] at hg; injection hg with hg; injection hg with hg; subst hg
  have h0 := hc 0 _ rfl
  rw [Nat.mul_one, Nat.add_zero] at h0
  rw [List.getD_eq_getElem?_getD, List.getElem?_eq_getElem (by omega)]
  exact h0
theorem OwnsB.set {w : World} {B g n c : Nat} {W : List Bool} (h : OwnsB w B (.slice (some ⟨g, 0, none⟩) n c) W) {t : Nat} (hn : W.length = n) (ht : t < n) (b : Bool) : OwnsB (w.setCell ⟨g, t, none⟩ (.bool b)) B (.slice (some ⟨g, 0, none⟩) n c) (W.set t b) := by
  subst hn
  have h1 := (OwnsR.stored fB_len (j := t) (i := 0) (u := (.bool b : Value)) (y := b) h ht (by omega) rfl).1
  rw [Nat.mul_one, Nat.add_zero] at h1
  exact h1
theorem OwnsI.atI {w w' : World} {B : Nat} {v : Value} {L : List Int} (h : OwnsI w B v L) (hk : ∀ j, v.ownBlock = some j → w'.heap[j]? = w.heap[j]?) : OwnsI w' B v L := by
  obtain ⟨h1, h2⟩ := h
  refine ⟨h1, ?_⟩
  rcases h2 with h2 | ⟨g, cap, cur, rfl, e2, e3, e4⟩
  · exact .inl h2
  · exact .inr ⟨g, cap, cur, rfl, e2, (hk g rfl).trans e3, e4⟩
theorem OwnsI.setFar {w : World} {B : Nat} {v : Value} {L : List Int} (h : OwnsI w B v L) {g t : Nat} {u : Value} (hne : v.ownBlock ≠ some g) : OwnsI (w.setCell ⟨g, t, none⟩ u) B v L :=
  h.atI fun j hj => Below.heap_setCell w _ _ j (by intro e; exact hne (by rw [hj]; exact congrArg some e))
theorem OwnsB.atB {w w' : World} {B g n c : Nat} {W : List Bool} (h : OwnsB w B (.slice (some ⟨g, 0, none⟩) n c) W) (hk : w'.heap[g]? = w.heap[g]?) : OwnsB w' B (.slice (some ⟨g, 0, none⟩) n c) W := by
  obtain ⟨h1, h2⟩ := h
  refine ⟨h1, ?_⟩
  rcases h2 with ⟨h2, _⟩ | ⟨g', cap, cur, e1, e2, e3, e4⟩
  · cases h2
  · injection e1 with e5 e6 e7; injection e5 with e5; injection e5 with e5; subst e5
    exact .inr ⟨g, c, cur, by rw [e6], e2, hk.trans e3, by rw [e7]; exact e4⟩
theorem OwnsB.ltN {w : World} {B g n c : Nat} {W : List Bool} (h : OwnsB w B (.slice (some ⟨g, 0, none⟩) n c) W) : g < w.heap.size ∧ B ≤ g := by
  rcases h.2 with ⟨h2, _⟩ | ⟨g', cap, cur, e1, e2, e3, e4⟩
  · cases h2
  · injection e1 with e5 e6 e7; injection e5 with e5; injection e5 with e5; subst e5
    exact ⟨(Array.getElem?_eq_some_iff.1 e3).1, e2⟩

set_option maxHeartbeats 1600000 in
theorem eqBoolS_any (L : List Bool) (a b : Value) {B T B' T' : Nat} (w : World) (h : rdBoolS B T w [a] L) (h' : rdBoolS B' T' w [b] L) (hT : T ≤ w.heap.size) (hT' : T' ≤ w.heap.size) :
    Calls Try.prog 37 #[a, b] w fun e w' => e = .returned (.bool true) ∧ Below w.heap.size w w' := by
  obtain ⟨A, c, ea, hm, hA⟩ := h
  obtain ⟨A', c', eb, _, hA'⟩ := h'
  injection ea with ea
  injection eb with eb
  subst ea eb
  unfold maxLen at hm
  have HA := Lib.hid hA
  have HA' := Lib.hid hA'
  clear hA hA'
  go_enter Try.func37, Try.ntmps37
  go_wp2
  go_loopw [5] (fun i wr => ∃ k : Nat, k ≤ L.length ∧ i = .int .i64 k ∧ Below w.heap.size w wr) (fun i _ => L.length - (intOf i).toNat)
  case atStart => exact ⟨0, Nat.zero_le _, rfl, Below.refl _ _⟩
  case round =>
    obtain ⟨k, hk, rfl, hbel⟩ := hrel
    by_cases hlt : k < L.length
    · obtain ⟨p, o, rfl, _, hp, us, hl, hc, hr⟩ := HA.out k hlt
      obtain ⟨p', o', rfl, _, hp', us', hl', hc', hr'⟩ := HA'.out k hlt
      have HR := Lib.hid (And.intro hr hr')
      clear HA HA'
      have e0 : us = [.bool L[k]] := hr
      have e1 : us' = [.bool L[k]] := hr'
      subst e0 e1
      have c0 := keep hbel (hc 0 _ rfl)
      have d0 := keep hbel (hc' 0 _ rfl)
      rw [Nat.add_zero, Nat.mul_one] at c0 d0
      have HB := Lib.hid hbel
      generalize L[k] = x at c0 d0
      clear hbel hc hc' HR hl hl' hr hr'
      go_wp2
      (try go_quiet (fail))
      (try go_wp2)
      go_roundw
      case rel => exact ⟨k + 1, by omega, by go_num, by have hB := HB.out; (repeat' (first | assumption | exact Below.refl _ _ | refine bDrewN ?_ _ | refine Below.drew ?_ | refine bAlloc ?_ (Nat.le_refl _) _ | refine bSet ?_ (by first | exact Nat.le_refl _ | omega | (simp <;> omega)) _))⟩
      case measure => simp [intOf]; omega
    · have HB := Lib.hid hbel
      clear hbel
      go_wp2
      go_ret
      exact ⟨rfl, HB.out⟩

def owBool : Ow Bool := fun bs _ vs x => bs = [] ∧ vs = [.bool x]
theorem owBool_good : owBool.Good := ⟨fun _ _ _ _ _ h _ => h, fun _ _ _ _ ⟨h, _⟩ b hb => by rw [h] at hb; cases hb⟩
theorem owBool_rds : Ow.Rds owBool rdBool := fun _ _ _ _ _ _ ⟨_, h⟩ _ => h
def cntBoolS (L : List Bool) : Nat := L.length
theorem cntBoolS_step (L : List Bool) (i : Nat) (x : Bool) (h : L[i]? = some x) : cntBoolS (L.take (i + 1)) = cntBoolS (L.take i) + 1 := by
  unfold cntBoolS; rw [List.take_add_one, h, List.length_append]; rfl
theorem cntBoolS_le (L : List Bool) (i : Nat) : cntBoolS (L.take i) ≤ cntBoolS L := by unfold cntBoolS; rw [List.length_take]; omega
abbrev owBoolS : Ow (List Bool) := owS 1 owBool
theorem gow_BoolS : Ow.Good owBoolS := owS_good 1 owBool_good
theorem rds_BoolS : Ow.Rds owBoolS rdBoolS := owS_rds 1 owBool_rds
def numBool (k : Int) (_ : Bool) : Bool := (k % 3 == 0)
def numBoolS (k : Int) (L : List Bool) : List Bool := numG numBool (fun _ => 1) k L
theorem cntG_BoolS (L : List Bool) : cntG (fun _ : Bool => 1) L = cntBoolS L := by
  unfold cntG cntBoolS
  induction L with
  | nil => rfl
  | cons x xs ih => rw [List.map_cons, List.sum_cons, ih, List.length_cons]; omega
theorem numBoolS_set (L : List Bool) (i : Nat) (x : Bool) (k cc : Int) (h : L[i]? = some x) (hc : (cntBoolS (L.take i) : Int) = cc) : (numBoolS k (L.take i) ++ L.drop i).set i (numBool (k + cc) x) = numBoolS k (L.take (i + 1)) ++ L.drop (i + 1) := by
  have h1 := numG_set numBool (fun _ : Bool => 1) L i x k h
  rw [cntG_BoolS, hc] at h1; exact h1
theorem numBoolS_mid (L : List Bool) (i : Nat) (x : Bool) (k : Int) (h : L[i]? = some x) : (numBoolS k (L.take i) ++ L.drop i)[i]? = some x := numG_mid numBool (fun _ : Bool => 1) L i x k h
theorem numBoolS_get (L : List Bool) (i : Nat) (x : Bool) (k cc : Int) (h : L[i]? = some x) (hc : (cntBoolS (L.take i) : Int) = cc) : (numBoolS k L)[i]? = some (numBool (k + cc) x) := by
  have h1 := numG_get numBool (fun _ : Bool => 1) L i x k h
  rw [cntG_BoolS, hc] at h1; exact h1
theorem numBoolS_len (L : List Bool) (k : Int) : (numBoolS k L).length = L.length := numG_len numBool (fun _ : Bool => 1) L k
theorem numBoolS_midlen (L : List Bool) (i : Nat) (k : Int) (h : i ≤ L.length) : (numBoolS k (L.take i) ++ L.drop i).length = L.length := by
  rw [List.length_append, numBoolS_len, List.length_take, List.length_drop]; omega

set_option maxHeartbeats 6400000 in
theorem markBoolS_own (L : List Bool) (A : Option Addr) (n c : Nat) (bs : List Nat) (k : Int) (w : World) (h : owBoolS bs w [.slice A n c] L) (nd : bs.Nodup) (hk0 : 0 ≤ k) (hk : k + (cntBoolS L : Int) ≤ 4611686018427387904) :
    Calls Try.prog 38 #[.slice A n c, .int .i64 k] w fun e w' => e = .returned (.int .i64 (k + (cntBoolS L : Int))) ∧ owBoolS bs w' [.slice A n c] (numBoolS k L) ∧ ChgL bs w w' := by
  obtain ⟨A', c', ea, hm, -⟩ := id h
  injection ea with ea
  injection ea with e1 e2 e3
  subst e2
  clear e1 e3
  unfold maxLen at hm
  have HA := Lib.hid h
  have ND := Lib.hid nd
  clear h nd
  go_enter Try.func38, Try.ntmps38
  go_wp2
  go_loopw [1, 5] (fun q v wr => ∃ i : Nat, i ≤ L.length ∧ v = .int .i64 i ∧ q = .int .i64 (k + (cntBoolS (L.take i) : Int)) ∧ owBoolS bs wr [.slice A L.length c] (numBoolS k (L.take i) ++ L.drop i) ∧ ChgL bs w wr) (fun _ v _ => L.length - (intOf v).toNat)
  case atStart => exact ⟨0, Nat.zero_le _, rfl, by simp [cntBoolS], by simpa [numBoolS, numG] using HA.out, ChgL.refl _ _⟩
  case round =>
    obtain ⟨i, hi, rfl, rfl, hown, hchg⟩ := hrel
    obtain ⟨W, rfl⟩ : ∃ W, W = wr := ⟨_, rfl⟩
    have HO := Lib.hid hown
    have HG := Lib.hid hchg
    have hle := cntBoolS_le L i
    clear hown hchg HA
    by_cases hlt : i < L.length
    · obtain ⟨x, hxx⟩ : ∃ x, L[i] = x := ⟨_, rfl⟩
      have hx? : L[i]? = some x := by rw [List.getElem?_eq_getElem hlt, hxx]
      have hil : i < (numBoolS k (L.take i) ++ L.drop i).length := by rw [numBoolS_midlen L i k (by omega)]; exact hlt
      obtain ⟨g, o, bj, us, rfl, hgb, hbj, hgl, hul, hc, hx, hgn, hnd, hset⟩ := owS_elem owBool_good HO.out ND.out i hil
      have hmx : (numBoolS k (L.take i) ++ L.drop i)[i] = x := by have h := numBoolS_mid L i x k hx?; rw [List.getElem?_eq_getElem hil] at h; injection h
      rw [hmx] at hx
      have hst := cntBoolS_step L i x hx?
      have hle2 := cntBoolS_le L (i + 1)
      obtain ⟨cc, hcc⟩ : ∃ c : Int, (cntBoolS (L.take i) : Int) = c := ⟨_, rfl⟩
      have hns := numBoolS_set L i x k cc hx? hcc
      have HNS := Lib.hid hns
      have HSET := Lib.hid hset
      clear hxx hx? hmx hns hset
      obtain ⟨bj0, e0⟩ := hx
      subst e0
      subst bj0
      have xc0 : W.cell? ⟨g, o + i, none⟩ = some (.bool x) := by
        have h := (hc 0 _ rfl).1
        rwa [Nat.mul_one, Nat.add_zero] at h
      have xf0 : W.frozen? ⟨g, o + i, none⟩ = false := by
        have h := (hc 0 _ rfl).2
        rwa [Nat.mul_one, Nat.add_zero] at h
      have hst' : (cntBoolS (L.take (i + 1)) : Int) = cc + 1 := by omega
      have hbnd : k + (cc + 1) ≤ 4611686018427387904 := by rw [← hst']; omega
      have hcc0 : 0 ≤ cc := by omega
      have HST := Lib.hid hst'
      rw [hcc]
      clear hst hle2 hst' hle hc hul hil hcc  hnd
      go_wp2
      go_roundw
      case rel =>
        refine ⟨i + 1, by omega, by go_num, by rw [HST.out]; exact int_eq (by omega), ?_, ?_⟩
        · rw [← HNS.out]
          exact HSET.out _ [_] _ ((by rw [Nat.mul_one]; exact Elem.set (Elem.refl g (o + i) (o + i + 1) [] W) (by omega) (by omega) _)) rfl (cells1 (b := o + i * 1) (by rw [Nat.mul_one]; exact ⟨(set_same xc0), (set_froz xf0)⟩)) (by show owBool _ _ _ _; exact ⟨rfl, by unfold numBool; rfl⟩)
        · refine HG.out.trans (ChgL.wider (bs := g :: []) (Elem.chg (lo := o + i * 1) (hi := o + i * 1 + 1) ((by rw [Nat.mul_one]; exact Elem.set (Elem.refl g (o + i) (o + i + 1) [] W) (by omega) (by omega) _))) fun b hb => ?_)
          rcases List.mem_cons.1 hb with rfl | hb
          · exact hgb
          · exact hbj b hb
      case measure => simp [intOf]; omega
    · obtain rfl : i = L.length := by omega
      have ho := HO.out
      rw [List.take_length, List.drop_length, List.append_nil] at ho
      have HF := Lib.hid ho
      rw [List.take_length]
      clear hle ho
      go_wp2
      go_ret
      exact ⟨rfl, HF.out, HG.out⟩

set_option maxHeartbeats 3200000 in
theorem heldBoolS_num (L : List Bool) (v : Value) {B T : Nat} (k : Int) (w : World) (h : rdBoolS B T w [v] (numBoolS k L)) (hT : T ≤ w.heap.size) (hk0 : 0 ≤ k) (hk : k + (cntBoolS L : Int) ≤ 4611686018427387904) :
    Calls Try.prog 39 #[v, .int .i64 k] w fun e w' => e = .returned (.int .i64 (k + (cntBoolS L : Int))) ∧ Below w.heap.size w w' := by
  obtain ⟨A, c, ea, hm, hA⟩ := h
  injection ea with ea
  rw [numBoolS_len] at ea hm
  subst ea
  unfold maxLen at hm
  have HA := Lib.hid hA
  clear hA
  go_enter Try.func39, Try.ntmps39
  go_wp2
  go_loopw [1, 5] (fun q v wr => ∃ i : Nat, i ≤ L.length ∧ v = .int .i64 i ∧ q = .int .i64 (k + (cntBoolS (L.take i) : Int)) ∧ Below w.heap.size w wr) (fun _ v _ => L.length - (intOf v).toNat)
  case atStart => exact ⟨0, Nat.zero_le _, rfl, by simp [cntBoolS], Below.refl _ _⟩
  case round =>
    obtain ⟨i, hi, rfl, rfl, hb⟩ := hrel
    obtain ⟨W, rfl⟩ : ∃ W, W = wr := ⟨_, rfl⟩
    have HB := Lib.hid hb
    have hle := cntBoolS_le L i
    clear hb
    by_cases hlt : i < L.length
    · obtain ⟨b, o, rfl, _, _, us, hul, hc, hx⟩ := HA.out i (by rw [numBoolS_len]; exact hlt)
      obtain ⟨x, hxx⟩ : ∃ x, L[i] = x := ⟨_, rfl⟩
      have hx? : L[i]? = some x := by rw [List.getElem?_eq_getElem hlt, hxx]
      have hst := cntBoolS_step L i x hx?
      have hle2 := cntBoolS_le L (i + 1)
      obtain ⟨cc, hcc⟩ : ∃ c : Int, (cntBoolS (L.take i) : Int) = c := ⟨_, rfl⟩
      have hng := numBoolS_get L i x k cc hx? hcc
      have hnx : (numBoolS k L)[i]'(by rw [numBoolS_len]; exact hlt) = numBool (k + cc) x := by rw [List.getElem?_eq_getElem (by rw [numBoolS_len]; exact hlt)] at hng; injection hng
      rw [hnx] at hx
      unfold numBool at hx
      clear hxx hx? hng hnx
      have e0 : us = [.bool ((k + cc) % 3 == 0)] := hx
      subst e0
      have xc0 : W.cell? ⟨b, o + i, none⟩ = some (.bool ((k + cc) % 3 == 0)) := by
        have h := keep HB.out (hc 0 _ rfl)
        rwa [Nat.mul_one, Nat.add_zero] at h
      have hst' : (cntBoolS (L.take (i + 1)) : Int) = cc + 1 := by omega
      have hbnd : k + (cc + 1) ≤ 4611686018427387904 := by rw [← hst']; omega
      have hcc0 : 0 ≤ cc := by omega
      have HST := Lib.hid hst'
      rw [hcc]
      clear hst hle2 hst' hle hcc hc hul 
      go_wp2
      go_roundw
      case rel => exact ⟨i + 1, by omega, by go_num, by rw [HST.out]; exact int_eq (by omega), HB.out⟩
      case measure => simp [intOf]; omega
    · obtain rfl : i = L.length := by omega
      rw [List.take_length]
      clear hle
      go_wp2
      go_ret
      exact ⟨rfl, HB.out⟩
/-- As an owned datum. -/
theorem ownB_ow {w : World} {B : Nat} {v : Value} {L : List Bool} (h : OwnsB w B v L) : owBoolS (blkL v) w [v] L := by
  have hA := OwnsR.shape fB_len h
  rcases h.2 with ⟨rfl, h0⟩ | ⟨g, cap, cur, rfl, e2, e3, e4, e5, e6⟩
  · have : L = [] := List.eq_nil_of_length_eq_zero h0
    subst this
    exact ⟨none, 0, rfl, by simp, .inl ⟨rfl, rfl⟩⟩
  · obtain ⟨A, c, hv, hsh⟩ := hA
    injection hv with h1 h2 h3
    refine ⟨_, _, rfl, by omega, .inr ⟨g, 0, fun _ => [], rfl, by simp [blkL_at], (Array.getElem?_eq_some_iff.1 e3).1, fun j hj => ?_⟩⟩
    obtain ⟨g', hg, hc⟩ := hsh j hj
    rw [← h1] at hg
    injection hg with hg
    injection hg with hg
    subst hg
    exact ⟨[.bool L[j]], rfl, fun i u hu => by rw [Nat.zero_add]; exact hc i u hu, rfl, rfl⟩
end Go.Proofs.Ytnobdbppechccaa
