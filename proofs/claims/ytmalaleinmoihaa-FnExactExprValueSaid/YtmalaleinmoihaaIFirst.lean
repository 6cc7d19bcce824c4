/-
  The value of an expression: the program.
-/
import Derived.Test.YtmalaleinmoihaaIEval
import Derived.Test.YtmalaleinmoihaaIOps
import Derived.Test.YtmalaleinmoihaaIntS
import Derived.Test.YtmalaleinmoihaaOwnI
namespace Go.Proofs.Ytmalaleinmoihaa
open Go.RowKit
set_option linter.unusedVariables false
set_option linter.unusedSimpArgs false

def ImplEv (L : List DOp) (V : List Int) (W : Nat) (vv : Value) (f : Nat) : Prop :=
  ∀ (p : Nat) (v : Int) (p' : Nat) (sv : Value) (T : Nat) (w : World), T ≤ w.heap.size → rdOpS 0 T w [sv] (L.drop p) → rdIntS 0 w.heap.size w [vv] V → evP L V W f p = some (v, p') →
    Calls Try.prog 26 #[sv, vv, .int .i64 (W : Int)] w fun e w' => (∃ rv, e = .returned (.tuple #[.int .i64 v, rv]) ∧ rdOpS 0 T w' [rv] (L.drop p')) ∧ Below w.heap.size w w'
theorem rdVia {α : Type} {P : Rd α} (g : P.Good) {T B : Nat} {a w w' : World} {vs : List Value} {x : α} (h : P 0 T w vs x) (h1 : Below B a w) (h2 : Below B a w') (hT : T ≤ B) : P 0 T w' vs x :=
  g 0 T 0 T w w' vs x h (Nat.le_refl _) (Nat.le_refl _) fun b _ hb => (h2.block b (Nat.lt_of_lt_of_le hb hT)).trans (h1.block b (Nat.lt_of_lt_of_le hb hT)).symm
theorem eqbox1d {w W : World} {o1 : Obj} (h : W = (w.alloc o1).drew) : W.heap[w.heap.size]? = some o1 ∧ Below w.heap.size w W := by
  subst h
  exact ⟨heap_alloc_new w o1, Below.drew (bAlloc (Below.refl _ _) (Nat.le_refl _) _)⟩
theorem implOpV_at {V : List Int} {av vv : Value} {A : List Int} {o : DOp} {W : Nat} (hV : ValsIn V) (hW : W ≤ 4) (ho : opB V.length o = true) (h1 : o.1 ≠ 1) (hl : A.length = arN o) (hA16 : ∀ a ∈ A, 0 ≤ a ∧ a < 16) {r : Int} (w : World)
    (hA : rdIntS 0 w.heap.size w [av] A) (hv : rdIntS 0 w.heap.size w [vv] V) (hr : opV V o A = r) :
    Calls Try.prog 31 #[.agg #[.int .i64 o.1, .int .i64 o.2.1, .int .i64 o.2.2], av, vv] w fun e w' => e = .returned (.int .i64 r) ∧ Below w.heap.size w w' := by
  rcases op_cases ho h1 with ⟨a, rfl, ha⟩ | ⟨a, rfl, ha⟩ | ⟨a, s, rfl, ha, hs⟩ | ⟨k, rfl, hk4, hk12⟩
  · exact implOp_k0 A _ w hA hv hr
  · obtain ⟨x, hx, hx15, hxe⟩ := valAt_in hV a ha
    have hr' : valAt V a = r := hr
    rw [hx] at hr'
    exact implOp_k2 A a x w hA hv (by rw [List.getElem?_eq_getElem ha, hxe]) hr'
  · obtain ⟨x, hx, hx15, hxe⟩ := valAt_in hV a ha
    have hr' : (((valAt V a).toNat.testBit (s : Int).toNat).toNat : Int) = r := hr
    rw [hx, Int.toNat_natCast, Int.toNat_natCast] at hr'
    exact implOp_k3 A a s x hs hx15 w hA hv (by rw [List.getElem?_eq_getElem ha, hxe]) hr'
  · rcases (by omega : k = 4 ∨ k = 5 ∨ k = 6 ∨ k = 7 ∨ k = 8 ∨ k = 9 ∨ k = 10 ∨ k = 11 ∨ k = 12) with rfl | rfl | rfl | rfl | rfl | rfl | rfl | rfl | rfl
    · obtain ⟨xa, rfl⟩ : ∃ xa, A = [xa] := by
        match A, hl with
        | [xa], _ => exact ⟨xa, rfl⟩
      obtain ⟨xa, rfl⟩ := Int.eq_ofNat_of_zero_le (hA16 xa (by simp)).1
      have h0 := (hA16 (xa : Int) (by simp)).2
      exact implOp_k4 xa (by omega) w hA hv hr
    · obtain ⟨xa, xb, rfl⟩ : ∃ xa xb, A = [xa, xb] := by
        match A, hl with
        | [xa, xb], _ => exact ⟨xa, xb, rfl⟩
      obtain ⟨xa, rfl⟩ := Int.eq_ofNat_of_zero_le (hA16 xa (by simp)).1
      obtain ⟨xb, rfl⟩ := Int.eq_ofNat_of_zero_le (hA16 xb (by simp)).1
      have h0 := (hA16 (xa : Int) (by simp)).2
      have h1 := (hA16 (xb : Int) (by simp)).2
      exact implOp_k5 xa xb (by omega) (by omega) w hA hv hr
    · obtain ⟨xa, xb, rfl⟩ : ∃ xa xb, A = [xa, xb] := by
        match A, hl with
        | [xa, xb], _ => exact ⟨xa, xb, rfl⟩
      obtain ⟨xa, rfl⟩ := Int.eq_ofNat_of_zero_le (hA16 xa (by simp)).1
      obtain ⟨xb, rfl⟩ := Int.eq_ofNat_of_zero_le (hA16 xb (by simp)).1
      have h0 := (hA16 (xa : Int) (by simp)).2
      have h1 := (hA16 (xb : Int) (by simp)).2
      exact implOp_k6 xa xb (by omega) (by omega) w hA hv hr
    · obtain ⟨xa, xb, rfl⟩ : ∃ xa xb, A = [xa, xb] := by
        match A, hl with
        | [xa, xb], _ => exact ⟨xa, xb, rfl⟩
      obtain ⟨xa, rfl⟩ := Int.eq_ofNat_of_zero_le (hA16 xa (by simp)).1
      obtain ⟨xb, rfl⟩ := Int.eq_ofNat_of_zero_le (hA16 xb (by simp)).1
      have h0 := (hA16 (xa : Int) (by simp)).2
      have h1 := (hA16 (xb : Int) (by simp)).2
      exact implOp_k7 xa xb (by omega) (by omega) w hA hv hr
    · obtain ⟨xa, xb, rfl⟩ : ∃ xa xb, A = [xa, xb] := by
        match A, hl with
        | [xa, xb], _ => exact ⟨xa, xb, rfl⟩
      obtain ⟨xa, rfl⟩ := Int.eq_ofNat_of_zero_le (hA16 xa (by simp)).1
      obtain ⟨xb, rfl⟩ := Int.eq_ofNat_of_zero_le (hA16 xb (by simp)).1
      have h0 := (hA16 (xa : Int) (by simp)).2
      have h1 := (hA16 (xb : Int) (by simp)).2
      exact implOp_k8 xa xb (by omega) (by omega) w hA hv hr
    · obtain ⟨xa, xb, rfl⟩ : ∃ xa xb, A = [xa, xb] := by
        match A, hl with
        | [xa, xb], _ => exact ⟨xa, xb, rfl⟩
      obtain ⟨xa, rfl⟩ := Int.eq_ofNat_of_zero_le (hA16 xa (by simp)).1
      obtain ⟨xb, rfl⟩ := Int.eq_ofNat_of_zero_le (hA16 xb (by simp)).1
      have h0 := (hA16 (xa : Int) (by simp)).2
      have h1 := (hA16 (xb : Int) (by simp)).2
      exact implOp_k9 xa xb (by omega) (by omega) w hA hv hr
    · obtain ⟨xa, xb, rfl⟩ : ∃ xa xb, A = [xa, xb] := by
        match A, hl with
        | [xa, xb], _ => exact ⟨xa, xb, rfl⟩
      obtain ⟨xa, rfl⟩ := Int.eq_ofNat_of_zero_le (hA16 xa (by simp)).1
      obtain ⟨xb, rfl⟩ := Int.eq_ofNat_of_zero_le (hA16 xb (by simp)).1
      have h0 := (hA16 (xa : Int) (by simp)).2
      have h1 := (hA16 (xb : Int) (by simp)).2
      exact implOp_k10 xa xb (by omega) (by omega) w hA hv hr
    · obtain ⟨xa, xb, rfl⟩ : ∃ xa xb, A = [xa, xb] := by
        match A, hl with
        | [xa, xb], _ => exact ⟨xa, xb, rfl⟩
      obtain ⟨xa, rfl⟩ := Int.eq_ofNat_of_zero_le (hA16 xa (by simp)).1
      obtain ⟨xb, rfl⟩ := Int.eq_ofNat_of_zero_le (hA16 xb (by simp)).1
      have h0 := (hA16 (xa : Int) (by simp)).2
      have h1 := (hA16 (xb : Int) (by simp)).2
      exact implOp_k11 xa xb (by omega) (by omega) w hA hv hr
    · obtain ⟨xa, xb, xc, rfl⟩ : ∃ xa xb xc, A = [xa, xb, xc] := by
        match A, hl with
        | [xa, xb, xc], _ => exact ⟨xa, xb, xc, rfl⟩
      exact implOp_k12 xa xb xc w hA hv hr

theorem evP_args {e : Nat → Option (Int × Nat)} {W : Nat} (he : ∀ p v p', e p = some (v, p') → 0 ≤ v ∧ v < ((2 ^ W : Nat) : Int)) : ∀ {n p : Nat} {A : List Int} {p' : Nat}, argsP e n p = some (A, p') → ∀ a ∈ A, 0 ≤ a ∧ a < ((2 ^ W : Nat) : Int)
  | 0, _, _, _, h, a, ha => by rw [(argsP_zero h).1] at ha; cases ha
  | n + 1, _, _, _, h, a, ha => by
    obtain ⟨x, q, A', h1, h2, rfl⟩ := argsP_succ h
    rcases List.mem_cons.1 ha with rfl | ha
    · exact he _ _ _ h1
    · exact evP_args he h2 a ha
/-- What is left of the operands behind the first j. -/
theorem args_left {e : Nat → Option (Int × Nat)} {n j q p' : Nat} {A : List Int} (h : argsP e (n - j) q = some (A.drop j, p')) (hl : A.length = n) (hj : j < n) :
    ∃ a q', e q = some (a, q') ∧ argsP e (n - (j + 1)) q' = some (A.drop (j + 1), p') ∧ A.take (j + 1) = A.take j ++ [a] := by
  have e0 : n - j = (n - (j + 1)) + 1 := by omega
  rw [e0] at h
  obtain ⟨a, q', A', h1, h2, h3⟩ := argsP_succ h
  have hjA : j < A.length := by omega
  rw [List.drop_eq_getElem_cons hjA] at h3
  injection h3 with h3 h4
  refine ⟨a, q', h1, by rw [h4]; exact h2, ?_⟩
  rw [List.take_add_one, List.getElem?_eq_getElem hjA, h3]; rfl

set_option maxRecDepth 100000 in
set_option maxHeartbeats 6400000 in
theorem implEv_step {L : List DOp} {V : List Int} {W : Nat} {vv : Value} {f : Nat} (hO : OpsIn V.length L) (hV : ValsIn V) (hW : W ≤ 4) (ih : ImplEv L V W vv f) : ImplEv L V W vv (f + 1) := by
  intro p v p' sv T w hTw hL hv hev
  obtain ⟨i0, hi, hz0, hz1, hz2⟩ := info_parts infoI
  obtain ⟨o, A, ho, hA, hval⟩ := evP_op hev
  have hm := hO.2 o (List.mem_of_getElem? ho)
  have hAl := argsP_len hA
  have h16 := pow16 W hW
  have hA16 : ∀ a ∈ A, 0 ≤ a ∧ a < 16 := fun a ha => by
    have := evP_args (W := W) (fun _ _ _ h => evP_rng h) hA a ha
    omega
  obtain ⟨sA, sc, rfl, sl, slc⟩ := slice_of hL
  obtain ⟨vA, vc, rfl, vl, -⟩ := slice_of hv
  have hL' := rd_cut hL ho
  obtain ⟨b, s, rfl, hb, c0, -, c1, -, c2, -⟩ := at_Op hL' (k := 0) (x := o) rfl
  rw [Nat.zero_mul, Nat.add_zero] at c0 c1 c2
  have hT := rd_tail hL'
  have HV := Lib.hid hv
  have hpl : p < L.length := (List.getElem?_eq_some_iff.1 ho).1
  have hdl : (L.drop p).length = (L.drop (p + 1)).length + 1 := by rw [List.length_drop, List.length_drop]; omega
  rw [hdl] at sl slc ⊢
  obtain ⟨n0, hn0⟩ : ∃ n0, (L.drop (p + 1)).length = n0 := ⟨_, rfl⟩
  rw [hn0] at sl slc hT ⊢
  have HVAL := Lib.hid (And.intro hval (And.intro hA (And.intro hm hA16)))
  have hAr : arityI o.1 = ((arN o : Nat) : Int) := by have := opB_ar hm.1; unfold arN; omega
  have har3 := arityI_le o.1
  obtain ⟨n, hn⟩ : ∃ n, arN o = n := ⟨_, rfl⟩
  rw [hn] at hAr hAl
  have HAR := Lib.hid hAr
  have HN := Lib.hid hn
  have hn3 : n ≤ 3 := by omega
  have t1 : (1 : Int) ≤ (n0 : Int) + 1 := by omega
  simp only [Option.map_some, Addr.add_mid, Nat.one_mul] at hT
  replace hT := Lib.hid hT
  have hS0 : (fun w' => Below w.heap.size w w' ∧ w'.cell? ⟨b, s, none⟩ = some (.int .i64 o.1) ∧ w'.cell? ⟨b, s + 1, none⟩ = some (.int .i64 o.2.1) ∧ w'.cell? ⟨b, s + 2, none⟩ = some (.int .i64 o.2.2)) w := ⟨Below.refl _ _, c0, c1, c2⟩
  have hS : ∀ {w0 w' : World}, (fun w' => Below w.heap.size w w' ∧ w'.cell? ⟨b, s, none⟩ = some (.int .i64 o.1) ∧ w'.cell? ⟨b, s + 1, none⟩ = some (.int .i64 o.2.1) ∧ w'.cell? ⟨b, s + 2, none⟩ = some (.int .i64 o.2.2)) w0 → Below w0.heap.size w0 w' → (fun w' => Below w.heap.size w w' ∧ w'.cell? ⟨b, s, none⟩ = some (.int .i64 o.1) ∧ w'.cell? ⟨b, s + 1, none⟩ = some (.int .i64 o.2.1) ∧ w'.cell? ⟨b, s + 2, none⟩ = some (.int .i64 o.2.2)) w' := fun h hb => ⟨bThen h.1 hb, keep hb h.2.1, keep hb h.2.2.1, keep hb h.2.2.2⟩
  dsimp only at hS0 hS
  clear hL hL' hv hev hval hA hm hA16 hdl hn0 hAr har3 hn c0 c1 c2
  go_enter Try.func26, Try.ntmps26
  go_wp2_with fail
  refine wp_region_noPanic ?_
  refine wp_region_kept 7 8 (fun w' => Below w.heap.size w w' ∧ w'.cell? ⟨b, s, none⟩ = some (.int .i64 o.1) ∧ w'.cell? ⟨b, s + 1, none⟩ = some (.int .i64 o.2.1) ∧ w'.cell? ⟨b, s + 2, none⟩ = some (.int .i64 o.2.2)) (by kernel_rfl) rfl (hS hS0 (Below.drew (Below.refl _ _))) (fun hK0 => ?_)
  refine Kept.take (v := ?vr0) 0 (by kernel_rfl) rfl (by kernel_rfl) (fun _ _ _ h => h) (Or.inl ⟨by rfl, ?hyr0⟩) hK0 ?restr0
  case hyr0 =>
    intro w0 hSw
    (try dsimp only at hSw)
    go_simp
    all_goals (with_reducible rfl)
  (try simp only [Act.put, List.setIfInBounds_toArray, List.set_cons_zero, List.set_cons_succ])
  refine Kept.take (v := ?vr1) 1 (by kernel_rfl) rfl (by kernel_rfl) (fun _ _ _ h => h) (Or.inl ⟨by rfl, ?hyr1⟩) hK0 ?restr1
  case hyr1 =>
    intro w0 hSw
    (try dsimp only at hSw)
    go_simp
    all_goals (with_reducible rfl)
  (try simp only [Act.put, List.setIfInBounds_toArray, List.set_cons_zero, List.set_cons_succ])
  refine Kept.take (v := ?vr2) 2 (by kernel_rfl) rfl (by kernel_rfl) (fun _ _ _ h => h) (Or.inl ⟨by rfl, ?hyr2⟩) hK0 ?restr2
  case hyr2 =>
    intro w0 hSw
    (try dsimp only at hSw)
    go_simp
    all_goals (with_reducible rfl)
  (try simp only [Act.put, List.setIfInBounds_toArray, List.set_cons_zero, List.set_cons_succ])
  refine Kept.take (v := ?vr3) 3 (by kernel_rfl) rfl (by kernel_rfl) (fun _ _ _ h => h) (Or.inl ⟨by rfl, ?hyr3⟩) hK0 ?restr3
  case hyr3 =>
    intro w0 hSw
    (try dsimp only at hSw)
    go_simp
    all_goals (with_reducible rfl)
  (try simp only [Act.put, List.setIfInBounds_toArray, List.set_cons_zero, List.set_cons_succ])
  refine Kept.take (v := ?vr4) 4 (by kernel_rfl) rfl (by kernel_rfl) (fun _ _ _ h => h) (Or.inl ⟨by rfl, ?hyr4⟩) hK0 ?restr4
  case hyr4 =>
    intro w0 hSw
    (try dsimp only at hSw)
    go_simp
    all_goals (with_reducible rfl)
  (try simp only [Act.put, List.setIfInBounds_toArray, List.set_cons_zero, List.set_cons_succ])
  refine Kept.one 5 (by kernel_rfl) rfl (fun K hK => ?_)
  go_simp
  refine hK.out _ _ (hS hK0 (bAlloc (Below.refl _ _) (Nat.le_refl _) _)) (fun hK1 => ?_)
  clear hK K hK0
  (try simp only [Act.put, List.setIfInBounds_toArray, List.set_cons_zero, List.set_cons_succ])
  refine Kept.one 6 (by kernel_rfl) rfl (fun K hK => ?_)
  go_simp
  refine hK.out _ _ (hS hS0 (Below.drew (bAlloc (Below.refl _ _) (Nat.le_refl _) _))) (fun hK2 => ?_)
  clear hK K hK1
  (try simp only [Act.put, List.setIfInBounds_toArray, List.set_cons_zero, List.set_cons_succ])
  refine Kept.tail (by rfl) (by kernel_rfl) ?_
  simp only [List.drop_succ_cons, List.drop_zero]
  obtain ⟨rv0, hrv⟩ : ∃ rv0, Value.slice (if sc = 1 then some { block := b, off := s } else some { block := b, off := s + 3 }) n0 (sc - 1) = rv0 := ⟨_, rfl⟩
  rw [hrv] at hT
  rw [hrv]
  clear hrv
  go_wp2
  refine NoPanic.normal ?_
  obtain ⟨W0, hW0⟩ : ∃ W0, W0 = (w.alloc (.cells #[.int .i64 o.1, .int .i64 o.2.1, .int .i64 o.2.2] 35)).drew := ⟨_, rfl⟩
  rw [← hW0]
  have g := eqbox1d hW0
  have d0 : W0.cell? ⟨w.heap.size, 0, none⟩ = some (.int .i64 o.1) := box_cell g.1 0 _ rfl
  have d1 : W0.cell? ⟨w.heap.size, 1, none⟩ = some (.int .i64 o.2.1) := box_cell g.1 1 _ rfl
  have d2 : W0.cell? ⟨w.heap.size, 2, none⟩ = some (.int .i64 o.2.2) := box_cell g.1 2 _ rfl
  have HB := Lib.hid g.2
  have hws : w.heap.size < W0.heap.size := World.block_lt_of_cell? _ _ d0
  clear hW0 g hS hS0
  go_wp2_with fail
  refine (implArity_at o.1 _ HAR.out).mono ?_
  rintro e w1 ⟨rfl, rfl⟩
  go_wp2
  go_loopw [9, 10, 20] (fun rv ov cv wr => ∃ (j q : Nat), j ≤ n ∧ cv = .int .i64 (j : Int) ∧ argsP (evP L V W f) (n - j) q = some (A.drop j, p') ∧ rdOpS 0 T wr [rv] (L.drop q) ∧ OwnsI wr W0.heap.size ov (A.take j) ∧ Below W0.heap.size W0 wr) (fun _ _ cv _ => n - (intOf cv).toNat)
  case atStart => exact ⟨0, p + 1, Nat.zero_le _, rfl, by have h := HVAL.out.2.1; rw [HN.out] at h; exact h, rdVia good_OpS hT.out (Below.refl w.heap.size w) HB.out hTw, own_nilI _ _, Below.refl _ _⟩
  case round =>
    obtain ⟨j, q, hj, rfl, hargs, hrd, hown, hb⟩ := hrel
    obtain ⟨w2, rfl⟩ : ∃ w2, w2 = wr := ⟨_, rfl⟩
    have HO := Lib.hid hown
    have HR := Lib.hid hrd
    have HB2 := Lib.hid hb
    have HARG := Lib.hid hargs
    have e0 := keep hb d0
    have e1 := keep hb d1
    have e2 := keep hb d2
    have hs2 := hb.size
    have hal : (A.take j).length ≤ 3 := by rw [List.length_take]; omega
    clear hown hrd hb hargs
    by_cases hlt : j < n
    · obtain ⟨a, q', h1, h2, h3⟩ := args_left HARG.out hAl hlt
      have H1 := Lib.hid (And.intro h1 (And.intro h2 h3))
      clear h1 h2 h3
      go_wp2_with fail
      refine (ih q a q' _ T _ (Nat.le_trans hTw (Nat.le_trans HB.out.size hs2)) HR.out (rdUp good_IntS HV.out (bThen HB.out HB2.out)) H1.out.1).mono ?_
      rintro e w3 ⟨⟨rv3, rfl, hrd3⟩, hb3⟩
      have HR3 := Lib.hid hrd3
      have HO3 := Lib.hid (HO.out.below hb3)
      have HB3 := Lib.hid (bThen HB2.out hb3)
      have hs3 := hb3.size
      clear hb3 hrd3 e0 e1 e2
      go_wp2_with (refine wpList_append_lies _ rfl _ _ 23 (by rfl) W0.heap.size 3 i0 _ 1 8 Try.underlying23 hi hz0 hz1 hz2 rfl (by omega) u10 (A.take j).length _ (by rfl) (HO3.out.alloc _) ⟨w3.heap.size, 0, none⟩ 1 1 [.int .i64 a] (by rfl) (by rfl) (World.news_of_block (heap_alloc_new w3 _)) (by simp [Value.oneCell']) (by omega) (by unfold maxLen; omega) (by omega) (by simp; omega) (w3.heap.size + 1) (by simp) ?_; intro gg cap w4 hown4 hgrow4 hat4 hlt4)
      have R := own_addI HO3.out (Nat.le_trans hs2 hs3) HB3.out (bAlloc (Below.refl _ _) (Nat.le_refl _) _) hgrow4 hown4
      have R4 := Lib.hid R
      clear R hown4 hgrow4 hat4 hlt4
      go_roundw
      case rel => exact ⟨j + 1, q', by omega, by go_num, H1.out.2.1, rdVia good_OpS HR3.out HB3.out R4.out.2 (by omega), by rw [H1.out.2.2]; have h := R4.out.1; rw [show (A.take j).length = j by rw [List.length_take]; omega] at h; exact h, R4.out.2⟩
      case measure => simp [intOf]; omega
    · obtain rfl : j = n := by omega
      have HQ := Lib.hid (show p' = q by
        have h := HARG.out
        rw [Nat.sub_self] at h
        exact (argsP_zero h).2)
      have HT : A.take j = A := List.take_of_length_le (by omega)
      rw [HT] at HO
      have HA16 := HVAL.out.2.2.2
      have hra := ownI_rd HO.out (fun x hx => by have := HA16 x hx; unfold Fit; omega)
      have HRA := Lib.hid hra
      obtain ⟨r0, hr0⟩ : ∃ r0, opV V o A = r0 := ⟨_, rfl⟩
      have HR0 := Lib.hid (And.intro hr0 (show cutI r0 W = v by rw [← hr0]; exact HVAL.out.1.symm))
      clear HT HA16 hra hr0
      go_wp2_with fail
      refine (implOpV_at hV hW HVAL.out.2.2.1.1 HVAL.out.2.2.1.2 (by rw [HN.out]; exact hAl) HVAL.out.2.2.2 _ HRA.out (rdUp good_IntS HV.out (bThen HB.out HB2.out)) HR0.out.1).mono ?_
      rintro e w3 ⟨rfl, hb3⟩
      have HB3 := Lib.hid (bThen HB2.out hb3)
      clear hb3 e0 e1 e2
      go_wp2_with fail
      refine (implCut_at r0 W hW _ HR0.out.2).mono ?_
      rintro e w4 ⟨rfl, rfl⟩
      go_wp2
      go_ret2
      exact ⟨⟨_, rfl, by rw [HQ.out]; exact rdVia good_OpS HR.out HB2.out HB3.out (by omega)⟩, bThen HB.out HB3.out⟩
theorem implEv_all {L : List DOp} {V : List Int} {W : Nat} {vv : Value} (hO : OpsIn V.length L) (hV : ValsIn V) (hW : W ≤ 4) : ∀ f, ImplEv L V W vv f
  | 0 => fun p v p' sv T w _ _ _ h => by cases h
  | f + 1 => implEv_step hO hV hW (implEv_all hO hV hW f)
theorem implExpr_at {L : List DOp} {V : List Int} {W : Nat} {ov vv : Value} (hO : opsB V.length L = true) (hP : (L.all fun o => !decide (o.1 = 1)) = true) (hV : ValsIn V) (hW : W ≤ 4) {r : Int} (w : World) (hL : rdOpS 0 w.heap.size w [ov] L) (hv : rdIntS 0 w.heap.size w [vv] V) (hr : exprV L V W = r) :
    Calls Try.prog 18 #[ov, vv, .int .i64 (W : Int)] w fun e w' => e = .returned (.int .i64 r) ∧ Below w.heap.size w w' := by
  obtain ⟨v, he, hv'⟩ := expr_some (V := V) (W := W) hO
  have hvr : v = r := by rw [← hr]; exact hv'.symm
  subst hvr
  have HE := Lib.hid he
  have HL := Lib.hid hL
  have HV := Lib.hid hv
  clear he hv' hr hL hv
  go_enter Try.func18, Try.ntmps18
  go_wp2_with fail
  refine (implEv_all (opsIn_of hO hP) hV hW 16 0 v L.length ov w.heap.size _ (Nat.le_refl _) (by rw [List.drop_zero]; exact HL.out) HV.out HE.out).mono ?_
  rintro e w1 ⟨⟨rv, rfl, -⟩, hb⟩
  have HB := Lib.hid hb
  clear hb
  go_wp2
  go_ret
  exact ⟨rfl, HB.out⟩
end Go.Proofs.Ytmalaleinmoihaa
