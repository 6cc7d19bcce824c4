/-
  The type Op as the exact laws' helpers see it.
-/
import Derived.Test.YtllddjkdjdohhaaShape
import Derived.Test.YtllddjkdjdohhaaDpOp
namespace Go.Proofs.Ytllddjkdjdohhaa
open Go.RowKit
set_option linter.unusedVariables false
set_option linter.unusedSimpArgs false

abbrev rwOp : Rd DOp := rd3 rdInt rdInt rdInt
theorem goodw_Op : Rd.Good rwOp := rd3_good rdInt_good rdInt_good rdInt_good
theorem le_Op : Rd.Le rwOp rdOp := rd3_le (Rd.Le.refl rdInt) (Rd.Le.refl rdInt) (Rd.Le.refl rdInt)
abbrev rwOpS : Rd (List DOp) := rwS 3 rwOp
theorem goodw_OpS : Rd.Good rwOpS := rwS_good 3 goodw_Op
theorem le_OpS : Rd.Le rwOpS rdOpS := rwS_le 3 le_Op

def smOp (x : DOp) : Prop := True
def smOpS (L : List DOp) : Prop := L.length ≤ 1048576 ∧ ∀ x ∈ L, smOp x

theorem toOp_w (x : DOp) (us : List Value) {B T : Nat} (w : World) (h : rdOp B T w us x) (hT : T ≤ w.heap.size) (hs : smOp x) :
    Calls Try.prog 62 #[.agg us.toArray] w fun e w' => ∃ us', e = .returned (.agg us'.toArray) ∧ rwOp w.heap.size w'.heap.size w' us' x ∧ Below w.heap.size w w' := by
  obtain ⟨u0, u1, u2, rfl, uh0, uh1, uh2⟩ := h
  obtain ⟨ue0, uf0⟩ := uh0
  injection ue0 with ue0
  subst ue0
  obtain ⟨ue1, uf1⟩ := uh1
  injection ue1 with ue1
  subst ue1
  obtain ⟨ue2, uf2⟩ := uh2
  injection ue2 with ue2
  subst ue2
  go_enter Try.func62, Try.ntmps62
  go_wp2
  ((try simp only [Exit.inBlock, Exit.then]); refine bodyPost_ret (v := (.agg #[.int .i64 x.1, .int .i64 x.2.1, .int .i64 x.2.2])) (by rw [results_cell1 rfl]; go_simp) rfl ?_)
  exact ⟨[.int .i64 x.1, .int .i64 x.2.1, .int .i64 x.2.2], rfl, ⟨_, _, _, rfl, ⟨rfl, uf0⟩, ⟨rfl, uf1⟩, ⟨rfl, uf2⟩⟩, by (repeat' (first | assumption | exact Below.refl _ _ | refine bDrewN ?_ _ | refine Below.drew ?_ | refine bAlloc ?_ (Nat.le_refl _) _ | refine bSet ?_ (by first | exact Nat.le_refl _ | omega | (simp <;> omega)) _))⟩

theorem toOp_any (x : DOp) (us : List Value) {B T : Nat} (w : World) (h : rdOp B T w us x) (hT : T ≤ w.heap.size) (hs : smOp x) :
    Calls Try.prog 62 #[.agg us.toArray] w fun e w' => ∃ us', e = .returned (.agg us'.toArray) ∧ rdOp w.heap.size w'.heap.size w' us' x ∧ Below w.heap.size w w' :=
  (toOp_w x us w h hT hs).mono fun _ _ ⟨v, he, hr, hb⟩ => ⟨v, he, le_Op _ _ _ _ _ hr, hb⟩

theorem info_Op : (Try.prog.info? 49).map (fun i => (i.zero, i.size, i.bytes)) = some (some (.agg #[.int .i64 0, .int .i64 0, .int .i64 0]), 3, 24) := by kernel_rfl
set_option maxHeartbeats 3200000 in
theorem toOpS_w (zs : List DOp) (a : Option Addr) (len cap : Nat) {B T : Nat} (w : World) (h : rdOpS B T w [.slice a len cap] zs) (hT : T ≤ w.heap.size) (hs : smOpS zs) :
    Calls Try.prog 26 #[.slice a len cap] w fun e w' => ∃ v, e = .returned v ∧ rwOpS w.heap.size w'.heap.size w' [v] zs ∧ Below w.heap.size w w' := by
  obtain ⟨i0, hi, hz0, hz1, hz2⟩ := info_parts info_Op
  obtain ⟨A, c, ea, hm, hA⟩ := h
  injection ea with ea _
  injection ea with e1 e2 e3
  subst e1 e2 e3
  have hl : zs.length ≤ 1048576 := hs.1
  unfold maxLen at hm
  have HA := Lib.hid hA
  have HSM := Lib.hid hs
  clear hA hs
  go_enter Try.func26, Try.ntmps26
  go_wp2_with (at_make; refine wpList_make_full _ rfl _ _ 44 rfl w.heap.size 49 i0 (.agg #[.int .i64 0, .int .i64 0, .int .i64 0]) 3 Try.underlying44 hi hz0 hz1 .i64 .i64 (zs.length : Int) (zs.length : Int) zs.length rfl rfl rfl rfl (by rw [hz2]; omega) (by unfold maxLen; omega) (Nat.le_refl _) ?_; intro w1 hown1 hgrow1)
  have hown : OwnsR fV3 3 49 w1 w.heap.size (.slice (some ⟨w.heap.size, 0, none⟩) zs.length zs.length) (List.replicate zs.length (((.int .i64 0 : Value), (.int .i64 0 : Value), (.int .i64 0 : Value)) : V3)) := by
    unfold OwnsR
    rw [List.length_replicate, ← made_rows fV3 3 fV3_len (((.int .i64 0 : Value), (.int .i64 0 : Value), (.int .i64 0 : Value)) : V3) (.agg #[.int .i64 0, .int .i64 0, .int .i64 0] : Value).cells rfl (by omega)]; exact hown1
  have hB1 : Below w.heap.size w w1 := (Below.refl _ _).grown hgrow1 (Nat.le_refl _) (by intro g hg; cases hg)
  have HO := Lib.hid hown
  have HB := Lib.hid hB1
  clear hown1 hgrow1 hown hB1
  go_loopw [4] (fun v wr => ∃ (i : Nat) (rows : List V3), i ≤ zs.length ∧ v = .int .i64 i ∧ rows.length = zs.length ∧ OwnsR fV3 3 49 wr w.heap.size (.slice (some ⟨w.heap.size, 0, none⟩) zs.length zs.length) rows ∧
      (∀ j x, j < i → zs[j]? = some x → ∃ r, rows[j]? = some r ∧ rwOp (w.heap.size + 1) wr.heap.size wr (fV3 r) x) ∧ Below w.heap.size w wr) (fun v _ => zs.length - (intOf v).toNat)
  case atStart => exact ⟨0, _, Nat.zero_le _, rfl, List.length_replicate, HO.out, fun j x hj => absurd hj (by omega), HB.out⟩
  case round =>
    obtain ⟨i, rows, hi', rfl, hrl, hown, hrd, hb⟩ := hrel
    clear HO HB
    have HO := Lib.hid hown
    have HB := Lib.hid hb
    have HD := Lib.hid hrd
    by_cases hlt : i < zs.length
    · obtain ⟨b, o, rfl, _, hbT, us, hul, hc, hr⟩ := HA.out i hlt
      obtain ⟨x, hx⟩ : ∃ x, zs[i] = x := ⟨_, rfl⟩
      have hxm : x ∈ zs := by rw [← hx]; exact List.getElem_mem hlt
      have hx? : zs[i]? = some x := by rw [List.getElem?_eq_getElem hlt, hx]
      rw [hx] at hr
      have hr0 := hr
      obtain ⟨u0, u1, u2, rfl, _⟩ := hr0
      have c0 : wr.cell? ⟨b, o + i * 3, none⟩ = some u0 := keep hb (hc 0 _ rfl)
      have c1 : wr.cell? ⟨b, o + i * 3 + 1, none⟩ = some u1 := keep hb (hc 1 _ rfl)
      have c2 : wr.cell? ⟨b, o + i * 3 + 2, none⟩ = some u2 := keep hb (hc 2 _ rfl)
      have hrs := good_Op.below hr hT hb
      have HR := Lib.hid hrs
      obtain ⟨A2, c2, hv, hsh⟩ := OwnsR.shape fV3_len hown
      obtain ⟨g, hg, _⟩ := hsh i (by omega)
      rw [hrl] at hv
      injection hv with hv1 hv2 hv3
      subst hv1 hv3
      injection hg with hg
      injection hg with hg
      subst hg
      have hgw : w.heap.size + 1 ≤ wr.heap.size := by
        obtain ⟨g, hg, hcc⟩ := hsh i (by omega)
        injection hg with hg
        injection hg with hg
        subst hg
        exact World.block_lt_of_cell? _ _ (hcc 0 _ rfl).1
      clear hr hown hb hrd hc hsh hbT hrs
      go_wp2_with fail
      refine (toOp_w x [u0, u1, u2] _ HR.out (Nat.le_trans hT HB.out.size) (HSM.out.2 x hxm)).mono ?_
      rintro e w2 ⟨us', rfl, hr2, hb2⟩
      have hr3 := hr2
      obtain ⟨v0, v1, v2, rfl, vh0, vh1, vh2⟩ := hr3
      obtain ⟨ve0, vf0⟩ := vh0
      injection ve0 with ve0
      subst ve0
      obtain ⟨ve1, vf1⟩ := vh1
      injection ve1 with ve1
      subst ve1
      obtain ⟨ve2, vf2⟩ := vh2
      injection ve2 with ve2
      subst ve2
      have hown2 := HO.out.below hb2
      have hB2 := bThen HB.out hb2
      have hw2s := hb2.size
      obtain ⟨A3, c3, hv, hsh⟩ := OwnsR.shape fV3_len hown2
      obtain ⟨g, hg, hcc⟩ := hsh i (by omega)
      rw [hrl] at hv
      injection hv with hv1 hv2 hv3
      subst hv1 hv3
      injection hg with hg
      injection hg with hg
      subst hg
      obtain ⟨r, hrow⟩ : ∃ r, rows[i]'(by omega) = r := ⟨_, rfl⟩
      rw [hrow] at hcc
      have y0 : w2.cell? ⟨w.heap.size, i * 3, none⟩ = some r.1 := (hcc 0 _ rfl).1
      have z0 : w2.frozen? ⟨w.heap.size, i * 3, none⟩ = false := (hcc 0 _ rfl).2
      have y1 : w2.cell? ⟨w.heap.size, i * 3 + 1, none⟩ = some r.2.1 := (hcc 1 _ rfl).1
      have z1 : w2.frozen? ⟨w.heap.size, i * 3 + 1, none⟩ = false := (hcc 1 _ rfl).2
      have y2 : w2.cell? ⟨w.heap.size, i * 3 + 2, none⟩ = some r.2.2 := (hcc 2 _ rfl).1
      have z2 : w2.frozen? ⟨w.heap.size, i * 3 + 2, none⟩ = false := (hcc 2 _ rfl).2
      have hown3 : OwnsR fV3 3 49 w2 w.heap.size (.slice (some ⟨w.heap.size, 0, none⟩) rows.length zs.length) rows := by rw [hrl]; exact hown2
      have hs0 := OwnsR.stored fV3_len (j := i) (i := 0) (u := (.int .i64 x.1 : Value)) (y := (((.int .i64 x.1 : Value), r.2.1, r.2.2) : V3)) hown3 (by first | omega | (simp only [List.length_set]; omega)) (by omega) (by rw [hrow]; rfl)
      have hown4 := hs0.1
      rw [← (List.length_set : (rows.set i (((.int .i64 x.1 : Value), r.2.1, r.2.2) : V3)).length = rows.length)] at hown4
      have hs1 := OwnsR.stored fV3_len (j := i) (i := 1) (u := (.int .i64 x.2.1 : Value)) (y := (((.int .i64 x.1 : Value), (.int .i64 x.2.1 : Value), r.2.2) : V3)) hown4 (by first | omega | (simp only [List.length_set]; omega)) (by omega) (by rw [List.getElem_set_self]; rfl)
      have hown5 := hs1.1
      rw [← (List.length_set : ((rows.set i (((.int .i64 x.1 : Value), r.2.1, r.2.2) : V3)).set i (((.int .i64 x.1 : Value), (.int .i64 x.2.1 : Value), r.2.2) : V3)).length = (rows.set i (((.int .i64 x.1 : Value), r.2.1, r.2.2) : V3)).length)] at hown5
      have hs2 := OwnsR.stored fV3_len (j := i) (i := 2) (u := (.int .i64 x.2.2 : Value)) (y := (((.int .i64 x.1 : Value), (.int .i64 x.2.1 : Value), (.int .i64 x.2.2 : Value)) : V3)) hown5 (by first | omega | (simp only [List.length_set]; omega)) (by omega) (by rw [List.getElem_set_self]; rfl)
      have ho := hs2.1
      (try simp only [List.set_set, List.length_set] at ho)
      rw [hrl] at ho
      obtain ⟨w3, hw3⟩ : ∃ w3, w3 = (((w2.setCell ⟨w.heap.size, i * 3 + 0, none⟩ (.int .i64 x.1 : Value)).setCell ⟨w.heap.size, i * 3 + 1, none⟩ (.int .i64 x.2.1 : Value)).setCell ⟨w.heap.size, i * 3 + 2, none⟩ (.int .i64 x.2.2 : Value)) := ⟨_, rfl⟩
      have hsame : ∀ b, w.heap.size + 1 ≤ b → w3.heap[b]? = w2.heap[b]? := fun b hb => by
        rw [hw3]
        rw [Below.heap_setCell _ _ _ b (by simp; omega)]; rw [Below.heap_setCell _ _ _ b (by simp; omega)]; rw [Below.heap_setCell _ _ _ b (by simp; omega)]
      have hsz : w3.heap.size = w2.heap.size := by rw [hw3]; simp
      have ho3 : OwnsR fV3 3 49 w3 w.heap.size (.slice (some ⟨w.heap.size, 0, none⟩) zs.length zs.length) (rows.set i (((.int .i64 x.1 : Value), (.int .i64 x.2.1 : Value), (.int .i64 x.2.2 : Value)) : V3)) := by rw [hw3]; exact ho
      have hB3 : Below w.heap.size w w3 := by
        rw [hw3]
        exact bSet (bSet (bSet (hB2) (Nat.le_refl _) _) (Nat.le_refl _) _) (Nat.le_refl _) _
      have hrd3 : ∀ j y, j < i + 1 → zs[j]? = some y → ∃ r, (rows.set i (((.int .i64 x.1 : Value), (.int .i64 x.2.1 : Value), (.int .i64 x.2.2 : Value)) : V3))[j]? = some r ∧ rwOp (w.heap.size + 1) w3.heap.size w3 (fV3 r) y := by
        intro j y hj hy
        by_cases hji : j = i
        · subst hji
          rw [hx?] at hy
          injection hy with hy
          subst hy
          refine ⟨(((.int .i64 x.1 : Value), (.int .i64 x.2.1 : Value), (.int .i64 x.2.2 : Value)) : V3), by rw [List.getElem?_set_self (by omega)], ?_⟩
          exact goodw_Op _ _ _ _ w2 w3 _ _ hr2 (by omega) (by omega) fun b hb1 _ => hsame b (by omega)
        · obtain ⟨r', hr', hp⟩ := HD.out j y (by omega) hy
          refine ⟨r', by rw [List.getElem?_set_ne (by omega)]; exact hr', ?_⟩
          exact goodw_Op _ _ _ _ wr w3 _ _ hp (Nat.le_refl _) (by omega) fun b hb1 hb2' => (hsame b hb1).trans (hb2.block b hb2')
      have R := Lib.hid (And.intro ho3 (And.intro hB3 (And.intro hrd3 hw3)))
      have hset : (rows.set i (((.int .i64 x.1 : Value), (.int .i64 x.2.1 : Value), (.int .i64 x.2.2 : Value)) : V3)).length = zs.length := by rw [List.length_set]; exact hrl
      have HSET := Lib.hid hset
      clear hs0 hs1 hs2 hown3 hown4 hown5 ho hsame hsz ho3 hB3 hrd3 hB2 hown2 hsh hcc hset hr2 hrow HR
      skip
      go_wp2
      go_roundw
      case rel =>
        have hw := R.out.2.2.2
        refine ⟨i + 1, _, by omega, by go_num, HSET.out, ?_, ?_, ?_⟩
        · first | exact hw ▸ R.out.1 | (have h := R.out.1; rw [hw] at h; exact h)
        · have h := R.out.2.2.1; rw [hw] at h; exact h
        · have h := R.out.2.1; rw [hw] at h; exact h
      case measure => simp [intOf]; omega
    · obtain rfl : i = zs.length := by omega
      have hwz := hb.size
      clear hown hrd hb
      go_wp2
      go_ret
      refine ⟨_, rfl, ⟨_, _, rfl, by unfold maxLen; omega, fun j hj => ?_⟩, HB.out⟩
      obtain ⟨A2, c2, hv, hsh⟩ := OwnsR.shape fV3_len HO.out
      obtain ⟨g, hg, hcc⟩ := hsh j (by omega)
      rw [hrl] at hv
      injection hv with hv1 hv2 hv3
      subst hv1
      injection hg with hg
      injection hg with hg
      subst hg
      obtain ⟨r, hr, hp⟩ := HD.out j zs[j] hj (List.getElem?_eq_getElem hj)
      have hr' : rows[j]'(by omega) = r := by rw [List.getElem?_eq_getElem (by omega)] at hr; injection hr
      rw [hr'] at hcc
      have hlt0 : w.heap.size < wr.heap.size := World.block_lt_of_cell? _ _ (hcc 0 _ rfl).1
      refine ⟨w.heap.size, 0, rfl, Nat.le_refl _, hlt0, fV3 r, fV3_len r, fun t u hu => ?_, goodw_Op.wider hp (by omega) (Nat.le_refl _)⟩
      rw [Nat.zero_add]
      exact hcc t u hu

theorem toOpS_any (zs : List DOp) (a : Option Addr) (len cap : Nat) {B T : Nat} (w : World) (h : rdOpS B T w [.slice a len cap] zs) (hT : T ≤ w.heap.size) (hs : smOpS zs) :
    Calls Try.prog 26 #[.slice a len cap] w fun e w' => ∃ v, e = .returned v ∧ rdOpS w.heap.size w'.heap.size w' [v] zs ∧ Below w.heap.size w w' :=
  (toOpS_w zs a len cap w h hT hs).mono fun _ _ ⟨v, he, hr, hb⟩ => ⟨v, he, le_OpS _ _ _ _ _ hr, hb⟩
end Go.Proofs.Ytllddjkdjdohhaa
