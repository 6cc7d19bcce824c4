/-
  The type Int as the exact laws' helpers see it.
-/
import Derived.Test.YtllddjkdjdohhaaShape
import Derived.Test.YtllddjkdjdohhaaDpInt
namespace Go.Proofs.Ytllddjkdjdohhaa
open Go.RowKit
set_option linter.unusedVariables false
set_option linter.unusedSimpArgs false

abbrev rwIntS : Rd (List Int) := rwS 1 rdInt
theorem goodw_IntS : Rd.Good rwIntS := rwS_good 1 rdInt_good
theorem le_IntS : Rd.Le rwIntS rdIntS := rwS_le 1 (Rd.Le.refl _)

def smIntS (L : List Int) : Prop := L.length ≤ 1048576

theorem info_Int : (Try.prog.info? 3).map (fun i => (i.zero, i.size, i.bytes)) = some (some (.int .i64 0), 1, 8) := by kernel_rfl
set_option maxHeartbeats 3200000 in
theorem toIntS_w (zs : List Int) (a : Option Addr) (len cap : Nat) {B T : Nat} (w : World) (h : rdIntS B T w [.slice a len cap] zs) (hT : T ≤ w.heap.size) (hs : smIntS zs) :
    Calls Try.prog 114 #[.slice a len cap] w fun e w' => ∃ v, e = .returned v ∧ rwIntS w.heap.size w'.heap.size w' [v] zs ∧ Below w.heap.size w w' := by
  obtain ⟨i0, hi, hz0, hz1, hz2⟩ := info_parts info_Int
  obtain ⟨A, c, ea, hm, hA⟩ := h
  injection ea with ea _
  injection ea with e1 e2 e3
  subst e1 e2 e3
  have hl : zs.length ≤ 1048576 := hs
  unfold maxLen at hm
  have HA := Lib.hid hA
  have HSM := Lib.hid hs
  clear hA hs
  go_enter Try.func114, Try.ntmps114
  go_wp2_with (at_make; refine wpList_make_full _ rfl _ _ 64 rfl w.heap.size 3 i0 (.int .i64 0) 1 Try.underlying64 hi hz0 hz1 .i64 .i64 (zs.length : Int) (zs.length : Int) zs.length rfl rfl rfl rfl (by rw [hz2]; omega) (by unfold maxLen; omega) (Nat.le_refl _) ?_; intro w1 hown1 hgrow1)
  have hown : OwnsR fV1 1 3 w1 w.heap.size (.slice (some ⟨w.heap.size, 0, none⟩) zs.length zs.length) (List.replicate zs.length ((.int .i64 0 : Value) : V1)) := by
    unfold OwnsR
    rw [List.length_replicate, ← made_rows fV1 1 fV1_len ((.int .i64 0 : Value) : V1) (.int .i64 0 : Value).cells rfl (by omega)]; exact hown1
  have hB1 : Below w.heap.size w w1 := (Below.refl _ _).grown hgrow1 (Nat.le_refl _) (by intro g hg; cases hg)
  have HO := Lib.hid hown
  have HB := Lib.hid hB1
  clear hown1 hgrow1 hown hB1
  go_loopw [4] (fun v wr => ∃ (i : Nat) (rows : List V1), i ≤ zs.length ∧ v = .int .i64 i ∧ rows.length = zs.length ∧ OwnsR fV1 1 3 wr w.heap.size (.slice (some ⟨w.heap.size, 0, none⟩) zs.length zs.length) rows ∧
      (∀ j x, j < i → zs[j]? = some x → ∃ r, rows[j]? = some r ∧ rdInt (w.heap.size + 1) wr.heap.size wr (fV1 r) x) ∧ Below w.heap.size w wr) (fun v _ => zs.length - (intOf v).toNat)
  case atStart => exact ⟨0, _, Nat.zero_le _, rfl, List.length_replicate, HO.out, fun j x hj => absurd hj (by omega), HB.out⟩
  case round =>
    obtain ⟨i, rows, hi', rfl, hrl, hown, hrd, hb⟩ := hrel
    clear HO HB
    have HO := Lib.hid hown
    have HB := Lib.hid hb
    have HD := Lib.hid hrd
    by_cases hlt : i < zs.length
    · obtain ⟨b, o, rfl, _, hbT, us, hul, hc, hr⟩ := HA.out i hlt
      obtain ⟨x, hx⟩ : ∃ x, zs[i] = x := ⟨_, rfl⟩
      have hxm : x ∈ zs := by rw [← hx]; exact List.getElem_mem hlt
      have hx? : zs[i]? = some x := by rw [List.getElem?_eq_getElem hlt, hx]
      rw [hx] at hr
      have hr0 := hr
      obtain ⟨e0, _⟩ := hr0
      subst e0
      have c0 := keep hb (hc 0 _ rfl)
      rw [Nat.add_zero, Nat.mul_one] at c0
      have hrs := rdInt_good.below hr hT hb
      have HR := Lib.hid hrs
      obtain ⟨A2, c2, hv, hsh⟩ := OwnsR.shape fV1_len hown
      obtain ⟨g, hg, _⟩ := hsh i (by omega)
      rw [hrl] at hv
      injection hv with hv1 hv2 hv3
      subst hv1 hv3
      injection hg with hg
      injection hg with hg
      subst hg
      have hgw : w.heap.size + 1 ≤ wr.heap.size := by
        obtain ⟨g, hg, hcc⟩ := hsh i (by omega)
        injection hg with hg
        injection hg with hg
        subst hg
        exact World.block_lt_of_cell? _ _ (hcc 0 _ rfl).1
      clear hr hown hb hrd hc hsh hbT hrs
      obtain ⟨w2, hw2⟩ : ∃ w2, w2 = wr := ⟨_, rfl⟩
      have hr2 : rdInt (w.heap.size + 1) w2.heap.size w2 [.int .i64 x] x := by rw [hw2]; exact ⟨rfl, HR.out.2⟩
      have hb2 : Below wr.heap.size wr w2 := by rw [hw2]; exact Below.refl _ _
      have hown2 := HO.out.below hb2
      have hB2 := bThen HB.out hb2
      have hw2s := hb2.size
      obtain ⟨A3, c3, hv, hsh⟩ := OwnsR.shape fV1_len hown2
      obtain ⟨g, hg, hcc⟩ := hsh i (by omega)
      rw [hrl] at hv
      injection hv with hv1 hv2 hv3
      subst hv1 hv3
      injection hg with hg
      injection hg with hg
      subst hg
      obtain ⟨r, hrow⟩ : ∃ r, rows[i]'(by omega) = r := ⟨_, rfl⟩
      rw [hrow] at hcc
      have y0 := (hcc 0 _ rfl).1
      have z0 := (hcc 0 _ rfl).2
      rw [Nat.add_zero, Nat.mul_one] at y0 z0
      have hown3 : OwnsR fV1 1 3 w2 w.heap.size (.slice (some ⟨w.heap.size, 0, none⟩) rows.length zs.length) rows := by rw [hrl]; exact hown2
      have hs0 := OwnsR.stored fV1_len (j := i) (i := 0) (u := (.int .i64 x)) (y := ((.int .i64 x) : V1)) hown3 (by first | omega | (simp only [List.length_set]; omega)) (by omega) (by rw [hrow]; rfl)
      rw [Nat.add_zero, Nat.mul_one] at hs0
      have ho := hs0.1
      (try simp only [List.set_set, List.length_set] at ho)
      rw [hrl] at ho
      obtain ⟨w3, hw3⟩ : ∃ w3, w3 = (w2.setCell ⟨w.heap.size, i, none⟩ (.int .i64 x)) := ⟨_, rfl⟩
      have hsame : ∀ b, w.heap.size + 1 ≤ b → w3.heap[b]? = w2.heap[b]? := fun b hb => by
        rw [hw3]
        rw [Below.heap_setCell _ _ _ b (by simp; omega)]
      have hsz : w3.heap.size = w2.heap.size := by rw [hw3]; simp
      have ho3 : OwnsR fV1 1 3 w3 w.heap.size (.slice (some ⟨w.heap.size, 0, none⟩) zs.length zs.length) (rows.set i ((.int .i64 x) : V1)) := by rw [hw3]; exact ho
      have hB3 : Below w.heap.size w w3 := by
        rw [hw3]
        exact bSet (hB2) (Nat.le_refl _) _
      have hrd3 : ∀ j y, j < i + 1 → zs[j]? = some y → ∃ r, (rows.set i ((.int .i64 x) : V1))[j]? = some r ∧ rdInt (w.heap.size + 1) w3.heap.size w3 (fV1 r) y := by
        intro j y hj hy
        by_cases hji : j = i
        · subst hji
          rw [hx?] at hy
          injection hy with hy
          subst hy
          refine ⟨((.int .i64 x) : V1), by rw [List.getElem?_set_self (by omega)], ?_⟩
          exact rdInt_good _ _ _ _ w2 w3 _ _ hr2 (by omega) (by omega) fun b hb1 _ => hsame b (by omega)
        · obtain ⟨r', hr', hp⟩ := HD.out j y (by omega) hy
          refine ⟨r', by rw [List.getElem?_set_ne (by omega)]; exact hr', ?_⟩
          exact rdInt_good _ _ _ _ wr w3 _ _ hp (Nat.le_refl _) (by omega) fun b hb1 hb2' => (hsame b hb1).trans (hb2.block b hb2')
      have R := Lib.hid (And.intro ho3 (And.intro hB3 (And.intro hrd3 hw3)))
      have hset : (rows.set i ((.int .i64 x) : V1)).length = zs.length := by rw [List.length_set]; exact hrl
      have HSET := Lib.hid hset
      clear hs0 hown3 ho hsame hsz ho3 hB3 hrd3 hB2 hown2 hsh hcc hset hr2 hrow HR
      subst hw2
      go_wp2
      go_roundw
      case rel =>
        have hw := R.out.2.2.2
        refine ⟨i + 1, _, by omega, by go_num, HSET.out, ?_, ?_, ?_⟩
        · first | exact hw ▸ R.out.1 | (have h := R.out.1; rw [hw] at h; exact h)
        · have h := R.out.2.2.1; rw [hw] at h; exact h
        · have h := R.out.2.1; rw [hw] at h; exact h
      case measure => simp [intOf]; omega
    · obtain rfl : i = zs.length := by omega
      have hwz := hb.size
      clear hown hrd hb
      go_wp2
      go_ret
      refine ⟨_, rfl, ⟨_, _, rfl, by unfold maxLen; omega, fun j hj => ?_⟩, HB.out⟩
      obtain ⟨A2, c2, hv, hsh⟩ := OwnsR.shape fV1_len HO.out
      obtain ⟨g, hg, hcc⟩ := hsh j (by omega)
      rw [hrl] at hv
      injection hv with hv1 hv2 hv3
      subst hv1
      injection hg with hg
      injection hg with hg
      subst hg
      obtain ⟨r, hr, hp⟩ := HD.out j zs[j] hj (List.getElem?_eq_getElem hj)
      have hr' : rows[j]'(by omega) = r := by rw [List.getElem?_eq_getElem (by omega)] at hr; injection hr
      rw [hr'] at hcc
      have hlt0 : w.heap.size < wr.heap.size := World.block_lt_of_cell? _ _ (hcc 0 _ rfl).1
      refine ⟨w.heap.size, 0, rfl, Nat.le_refl _, hlt0, fV1 r, fV1_len r, fun t u hu => ?_, rdInt_good.wider hp (by omega) (Nat.le_refl _)⟩
      rw [Nat.zero_add]
      exact hcc t u hu

theorem toIntS_any (zs : List Int) (a : Option Addr) (len cap : Nat) {B T : Nat} (w : World) (h : rdIntS B T w [.slice a len cap] zs) (hT : T ≤ w.heap.size) (hs : smIntS zs) :
    Calls Try.prog 114 #[.slice a len cap] w fun e w' => ∃ v, e = .returned v ∧ rdIntS w.heap.size w'.heap.size w' [v] zs ∧ Below w.heap.size w w' :=
  (toIntS_w zs a len cap w h hT hs).mono fun _ _ ⟨v, he, hr, hb⟩ => ⟨v, he, le_IntS _ _ _ _ _ hr, hb⟩
end Go.Proofs.Ytllddjkdjdohhaa
