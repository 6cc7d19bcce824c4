/-
  A drawn net; two rows are the same.
-/
import Derived.Test.YtfncjgmmiihibaaNet14
import Derived.Test.YtfncjgmmiihibaaOwnB
import Derived.Test.YtfncjgmmiihibaaBig
import Derived.Test.YtfncjgmmiihibaaAtAll
namespace Go.Proofs.Ytfncjgmmiihibaa
open Go.RowKit
set_option linter.unusedVariables false
set_option linter.unusedSimpArgs false

set_option maxHeartbeats 400000 in
theorem sameI_any (B1 B2 : Nat) (a b : Value) (L : List Int) (w : World) (ha : OwnsI w B1 a L) (hb : OwnsI w B2 b L) (hl : L.length ≤ 1000000) :
    Calls Try.prog 30 #[a, b] w fun e w' => e = .returned (.bool true) ∧ Below w.heap.size w w' := by
  obtain ⟨A, c, rfl, hA⟩ := ha.shape
  obtain ⟨A', c', rfl, hA'⟩ := hb.shape
  clear ha hb
  have HA := Lib.hid hA
  have HA' := Lib.hid hA'
  clear hA hA'
  go_enter Try.func30, Try.ntmps30
  go_wp2
  go_loopw [5] (fun i wr => ∃ k : Nat, k ≤ L.length ∧ i = .int .i64 k ∧ Below w.heap.size w wr) (fun i _ => L.length - (intOf i).toNat)
  case atStart => exact ⟨0, Nat.zero_le _, rfl, Below.refl _ _⟩
  case round =>
    obtain ⟨k, hk, rfl, hbel⟩ := hrel
    by_cases hlt : k < L.length
    · obtain ⟨g, rfl, h1, _⟩ := HA.out k hlt
      obtain ⟨g', rfl, h2, _⟩ := HA'.out k hlt
      have c1 := (hbel.cell (p := ⟨g, k, none⟩) (World.block_lt_of_cell? w _ h1)).trans h1
      have c2 := (hbel.cell (p := ⟨g', k, none⟩) (World.block_lt_of_cell? w _ h2)).trans h2
      have HB := Lib.hid hbel
      generalize L.getD k 0 = x at c1 c2
      clear h1 h2 HA HA' hbel
      go_wp2
      go_quiet (fail)
      go_wp2
      go_roundw
      case rel => exact ⟨k + 1, by omega, by go_num, HB.out.trans ⟨rfl, rfl, rfl, Nat.le_refl _, fun _ _ => rfl⟩⟩
      case measure => simp [intOf]; omega
    · have HB := Lib.hid hbel
      clear hbel
      go_wp2
      go_ret
      exact ⟨rfl, HB.out⟩


theorem EndSt.ofD {w0 w : World} {E G nn : Nat} (hc : Cur TCur w G nn) (h : Chg G w0 w) (hG : G < w0.heap.size) (hE : w0.heap.size ≤ E) : EndSt w0 w w E G nn := ⟨hc, h, fun _ _ => rfl, rfl, hG, hE⟩
theorem rdNet_far {w w' : World} {E G nn B : Nat} {w0 : World} {us : List Value} {n : DNet} (he : EndSt w0 w w' E G nn) (hB : E < B) (h : rdNet B w.heap.size w us n) : rdNet B w'.heap.size w' us n :=
  good_Net _ _ _ _ _ _ _ _ h (Nat.le_refl _) (by rw [he.size]; exact Nat.le_refl _) (fun b hb hb2 => he.same b (by omega))
set_option maxHeartbeats 3200000 in
theorem l08Net_at (G nn : Nat) (w : World) (hc : Cur TCur w G nn) : Calls Try.prog 51 #[.pointer (some ⟨G, 0, none⟩)] w (DrewNetM 14 w G nn) := by
  have HC := Lib.hid hc
  have hG := hc.lt
  clear hc
  go_enter Try.func51, Try.ntmps51
  go_wp2_with fail
  obtain ⟨Wa, hV⟩ : ∃ Wa, Wa = w.alloc (.cells #[.int .i64 0, .slice none 0 0, .slice none 0 0, .slice none 0 0] 28) := ⟨_, rfl⟩
  rw [← hV]
  have gN := eqbox1 hV
  have HBa := Lib.hid gN.2
  have HRa := Lib.hid (show BoxN Wa w.heap.size (.int .i64 0) (.slice none 0 0) (.slice none 0 0) (.slice none 0 0) from gN.1)
  have HCa := Lib.hid (HC.out.keep gN.2)
  have hsz : w.heap.size < Wa.heap.size := HRa.out.lt
  clear hV gN
  obtain ⟨E, hE⟩ : ∃ E, w.heap.size = E := ⟨_, rfl⟩
  rw [hE] at HRa hsz ⊢
  refine (sized_at G nn 4 3 14 _ HCa.out (by omega) (by omega) (by omega)).mono ?_
  rintro e w1 ⟨us, n, rfl, hrd, hok, hlen, hcur, hch⟩
  obtain ⟨u0, u1, u2, u3, rfl, h0, h1, h2, h3⟩ := hrd
  obtain ⟨t0, h0f⟩ := h0
  injection t0 with t0
  subst t0
  obtain ⟨A1, c1, t1, -, -⟩ := slice_of h1
  obtain ⟨A2, c2, t2, -, -⟩ := slice_of h2
  obtain ⟨A3, c3, t3, -, -⟩ := slice_of h3
  subst t1 t2 t3
  have HRD := Lib.hid (show rdNet Wa.heap.size w1.heap.size w1 [.int .i64 n.1, .slice A1 n.2.1.length c1, .slice A2 n.2.2.1.length c2, .slice A3 n.2.2.2.length c3] n from ⟨_, _, _, _, rfl, ⟨rfl, h0f⟩, h1, h2, h3⟩)
  have HR1 := Lib.hid (HRa.out.at (hch.block E HRa.out.lt (by omega)))
  have HE := Lib.hid (EndSt.ofD (w0 := w) (E := E) hcur ((Chg.of_below HBa.out).trans hch) hG (by omega))
  have e0 := HR1.out.cells.1.1
  have e1 := HR1.out.cells.1.2.1
  have e2 := HR1.out.cells.1.2.2.1
  have e3 := HR1.out.cells.1.2.2.2
  have ez := HR1.out.cells.2
  clear h0f h1 h2 h3 hcur hch
  go_wp2
  ((try simp only [Exit.inBlock, Exit.then]); refine bodyPost_ret (v := (.agg #[.int .i64 n.1, .slice A1 n.2.1.length c1, .slice A2 n.2.2.1.length c2, .slice A3 n.2.2.2.length c3])) (by rw [results_cell1 rfl]; go_simp) rfl ?_)
  have HE4 := ((((HE.out.set (i := 0) (u := .int .i64 n.1))).set (i := 1) (u := .slice A1 n.2.1.length c1)).set (i := 2) (u := .slice A2 n.2.2.1.length c2)).set (i := 3) (u := .slice A3 n.2.2.2.length c3)
  exact ⟨_, n, rfl, good_Net _ _ _ _ _ _ _ _ (rdNet_far HE4 hsz HRD.out) (by omega) (Nat.le_refl _) (fun _ _ _ => rfl), hok, hlen, HE4.cur, HE4.chg⟩
theorem codeW_keep {w w' : World} {A : Option Addr} {n : Nat} (h : CodeW w A n) (hb : Below w.heap.size w w') : CodeW w' A n := by
  refine ⟨h.1, fun j hj => ?_⟩
  obtain ⟨b, o, e, hlt, x, h0, h1, hx⟩ := h.2 j hj
  exact ⟨b, o, e, Nat.lt_of_lt_of_le hlt hb.size, x, h0, h1, keep hb hx⟩
set_option maxHeartbeats 3200000 in
theorem drawNetM_any (A : Option Addr) (nn cap : Nat) (w : World) (hc : CodeW w A nn) : Calls Try.prog 14 #[.slice A nn cap] w fun e w' => ∃ (us : List Value) (n : DNet), e = .returned (.agg us.toArray) ∧ (rdNet w.heap.size w'.heap.size w' us n ∧ netB n = true ∧ n.2.2.1.length ≤ 14) ∧ Below w.heap.size w w' := by
  have HC := Lib.hid hc
  clear hc
  go_enter Try.func14, Try.ntmps14
  go_wp2_with fail
  obtain ⟨Wa, hV⟩ : ∃ Wa, Wa = w.alloc (.cells #[.int .i64 0, .slice none 0 0, .slice none 0 0, .slice none 0 0] 28) := ⟨_, rfl⟩
  rw [← hV]
  have gN := eqbox1 hV
  have HBa := Lib.hid gN.2
  have HRa := Lib.hid (show BoxN Wa w.heap.size (.int .i64 0) (.slice none 0 0) (.slice none 0 0) (.slice none 0 0) from gN.1)
  have HCa := Lib.hid (codeW_keep HC.out gN.2)
  have hsz : w.heap.size < Wa.heap.size := HRa.out.lt
  clear hV gN
  obtain ⟨E, hE⟩ : ∃ E, w.heap.size = E := ⟨_, rfl⟩
  rw [hE] at HRa hsz ⊢
  refine (new_any A nn cap _ HCa.out).mono ?_
  rintro e w1 ⟨rfl, hcur, hb1⟩
  have HB1 := Lib.hid hb1
  have HC1 := Lib.hid hcur
  have hGl := hcur.lt
  clear hcur hb1
  go_wp2_with fail
  refine (l08Net_at _ nn _ HC1.out).mono ?_
  rintro e w2 ⟨us, n, rfl, hrd, hok, hlen, hcur, hch⟩
  obtain ⟨u0, u1, u2, u3, rfl, h0, h1, h2, h3⟩ := hrd
  obtain ⟨t0, h0f⟩ := h0
  injection t0 with t0
  subst t0
  obtain ⟨A1, c1, t1, -, -⟩ := slice_of h1
  obtain ⟨A2, c2, t2, -, -⟩ := slice_of h2
  obtain ⟨A3, c3, t3, -, -⟩ := slice_of h3
  subst t1 t2 t3
  have HRD := Lib.hid (show rdNet w1.heap.size w2.heap.size w2 [.int .i64 n.1, .slice A1 n.2.1.length c1, .slice A2 n.2.2.1.length c2, .slice A3 n.2.2.2.length c3] n from ⟨_, _, _, _, rfl, ⟨rfl, h0f⟩, h1, h2, h3⟩)
  have HR1 := Lib.hid ((HRa.out.at (HB1.out.block _ hsz)).at (hch.block E (by have := HB1.out.size; omega) (by omega)))
  have hb2 : Below w.heap.size w w2 := Chg.below (bThen HBa.out HB1.out) hch (by omega) (by omega)
  have HB2 := Lib.hid hb2
  have e0 := HR1.out.cells.1.1
  have e1 := HR1.out.cells.1.2.1
  have e2 := HR1.out.cells.1.2.2.1
  have e3 := HR1.out.cells.1.2.2.2
  have ez := HR1.out.cells.2
  clear h0f h1 h2 h3 hcur hch hb2
  go_wp2
  ((try simp only [Exit.inBlock, Exit.then]); refine bodyPost_ret (v := (.agg #[.int .i64 n.1, .slice A1 n.2.1.length c1, .slice A2 n.2.2.1.length c2, .slice A3 n.2.2.2.length c3])) (by rw [results_cell1 rfl]; go_simp) rfl ?_)
  have HB := HB2.out
  have hlt := HR1.out.lt
  have hB1s := HB1.out.size
  subst hE
  refine ⟨_, n, rfl, ⟨?_, hok, hlen⟩, by (repeat' (first | assumption | exact Below.refl _ _ | refine bDrewN ?_ _ | refine Below.drew ?_ | refine bAlloc ?_ (Nat.le_refl _) _ | refine bSet ?_ (by first | exact Nat.le_refl _ | omega | (simp <;> omega)) _))⟩
  exact good_Net _ _ _ _ _ _ _ _ HRD.out (by omega) (by simp) (fun b hb hb2 => by
        rw [Below.heap_setCell _ _ _ b (by dsimp only; omega), Below.heap_setCell _ _ _ b (by dsimp only; omega), Below.heap_setCell _ _ _ b (by dsimp only; omega), Below.heap_setCell _ _ _ b (by dsimp only; omega)])
theorem drawNet_any (A : Option Addr) (nn cap : Nat) (w : World) (hc : CodeW w A nn) : Calls Try.prog 14 #[.slice A nn cap] w fun e w' => ∃ (us : List Value) (n : DNet), e = .returned (.agg us.toArray) ∧ (rdNet w.heap.size w'.heap.size w' us n ∧ netB n = true) ∧ Below w.heap.size w w' :=
  (drawNetM_any A nn cap w hc).mono fun _ _ ⟨us, n, h1, ⟨h2, h3, _⟩, h4⟩ => ⟨us, n, h1, ⟨h2, h3⟩, h4⟩
end Go.Proofs.Ytfncjgmmiihibaa
