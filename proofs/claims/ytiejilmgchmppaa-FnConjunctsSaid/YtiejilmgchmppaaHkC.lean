/-
  Drawn nets, often with long conjunctions.
-/
import Derived.Test.YtiejilmgchmppaaHkB
import Derived.Test.YtiejilmgchmppaaBig
import Derived.Test.YtiejilmgchmppaaAtAll
import Derived.Deep.RegionHeld3
namespace Go.Proofs.Ytiejilmgchmppaa
open Go.RowKit
set_option linter.unusedVariables false
set_option linter.unusedSimpArgs false

theorem EndSt.ofE {w0 w : World} {E G nn : Nat} (hc : Cur TCur w G nn) (h : Chg G w0 w) (hG : G < w0.heap.size) (hE : w0.heap.size ≤ E) : EndSt w0 w w E G nn := ⟨hc, h, fun _ _ => rfl, rfl, hG, hE⟩
set_option maxHeartbeats 3200000 in
theorem l08NetN_at (G nn : Nat) (w : World) (hc : Cur TCur w G nn) : Calls Try.prog 24 #[.pointer (some ⟨G, 0, none⟩)] w (DrewN 14 w G nn) := by
  have HC := Lib.hid hc
  have hG := hc.lt
  clear hc
  go_enter Try.func24, Try.ntmps24
  go_wp2_with fail
  obtain ⟨Wa, hV⟩ : ∃ Wa, Wa = w.alloc (.cells #[.int .i64 0, .slice none 0 0, .slice none 0 0, .slice none 0 0] 28) := ⟨_, rfl⟩
  rw [← hV]
  have gN := eqbox1 hV
  have HBa := Lib.hid gN.2
  have HRa := Lib.hid (show BoxN Wa w.heap.size (.int .i64 0) (.slice none 0 0) (.slice none 0 0) (.slice none 0 0) from gN.1)
  have HCa := Lib.hid (HC.out.keep gN.2)
  have hsz : w.heap.size < Wa.heap.size := HRa.out.lt
  clear hV gN
  obtain ⟨E, hE⟩ : ∃ E, w.heap.size = E := ⟨_, rfl⟩
  rw [hE] at HRa hsz ⊢
  refine (sizedN_at G nn 4 3 14 _ HCa.out (by omega) (by omega) (by omega)).mono ?_
  rintro e w1 ⟨v1, vA, v3, rows, bs, n, rfl, hnet, hok, hlen, hcur, hch⟩
  obtain ⟨A1, c1, rfl⟩ := hnet.s.cap fV3_len
  obtain ⟨A2, c2, rfl⟩ := hnet.a.cap fAnd_len
  obtain ⟨A3, c3, rfl⟩ := hnet.o.cap fInt_len
  have HNET := Lib.hid hnet
  have HR1 := Lib.hid (HRa.out.at (hch.block E HRa.out.lt (by omega)))
  have HE := Lib.hid (EndSt.ofE (w0 := w) (E := E) hcur ((Chg.of_below HBa.out).trans hch) hG (by omega))
  have e0 := HR1.out.cells.1.1
  have e1 := HR1.out.cells.1.2.1
  have e2 := HR1.out.cells.1.2.2.1
  have e3 := HR1.out.cells.1.2.2.2
  have ez := HR1.out.cells.2
  clear hcur hch hnet
  go_wp2
  ((try simp only [Exit.inBlock, Exit.then]); refine bodyPost_ret (v := (.agg #[.int .i64 n.1, .slice A1 n.2.1.length c1, .slice A2 n.2.2.1.length c2, .slice A3 n.2.2.2.length c3])) (by rw [results_cell1 rfl]; go_simp) rfl ?_)
  have HE4 := ((((HE.out.set (i := 0) (u := (.int .i64 n.1)))).set (i := 1) (u := (.slice A1 n.2.1.length c1))).set (i := 2) (u := (.slice A2 n.2.2.1.length c2))).set (i := 3) (u := (.slice A3 n.2.2.2.length c3))
  exact ⟨_, _, _, rows, bs, n, rfl, (HNET.out.at (w' := ((((w1.setCell ⟨E, 0, none⟩ (.int .i64 n.1)).setCell ⟨E, 1, none⟩ (.slice A1 n.2.1.length c1)).setCell ⟨E, 2, none⟩ (.slice A2 n.2.2.1.length c2)).setCell ⟨E, 3, none⟩ (.slice A3 n.2.2.2.length c3))) fun b h1 h2 h3 => far4 (by omega)).lower (by omega), hok, hlen, HE4.cur, HE4.chg⟩
theorem codeW_keepN {w w' : World} {A : Option Addr} {n : Nat} (h : CodeW w A n) (hb : Below w.heap.size w w') : CodeW w' A n := by
  refine ⟨h.1, fun j hj => ?_⟩
  obtain ⟨b, o, e, hlt, x, h0, h1, hx⟩ := h.2 j hj
  exact ⟨b, o, e, Nat.lt_of_lt_of_le hlt hb.size, x, h0, h1, keep hb hx⟩
set_option maxHeartbeats 3200000 in
theorem drawDeep_any (A : Option Addr) (nn cap : Nat) (w : World) (hc : CodeW w A nn) : Calls Try.prog 6 #[.slice A nn cap] w fun e w' => ∃ (us : List Value) (n : DNet), e = .returned (.agg us.toArray) ∧ (rdNet w.heap.size w'.heap.size w' us n ∧ netB n = true) ∧ Below w.heap.size w w' := by
  have HC := Lib.hid hc
  clear hc
  go_enter Try.func6, Try.ntmps6
  go_wp2_with fail
  obtain ⟨Wa, hV⟩ : ∃ Wa, Wa = w.alloc (.cells #[.int .i64 0, .slice none 0 0, .slice none 0 0, .slice none 0 0] 28) := ⟨_, rfl⟩
  rw [← hV]
  have gN := eqbox1 hV
  have HBa := Lib.hid gN.2
  have HRa := Lib.hid (show BoxN Wa w.heap.size (.int .i64 0) (.slice none 0 0) (.slice none 0 0) (.slice none 0 0) from gN.1)
  have HCa := Lib.hid (codeW_keepN HC.out gN.2)
  have hsz : w.heap.size < Wa.heap.size := HRa.out.lt
  clear hV gN
  obtain ⟨E, hE⟩ : ∃ E, w.heap.size = E := ⟨_, rfl⟩
  rw [hE] at HRa hsz ⊢
  refine (new_any A nn cap _ HCa.out).mono ?_
  rintro e w1 ⟨rfl, hcur, hb1⟩
  have HB1 := Lib.hid hb1
  have HC1 := Lib.hid hcur
  have hs1 := hb1.size
  clear hcur hb1
  go_wp2_with fail
  refine (once_any _ nn 2 _ (by omega) (by omega) HC1.out).mono ?_
  rintro e w2 ⟨b, rfl, hcur, hch⟩
  have HC2 := Lib.hid hcur
  have HG2 := Lib.hid hch
  have hs2 := hch.size
  clear hcur hch
  cases b
  · go_wp2_with fail
    refine (l08NetN_at _ nn _ HC2.out).mono ?_
    rintro e w3 ⟨v1, vA, v3, rows, bs, n, rfl, hnet, hok, hlen, hcur, hch⟩
    obtain ⟨A1, c1, rfl⟩ := hnet.s.cap fV3_len
    obtain ⟨A2, c2, rfl⟩ := hnet.a.cap fAnd_len
    obtain ⟨A3, c3, rfl⟩ := hnet.o.cap fInt_len
    have HG3 := Lib.hid (HG2.out.trans hch)
    have hs3 := hch.size
    have HNET := Lib.hid hnet
    have HR1 := Lib.hid ((HRa.out.at (HB1.out.block _ hsz)).at (HG3.out.block E (by omega) (by omega)))
    have hb3 : Below w.heap.size w w3 := Chg.below (bThen HBa.out HB1.out) HG3.out (by omega) (by omega)
    have HB3 := Lib.hid hb3
    have e0 := HR1.out.cells.1.1
    have e1 := HR1.out.cells.1.2.1
    have e2 := HR1.out.cells.1.2.2.1
    have e3 := HR1.out.cells.1.2.2.2
    have ez := HR1.out.cells.2
    clear hcur hch hnet hb3
    go_wp2
    ((try simp only [Exit.inBlock, Exit.then]); refine bodyPost_ret (v := (.agg #[.int .i64 n.1, .slice A1 n.2.1.length c1, .slice A2 n.2.2.1.length c2, .slice A3 n.2.2.2.length c3])) (by rw [results_cell1 rfl]; go_simp) rfl ?_)
    have HB := HB3.out
    subst hE
    refine ⟨_, n, rfl, ⟨?_, hok⟩, by (repeat' (first | assumption | exact Below.refl _ _ | refine bDrewN ?_ _ | refine Below.drew ?_ | refine bAlloc ?_ (Nat.le_refl _) _ | refine bSet ?_ (by first | exact Nat.le_refl _ | omega | (simp <;> omega)) _))⟩
    exact good_Net.wider ((HNET.out.at (w' := ((((w3.setCell ⟨w.heap.size, 0, none⟩ (.int .i64 n.1)).setCell ⟨w.heap.size, 1, none⟩ (.slice A1 n.2.1.length c1)).setCell ⟨w.heap.size, 2, none⟩ (.slice A2 n.2.2.1.length c2)).setCell ⟨w.heap.size, 3, none⟩ (.slice A3 n.2.2.2.length c3))) fun b h1 h2 h3 => far4 (by omega)).lower (B' := w.heap.size) (by omega)).rd (Nat.le_refl _) (Nat.le_refl _)
  · go_wp2_with fail
    refine (chain_at _ nn _ HC2.out).mono ?_
    rintro e w3 ⟨v1, vA, v3, rows, bs, n, rfl, hnet, hok, hlen, hcur, hch⟩
    obtain ⟨A1, c1, rfl⟩ := hnet.s.cap fV3_len
    obtain ⟨A2, c2, rfl⟩ := hnet.a.cap fAnd_len
    obtain ⟨A3, c3, rfl⟩ := hnet.o.cap fInt_len
    have HG3 := Lib.hid (HG2.out.trans hch)
    have hs3 := hch.size
    have HNET := Lib.hid hnet
    have HR1 := Lib.hid ((HRa.out.at (HB1.out.block _ hsz)).at (HG3.out.block E (by omega) (by omega)))
    have hb3 : Below w.heap.size w w3 := Chg.below (bThen HBa.out HB1.out) HG3.out (by omega) (by omega)
    have HB3 := Lib.hid hb3
    have e0 := HR1.out.cells.1.1
    have e1 := HR1.out.cells.1.2.1
    have e2 := HR1.out.cells.1.2.2.1
    have e3 := HR1.out.cells.1.2.2.2
    have ez := HR1.out.cells.2
    clear hcur hch hnet hb3
    go_wp2
    ((try simp only [Exit.inBlock, Exit.then]); refine bodyPost_ret (v := (.agg #[.int .i64 n.1, .slice A1 n.2.1.length c1, .slice A2 n.2.2.1.length c2, .slice A3 n.2.2.2.length c3])) (by rw [results_cell1 rfl]; go_simp) rfl ?_)
    have HB := HB3.out
    subst hE
    refine ⟨_, n, rfl, ⟨?_, hok⟩, by (repeat' (first | assumption | exact Below.refl _ _ | refine bDrewN ?_ _ | refine Below.drew ?_ | refine bAlloc ?_ (Nat.le_refl _) _ | refine bSet ?_ (by first | exact Nat.le_refl _ | omega | (simp <;> omega)) _))⟩
    exact good_Net.wider ((HNET.out.at (w' := ((((w3.setCell ⟨w.heap.size, 0, none⟩ (.int .i64 n.1)).setCell ⟨w.heap.size, 1, none⟩ (.slice A1 n.2.1.length c1)).setCell ⟨w.heap.size, 2, none⟩ (.slice A2 n.2.2.1.length c2)).setCell ⟨w.heap.size, 3, none⟩ (.slice A3 n.2.2.2.length c3))) fun b h1 h2 h3 => far4 (by omega)).lower (B' := w.heap.size) (by omega)).rd (Nat.le_refl _) (Nat.le_refl _)
end Go.Proofs.Ytiejilmgchmppaa
