/-
  A drawn net as a net of one's own.
-/
import Derived.Test.YtiejilmgchmppaaDrA
import Derived.Test.YtiejilmgchmppaaHcD
import Derived.Test.YtiejilmgchmppaaHsA
import Derived.Deep.RegionHeld3
namespace Go.Proofs.Ytiejilmgchmppaa
open Go.RowKit
set_option linter.unusedVariables false
set_option linter.unusedSimpArgs false

section
variable {w0 w w' : World} {E F G nn : Nat} {I : Int} {v1 vA v3 : Value} {rows : List V3} {S : List DSeq} {bs : List Nat} {D : List DAnd} {R : List Int}
theorem NetSt.own (h : NetSt w0 w E F G nn I v1 vA v3 rows S bs D R) (he : EndSt w0 w w' E G nn) (hI : Fit I) : NetG w0.heap.size w' v1 vA v3 rows bs (I, S, D, R) := by
  have ha : GrR fAnd 2 TAnd owAnd w0.heap.size [] w' vA D D := h.a.at gow_And fun b hb => he.same b (fun e => h.oA.not (z := E) (by simp) (e ▸ hb))
  have hs : GrR fV3 3 TSeq owSeq w0.heap.size bs w' v1 rows S := h.s.at gow_Seq fun b hb => he.same b (fun e => h.oS.not (z := E) (by simp) (e ▸ hb))
  have ho : GrR fInt 1 TInt1 owInt w0.heap.size [] w' v3 R R := h.o.at owInt_good fun b hb => he.same b (fun e => h.oO.not (z := E) (by simp) (e ▸ hb))
  exact ⟨hs, ha, ho, fun b hb hm => h.oS b hb (by simp [hm]), fun b hb hm => h.oO b (List.mem_append.2 (.inl hm)) (by rcases List.mem_append.1 hb with hb | hb <;> simp [hb]), fun b hb hm => h.oO b (List.mem_append.2 (.inl hm)) (by simp [hb]), hI⟩
theorem netSt_of {B : Nat} {n : DNet} (hd : DrNet w0 w E F G nn (.int .i64 n.1) v1 vA v3) (h : NetG B w v1 vA v3 rows bs n) (hB : w0.heap.size ≤ B) (hEF : ∀ b ∈ blkL v1 ++ (bs ++ (blkL vA ++ blkL v3)), b ≠ E ∧ b ≠ F) : NetSt w0 w E F G nn n.1 v1 vA v3 rows n.2.1 bs n.2.2.1 n.2.2.2 := by
  refine ⟨hd, gr_lower h.a hB, gr_lower h.s hB, gr_lower h.o hB, fun b hb hz => ?_, fun b hb hz => ?_, fun b hb hz => ?_⟩
  · have hb : b ∈ blkL vA := by simpa using hb
    have := hEF b (by simp [hb])
    simp only [List.mem_cons, List.not_mem_nil, or_false] at hz
    omega
  · have h1 := hEF b (by rcases List.mem_append.1 hb with hb | hb <;> simp [hb])
    simp only [List.mem_cons] at hz
    rcases hz with hz | hz | hz
    · exact h1.1 hz
    · exact h1.2 hz
    · exact h.sa b hb hz
  · have hb : b ∈ blkL v3 := by simpa using hb
    have h1 := hEF b (by simp [hb])
    simp only [List.mem_cons] at hz
    rcases hz with hz | hz | hz
    · exact h1.1 hz
    · exact h1.2 hz
    rcases List.mem_append.1 hz with hz | hz
    · exact h.ao b hz hb
    · exact h.so b hz hb
theorem NetSt.addA {w6 : World} {n : Nat} {vA' : Value} {x : DAnd} (h : NetSt w0 w E F G nn I v1 vA v3 rows S bs D R)
    (hown : w6.ownsRow w0.heap.size TAnd 2 vA' n (D.flatMap fAnd ++ fAnd x)) (hn : n = D.length + 1) (hgrow : w.grownBy w6 vA.ownBlock) (hat : vA'.ownBlock = vA.ownBlock ∨ vA'.ownBlock = some w.heap.size) (hx : Fit x.1 ∧ Fit x.2) :
    NetSt w0 (w6.setCell ⟨F, 2, none⟩ vA') E F G nn I v1 vA' v3 rows S bs (D ++ [x]) R := by
  have hr : ∀ g, vA.ownBlock = some g → w0.heap.size ≤ g ∧ g ≠ F ∧ g ≠ E := fun g e => by
    have := h.oA.own e
    simp only [List.mem_cons, List.not_mem_nil, or_false, not_or] at this
    exact ⟨(h.a.own.blk_lt e).2, this.2, this.1⟩
  have hd := h.dr.grown hgrow hr
  have hElt := h.dr.res.lt
  have hFlt := h.dr.box.lt
  have hnew : ∀ b ∈ blkL vA', b ∈ blkL vA ∨ b = w.heap.size := fun b hb => by
    have e := mem_blkL.1 hb
    rcases hat with h1 | h1
    · exact .inl (mem_blkL.2 (h1 ▸ e))
    · rw [h1] at e; injection e with e; exact .inr e.symm
  have oA' : Off [E, F] vA' ([] ++ []) := h.oA.grow hat (fun z hz => by
    simp only [List.mem_cons, List.not_mem_nil, or_false] at hz
    rcases hz with rfl | rfl
    · exact hElt
    · exact hFlt) (fun c hc => by cases hc)
  have oS' : Off (E :: F :: blkL vA') v1 bs := fun b hb hz => by
    simp only [List.mem_cons] at hz
    rcases hz with hz | hz | hz
    · exact h.oS b hb (by simp [hz])
    · exact h.oS b hb (by simp [hz])
    · rcases hnew b hz with h1 | h1
      · exact h.oS b hb (by simp [h1])
      · have := (h.s.lt gow_Seq hb).1; omega
  have oO' : Off (E :: F :: (blkL vA' ++ (blkL v1 ++ bs))) v3 [] := fun b hb hz => by
    simp only [List.mem_cons] at hz
    rcases hz with hz | hz | hz
    · exact h.oO b hb (by simp [hz])
    · exact h.oO b hb (by simp [hz])
    rcases List.mem_append.1 hz with hz | hz
    · rcases hnew b hz with h1 | h1
      · exact h.oO b hb (by simp [h1])
      · have := (h.o.lt owInt_good hb).1; omega
    · exact h.oO b hb (by simp only [List.mem_cons, List.mem_append] at hz ⊢; rcases hz with hz | hz <;> simp [hz])
  have ha : GrR fAnd 2 TAnd owAnd w0.heap.size ([] ++ []) w6 vA' (D ++ [x]) (D ++ [x]) := h.a.addV (n := n) gow_And (Below.refl _ _) hgrow hown hn hat (owAnd_of hx.1 hx.2 _) (by simpa using h.a.nd) (fun c hc => by cases hc)
  have hs : GrR fV3 3 TSeq owSeq w0.heap.size bs w6 v1 rows S := h.s.keepG gow_Seq hgrow (fun g e hb => h.oS g hb (by simp [mem_blkL.2 e]))
  have ho : GrR fInt 1 TInt1 owInt w0.heap.size [] w6 v3 R R := h.o.keepG owInt_good hgrow (fun g e hb => h.oO g hb (by simp [mem_blkL.2 e]))
  exact ⟨hd.stored (hd.box.set2 vA'), ha.far gow_And (oA'.not (by simp)), hs.far gow_Seq (oS'.not (by simp)), ho.far owInt_good (oO'.not (by simp)), oA', oS', oO'⟩
theorem NetSt.setO {N : Nat} {v : Value} {L : List Int} (h : NetSt w0 w E F G nn I v1 vA v3 rows S bs D R) (hv : OwnsI w N v L) (hf : ∀ x ∈ L, Fit x) (hN : w0.heap.size ≤ N) (hE : E < N) (hF : F < N) (hA : ∀ b ∈ blkL vA ++ (blkL v1 ++ bs), b < N) :
    NetSt w0 (w.setCell ⟨F, 3, none⟩ v) E F G nn I v1 vA v rows S bs D L := by
  have hvb : ∀ b ∈ blkL v, N ≤ b := fun b hb => (hv.lt b (mem_blkL.1 hb)).1
  have hrow : OwnsR fInt 1 TInt1 w w0.heap.size v L := by unfold OwnsR; rw [flat_vI]; exact hv.lower hN
  have ho : GrR fInt 1 TInt1 owInt w0.heap.size [] w v L L := gr_flat hrow (fun x hx => ⟨rfl, rfl, hf x hx⟩)
  have oO' : Off (E :: F :: (blkL vA ++ (blkL v1 ++ bs))) v [] := fun b hb hz => by
    have h1 := hvb b (by simpa using hb)
    simp only [List.mem_cons] at hz
    rcases hz with hz | hz | hz
    · omega
    · omega
    · have := hA b hz; omega
  exact ⟨h.dr.stored (h.dr.box.set3 v), h.a.far gow_And (h.oA.not (by simp)), h.s.far gow_Seq (h.oS.not (by simp)), ho.far owInt_good (oO'.not (by simp)), h.oA, h.oS, oO'⟩
end
theorem netP_outs {n : DNet} (h : NetP n) {R : List Int} (hl : R.length ≤ 16) (hr : ∀ r ∈ R, ∃ x : Nat, r = (x : Int) ∧ x / 2 < netN n) : NetP (n.1, n.2.1, n.2.2.1, R) :=
  ⟨⟨h.sz.i0, h.sz.i20, h.sz.s12, h.sz.a300, hl⟩, h.seq, h.and_, fun r hm => by
    rcases List.mem_append.1 (show r ∈ R ++ n.2.1.flatMap (·.2.2) from hm) with hm | hm
    · exact hr r hm
    · exact h.root r (List.mem_append.2 (.inr hm))⟩
/-- A drawn net of one's own with at most pa AND nodes. -/
def DrewN (pa : Nat) (w : World) (G nn : Nat) (e : Ending) (w' : World) : Prop := ∃ (v1 vA v3 : Value) (rows : List V3) (bs : List Nat) (n : DNet), e = .returned (.agg #[.int .i64 n.1, v1, vA, v3]) ∧ NetG w.heap.size w' v1 vA v3 rows bs n ∧ netB n = true ∧ n.2.2.1.length ≤ pa ∧ Cur TCur w' G nn ∧ Chg G w w'
set_option maxRecDepth 100000 in
set_option maxHeartbeats 25600000 in
theorem sizedN_at (G nn pi ps pa : Nat) (w : World) (hc : Cur TCur w G nn) (hpi : 1 ≤ pi ∧ pi ≤ 20) (hps : ps ≤ 12) (hpa : pa ≤ 300) :
    Calls Try.prog 48 #[.pointer (some ⟨G, 0, none⟩), .int .i64 (pi : Int), .int .i64 (ps : Int), .int .i64 (pa : Int)] w (DrewN pa w G nn) := by
  obtain ⟨i0, hi, hz0, hz1, hz2⟩ := info_parts infoI
  obtain ⟨iA, hiA, hzA0, hzA1, hzA2⟩ := info_parts info_And
  obtain ⟨iQ, hiQ, hzQ0, hzQ1, hzQ2⟩ := info_parts info_Seq
  have hG := hc.lt
  have HC := Lib.hid hc
  clear hc
  go_enter Try.func48, Try.ntmps48
  go_wp2_with fail
  obtain ⟨Wa, hV⟩ : ∃ Wa, Wa = w.alloc (.cells #[.int .i64 0, .slice none 0 0, .slice none 0 0, .slice none 0 0] 28) := ⟨_, rfl⟩
  rw [← hV]
  have gN := eqbox1 hV
  have HCa := Lib.hid (HC.out.keep gN.2)
  have HRa := Lib.hid (show BoxN Wa w.heap.size (.int .i64 0) (.slice none 0 0) (.slice none 0 0) (.slice none 0 0) from gN.1)
  have HBa := Lib.hid gN.2
  clear hV gN
  refine (below_any G nn _ _ (by omega) (by omega) HCa.out).mono ?_
  rintro e w1 ⟨x, rfl, hx, hcur, hch⟩
  obtain ⟨k, rfl⟩ : ∃ k : Nat, x = (k : Int) := ⟨x.toNat, by omega⟩
  have hk : k < pi := by omega
  have HR1 := Lib.hid (HRa.out.at (hch.block w.heap.size HRa.out.lt (by omega)))
  have HC1 := Lib.hid hcur
  have HG1 := Lib.hid (show Chg G w w1 from (Chg.of_below HBa.out).trans hch)
  clear hx hcur hch HCa HRa HBa
  go_wp2_with fail
  obtain ⟨W1, hV⟩ : ∃ W1, W1 = w1.alloc (.cells #[.int .i64 (1 + (k : Int)), .slice none 0 0, .slice none 0 0, .slice none 0 0] 28) := ⟨_, rfl⟩
  rw [← hV]
  have gN := eqbox1 hV
  obtain ⟨F, hF⟩ : ∃ F, w1.heap.size = F := ⟨_, rfl⟩
  obtain ⟨E, hE⟩ : ∃ E, w.heap.size = E := ⟨_, rfl⟩
  have hD : DrNet w W1 E F G nn (.int .i64 (1 + (k : Int))) (.slice none 0 0) (.slice none 0 0) (.slice none 0 0) := by
    have hl := HR1.out.lt
    subst hF hE
    exact ⟨gN.1, HR1.out.at (gN.2.block _ hl), HC1.out.keep gN.2, HG1.out.trans (Chg.of_below gN.2), Nat.le_refl _, HG1.out.size, by omega, hG⟩
  have HD := Lib.hid hD
  have hEw : w.heap.size = E := hE
  have hFw : w.heap.size < F := by have := HR1.out.lt; omega
  rw [hF] at gN ⊢
  rw [hE]
  clear hV gN hD hF hE HR1 HC1 HG1
  refine (below_any G nn _ _ (by omega) (by omega) HD.out.cur).mono ?_
  rintro e w2 ⟨x, rfl, hx, hcur, hch⟩
  obtain ⟨s, rfl⟩ : ∃ s : Nat, x = (s : Int) := ⟨x.toNat, by omega⟩
  have hs : s ≤ ps := by omega
  have HD2 := Lib.hid (HD.out.call hcur hch)
  clear hx hcur hch HD
  go_wp2_with fail
  refine (below_any G nn _ _ (by omega) (by omega) HD2.out.cur).mono ?_
  rintro e w3 ⟨x, rfl, hx, hcur, hch⟩
  obtain ⟨a, rfl⟩ : ∃ a : Nat, x = (a : Int) := ⟨x.toNat, by omega⟩
  have ha : a ≤ pa := by omega
  have HD3 := Lib.hid (HD2.out.call hcur hch)
  clear hx hcur hch HD2
  have c0 := HD3.out.box.cells.1.1
  go_wp2
  go_loopw [13] (fun v wr => ∃ (j : Nat) (A : Option Addr) (c : Nat) (D : List DAnd), j ≤ a ∧ v = .int .i64 (j : Int) ∧ D.length = j ∧ DrNet w wr E F G nn (.int .i64 (1 + (k : Int))) (.slice none 0 0) (.slice A j c) (.slice none 0 0) ∧ GrR fAnd 2 53 owAnd w.heap.size [] wr (.slice A j c) D D ∧ AndsOk (2 + k + s) D ∧ E ∉ blkL (.slice A j c) ∧ F ∉ blkL (.slice A j c)) (fun v _ => a - (intOf v).toNat)
  case atStart => exact ⟨0, none, 0, [], Nat.zero_le _, rfl, rfl, HD3.out, GrR.nil _ _ _ _ _ _, andsOk_nil _, by simp [blkL_nil], by simp [blkL_nil]⟩
  case round =>
    obtain ⟨j, A, c, D, hj, rfl, hDl, hD, hg, hok, hEn, hFn⟩ := hrel
    obtain ⟨w4, rfl⟩ : ∃ w4, w4 = wr := ⟨_, rfl⟩
    have HD := Lib.hid hD
    have HGR := Lib.hid hg
    have HOK := Lib.hid (And.intro hok (And.intro hEn (And.intro hFn hDl)))
    clear HD3 c0 hD hg hok hEn hFn hDl
    by_cases hlt : j < a
    · go_wp2_with fail
      · refine (below_any G nn _ _ (by omega) (by omega) HD.out.cur).mono ?_
        rintro e w5 ⟨x, rfl, hx, hcur, hch⟩
        have HD5 := Lib.hid (HD.out.call hcur hch)
        have HGR5 := Lib.hid (HGR.out.chg gow_And hch hG)
        obtain ⟨X, hX⟩ : ∃ X : Nat, 2 * (1 + (1 + (k : Int)) + (s : Int) + (j : Int)) - 1 - x = (X : Int) := ⟨(2 * (1 + (1 + (k : Int)) + (s : Int) + (j : Int)) - 1 - x).toNat, by omega⟩
        have hXb : X / 2 < 2 + k + s + j := by omega
        have hx0 : 0 ≤ x ∧ x < 1000 := by omega
        have HX := Lib.hid hX
        clear hcur hch hx hX
        have b2 := HD5.out.box.cells.1.2.2.1
        go_wp2_with fail
        rw [HX.out]
        obtain ⟨KN, hKN⟩ : ∃ K : Nat, 2 * (1 + (1 + (k : Int)) + (s : Int) + (j : Int)) = (K : Int) := ⟨2 * (2 + k + s + j), by omega⟩
        have hKb : KN = 2 * (2 + k + s + j) := by omega
        have HKB := Lib.hid hKb
        have hk1 : 3 < KN ∧ KN ≤ 2000 := by omega
        rw [hKN]
        clear hKN hKb
        refine wp_region_noPanic ?_
        refine wp_region_kept 8 11 (fun w' => (Chg G w5 w' ∧ Cur TCur w' G nn) ∧ w'.cell? ⟨F, 2, none⟩ = some (.slice A j c)) (by kernel_rfl) rfl ⟨⟨(Chg.refl _ _).drew, (HD5.out.cur).keep (Below.drew (Below.refl _ _))⟩, keep (Below.drew (Below.refl _ _)) b2⟩ (fun hK0 => ?_)
        refine Kept.take (v := ?va0) 0 (by kernel_rfl) rfl (by kernel_rfl) (fun _ _ _ h => h) (Or.inl ⟨by rfl, ?hya0⟩) hK0 ?resta0
        case hya0 =>
          intro w0 hSw
          (try dsimp only at hSw)
          go_simp
          all_goals (with_reducible rfl)
        (try simp only [Act.put, List.setIfInBounds_toArray, List.set_cons_zero, List.set_cons_succ])
        refine Kept.take (v := ?va1) 1 (by kernel_rfl) rfl (by kernel_rfl) (fun _ _ _ h => h) (Or.inl ⟨by rfl, ?hya1⟩) hK0 ?resta1
        case hya1 =>
          intro w0 hSw
          (try dsimp only at hSw)
          go_simp
          all_goals (with_reducible rfl)
        (try simp only [Act.put, List.setIfInBounds_toArray, List.set_cons_zero, List.set_cons_succ])
        refine Kept.take (v := ?va2) 2 (by kernel_rfl) rfl (by kernel_rfl) (fun _ _ _ h => h) (Or.inl ⟨by rfl, ?hya2⟩) hK0 ?resta2
        case hya2 =>
          intro w0 hSw
          (try dsimp only at hSw)
          go_simp
          all_goals (with_reducible rfl)
        (try simp only [Act.put, List.setIfInBounds_toArray, List.set_cons_zero, List.set_cons_succ])
        refine Kept.take (v := ?va3) 3 (by kernel_rfl) rfl (by kernel_rfl) (fun _ _ _ h => h) (Or.inl ⟨by rfl, ?hya3⟩) hK0 ?resta3
        case hya3 =>
          intro w0 hSw
          (try dsimp only at hSw)
          go_simp
          all_goals (with_reducible rfl)
        (try simp only [Act.put, List.setIfInBounds_toArray, List.set_cons_zero, List.set_cons_succ])
        refine Kept.take (v := ?va4) 4 (by kernel_rfl) rfl (by kernel_rfl) (fun _ _ _ h => h) (Or.inl ⟨by rfl, ?hya4⟩) hK0 ?resta4
        case hya4 =>
          intro w0 hSw
          (try dsimp only at hSw)
          go_simp
          all_goals (with_reducible rfl)
        (try simp only [Act.put, List.setIfInBounds_toArray, List.set_cons_zero, List.set_cons_succ])
        refine Kept.one 5 (by kernel_rfl) rfl (fun K hK => ?_)
        go_simp
        go_at_call 47
        refine (below_any G nn (KN : Int) _ (by omega) (by omega) hK0.1.2).mono ?_
        rintro e wqY ⟨yY, rfl, hY, hcyY, hchyY⟩
        obtain ⟨Y, rfl⟩ : ∃ Y : Nat, yY = (Y : Int) := ⟨yY.toNat, by omega⟩
        go_simp
        refine hK.out _ _ (⟨⟨hK0.1.1.trans hchyY, hcyY⟩, (hchyY.cell (p := ⟨F, 2, none⟩) (World.block_lt_of_cell? _ _ hK0.2) (by dsimp only; omega)).trans hK0.2⟩) (fun hK1 => ?_)
        clear hK K hK0
        (try simp only [Act.put, List.setIfInBounds_toArray, List.set_cons_zero, List.set_cons_succ])
        refine Kept.take (v := ?va6) 6 (by kernel_rfl) rfl (by kernel_rfl) (fun _ _ _ h => h) (Or.inl ⟨by rfl, ?hya6⟩) hK1 ?resta6
        case hya6 =>
          intro w0 hSw
          (try dsimp only at hSw)
          go_simp
          all_goals (with_reducible rfl)
        (try simp only [Act.put, List.setIfInBounds_toArray, List.set_cons_zero, List.set_cons_succ])
        refine Kept.one 7 (by kernel_rfl) rfl (fun K hK => ?_)
        go_simp
        refine hK.out _ _ (⟨⟨hK1.1.1.alloc _, hK1.1.2.keep (bAlloc (Below.refl _ _) (Nat.le_refl _) _)⟩, keep (bAlloc (Below.refl _ _) (Nat.le_refl _) _) hK1.2⟩) (fun hK2 => ?_)
        clear hK K hK1
        (try simp only [Act.put, List.setIfInBounds_toArray, List.set_cons_zero, List.set_cons_succ])
        refine Kept.tail (by rfl) (by kernel_rfl) ?_
        simp only [List.drop_succ_cons, List.drop_zero]
        have HD6 := Lib.hid (HD5.out.call hK2.1.2 hK2.1.1)
        have HG6 := Lib.hid (HGR5.out.chg gow_And hK2.1.1 hG)
        have hneF : (Value.slice A j c).ownBlock ≠ some F := fun e => HOK.out.2.2.1 (mem_blkL.2 e)
        have hneE : (Value.slice A j c).ownBlock ≠ some E := fun e => HOK.out.2.1 (mem_blkL.2 e)
        have hf2 := hK2.2
        have hz2 := HD6.out.box.cells.2 2
        have hrow : OwnsR fAnd 2 53 _ w.heap.size (.slice A j c) D := HG6.out.own
        unfold OwnsR at hrow
        rw [HOK.out.2.2.2] at hrow
        have HROW := Lib.hid hrow
        obtain ⟨WA, hWA⟩ : ∃ WA, WA = wqY.alloc (.cells #[.int .i64 (X : Int), .int .i64 (Y : Int)] 53) := ⟨_, rfl⟩
        have HNB := Lib.hid (show WA.heap[wqY.heap.size]? = some (.cells #[.int .i64 (X : Int), .int .i64 (Y : Int)] 53 (0, 0)) by rw [hWA]; exact heap_alloc_new _ _)
        rw [← hWA] at HD6 HG6 hf2 hz2 HROW ⊢
        have HSZ := Lib.hid (show w.heap.size ≤ WA.heap.size by rw [hWA]; have := hK2.1.1.size; have := HD5.out.chg.size; omega)
        have HY := Lib.hid hY
        clear hK2 hrow hWA hY hcyY hchyY b2
        go_wp2_with (at_builtin; refine wpList_append_all (by rfl) _ _ 25 (by rfl) w.heap.size 53 iA (.agg #[.int .i64 0, .int .i64 0]) 2 16 Try.underlying25 hiA hzA0 hzA1 hzA2 rfl (by omega) (.slice A j c) j (D.flatMap fAnd) (by rfl) HROW.out (some ⟨wqY.heap.size, 0, none⟩) 1 1 [.int .i64 (X : Int), .int .i64 (Y : Int)] (by rfl) (by rfl) (.inr ⟨_, rfl, World.news_of_block HNB.out⟩) (by simp [Value.oneCell']) (by unfold maxLen; omega) (by omega) HSZ.out ?_; intro A' c' w6 hown6 hgrow6 hkeep6 hat6; have y2 := grownC hgrow6 hf2 hneF; have z2 := grownZ hgrow6 hf2 hz2 hneF)
        refine NoPanic.normal ?_
        have hrows : ∀ g, (Value.slice A j c).ownBlock = some g → w.heap.size ≤ g ∧ g ≠ F ∧ g ≠ E := fun g e => ⟨(HG6.out.own.blk_lt e).2, fun e2 => hneF (by rw [← e2]; exact e), fun e2 => hneE (by rw [← e2]; exact e)⟩
        have HD7 := Lib.hid (HD6.out.grown hgrow6 hrows)
        have hG7 := HG6.out.addV (n := j + 1) (cs := []) gow_And (Below.refl _ _) hgrow6 hown6 (by rw [HOK.out.2.2.2]) hat6 (owAnd_of (show Fit (X : Int) by have := hXb; unfold Fit; omega) (show Fit (Y : Int) by have := HY.out; unfold Fit; omega) _) (by simpa using HG6.out.nd) (fun b hb => by cases hb)
        have hF7 : F ∉ blkL (.slice A' (j + 1) c') := fun hb => by
          rcases hat6 with h | h
          · exact hneF (by rw [← h]; exact mem_blkL.1 hb)
          · have e := mem_blkL.1 hb
            rw [h] at e
            injection e with e
            have := HD6.out.box.lt
            omega
        have hE7 : E ∉ blkL (.slice A' (j + 1) c') := fun hb => by
          rcases hat6 with h | h
          · exact hneE (by rw [← h]; exact mem_blkL.1 hb)
          · have e := mem_blkL.1 hb
            rw [h] at e
            injection e with e
            have := HD6.out.res.lt
            omega
        have hD8 := HD7.out.stored (HD7.out.box.set2 (.slice A' (j + 1) c'))
        have hG8 := GrR.far (i := 2) (u := .slice A' (j + 1) c') gow_And hG7 (F := F) (by simpa using hF7)
        have HR8 := Lib.hid (And.intro hD8 (And.intro hG8 (And.intro hE7 hF7)))
        have HDL := Lib.hid (show (D ++ [((X : Int), (Y : Int))]).length = j + 1 by rw [List.length_append, HOK.out.2.2.2]; rfl)
        have HAO := Lib.hid (andsOk_add HOK.out.1 (x := X) (y := Y) (by rw [HOK.out.2.2.2]; exact hXb) (by rw [HOK.out.2.2.2]; have := HY.out; have := HKB.out; omega))
        clear hown6 hgrow6 hkeep6 hat6 y2 z2 hG7 hF7 hE7 hD8 hG8 hf2 hz2 hneF hneE hrows
        go_wp2
        go_roundw
        case rel => exact ⟨j + 1, A', c', _, by omega, by go_num, HDL.out, HR8.out.1, HR8.out.2.1, HAO.out, HR8.out.2.2.1, HR8.out.2.2.2⟩
        case measure => simp [intOf] <;> omega
      · refine (below_any G nn _ _ (by omega) (by omega) HD.out.cur).mono ?_
        rintro e w5 ⟨x, rfl, hx, hcur, hch⟩
        have HD5 := Lib.hid (HD.out.call hcur hch)
        have HGR5 := Lib.hid (HGR.out.chg gow_And hch hG)
        obtain ⟨X, hX⟩ : ∃ X : Nat, 2 * (1 + (1 + (k : Int)) + (s : Int) + (j : Int)) - 1 - x = (X : Int) := ⟨(2 * (1 + (1 + (k : Int)) + (s : Int) + (j : Int)) - 1 - x).toNat, by omega⟩
        have hXb : X / 2 < 2 + k + s + j := by omega
        have hx0 : 0 ≤ x ∧ x < 1000 := by omega
        have HX := Lib.hid hX
        clear hcur hch hx hX
        have b2 := HD5.out.box.cells.1.2.2.1
        go_wp2_with fail
        rw [HX.out]
        obtain ⟨KN, hKN⟩ : ∃ K : Nat, 2 * (1 + (1 + (k : Int)) + (s : Int) + (j : Int)) = (K : Int) := ⟨2 * (2 + k + s + j), by omega⟩
        have hKb : KN = 2 * (2 + k + s + j) := by omega
        have HKB := Lib.hid hKb
        have hk1 : 3 < KN ∧ KN ≤ 2000 := by omega
        rw [hKN]
        clear hKN hKb
        refine wp_region_noPanic ?_
        refine wp_region_kept 8 11 (fun w' => (Chg G w5 w' ∧ Cur TCur w' G nn) ∧ w'.cell? ⟨F, 2, none⟩ = some (.slice A j c)) (by kernel_rfl) rfl ⟨⟨(Chg.refl _ _).drew, (HD5.out.cur).keep (Below.drew (Below.refl _ _))⟩, keep (Below.drew (Below.refl _ _)) b2⟩ (fun hK0 => ?_)
        refine Kept.take (v := ?vb0) 0 (by kernel_rfl) rfl (by kernel_rfl) (fun _ _ _ h => h) (Or.inl ⟨by rfl, ?hyb0⟩) hK0 ?restb0
        case hyb0 =>
          intro w0 hSw
          (try dsimp only at hSw)
          go_simp
          all_goals (with_reducible rfl)
        (try simp only [Act.put, List.setIfInBounds_toArray, List.set_cons_zero, List.set_cons_succ])
        refine Kept.take (v := ?vb1) 1 (by kernel_rfl) rfl (by kernel_rfl) (fun _ _ _ h => h) (Or.inl ⟨by rfl, ?hyb1⟩) hK0 ?restb1
        case hyb1 =>
          intro w0 hSw
          (try dsimp only at hSw)
          go_simp
          all_goals (with_reducible rfl)
        (try simp only [Act.put, List.setIfInBounds_toArray, List.set_cons_zero, List.set_cons_succ])
        refine Kept.take (v := ?vb2) 2 (by kernel_rfl) rfl (by kernel_rfl) (fun _ _ _ h => h) (Or.inl ⟨by rfl, ?hyb2⟩) hK0 ?restb2
        case hyb2 =>
          intro w0 hSw
          (try dsimp only at hSw)
          go_simp
          all_goals (with_reducible rfl)
        (try simp only [Act.put, List.setIfInBounds_toArray, List.set_cons_zero, List.set_cons_succ])
        refine Kept.take (v := ?vb3) 3 (by kernel_rfl) rfl (by kernel_rfl) (fun _ _ _ h => h) (Or.inl ⟨by rfl, ?hyb3⟩) hK0 ?restb3
        case hyb3 =>
          intro w0 hSw
          (try dsimp only at hSw)
          go_simp
          all_goals (with_reducible rfl)
        (try simp only [Act.put, List.setIfInBounds_toArray, List.set_cons_zero, List.set_cons_succ])
        refine Kept.take (v := ?vb4) 4 (by kernel_rfl) rfl (by kernel_rfl) (fun _ _ _ h => h) (Or.inl ⟨by rfl, ?hyb4⟩) hK0 ?restb4
        case hyb4 =>
          intro w0 hSw
          (try dsimp only at hSw)
          go_simp
          all_goals (with_reducible rfl)
        (try simp only [Act.put, List.setIfInBounds_toArray, List.set_cons_zero, List.set_cons_succ])
        refine Kept.one 5 (by kernel_rfl) rfl (fun K hK => ?_)
        go_simp
        go_at_call 47
        refine (below_any G nn (KN : Int) _ (by omega) (by omega) hK0.1.2).mono ?_
        rintro e wqY ⟨yY, rfl, hY, hcyY, hchyY⟩
        obtain ⟨Y, rfl⟩ : ∃ Y : Nat, yY = (Y : Int) := ⟨yY.toNat, by omega⟩
        go_simp
        refine hK.out _ _ (⟨⟨hK0.1.1.trans hchyY, hcyY⟩, (hchyY.cell (p := ⟨F, 2, none⟩) (World.block_lt_of_cell? _ _ hK0.2) (by dsimp only; omega)).trans hK0.2⟩) (fun hK1 => ?_)
        clear hK K hK0
        (try simp only [Act.put, List.setIfInBounds_toArray, List.set_cons_zero, List.set_cons_succ])
        refine Kept.take (v := ?vb6) 6 (by kernel_rfl) rfl (by kernel_rfl) (fun _ _ _ h => h) (Or.inl ⟨by rfl, ?hyb6⟩) hK1 ?restb6
        case hyb6 =>
          intro w0 hSw
          (try dsimp only at hSw)
          go_simp
          all_goals (with_reducible rfl)
        (try simp only [Act.put, List.setIfInBounds_toArray, List.set_cons_zero, List.set_cons_succ])
        refine Kept.one 7 (by kernel_rfl) rfl (fun K hK => ?_)
        go_simp
        refine hK.out _ _ (⟨⟨hK1.1.1.alloc _, hK1.1.2.keep (bAlloc (Below.refl _ _) (Nat.le_refl _) _)⟩, keep (bAlloc (Below.refl _ _) (Nat.le_refl _) _) hK1.2⟩) (fun hK2 => ?_)
        clear hK K hK1
        (try simp only [Act.put, List.setIfInBounds_toArray, List.set_cons_zero, List.set_cons_succ])
        refine Kept.tail (by rfl) (by kernel_rfl) ?_
        simp only [List.drop_succ_cons, List.drop_zero]
        have HD6 := Lib.hid (HD5.out.call hK2.1.2 hK2.1.1)
        have HG6 := Lib.hid (HGR5.out.chg gow_And hK2.1.1 hG)
        have hneF : (Value.slice A j c).ownBlock ≠ some F := fun e => HOK.out.2.2.1 (mem_blkL.2 e)
        have hneE : (Value.slice A j c).ownBlock ≠ some E := fun e => HOK.out.2.1 (mem_blkL.2 e)
        have hf2 := hK2.2
        have hz2 := HD6.out.box.cells.2 2
        have hrow : OwnsR fAnd 2 53 _ w.heap.size (.slice A j c) D := HG6.out.own
        unfold OwnsR at hrow
        rw [HOK.out.2.2.2] at hrow
        have HROW := Lib.hid hrow
        obtain ⟨WA, hWA⟩ : ∃ WA, WA = wqY.alloc (.cells #[.int .i64 (X : Int), .int .i64 (Y : Int)] 53) := ⟨_, rfl⟩
        have HNB := Lib.hid (show WA.heap[wqY.heap.size]? = some (.cells #[.int .i64 (X : Int), .int .i64 (Y : Int)] 53 (0, 0)) by rw [hWA]; exact heap_alloc_new _ _)
        rw [← hWA] at HD6 HG6 hf2 hz2 HROW ⊢
        have HSZ := Lib.hid (show w.heap.size ≤ WA.heap.size by rw [hWA]; have := hK2.1.1.size; have := HD5.out.chg.size; omega)
        have HY := Lib.hid hY
        clear hK2 hrow hWA hY hcyY hchyY b2
        go_wp2_with (at_builtin; refine wpList_append_all (by rfl) _ _ 25 (by rfl) w.heap.size 53 iA (.agg #[.int .i64 0, .int .i64 0]) 2 16 Try.underlying25 hiA hzA0 hzA1 hzA2 rfl (by omega) (.slice A j c) j (D.flatMap fAnd) (by rfl) HROW.out (some ⟨wqY.heap.size, 0, none⟩) 1 1 [.int .i64 (X : Int), .int .i64 (Y : Int)] (by rfl) (by rfl) (.inr ⟨_, rfl, World.news_of_block HNB.out⟩) (by simp [Value.oneCell']) (by unfold maxLen; omega) (by omega) HSZ.out ?_; intro A' c' w6 hown6 hgrow6 hkeep6 hat6; have y2 := grownC hgrow6 hf2 hneF; have z2 := grownZ hgrow6 hf2 hz2 hneF)
        refine NoPanic.normal ?_
        have hrows : ∀ g, (Value.slice A j c).ownBlock = some g → w.heap.size ≤ g ∧ g ≠ F ∧ g ≠ E := fun g e => ⟨(HG6.out.own.blk_lt e).2, fun e2 => hneF (by rw [← e2]; exact e), fun e2 => hneE (by rw [← e2]; exact e)⟩
        have HD7 := Lib.hid (HD6.out.grown hgrow6 hrows)
        have hG7 := HG6.out.addV (n := j + 1) (cs := []) gow_And (Below.refl _ _) hgrow6 hown6 (by rw [HOK.out.2.2.2]) hat6 (owAnd_of (show Fit (X : Int) by have := hXb; unfold Fit; omega) (show Fit (Y : Int) by have := HY.out; unfold Fit; omega) _) (by simpa using HG6.out.nd) (fun b hb => by cases hb)
        have hF7 : F ∉ blkL (.slice A' (j + 1) c') := fun hb => by
          rcases hat6 with h | h
          · exact hneF (by rw [← h]; exact mem_blkL.1 hb)
          · have e := mem_blkL.1 hb
            rw [h] at e
            injection e with e
            have := HD6.out.box.lt
            omega
        have hE7 : E ∉ blkL (.slice A' (j + 1) c') := fun hb => by
          rcases hat6 with h | h
          · exact hneE (by rw [← h]; exact mem_blkL.1 hb)
          · have e := mem_blkL.1 hb
            rw [h] at e
            injection e with e
            have := HD6.out.res.lt
            omega
        have hD8 := HD7.out.stored (HD7.out.box.set2 (.slice A' (j + 1) c'))
        have hG8 := GrR.far (i := 2) (u := .slice A' (j + 1) c') gow_And hG7 (F := F) (by simpa using hF7)
        have HR8 := Lib.hid (And.intro hD8 (And.intro hG8 (And.intro hE7 hF7)))
        have HDL := Lib.hid (show (D ++ [((X : Int), (Y : Int))]).length = j + 1 by rw [List.length_append, HOK.out.2.2.2]; rfl)
        have HAO := Lib.hid (andsOk_add HOK.out.1 (x := X) (y := Y) (by rw [HOK.out.2.2.2]; exact hXb) (by rw [HOK.out.2.2.2]; have := HY.out; have := HKB.out; omega))
        clear hown6 hgrow6 hkeep6 hat6 y2 z2 hG7 hF7 hE7 hD8 hG8 hf2 hz2 hneF hneE hrows
        go_wp2
        go_roundw
        case rel => exact ⟨j + 1, A', c', _, by omega, by go_num, HDL.out, HR8.out.1, HR8.out.2.1, HAO.out, HR8.out.2.2.1, HR8.out.2.2.2⟩
        case measure => simp [intOf] <;> omega
    · have e : j = a := by omega
      subst e
      go_wp2_with fail
      obtain ⟨TN, hTN⟩ : ∃ T : Nat, 2 * (1 + (1 + (k : Int)) + (s : Int) + (j : Int)) = (T : Int) := ⟨2 * (2 + k + s + j), by omega⟩
      have hTb : TN = 2 * (2 + k + s + j) := by omega
      have HTB := Lib.hid hTb
      have hT1 : 3 < TN ∧ TN ≤ 1000 := by omega
      rw [hTN]
      clear hTN hTb
      have hst : NetSt w w4 E F G nn (1 + (k : Int)) (.slice none 0 0) (.slice A j c) (.slice none 0 0) [] [] [] D [] :=
        ⟨HD.out, HGR.out, GrR.nil _ _ _ _ _ _, GrR.nil _ _ _ _ _ _, fun b hb => by
          simp only [List.append_nil] at hb
          simp only [List.mem_cons, List.not_mem_nil, or_false]
          rintro (rfl | rfl)
          · exact HOK.out.2.1 hb
          · exact HOK.out.2.2.1 hb, off_nil _, off_nil _⟩
      have HST := Lib.hid hst
      have HAK := Lib.hid (And.intro HOK.out.1 HOK.out.2.2.2)
      clear hst HD HGR HOK
      go_loopw [17] (fun v wr => ∃ (i : Nat) (A1 : Option Addr) (c1 : Nat) (rows : List V3) (S : List DSeq) (bs : List Nat), i ≤ s ∧ v = .int .i64 (i : Int) ∧ S.length = i ∧ NetSt w wr E F G nn (1 + (k : Int)) (.slice A1 i c1) (.slice A j c) (.slice none 0 0) rows S bs D [] ∧ SeqsOk (2 + k + s + j) S) (fun v _ => s - (intOf v).toNat)
      case atStart => exact ⟨0, none, 0, [], [], [], Nat.zero_le _, rfl, rfl, HST.out, seqsOk_nil _⟩
      case round =>
        obtain ⟨i, A1, c1, rows, S, bs, hi2, rfl, hSl, hst, hsq⟩ := hrel
        obtain ⟨w7, rfl⟩ : ∃ w7, w7 = wr := ⟨_, rfl⟩
        clear HST
        have HST := Lib.hid hst
        have HSQ := Lib.hid (And.intro hsq hSl)
        have HRL := Lib.hid (show rows.length = i from hst.s.len.trans hSl)
        clear hst hsq hSl
        by_cases hlt2 : i < s
        · go_wp2_with fail
          refine (once_any G nn _ _ (by omega) (by omega) HST.out.dr.cur).mono ?_
          rintro e w5 ⟨bq, rfl, hcur, hch⟩
          have HST5 := Lib.hid (HST.out.call hcur hch)
          clear hcur hch HST
          have b1 := HST5.out.dr.box.cells.1.2.1
          cases bq
          · go_wp2_with fail
            refine wp_region_noPanic ?_
            refine wp_region_kept 14 17 (fun w' => (Chg G w5 w' ∧ Cur TCur w' G nn) ∧ w'.cell? ⟨F, 1, none⟩ = some (.slice A1 i c1)) (by kernel_rfl) rfl ⟨⟨(Chg.refl _ _).drew, (HST5.out.dr.cur).keep (Below.drew (Below.refl _ _))⟩, keep (Below.drew (Below.refl _ _)) b1⟩ (fun hK0 => ?_)
            refine Kept.take (v := ?vf0) 0 (by kernel_rfl) rfl (by kernel_rfl) (fun _ _ _ h => h) (Or.inl ⟨by rfl, ?hyf0⟩) hK0 ?restf0
            case hyf0 =>
              intro w0 hSw
              (try dsimp only at hSw)
              go_simp
              all_goals (with_reducible rfl)
            (try simp only [Act.put, List.setIfInBounds_toArray, List.set_cons_zero, List.set_cons_succ])
            refine Kept.take (v := ?vf1) 1 (by kernel_rfl) rfl (by kernel_rfl) (fun _ _ _ h => h) (Or.inl ⟨by rfl, ?hyf1⟩) hK0 ?restf1
            case hyf1 =>
              intro w0 hSw
              (try dsimp only at hSw)
              go_simp
              all_goals (with_reducible rfl)
            (try simp only [Act.put, List.setIfInBounds_toArray, List.set_cons_zero, List.set_cons_succ])
            refine Kept.take (v := ?vf2) 2 (by kernel_rfl) rfl (by kernel_rfl) (fun _ _ _ h => h) (Or.inl ⟨by rfl, ?hyf2⟩) hK0 ?restf2
            case hyf2 =>
              intro w0 hSw
              (try dsimp only at hSw)
              go_simp
              all_goals (with_reducible rfl)
            (try simp only [Act.put, List.setIfInBounds_toArray, List.set_cons_zero, List.set_cons_succ])
            refine Kept.take (v := ?vf4) 4 (by kernel_rfl) rfl (by kernel_rfl) (fun _ _ _ h => h) (Or.inl ⟨by rfl, ?hyf4⟩) hK0 ?restf4
            case hyf4 =>
              intro w0 hSw
              (try dsimp only at hSw)
              go_simp
              all_goals (with_reducible rfl)
            (try simp only [Act.put, List.setIfInBounds_toArray, List.set_cons_zero, List.set_cons_succ])
            refine Kept.take (v := ?vf5) 5 (by kernel_rfl) rfl (by kernel_rfl) (fun _ _ _ h => h) (Or.inl ⟨by rfl, ?hyf5⟩) hK0 ?restf5
            case hyf5 =>
              intro w0 hSw
              (try dsimp only at hSw)
              go_simp
              all_goals (with_reducible rfl)
            (try simp only [Act.put, List.setIfInBounds_toArray, List.set_cons_zero, List.set_cons_succ])
            refine Kept.take (v := ?vf6) 6 (by kernel_rfl) rfl (by kernel_rfl) (fun _ _ _ h => h) (Or.inl ⟨by rfl, ?hyf6⟩) hK0 ?restf6
            case hyf6 =>
              intro w0 hSw
              (try dsimp only at hSw)
              go_simp
              all_goals (with_reducible rfl)
            (try simp only [Act.put, List.setIfInBounds_toArray, List.set_cons_zero, List.set_cons_succ])
            refine Kept.take (v := ?vf7) 7 (by kernel_rfl) rfl (by kernel_rfl) (fun _ _ _ h => h) (Or.inl ⟨by rfl, ?hyf7⟩) hK0 ?restf7
            case hyf7 =>
              intro w0 hSw
              (try dsimp only at hSw)
              go_simp
              all_goals (with_reducible rfl)
            (try simp only [Act.put, List.setIfInBounds_toArray, List.set_cons_zero, List.set_cons_succ])
            refine Kept.take (v := ?vf8) 8 (by kernel_rfl) rfl (by kernel_rfl) (fun _ _ _ h => h) (Or.inl ⟨by rfl, ?hyf8⟩) hK0 ?restf8
            case hyf8 =>
              intro w0 hSw
              (try dsimp only at hSw)
              go_simp
              all_goals (with_reducible rfl)
            (try simp only [Act.put, List.setIfInBounds_toArray, List.set_cons_zero, List.set_cons_succ])
            refine Kept.one 3 (by kernel_rfl) rfl (fun K hK => ?_)
            go_simp
            go_at_call 47
            refine (below_any G nn 2 _ (by omega) (by omega) hK0.1.2).mono ?_
            rintro e wqU ⟨yU, rfl, hU, hcyU, hchyU⟩
            obtain ⟨U, rfl⟩ : ∃ U : Nat, yU = (U : Int) := ⟨yU.toNat, by omega⟩
            go_simp
            refine hK.out _ _ (⟨⟨hK0.1.1.trans hchyU, hcyU⟩, (hchyU.cell (p := ⟨F, 1, none⟩) (World.block_lt_of_cell? _ _ hK0.2) (by dsimp only; omega)).trans hK0.2⟩) (fun hK1 => ?_)
            clear hK K hK0
            (try simp only [Act.put, List.setIfInBounds_toArray, List.set_cons_zero, List.set_cons_succ])
            refine Kept.one 9 (by kernel_rfl) rfl (fun K hK => ?_)
            go_simp
            go_at_call 47
            refine (below_any G nn _ _ (by first | omega | (split <;> omega)) (by first | omega | (split <;> omega)) hK1.1.2).mono ?_
            rintro e wqP ⟨yP, rfl, hP, hcyP, hchyP⟩
            obtain ⟨P, rfl⟩ : ∃ P : Nat, yP = (P : Int) := ⟨yP.toNat, by omega⟩
            have hPT : P < TN := by first | omega | (split at hP <;> omega)
            clear hP
            go_simp
            refine hK.out _ _ (⟨⟨hK1.1.1.trans hchyP, hcyP⟩, (hchyP.cell (p := ⟨F, 1, none⟩) (World.block_lt_of_cell? _ _ hK1.2) (by dsimp only; omega)).trans hK1.2⟩) (fun hK2 => ?_)
            clear hK K hK1
            (try simp only [Act.put, List.setIfInBounds_toArray, List.set_cons_zero, List.set_cons_succ])
            refine Kept.take (v := ?vf10) 10 (by kernel_rfl) rfl (by kernel_rfl) (fun _ _ _ h => h) (Or.inl ⟨by rfl, ?hyf10⟩) hK2 ?restf10
            case hyf10 =>
              intro w0 hSw
              (try dsimp only at hSw)
              go_simp
              all_goals (with_reducible rfl)
            (try simp only [Act.put, List.setIfInBounds_toArray, List.set_cons_zero, List.set_cons_succ])
            refine Kept.one 11 (by kernel_rfl) rfl (fun K hK => ?_)
            go_simp
            refine hK.out _ _ (⟨⟨hK2.1.1.alloc _, hK2.1.2.keep (bAlloc (Below.refl _ _) (Nat.le_refl _) _)⟩, keep (bAlloc (Below.refl _ _) (Nat.le_refl _) _) hK2.2⟩) (fun hK3 => ?_)
            clear hK K hK2
            (try simp only [Act.put, List.setIfInBounds_toArray, List.set_cons_zero, List.set_cons_succ])
            refine Kept.take (v := ?vf12) 12 (by kernel_rfl) rfl (by kernel_rfl) (fun _ _ _ h => h) (Or.inl ⟨by rfl, ?hyf12⟩) hK3 ?restf12
            case hyf12 =>
              intro w0 hSw
              (try dsimp only at hSw)
              go_simp
              all_goals (with_reducible rfl)
            (try simp only [Act.put, List.setIfInBounds_toArray, List.set_cons_zero, List.set_cons_succ])
            refine Kept.one 13 (by kernel_rfl) rfl (fun K hK => ?_)
            go_simp
            refine hK.out _ _ (⟨⟨hK3.1.1.alloc _, hK3.1.2.keep (bAlloc (Below.refl _ _) (Nat.le_refl _) _)⟩, keep (bAlloc (Below.refl _ _) (Nat.le_refl _) _) hK3.2⟩) (fun hK4 => ?_)
            clear hK K hK3
            (try simp only [Act.put, List.setIfInBounds_toArray, List.set_cons_zero, List.set_cons_succ])
            refine Kept.tail (by rfl) (by kernel_rfl) ?_
            simp only [List.drop_succ_cons, List.drop_zero]
            obtain ⟨X, hX⟩ : ∃ X : Nat, (TN : Int) - 1 - (P : Int) = (X : Int) := ⟨TN - 1 - P, by omega⟩
            have hXT : X < TN := by omega
            have hx1 : IntKind.i64.wrap ((TN : Int) - 1) = (TN : Int) - 1 := wrap64_int _ (by omega) (by omega)
            have hx2 : IntKind.i64.wrap ((TN : Int) - 1 - (P : Int)) = (TN : Int) - 1 - (P : Int) := wrap64_int _ (by omega) (by omega)
            rw [hx1, hx2, hX] at hK4 ⊢
            clear hX hx1 hx2
            obtain ⟨mv, hmv⟩ : ∃ mv : Int, (if 12 < (TN : Int) then 12 else (TN : Int)) = mv := ⟨_, rfl⟩
            rw [hmv]
            clear hmv
            have HK := Lib.hid (HST5.out.call hK4.1.2 hK4.1.1)
            have hsz5 : w5.heap.size ≤ wqP.heap.size := by have hdr : w5.drew.heap.size = w5.heap.size := rfl; have hU := hchyU.size; have hP := hchyP.size; omega
            have hf1 := hK4.2
            have hz1 := HK.out.dr.box.cells.2 1
            have hneF : (Value.slice A1 i c1).ownBlock ≠ some F := fun e => HST5.out.oS.own e (by simp)
            have hrow : OwnsR fV3 3 56 _ w.heap.size (.slice A1 i c1) rows := HK.out.s.own
            unfold OwnsR at hrow
            rw [HRL.out] at hrow
            have HROW := Lib.hid hrow
            obtain ⟨WA, hWA⟩ : ∃ WA, WA = (wqP.alloc (.cells #[.int .i64 (X : Int)] 3)).alloc (.cells #[.int .i64 0, .int .i64 (U : Int), .slice (some ⟨wqP.heap.size, 0, none⟩) 1 1] 56) := ⟨_, rfl⟩
            have gA := eqbox2 hWA
            have HG1 := Lib.hid gA.1
            have HNB := Lib.hid gA.2.1
            rw [← hWA] at HK hf1 hz1 HROW ⊢
            have HSZ := Lib.hid (show w.heap.size ≤ WA.heap.size from HK.out.dr.chg.size)
            have HS5 := Lib.hid hsz5
            clear hK4 hchyU hcyU hchyP hcyP hrow hWA gA b1 hsz5
            go_wp2_with (at_builtin; refine wpList_append_all (by rfl) _ _ 24 (by rfl) w.heap.size 56 iQ (.agg #[.int .i64 0, .int .i64 0, .slice none 0 0]) 3 40 Try.underlying24 hiQ hzQ0 hzQ1 hzQ2 rfl (by omega) (.slice A1 i c1) i (rows.flatMap fV3) (by rfl) HROW.out (some ⟨wqP.heap.size + 1, 0, none⟩) 1 1 [.int .i64 0, .int .i64 (U : Int), .slice (some ⟨wqP.heap.size, 0, none⟩) 1 1] (by rfl) (by rfl) (.inr ⟨_, rfl, World.news_of_block HNB.out⟩) (by simp [Value.oneCell']) (by unfold maxLen; omega) (by omega) HSZ.out ?_; intro A' c' w6 hown6 hgrow6 hkeep6 hat6; have y2 := grownC hgrow6 hf1 hneF; have z2 := grownZ hgrow6 hf1 hz1 hneF)
            refine NoPanic.normal ?_
            have hst' := HK.out.addS (n := i + 1) (r := (.int .i64 0, .int .i64 (U : Int), .slice (some ⟨wqP.heap.size, 0, none⟩) 1 1)) (x := (0, (U : Int), [(X : Int)])) (cs := [wqP.heap.size]) hown6 (by rw [HRL.out]) hgrow6 hat6 (owSeq_of (L := [(X : Int)]) (by unfold Fit; omega) (by unfold Fit; omega) HG1.out (by simp) (fun x hx => by simp only [List.mem_cons, List.not_mem_nil, or_false] at hx; unfold Few; omega)) (by simp) (fun q hq => by have e := List.mem_singleton.1 hq; subst e; exact HST5.out.fresh HS5.out)
            have hok := flopOk HTB.out (I := U) (X := X) (by omega) (by omega)
            have HR8 := Lib.hid (And.intro hst' (seqsOk_add HSQ.out.1 hok.1 hok.2))
            have HSL := Lib.hid (show (S ++ [((0, (U : Int), [(X : Int)]) : DSeq)]).length = i + 1 by rw [List.length_append, HSQ.out.2]; rfl)
            clear hown6 hgrow6 hkeep6 hat6 y2 z2 hst' hok hf1 hz1 hneF
            go_wp2
            go_roundw
            case rel => exact ⟨i + 1, A', c', _, _, _, by omega, by go_num, HSL.out, HR8.out.1, HR8.out.2⟩
            case measure => simp [intOf] <;> omega
          · go_wp2_with fail
            refine wp_region_noPanic ?_
            refine wp_region_kept 19 22 (fun w' => (Chg G w5 w' ∧ Cur TCur w' G nn) ∧ w'.cell? ⟨F, 1, none⟩ = some (.slice A1 i c1)) (by kernel_rfl) rfl ⟨⟨(Chg.refl _ _).drew, (HST5.out.dr.cur).keep (Below.drew (Below.refl _ _))⟩, keep (Below.drew (Below.refl _ _)) b1⟩ (fun hK0 => ?_)
            refine Kept.take (v := ?vm0) 0 (by kernel_rfl) rfl (by kernel_rfl) (fun _ _ _ h => h) (Or.inl ⟨by rfl, ?hym0⟩) hK0 ?restm0
            case hym0 =>
              intro w0 hSw
              (try dsimp only at hSw)
              go_simp
              all_goals (with_reducible rfl)
            (try simp only [Act.put, List.setIfInBounds_toArray, List.set_cons_zero, List.set_cons_succ])
            refine Kept.take (v := ?vm1) 1 (by kernel_rfl) rfl (by kernel_rfl) (fun _ _ _ h => h) (Or.inl ⟨by rfl, ?hym1⟩) hK0 ?restm1
            case hym1 =>
              intro w0 hSw
              (try dsimp only at hSw)
              go_simp
              all_goals (with_reducible rfl)
            (try simp only [Act.put, List.setIfInBounds_toArray, List.set_cons_zero, List.set_cons_succ])
            refine Kept.take (v := ?vm2) 2 (by kernel_rfl) rfl (by kernel_rfl) (fun _ _ _ h => h) (Or.inl ⟨by rfl, ?hym2⟩) hK0 ?restm2
            case hym2 =>
              intro w0 hSw
              (try dsimp only at hSw)
              go_simp
              all_goals (with_reducible rfl)
            (try simp only [Act.put, List.setIfInBounds_toArray, List.set_cons_zero, List.set_cons_succ])
            refine Kept.take (v := ?vm4) 4 (by kernel_rfl) rfl (by kernel_rfl) (fun _ _ _ h => h) (Or.inl ⟨by rfl, ?hym4⟩) hK0 ?restm4
            case hym4 =>
              intro w0 hSw
              (try dsimp only at hSw)
              go_simp
              all_goals (with_reducible rfl)
            (try simp only [Act.put, List.setIfInBounds_toArray, List.set_cons_zero, List.set_cons_succ])
            refine Kept.take (v := ?vm5) 5 (by kernel_rfl) rfl (by kernel_rfl) (fun _ _ _ h => h) (Or.inl ⟨by rfl, ?hym5⟩) hK0 ?restm5
            case hym5 =>
              intro w0 hSw
              (try dsimp only at hSw)
              go_simp
              all_goals (with_reducible rfl)
            (try simp only [Act.put, List.setIfInBounds_toArray, List.set_cons_zero, List.set_cons_succ])
            refine Kept.take (v := ?vm7) 7 (by kernel_rfl) rfl (by kernel_rfl) (fun _ _ _ h => h) (Or.inl ⟨by rfl, ?hym7⟩) hK0 ?restm7
            case hym7 =>
              intro w0 hSw
              (try dsimp only at hSw)
              go_simp
              all_goals (with_reducible rfl)
            (try simp only [Act.put, List.setIfInBounds_toArray, List.set_cons_zero, List.set_cons_succ])
            refine Kept.take (v := ?vm8) 8 (by kernel_rfl) rfl (by kernel_rfl) (fun _ _ _ h => h) (Or.inl ⟨by rfl, ?hym8⟩) hK0 ?restm8
            case hym8 =>
              intro w0 hSw
              (try dsimp only at hSw)
              go_simp
              all_goals (with_reducible rfl)
            (try simp only [Act.put, List.setIfInBounds_toArray, List.set_cons_zero, List.set_cons_succ])
            refine Kept.take (v := ?vm10) 10 (by kernel_rfl) rfl (by kernel_rfl) (fun _ _ _ h => h) (Or.inl ⟨by rfl, ?hym10⟩) hK0 ?restm10
            case hym10 =>
              intro w0 hSw
              (try dsimp only at hSw)
              go_simp
              all_goals (with_reducible rfl)
            (try simp only [Act.put, List.setIfInBounds_toArray, List.set_cons_zero, List.set_cons_succ])
            refine Kept.take (v := ?vm11) 11 (by kernel_rfl) rfl (by kernel_rfl) (fun _ _ _ h => h) (Or.inl ⟨by rfl, ?hym11⟩) hK0 ?restm11
            case hym11 =>
              intro w0 hSw
              (try dsimp only at hSw)
              go_simp
              all_goals (with_reducible rfl)
            (try simp only [Act.put, List.setIfInBounds_toArray, List.set_cons_zero, List.set_cons_succ])
            refine Kept.take (v := ?vm13) 13 (by kernel_rfl) rfl (by kernel_rfl) (fun _ _ _ h => h) (Or.inl ⟨by rfl, ?hym13⟩) hK0 ?restm13
            case hym13 =>
              intro w0 hSw
              (try dsimp only at hSw)
              go_simp
              all_goals (with_reducible rfl)
            (try simp only [Act.put, List.setIfInBounds_toArray, List.set_cons_zero, List.set_cons_succ])
            refine Kept.take (v := ?vm14) 14 (by kernel_rfl) rfl (by kernel_rfl) (fun _ _ _ h => h) (Or.inl ⟨by rfl, ?hym14⟩) hK0 ?restm14
            case hym14 =>
              intro w0 hSw
              (try dsimp only at hSw)
              go_simp
              all_goals (with_reducible rfl)
            (try simp only [Act.put, List.setIfInBounds_toArray, List.set_cons_zero, List.set_cons_succ])
            refine Kept.one 3 (by kernel_rfl) rfl (fun K hK => ?_)
            go_simp
            go_at_call 47
            refine (below_any G nn 32 _ (by omega) (by omega) hK0.1.2).mono ?_
            rintro e wqU ⟨yU, rfl, hU, hcyU, hchyU⟩
            obtain ⟨U, rfl⟩ : ∃ U : Nat, yU = (U : Int) := ⟨yU.toNat, by omega⟩
            go_simp
            refine hK.out _ _ (⟨⟨hK0.1.1.trans hchyU, hcyU⟩, (hchyU.cell (p := ⟨F, 1, none⟩) (World.block_lt_of_cell? _ _ hK0.2) (by dsimp only; omega)).trans hK0.2⟩) (fun hK1 => ?_)
            clear hK K hK0
            (try simp only [Act.put, List.setIfInBounds_toArray, List.set_cons_zero, List.set_cons_succ])
            refine Kept.one 6 (by kernel_rfl) rfl (fun K hK => ?_)
            go_simp
            go_at_call 47
            refine (below_any G nn (TN : Int) _ (by omega) (by omega) hK1.1.2).mono ?_
            rintro e wqP ⟨yP, rfl, hP, hcyP, hchyP⟩
            obtain ⟨P, rfl⟩ : ∃ P : Nat, yP = (P : Int) := ⟨yP.toNat, by omega⟩
            go_simp
            refine hK.out _ _ (⟨⟨hK1.1.1.trans hchyP, hcyP⟩, (hchyP.cell (p := ⟨F, 1, none⟩) (World.block_lt_of_cell? _ _ hK1.2) (by dsimp only; omega)).trans hK1.2⟩) (fun hK2 => ?_)
            clear hK K hK1
            (try simp only [Act.put, List.setIfInBounds_toArray, List.set_cons_zero, List.set_cons_succ])
            refine Kept.one 9 (by kernel_rfl) rfl (fun K hK => ?_)
            go_simp
            go_at_call 47
            refine (below_any G nn (TN : Int) _ (by omega) (by omega) hK2.1.2).mono ?_
            rintro e wqQ ⟨yQ, rfl, hQ, hcyQ, hchyQ⟩
            obtain ⟨Q, rfl⟩ : ∃ Q : Nat, yQ = (Q : Int) := ⟨yQ.toNat, by omega⟩
            go_simp
            refine hK.out _ _ (⟨⟨hK2.1.1.trans hchyQ, hcyQ⟩, (hchyQ.cell (p := ⟨F, 1, none⟩) (World.block_lt_of_cell? _ _ hK2.2) (by dsimp only; omega)).trans hK2.2⟩) (fun hK3 => ?_)
            clear hK K hK2
            (try simp only [Act.put, List.setIfInBounds_toArray, List.set_cons_zero, List.set_cons_succ])
            refine Kept.one 12 (by kernel_rfl) rfl (fun K hK => ?_)
            go_simp
            go_at_call 47
            refine (below_any G nn (TN : Int) _ (by omega) (by omega) hK3.1.2).mono ?_
            rintro e wqR ⟨yR, rfl, hR, hcyR, hchyR⟩
            obtain ⟨R, rfl⟩ : ∃ R : Nat, yR = (R : Int) := ⟨yR.toNat, by omega⟩
            go_simp
            refine hK.out _ _ (⟨⟨hK3.1.1.trans hchyR, hcyR⟩, (hchyR.cell (p := ⟨F, 1, none⟩) (World.block_lt_of_cell? _ _ hK3.2) (by dsimp only; omega)).trans hK3.2⟩) (fun hK4 => ?_)
            clear hK K hK3
            (try simp only [Act.put, List.setIfInBounds_toArray, List.set_cons_zero, List.set_cons_succ])
            refine Kept.one 15 (by kernel_rfl) rfl (fun K hK => ?_)
            go_simp
            go_at_call 47
            refine (below_any G nn (TN : Int) _ (by omega) (by omega) hK4.1.2).mono ?_
            rintro e wqZ ⟨yZ, rfl, hZ, hcyZ, hchyZ⟩
            obtain ⟨Z, rfl⟩ : ∃ Z : Nat, yZ = (Z : Int) := ⟨yZ.toNat, by omega⟩
            go_simp
            refine hK.out _ _ (⟨⟨hK4.1.1.trans hchyZ, hcyZ⟩, (hchyZ.cell (p := ⟨F, 1, none⟩) (World.block_lt_of_cell? _ _ hK4.2) (by dsimp only; omega)).trans hK4.2⟩) (fun hK5 => ?_)
            clear hK K hK4
            (try simp only [Act.put, List.setIfInBounds_toArray, List.set_cons_zero, List.set_cons_succ])
            refine Kept.one 16 (by kernel_rfl) rfl (fun K hK => ?_)
            go_simp
            refine hK.out _ _ (⟨⟨hK5.1.1.alloc _, hK5.1.2.keep (bAlloc (Below.refl _ _) (Nat.le_refl _) _)⟩, keep (bAlloc (Below.refl _ _) (Nat.le_refl _) _) hK5.2⟩) (fun hK6 => ?_)
            clear hK K hK5
            (try simp only [Act.put, List.setIfInBounds_toArray, List.set_cons_zero, List.set_cons_succ])
            refine Kept.take (v := ?vm17) 17 (by kernel_rfl) rfl (by kernel_rfl) (fun _ _ _ h => h) (Or.inl ⟨by rfl, ?hym17⟩) hK6 ?restm17
            case hym17 =>
              intro w0 hSw
              (try dsimp only at hSw)
              go_simp
              all_goals (with_reducible rfl)
            (try simp only [Act.put, List.setIfInBounds_toArray, List.set_cons_zero, List.set_cons_succ])
            refine Kept.one 18 (by kernel_rfl) rfl (fun K hK => ?_)
            go_simp
            refine hK.out _ _ (⟨⟨hK6.1.1.alloc _, hK6.1.2.keep (bAlloc (Below.refl _ _) (Nat.le_refl _) _)⟩, keep (bAlloc (Below.refl _ _) (Nat.le_refl _) _) hK6.2⟩) (fun hK7 => ?_)
            clear hK K hK6
            (try simp only [Act.put, List.setIfInBounds_toArray, List.set_cons_zero, List.set_cons_succ])
            refine Kept.tail (by rfl) (by kernel_rfl) ?_
            simp only [List.drop_succ_cons, List.drop_zero]
            have HK := Lib.hid (HST5.out.call hK7.1.2 hK7.1.1)
            have hsz5 : w5.heap.size ≤ wqZ.heap.size := by have hdr : w5.drew.heap.size = w5.heap.size := rfl; have hU := hchyU.size; have hP := hchyP.size; have hQ := hchyQ.size; have hR := hchyR.size; have hZ := hchyZ.size; omega
            have hf1 := hK7.2
            have hz1 := HK.out.dr.box.cells.2 1
            have hneF : (Value.slice A1 i c1).ownBlock ≠ some F := fun e => HST5.out.oS.own e (by simp)
            have hrow : OwnsR fV3 3 56 _ w.heap.size (.slice A1 i c1) rows := HK.out.s.own
            unfold OwnsR at hrow
            rw [HRL.out] at hrow
            have HROW := Lib.hid hrow
            obtain ⟨WA, hWA⟩ : ∃ WA, WA = (wqZ.alloc (.cells #[.int .i64 (P : Int), .int .i64 (Q : Int), .int .i64 (R : Int), .int .i64 (Z : Int)] 3)).alloc (.cells #[.int .i64 1, .int .i64 (U : Int), .slice (some ⟨wqZ.heap.size, 0, none⟩) 4 4] 56) := ⟨_, rfl⟩
            have gA := eqbox2 hWA
            have HG1 := Lib.hid gA.1
            have HNB := Lib.hid gA.2.1
            rw [← hWA] at HK hf1 hz1 HROW ⊢
            have HSZ := Lib.hid (show w.heap.size ≤ WA.heap.size from HK.out.dr.chg.size)
            have HS5 := Lib.hid hsz5
            clear hK7 hchyU hcyU hchyP hcyP hchyQ hcyQ hchyR hcyR hchyZ hcyZ hrow hWA gA b1 hsz5
            go_wp2_with (at_builtin; refine wpList_append_all (by rfl) _ _ 24 (by rfl) w.heap.size 56 iQ (.agg #[.int .i64 0, .int .i64 0, .slice none 0 0]) 3 40 Try.underlying24 hiQ hzQ0 hzQ1 hzQ2 rfl (by omega) (.slice A1 i c1) i (rows.flatMap fV3) (by rfl) HROW.out (some ⟨wqZ.heap.size + 1, 0, none⟩) 1 1 [.int .i64 1, .int .i64 (U : Int), .slice (some ⟨wqZ.heap.size, 0, none⟩) 4 4] (by rfl) (by rfl) (.inr ⟨_, rfl, World.news_of_block HNB.out⟩) (by simp [Value.oneCell']) (by unfold maxLen; omega) (by omega) HSZ.out ?_; intro A' c' w6 hown6 hgrow6 hkeep6 hat6; have y2 := grownC hgrow6 hf1 hneF; have z2 := grownZ hgrow6 hf1 hz1 hneF)
            refine NoPanic.normal ?_
            have hst' := HK.out.addS (n := i + 1) (r := (.int .i64 1, .int .i64 (U : Int), .slice (some ⟨wqZ.heap.size, 0, none⟩) 4 4)) (x := (1, (U : Int), [(P : Int), (Q : Int), (R : Int), (Z : Int)])) (cs := [wqZ.heap.size]) hown6 (by rw [HRL.out]) hgrow6 hat6 (owSeq_of (L := [(P : Int), (Q : Int), (R : Int), (Z : Int)]) (by unfold Fit; omega) (by unfold Fit; omega) HG1.out (by simp) (fun x hx => by simp only [List.mem_cons, List.not_mem_nil, or_false] at hx; unfold Few; omega)) (by simp) (fun q hq => by have e := List.mem_singleton.1 hq; subst e; exact HST5.out.fresh HS5.out)
            have hok := ramOk HTB.out (I := U) (P := P) (Q := Q) (R := R) (Z := Z) (by omega) (by omega) (by omega) (by omega) (by omega)
            have HR8 := Lib.hid (And.intro hst' (seqsOk_add HSQ.out.1 hok.1 hok.2))
            have HSL := Lib.hid (show (S ++ [((1, (U : Int), [(P : Int), (Q : Int), (R : Int), (Z : Int)]) : DSeq)]).length = i + 1 by rw [List.length_append, HSQ.out.2]; rfl)
            clear hown6 hgrow6 hkeep6 hat6 y2 z2 hst' hok hf1 hz1 hneF
            go_wp2
            go_roundw
            case rel => exact ⟨i + 1, A', c', _, _, _, by omega, by go_num, HSL.out, HR8.out.1, HR8.out.2⟩
            case measure => simp [intOf] <;> omega
        · have e : i = s := by omega
          subst e
          go_wp2_with fail
          refine (below_any G nn _ _ (by omega) (by omega) HST.out.dr.cur).mono ?_
          rintro e w8 ⟨t0, rfl, ht0, hcur, hch⟩
          have HST8 := Lib.hid (HST.out.call hcur hch)
          clear hcur hch HST
          go_wp2_with fail
          go_loopw [18] (fun v wr => ∃ (t : Int) (A3 : Option Addr) (q c3 : Nat) (L : List Int), -1 ≤ t ∧ t ≤ 3 ∧ v = .int .i64 t ∧ L.length = q ∧ (q : Int) + t ≤ 3 ∧ NetSt w wr E F G nn (1 + (k : Int)) (.slice A1 i c1) (.slice A j c) (.slice A3 q c3) rows S bs D L ∧ LitsOk (2 + k + i + j) L) (fun v _ => (intOf v + 1).toNat)
          case atStart => exact ⟨t0, none, 0, 0, [], by omega, by omega, rfl, rfl, by omega, HST8.out, litsOk_nil _⟩
          case round =>
            obtain ⟨t, A3, q, c3, L, ht1, ht2, rfl, hLq, hqt, hst, hlo⟩ := hrel
            obtain ⟨w9, rfl⟩ : ∃ w9, w9 = wr := ⟨_, rfl⟩
            clear HST8 ht0
            have HST5 := Lib.hid hst
            have HLO := Lib.hid (And.intro hlo hLq)
            clear hst hlo hLq
            by_cases hlt3 : 0 ≤ t
            · have b3 := HST5.out.dr.box.cells.1.2.2.2
              go_wp2_with fail
              refine wp_region_noPanic ?_
              refine wp_region_kept 10 13 (fun w' => (Chg G w9 w' ∧ Cur TCur w' G nn) ∧ w'.cell? ⟨F, 3, none⟩ = some (.slice A3 q c3)) (by kernel_rfl) rfl ⟨⟨(Chg.refl _ _).drew, (HST5.out.dr.cur).keep (Below.drew (Below.refl _ _))⟩, keep (Below.drew (Below.refl _ _)) b3⟩ (fun hK0 => ?_)
              refine Kept.take (v := ?vo0) 0 (by kernel_rfl) rfl (by kernel_rfl) (fun _ _ _ h => h) (Or.inl ⟨by rfl, ?hyo0⟩) hK0 ?resto0
              case hyo0 =>
                intro w0 hSw
                (try dsimp only at hSw)
                go_simp
                all_goals (with_reducible rfl)
              (try simp only [Act.put, List.setIfInBounds_toArray, List.set_cons_zero, List.set_cons_succ])
              refine Kept.take (v := ?vo1) 1 (by kernel_rfl) rfl (by kernel_rfl) (fun _ _ _ h => h) (Or.inl ⟨by rfl, ?hyo1⟩) hK0 ?resto1
              case hyo1 =>
                intro w0 hSw
                (try dsimp only at hSw)
                go_simp
                all_goals (with_reducible rfl)
              (try simp only [Act.put, List.setIfInBounds_toArray, List.set_cons_zero, List.set_cons_succ])
              refine Kept.take (v := ?vo2) 2 (by kernel_rfl) rfl (by kernel_rfl) (fun _ _ _ h => h) (Or.inl ⟨by rfl, ?hyo2⟩) hK0 ?resto2
              case hyo2 =>
                intro w0 hSw
                (try dsimp only at hSw)
                go_simp
                all_goals (with_reducible rfl)
              (try simp only [Act.put, List.setIfInBounds_toArray, List.set_cons_zero, List.set_cons_succ])
              refine Kept.take (v := ?vo3) 3 (by kernel_rfl) rfl (by kernel_rfl) (fun _ _ _ h => h) (Or.inl ⟨by rfl, ?hyo3⟩) hK0 ?resto3
              case hyo3 =>
                intro w0 hSw
                (try dsimp only at hSw)
                go_simp
                all_goals (with_reducible rfl)
              (try simp only [Act.put, List.setIfInBounds_toArray, List.set_cons_zero, List.set_cons_succ])
              refine Kept.take (v := ?vo4) 4 (by kernel_rfl) rfl (by kernel_rfl) (fun _ _ _ h => h) (Or.inl ⟨by rfl, ?hyo4⟩) hK0 ?resto4
              case hyo4 =>
                intro w0 hSw
                (try dsimp only at hSw)
                go_simp
                all_goals (with_reducible rfl)
              (try simp only [Act.put, List.setIfInBounds_toArray, List.set_cons_zero, List.set_cons_succ])
              refine Kept.take (v := ?vo5) 5 (by kernel_rfl) rfl (by kernel_rfl) (fun _ _ _ h => h) (Or.inl ⟨by rfl, ?hyo5⟩) hK0 ?resto5
              case hyo5 =>
                intro w0 hSw
                (try dsimp only at hSw)
                go_simp
                all_goals (with_reducible rfl)
              (try simp only [Act.put, List.setIfInBounds_toArray, List.set_cons_zero, List.set_cons_succ])
              refine Kept.take (v := ?vo6) 6 (by kernel_rfl) rfl (by kernel_rfl) (fun _ _ _ h => h) (Or.inl ⟨by rfl, ?hyo6⟩) hK0 ?resto6
              case hyo6 =>
                intro w0 hSw
                (try dsimp only at hSw)
                go_simp
                all_goals (with_reducible rfl)
              (try simp only [Act.put, List.setIfInBounds_toArray, List.set_cons_zero, List.set_cons_succ])
              refine Kept.one 7 (by kernel_rfl) rfl (fun K hK => ?_)
              go_simp
              go_at_call 47
              refine (below_any G nn _ _ (by first | omega | (split <;> omega)) (by first | omega | (split <;> omega)) hK0.1.2).mono ?_
              rintro e wqP ⟨yP, rfl, hP, hcyP, hchyP⟩
              obtain ⟨P, rfl⟩ : ∃ P : Nat, yP = (P : Int) := ⟨yP.toNat, by omega⟩
              have hPT : P < TN := by first | omega | (split at hP <;> omega)
              clear hP
              go_simp
              refine hK.out _ _ (⟨⟨hK0.1.1.trans hchyP, hcyP⟩, (hchyP.cell (p := ⟨F, 3, none⟩) (World.block_lt_of_cell? _ _ hK0.2) (by dsimp only; omega)).trans hK0.2⟩) (fun hK1 => ?_)
              clear hK K hK0
              (try simp only [Act.put, List.setIfInBounds_toArray, List.set_cons_zero, List.set_cons_succ])
              refine Kept.take (v := ?vo8) 8 (by kernel_rfl) rfl (by kernel_rfl) (fun _ _ _ h => h) (Or.inl ⟨by rfl, ?hyo8⟩) hK1 ?resto8
              case hyo8 =>
                intro w0 hSw
                (try dsimp only at hSw)
                go_simp
                all_goals (with_reducible rfl)
              (try simp only [Act.put, List.setIfInBounds_toArray, List.set_cons_zero, List.set_cons_succ])
              refine Kept.one 9 (by kernel_rfl) rfl (fun K hK => ?_)
              go_simp
              refine hK.out _ _ (⟨⟨hK1.1.1.alloc _, hK1.1.2.keep (bAlloc (Below.refl _ _) (Nat.le_refl _) _)⟩, keep (bAlloc (Below.refl _ _) (Nat.le_refl _) _) hK1.2⟩) (fun hK2 => ?_)
              clear hK K hK1
              (try simp only [Act.put, List.setIfInBounds_toArray, List.set_cons_zero, List.set_cons_succ])
              refine Kept.tail (by rfl) (by kernel_rfl) ?_
              simp only [List.drop_succ_cons, List.drop_zero]
              obtain ⟨X, hX⟩ : ∃ X : Nat, (TN : Int) - 1 - (P : Int) = (X : Int) := ⟨TN - 1 - P, by omega⟩
              have hXT : X < TN := by omega
              have hx1 : IntKind.i64.wrap ((TN : Int) - 1) = (TN : Int) - 1 := wrap64_int _ (by omega) (by omega)
              have hx2 : IntKind.i64.wrap ((TN : Int) - 1 - (P : Int)) = (TN : Int) - 1 - (P : Int) := wrap64_int _ (by omega) (by omega)
              rw [hx1, hx2, hX] at hK2 ⊢
              clear hX hx1 hx2
              obtain ⟨mv, hmv⟩ : ∃ mv : Int, (if 12 < (TN : Int) then 12 else (TN : Int)) = mv := ⟨_, rfl⟩
              rw [hmv]
              clear hmv
              have HK := Lib.hid (HST5.out.call hK2.1.2 hK2.1.1)
              have hf3 := hK2.2
              have hz3 := HK.out.dr.box.cells.2 3
              have hneF : (Value.slice A3 q c3).ownBlock ≠ some F := fun e => HST5.out.oO.own e (by simp)
              have hrow : OwnsR fInt 1 3 _ w.heap.size (.slice A3 q c3) L := HK.out.o.own
              unfold OwnsR at hrow
              rw [HLO.out.2] at hrow
              have HROW := Lib.hid hrow
              obtain ⟨WA, hWA⟩ : ∃ WA, WA = wqP.alloc (.cells #[.int .i64 (X : Int)] 3) := ⟨_, rfl⟩
              have HNB := Lib.hid (show WA.heap[wqP.heap.size]? = some (.cells #[.int .i64 (X : Int)] 3 (0, 0)) by rw [hWA]; exact heap_alloc_new _ _)
              rw [← hWA] at HK hf3 hz3 HROW ⊢
              have HSZ := Lib.hid (show w.heap.size ≤ WA.heap.size from HK.out.dr.chg.size)
              clear hK2 hchyP hcyP hrow hWA b3
              go_wp2_with (at_builtin; refine wpList_append_all (by rfl) _ _ 26 (by rfl) w.heap.size 3 i0 (.int .i64 0) 1 8 Try.underlying26 hi hz0 hz1 hz2 rfl (by omega) (.slice A3 q c3) q (L.flatMap fInt) (by rfl) HROW.out (some ⟨wqP.heap.size, 0, none⟩) 1 1 [.int .i64 (X : Int)] (by rfl) (by rfl) (.inr ⟨_, rfl, World.news_of_block HNB.out⟩) (by simp [Value.oneCell']) (by unfold maxLen; omega) (by omega) HSZ.out ?_; intro A' c' w6 hown6 hgrow6 hkeep6 hat6; have y3 := grownC hgrow6 hf3 hneF; have z3 := grownZ hgrow6 hf3 hz3 hneF)
              refine NoPanic.normal ?_
              have hst' := HK.out.addO (n := q + 1) (x := (X : Int)) hown6 (by rw [HLO.out.2]) hgrow6 hat6 (by unfold Fit; omega)
              have HR8 := Lib.hid (And.intro hst' (litsOk_add HLO.out.1 (x := X) (by have := HTB.out; omega)))
              have HSL := Lib.hid (show (L ++ [(X : Int)]).length = q + 1 by rw [List.length_append, HLO.out.2]; rfl)
              clear hown6 hgrow6 hkeep6 hat6 y3 z3 hst' hf3 hz3 hneF
              go_wp2
              go_roundw
              case rel => exact ⟨t - 1, A', q + 1, c', _, by omega, by omega, by go_num, HSL.out, by omega, HR8.out.1, HR8.out.2⟩
              case measure => simp [intOf] <;> omega
            · have f0 := HST5.out.dr.box.cells.1.1
              have f1 := HST5.out.dr.box.cells.1.2.1
              have f2 := HST5.out.dr.box.cells.1.2.2.1
              have f3 := HST5.out.dr.box.cells.1.2.2.2
              have e0 := HST5.out.dr.res.cells.1.1
              have e1 := HST5.out.dr.res.cells.1.2.1
              have e2 := HST5.out.dr.res.cells.1.2.2.1
              have e3 := HST5.out.dr.res.cells.1.2.2.2
              have ez := HST5.out.dr.res.cells.2
              go_wp2
              ((try simp only [Exit.inBlock, Exit.then]); refine bodyPost_ret (v := (.agg #[.int .i64 (1 + (k : Int)), .slice A1 i c1, .slice A j c, .slice A3 q c3])) (by rw [results_cell1 rfl]; go_simp) rfl ?_)
              have HE := (((((EndSt.of HST5.out).set (i := 0) (u := .int .i64 (1 + (k : Int)))).set (i := 1) (u := .slice A1 i c1)).set (i := 2) (u := .slice A j c)).set (i := 3) (u := .slice A3 q c3))
              refine ⟨_, _, _, _, _, (1 + (k : Int), S, D, L), rfl, HST5.out.own HE (by unfold Fit; omega), ?_, (by have hD1 := HAK.out.2; dsimp only; omega), HE.cur, HE.chg⟩
              have e : (1 + (k : Int)) = ((1 + k : Nat) : Int) := by omega
              have hI1 := HSQ.out.2
              have hD1 := HAK.out.2
              have hL1 := HLO.out.2
              rw [e]
              exact net_ok (by omega) (by omega) (by omega) (by omega) (by rw [hI1, hD1]; have e3 : 1 + (1 + k) + i + j = 2 + k + i + j := by omega
                                                                           rw [e3]; exact HSQ.out.1) (by rw [hI1]; have e3 : 1 + (1 + k) + i = 2 + k + i := by omega
                                                                                                         rw [e3]; exact HAK.out.1) (by rw [hI1, hD1]; have e3 : 1 + (1 + k) + i + j = 2 + k + i + j := by omega
                                                                                                                                       rw [e3]; exact HLO.out.1)
end Go.Proofs.Ytiejilmgchmppaa
