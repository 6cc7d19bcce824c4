/-
  The reference's ParseOp.
-/
import Derived.Test.YtikibabknlpnkaaDoorIWord
namespace Go.Proofs.YtikibabknlpnkaaDoor
open Go.RowKit
set_option linter.unusedVariables false
set_option linter.unusedSimpArgs false

/-- The number behind one letter, or -1. -/
theorem tail_any (s : ByteArray) (w : World) (hm : s.size ≤ 1048576) :
    Calls Tryd.prog 24 #[.string s] w fun e w' => ∃ x, e = .returned (.int .i64 x) ∧ (∀ n, IsNum (s.data.toList.drop 1) n → x = n) ∧ Below w.heap.size w w' := by
  by_cases h : s.size < 2
  · go_enter Tryd.func24, Tryd.ntmps24
    go_wp2
    go_ret
    refine ⟨_, rfl, fun n hn => ?_, by (repeat' (first | assumption | exact Below.refl _ _ | refine bDrewN ?_ _ | refine Below.drew ?_ | refine bAlloc ?_ (Nat.le_refl _) _ | refine bSet ?_ (by first | exact Nat.le_refl _ | omega | (simp <;> omega)) _))⟩
    have e : s.data.toList.drop 1 = [] := List.drop_eq_nil_of_le (by simp; omega)
    rw [e] at hn
    exact absurd hn no_num_nil
  · go_enter Tryd.func24, Tryd.ntmps24
    go_wp2_with fail
    refine (specParse_any (s.extract 1 s.size) _ (by simp; omega)).mono ?_
    rintro e w1 ⟨x, ok, rfl, hx, hb⟩
    have hd : (s.extract 1 s.size).data.toList = s.data.toList.drop 1 := Lib.extract_to_end s 1
    rw [hd] at hx
    have HX := Lib.hid hx
    have HB := Lib.hid hb
    clear hx hb hd
    cases ok with
    | true =>
      go_wp2
      go_ret
      refine ⟨_, rfl, fun n hn => ?_, HB.out⟩
      rcases HX.out with ⟨_, h⟩ | ⟨h, _, _⟩
      · exact h.uniq hn
      · cases h
    | false =>
      go_wp2
      go_ret
      refine ⟨_, rfl, fun n hn => ?_, HB.out⟩
      rcases HX.out with ⟨h, _⟩ | ⟨_, _, h⟩
      · cases h
      · exact absurd hn (h n)
/-- What the reference's ParseOp gives. -/
def OpPost (l : List UInt8) (w : World) (e : Ending) (w' : World) : Prop := ∃ k a b ok, e = .returned (.tuple #[.agg #[.int .i64 k, .int .i64 a, .int .i64 b], .bool ok]) ∧ ParsedOp l (k, a, b) ok ∧ Below w.heap.size w w'
theorem OpPost.yes {l : List UInt8} {w w' : World} {k a b : Int} (h : IsOp (k, a, b) l) (hb : Below w.heap.size w w') : OpPost l w (.returned (.tuple #[.agg #[.int .i64 k, .int .i64 a, .int .i64 b], .bool true])) w' := ⟨k, a, b, true, rfl, .inl ⟨rfl, h⟩, hb⟩
theorem OpPost.no {l : List UInt8} {w w' : World} (h : ∀ o, ¬ IsOp o l) (hb : Below w.heap.size w w') : OpPost l w (.returned (.tuple #[.agg #[.int .i64 0, .int .i64 0, .int .i64 0], .bool false])) w' := ⟨0, 0, 0, false, rfl, .inr ⟨rfl, rfl, h⟩, hb⟩
/-- The second cell of a block of three, written. -/
theorem set_mid {W : World} {b : Nat} {u0 u1 u2 v : Value} (h0 : W.cell? ⟨b, 0, none⟩ = some u0) (h1 : W.cell? ⟨b, 1, none⟩ = some u1) (h2 : W.cell? ⟨b, 2, none⟩ = some u2) :
    (W.setCell ⟨b, 1, none⟩ v).cell? ⟨b, 0, none⟩ = some u0 ∧ (W.setCell ⟨b, 1, none⟩ v).cell? ⟨b, 1, none⟩ = some v ∧ (W.setCell ⟨b, 1, none⟩ v).cell? ⟨b, 2, none⟩ = some u2 :=
  ⟨by rw [World.cell?_setCell_other _ _ _ _ (by intro e; injection e with _ e; exact absurd e (by decide))]; exact h0,
    World.cell?_setCell_same _ _ _ h1,
    by rw [World.cell?_setCell_other _ _ _ _ (by intro e; injection e with _ e; exact absurd e (by decide))]; exact h2⟩
theorem no_con {l : List UInt8} {x : Int} (h87 : l ≠ [87]) (h115 : ∀ t, l ≠ 115 :: t) (hi : ∀ (i : Nat) (c : UInt8), signL[i]? = some c → l ≠ [c]) (hx : Parsed l x false) : ∀ o, ¬ IsOp o l := by
  rintro ⟨k, a, b⟩ h
  rcases h.cases with ⟨rfl, h0, h1, rfl, e⟩ | ⟨rfl, rfl, rfl, e⟩ | ⟨rfl, h0, h1, rfl, e⟩ | ⟨rfl, h0, h1, h2, h3, e⟩ | ⟨i, c, _, rfl, rfl, rfl, hc, e⟩
  · rcases hx with ⟨h, _⟩ | ⟨_, _, hx⟩
    · cases h
    · exact absurd ⟨h0, by omega, e.symm⟩ (hx a)
  · exact absurd e h87
  · exact absurd e (h115 _)
  · exact absurd e (h115 _)
  · exact absurd e (hi i c hc)
theorem specOpCheck {l : List UInt8} {o : DOp} {d : Bool} {t s : ByteArray} (hl : s.data.toList = l) (hts : opTextS o = t) (hd : opB 30 o = d) (hc : Cand l o) :
    (d = true → t = s → IsOp o l) ∧ ((d = false ∨ t ≠ s) → ∀ o', ¬ IsOp o' l) := by
  constructor
  · intro h1 h2
    refine ⟨hd.trans h1, ?_⟩
    rw [← hl, ← h2, ← hts, opTextS_ok (hd.trans h1)]
    rfl
  · intro h o' ho'
    have hc := hc o' ho'
    subst hc
    rcases h with h | h
    · rw [← hd, ho'.1] at h; cases h
    · refine h ?_
      rw [← hts, opTextS_ok ho'.1, ho'.2, ← hl]
      exact bytes_eq rfl
/-- The world behind the named result's block. -/
def ResAt (w wr : World) : Prop := wr.heap[w.heap.size]? = some (.cells #[.int .i64 0, .int .i64 0, .int .i64 0] 25) ∧ Below w.heap.size w wr

set_option maxHeartbeats 3200000 in
theorem specParseOp_any (s : ByteArray) (w : World) (hs : s.size ≤ 1048576) :
    Calls Tryd.prog 12 #[.string s] w (OpPost s.data.toList w) := by
  by_cases h87 : s.data.toList = [87]
  · obtain rfl : s = ⟨#[87]⟩ := bytes_eq h87
    go_enter Tryd.func12, Tryd.ntmps12
    go_wp2
    ((try simp only [Exit.inBlock, Exit.then]); refine bodyPost_ret (v := (.tuple #[.agg #[.int .i64 1, .int .i64 0, .int .i64 0], .bool true])) (by rw [results_cell_tmp rfl]; go_simp) rfl ?_)
    exact .yes ⟨rfl, rfl⟩ (by (repeat' (first | assumption | exact Below.refl _ _ | refine bDrewN ?_ _ | refine Below.drew ?_ | refine bAlloc ?_ (Nat.le_refl _) _ | refine bSet ?_ (by first | exact Nat.le_refl _ | omega | (simp <;> omega)) _)))
  · have hW := is_W s h87
    go_enter Tryd.func12, Tryd.ntmps12
    go_wp2
    go_loopw [4] (fun kv wr => ∃ i : Nat, i ≤ 9 ∧ kv = .int .i64 (4 + i : Nat) ∧ (∀ (j : Nat) (c : UInt8), j < i → signL[j]? = some c → s.data.toList ≠ [c]) ∧ ResAt w wr) (fun kv _ => 13 - (intOf kv).toNat)
    case atStart => exact ⟨0, by omega, rfl, fun j c hj => absurd hj (by omega), heap_alloc_new w _, by (repeat' (first | assumption | exact Below.refl _ _ | refine bDrewN ?_ _ | refine Below.drew ?_ | refine bAlloc ?_ (Nat.le_refl _) _ | refine bSet ?_ (by first | exact Nat.le_refl _ | omega | (simp <;> omega)) _))⟩
    case round =>
      obtain ⟨i, hi, rfl, hno, g, hb⟩ := hrel
      have HN := Lib.hid hno
      have HB := Lib.hid hb
      have HG := Lib.hid g
      clear hno hb g
      by_cases h9 : i < 9
      · obtain ⟨c, hc⟩ : ∃ c, signL[i]? = some c := ⟨_, List.getElem?_eq_getElem (by simpa [signL] using h9)⟩
        have hso := sign_op hc
        have HC := Lib.hid hc
        clear hc
        go_wp2_with fail
        refine (specText_at ((4 + i : Nat), 0, 0) _ (by push_cast; exact hso.1) (by push_cast; exact hso.2.1)).mono ?_
        rintro e w1 ⟨rfl, hb⟩
        replace HB := Lib.hid (bThen HB.out hb)
        replace HG := Lib.hid (keepB hb HG.out)
        clear hb
        by_cases hq : s.data.toList = [c]
        · have e1 : ((tx [c]).toList == s.toList) = true := by rw [Lib.toList_data, Lib.toList_data, hq, tx_data]; simp
          have r0 := box_cell HG.out 0 _ rfl
          have r1 := box_cell HG.out 1 _ rfl
          have r2 := box_cell HG.out 2 _ rfl
          have y0 := frozen_of_row _ _ 0 _ _ HG.out
          have y1 := frozen_of_row _ _ 1 _ _ HG.out
          have y2 := frozen_of_row _ _ 2 _ _ HG.out
          have l1 := World.block_lt_of_cell? _ _ r0
          have HS := Lib.hid hso
          clear hso
          go_wp2
          ((try simp only [Exit.inBlock, Exit.then]); refine bodyPost_ret (v := (.tuple #[.agg #[.int .i64 (4 + i : Nat), .int .i64 0, .int .i64 0], .bool true])) (by rw [results_cell_tmp rfl]; go_simp) rfl ?_)
          exact .yes ⟨HS.out.2.1, HS.out.2.2.trans hq.symm⟩ (bSet (bSet (bSet HB.out (Nat.le_refl _) _) (Nat.le_refl _) _) (Nat.le_refl _) _)
        · have e1 : ((tx [c]).toList == s.toList) = false := by rw [Lib.toList_data, Lib.toList_data, beq_eq_false_iff_ne, tx_data]; exact fun h => hq h.symm
          clear hso
          go_wp2
          go_roundw
          case rel => exact ⟨i + 1, by omega, by go_num, fun j d hj hd => by
            rcases Nat.lt_or_ge j i with h | h
            · exact HN.out j d h hd
            · obtain rfl : j = i := by omega
              rw [HC.out] at hd
              injection hd with hd
              subst hd
              exact hq, HG.out, HB.out⟩
          case measure => simp [intOf]; omega
      · have hi9 : i = 9 := by omega
        have hns : ∀ (j : Nat) (c : UInt8), signL[j]? = some c → s.data.toList ≠ [c] := fun j c hc => HN.out j c (by
          rw [hi9]
          rcases Nat.lt_or_ge j 9 with h | h
          · exact h
          · rw [List.getElem?_eq_none (by simpa [signL] using h)] at hc; cases hc) hc
        have HNS := Lib.hid hns
        clear hns HN
        by_cases hz : 0 < s.size
        · have hg0 : s.data.toList[0]? = some s[0] := Lib.data_getElem? s 0 hz
          by_cases h0 : s[0].toNat = 115
          · have h115 : s.data.toList[0]? = some 115 := by rw [hg0]; congr 1; exact UInt8.toNat_inj.1 h0
            have H115 := Lib.hid h115
            clear h115 hg0
            by_cases h3 : 3 < s.size
            · have hp := Lib.data_getElem? s (s.size - 2) (by omega)
              have hd := Lib.data_getElem? s (s.size - 1) (by omega)
              have HP := Lib.hid hp
              have HD := Lib.hid hd
              clear hp hd
              by_cases h46 : s[s.size - 2].toNat = 46
              · have h46b : s[s.size - 2] = 46 := UInt8.toNat_inj.1 h46
                go_wp2_with fail
                refine (tail_any (s.extract 0 (s.size - 2)) _ (by simp; omega)).mono ?_
                rintro e w1 ⟨x, rfl, hx, hb⟩
                obtain ⟨B, hB⟩ : ∃ B : Int, wrap64 (wrap64 ↑s[s.size - 1].toNat - 48) = B := ⟨_, rfl⟩
                have hB2 : B = (s[s.size - 1].toNat : Int) - 48 := by
                  rw [← hB]
                  have := s[s.size - 1].toNat_lt
                  unfold wrap64
                  omega
                rw [hB] at hb
                obtain ⟨g1, hb1⟩ := box1 hb
                have c0 := box_cell g1 0 _ rfl
                have c1 := box_cell g1 1 _ rfl
                have c2 := box_cell g1 2 _ rfl
                have z0 := frozen_of_row _ _ 0 _ _ g1
                have z1 := frozen_of_row _ _ 1 _ _ g1
                have z2 := frozen_of_row _ _ 2 _ _ g1
                have hR := keepB hb1 HG.out
                have hgs : wr.heap.size < w1.heap.size := (Array.getElem?_eq_some_iff.mp g1).1
                have hrs : w.heap.size < wr.heap.size := (Array.getElem?_eq_some_iff.mp HG.out).1
                have HB1 := Lib.hid (bThen HB.out hb1)
                have hcd : Cand s.data.toList (3, x, B) := cand_bit2 H115.out (by simpa using h3) (by have := HP.out; rw [h46b] at this; simpa using this) (by have := HD.out; simpa using this) (by rw [show (s.extract 0 (s.size - 2)).data.toList = s.data.toList.take (s.data.toList.length - 2) from by simp] at hx; exact hx) hB2
                obtain ⟨t, hts⟩ : ∃ t, opTextS (3, x, B) = t := ⟨_, rfl⟩
                obtain ⟨d, hd⟩ : ∃ d, opB 30 (3, x, B) = d := ⟨_, rfl⟩
                have hck := specOpCheck rfl hts hd hcd
                have HCK := Lib.hid hck
                have sm := set_mid (v := .int .i64 x) c0 c1 c2
                have hR2 : (w1.setCell ⟨wr.heap.size, 1, none⟩ (.int .i64 x)).heap[w.heap.size]? = some (.cells #[.int .i64 0, .int .i64 0, .int .i64 0] 25) := by
                  rw [heap_setCell_other _ _ _ _ (by show w.heap.size ≠ wr.heap.size; omega)]; exact hR
                have HR2 := Lib.hid hR2
                have SM := Lib.hid sm
                clear hb hb1 hx g1 hcd hck hR hR2 sm hB hB2
                go_wp2_with fail
                refine (specText_at (3, x, B) _ hts hd).mono ?_
                rintro e w2 ⟨rfl, hb⟩
                have HB2 := Lib.hid (bThen (bSet HB1.out (by show w.heap.size ≤ wr.heap.size; omega) _) hb)
                have e0 := keep hb SM.out.1
                have e1 := keep hb SM.out.2.1
                have e2 := keep hb SM.out.2.2
                have q := keepB hb HR2.out
                have r0 := box_cell q 0 _ rfl
                have r1 := box_cell q 1 _ rfl
                have r2 := box_cell q 2 _ rfl
                have y0 := frozen_of_row _ _ 0 _ _ q
                have y1 := frozen_of_row _ _ 1 _ _ q
                have y2 := frozen_of_row _ _ 2 _ _ q
                have l1 := World.block_lt_of_cell? _ _ r0
                have l2 := World.block_lt_of_cell? _ _ e0
                clear hb q hts hd c0 c1 c2 z0 z1 z2
                cases d with
                | false =>
                  go_wp2
                  ((try simp only [Exit.inBlock, Exit.then]); refine bodyPost_ret (v := (.tuple #[.agg #[.int .i64 0, .int .i64 0, .int .i64 0], .bool false])) (by rw [results_cell_tmp rfl]; go_simp) rfl ?_)
                  exact .no (HCK.out.2 (.inl (by simp))) (bSet (bSet (bSet HB2.out (Nat.le_refl _) _) (Nat.le_refl _) _) (Nat.le_refl _) _)
                | true =>
                  by_cases hq : t = s
                  · subst hq
                    go_wp2
                    ((try simp only [Exit.inBlock, Exit.then]); refine bodyPost_ret (v := (.tuple #[.agg #[.int .i64 3, .int .i64 x, .int .i64 B], .bool true])) (by rw [results_cell_tmp rfl]; go_simp) rfl ?_)
                    exact .yes (HCK.out.1 (by simp) (by simp)) (bSet (bSet (bSet HB2.out (Nat.le_refl _) _) (Nat.le_refl _) _) (Nat.le_refl _) _)
                  · have hne : (t.toList == s.toList) = false := by
                      rw [Lib.toList_data, Lib.toList_data, beq_eq_false_iff_ne]
                      exact fun h => hq (bytes_eq h)
                    go_wp2
                    ((try simp only [Exit.inBlock, Exit.then]); refine bodyPost_ret (v := (.tuple #[.agg #[.int .i64 0, .int .i64 0, .int .i64 0], .bool false])) (by rw [results_cell_tmp rfl]; go_simp) rfl ?_)
                    exact .no (HCK.out.2 (.inr hq)) (bSet (bSet (bSet HB2.out (Nat.le_refl _) _) (Nat.le_refl _) _) (Nat.le_refl _) _)
              · go_wp2_with fail
                refine (tail_any s _ hs).mono ?_
                rintro e w1 ⟨x, rfl, hx, hb⟩
                obtain ⟨g1, hb1⟩ := box1 hb
                have c0 := box_cell g1 0 _ rfl
                have c1 := box_cell g1 1 _ rfl
                have c2 := box_cell g1 2 _ rfl
                have z0 := frozen_of_row _ _ 0 _ _ g1
                have z1 := frozen_of_row _ _ 1 _ _ g1
                have z2 := frozen_of_row _ _ 2 _ _ g1
                have hR := keepB hb1 HG.out
                have hgs : wr.heap.size < w1.heap.size := (Array.getElem?_eq_some_iff.mp g1).1
                have hrs : w.heap.size < wr.heap.size := (Array.getElem?_eq_some_iff.mp HG.out).1
                have HB1 := Lib.hid (bThen HB.out hb1)
                have hcd : Cand s.data.toList (2, x, 0) := cand_sig2 H115.out (by rintro ⟨_, h⟩; have h2 : s.data.toList[s.size - 2]? = some 46 := (by simpa using h); rw [HP.out] at h2; injection h2 with h2; exact h46 (by rw [h2]; rfl)) hx
                obtain ⟨t, hts⟩ : ∃ t, opTextS (2, x, 0) = t := ⟨_, rfl⟩
                obtain ⟨d, hd⟩ : ∃ d, opB 30 (2, x, 0) = d := ⟨_, rfl⟩
                have hck := specOpCheck rfl hts hd hcd
                have HCK := Lib.hid hck
                have sm := set_mid (v := .int .i64 x) c0 c1 c2
                have hR2 : (w1.setCell ⟨wr.heap.size, 1, none⟩ (.int .i64 x)).heap[w.heap.size]? = some (.cells #[.int .i64 0, .int .i64 0, .int .i64 0] 25) := by
                  rw [heap_setCell_other _ _ _ _ (by show w.heap.size ≠ wr.heap.size; omega)]; exact hR
                have HR2 := Lib.hid hR2
                have SM := Lib.hid sm
                clear hb hb1 hx g1 hcd hck hR hR2 sm
                go_wp2_with fail
                refine (specText_at (2, x, 0) _ hts hd).mono ?_
                rintro e w2 ⟨rfl, hb⟩
                have HB2 := Lib.hid (bThen (bSet HB1.out (by show w.heap.size ≤ wr.heap.size; omega) _) hb)
                have e0 := keep hb SM.out.1
                have e1 := keep hb SM.out.2.1
                have e2 := keep hb SM.out.2.2
                have q := keepB hb HR2.out
                have r0 := box_cell q 0 _ rfl
                have r1 := box_cell q 1 _ rfl
                have r2 := box_cell q 2 _ rfl
                have y0 := frozen_of_row _ _ 0 _ _ q
                have y1 := frozen_of_row _ _ 1 _ _ q
                have y2 := frozen_of_row _ _ 2 _ _ q
                have l1 := World.block_lt_of_cell? _ _ r0
                have l2 := World.block_lt_of_cell? _ _ e0
                clear hb q hts hd c0 c1 c2 z0 z1 z2
                cases d with
                | false =>
                  go_wp2
                  ((try simp only [Exit.inBlock, Exit.then]); refine bodyPost_ret (v := (.tuple #[.agg #[.int .i64 0, .int .i64 0, .int .i64 0], .bool false])) (by rw [results_cell_tmp rfl]; go_simp) rfl ?_)
                  exact .no (HCK.out.2 (.inl (by simp))) (bSet (bSet (bSet HB2.out (Nat.le_refl _) _) (Nat.le_refl _) _) (Nat.le_refl _) _)
                | true =>
                  by_cases hq : t = s
                  · subst hq
                    go_wp2
                    ((try simp only [Exit.inBlock, Exit.then]); refine bodyPost_ret (v := (.tuple #[.agg #[.int .i64 2, .int .i64 x, .int .i64 0], .bool true])) (by rw [results_cell_tmp rfl]; go_simp) rfl ?_)
                    exact .yes (HCK.out.1 (by simp) (by simp)) (bSet (bSet (bSet HB2.out (Nat.le_refl _) _) (Nat.le_refl _) _) (Nat.le_refl _) _)
                  · have hne : (t.toList == s.toList) = false := by
                      rw [Lib.toList_data, Lib.toList_data, beq_eq_false_iff_ne]
                      exact fun h => hq (bytes_eq h)
                    go_wp2
                    ((try simp only [Exit.inBlock, Exit.then]); refine bodyPost_ret (v := (.tuple #[.agg #[.int .i64 0, .int .i64 0, .int .i64 0], .bool false])) (by rw [results_cell_tmp rfl]; go_simp) rfl ?_)
                    exact .no (HCK.out.2 (.inr hq)) (bSet (bSet (bSet HB2.out (Nat.le_refl _) _) (Nat.le_refl _) _) (Nat.le_refl _) _)
            · go_wp2_with fail
              refine (tail_any s _ hs).mono ?_
              rintro e w1 ⟨x, rfl, hx, hb⟩
              obtain ⟨g1, hb1⟩ := box1 hb
              have c0 := box_cell g1 0 _ rfl
              have c1 := box_cell g1 1 _ rfl
              have c2 := box_cell g1 2 _ rfl
              have z0 := frozen_of_row _ _ 0 _ _ g1
              have z1 := frozen_of_row _ _ 1 _ _ g1
              have z2 := frozen_of_row _ _ 2 _ _ g1
              have hR := keepB hb1 HG.out
              have hgs : wr.heap.size < w1.heap.size := (Array.getElem?_eq_some_iff.mp g1).1
              have hrs : w.heap.size < wr.heap.size := (Array.getElem?_eq_some_iff.mp HG.out).1
              have HB1 := Lib.hid (bThen HB.out hb1)
              have hcd : Cand s.data.toList (2, x, 0) := cand_sig2 H115.out (by rintro ⟨h, _⟩; simp at h; exact h3 h) hx
              obtain ⟨t, hts⟩ : ∃ t, opTextS (2, x, 0) = t := ⟨_, rfl⟩
              obtain ⟨d, hd⟩ : ∃ d, opB 30 (2, x, 0) = d := ⟨_, rfl⟩
              have hck := specOpCheck rfl hts hd hcd
              have HCK := Lib.hid hck
              have sm := set_mid (v := .int .i64 x) c0 c1 c2
              have hR2 : (w1.setCell ⟨wr.heap.size, 1, none⟩ (.int .i64 x)).heap[w.heap.size]? = some (.cells #[.int .i64 0, .int .i64 0, .int .i64 0] 25) := by
                rw [heap_setCell_other _ _ _ _ (by show w.heap.size ≠ wr.heap.size; omega)]; exact hR
              have HR2 := Lib.hid hR2
              have SM := Lib.hid sm
              clear hb hb1 hx g1 hcd hck hR hR2 sm
              go_wp2_with fail
              refine (specText_at (2, x, 0) _ hts hd).mono ?_
              rintro e w2 ⟨rfl, hb⟩
              have HB2 := Lib.hid (bThen (bSet HB1.out (by show w.heap.size ≤ wr.heap.size; omega) _) hb)
              have e0 := keep hb SM.out.1
              have e1 := keep hb SM.out.2.1
              have e2 := keep hb SM.out.2.2
              have q := keepB hb HR2.out
              have r0 := box_cell q 0 _ rfl
              have r1 := box_cell q 1 _ rfl
              have r2 := box_cell q 2 _ rfl
              have y0 := frozen_of_row _ _ 0 _ _ q
              have y1 := frozen_of_row _ _ 1 _ _ q
              have y2 := frozen_of_row _ _ 2 _ _ q
              have l1 := World.block_lt_of_cell? _ _ r0
              have l2 := World.block_lt_of_cell? _ _ e0
              clear hb q hts hd c0 c1 c2 z0 z1 z2
              cases d with
              | false =>
                go_wp2
                ((try simp only [Exit.inBlock, Exit.then]); refine bodyPost_ret (v := (.tuple #[.agg #[.int .i64 0, .int .i64 0, .int .i64 0], .bool false])) (by rw [results_cell_tmp rfl]; go_simp) rfl ?_)
                exact .no (HCK.out.2 (.inl (by simp))) (bSet (bSet (bSet HB2.out (Nat.le_refl _) _) (Nat.le_refl _) _) (Nat.le_refl _) _)
              | true =>
                by_cases hq : t = s
                · subst hq
                  go_wp2
                  ((try simp only [Exit.inBlock, Exit.then]); refine bodyPost_ret (v := (.tuple #[.agg #[.int .i64 2, .int .i64 x, .int .i64 0], .bool true])) (by rw [results_cell_tmp rfl]; go_simp) rfl ?_)
                  exact .yes (HCK.out.1 (by simp) (by simp)) (bSet (bSet (bSet HB2.out (Nat.le_refl _) _) (Nat.le_refl _) _) (Nat.le_refl _) _)
                · have hne : (t.toList == s.toList) = false := by
                    rw [Lib.toList_data, Lib.toList_data, beq_eq_false_iff_ne]
                    exact fun h => hq (bytes_eq h)
                  go_wp2
                  ((try simp only [Exit.inBlock, Exit.then]); refine bodyPost_ret (v := (.tuple #[.agg #[.int .i64 0, .int .i64 0, .int .i64 0], .bool false])) (by rw [results_cell_tmp rfl]; go_simp) rfl ?_)
                  exact .no (HCK.out.2 (.inr hq)) (bSet (bSet (bSet HB2.out (Nat.le_refl _) _) (Nat.le_refl _) _) (Nat.le_refl _) _)
          · have h115 : ∀ t, s.data.toList ≠ 115 :: t := (by intro t e; have hg := hg0; rw [e] at hg; simp at hg; exact h0 (by rw [← hg]; rfl))
            go_wp2_with fail
            refine (specParse_any s _ hs).mono ?_
            rintro e w1 ⟨x, ok, rfl, hx, hb⟩
            cases ok with
            | false =>
              have hno := no_con h87 h115 HNS.out hx
              have HNO := Lib.hid hno
              obtain ⟨g1, hb1⟩ := box1 hb
              have hR := keepB hb1 HG.out
              have HB1 := Lib.hid (bThen HB.out hb1)
              have r0 := box_cell hR 0 _ rfl
              have r1 := box_cell hR 1 _ rfl
              have r2 := box_cell hR 2 _ rfl
              have y0 := frozen_of_row _ _ 0 _ _ hR
              have y1 := frozen_of_row _ _ 1 _ _ hR
              have y2 := frozen_of_row _ _ 2 _ _ hR
              have l1 := World.block_lt_of_cell? _ _ r0
              clear hb hb1 hx g1 hR hno
              go_wp2
              ((try simp only [Exit.inBlock, Exit.then]); refine bodyPost_ret (v := (.tuple #[.agg #[.int .i64 0, .int .i64 0, .int .i64 0], .bool false])) (by rw [results_cell_tmp rfl]; go_simp) rfl ?_)
              exact .no HNO.out (bSet (bSet (bSet HB1.out (Nat.le_refl _) _) (Nat.le_refl _) _) (Nat.le_refl _) _)
            | true =>
              obtain ⟨g1, hb1⟩ := box1 hb
              have c0 := box_cell g1 0 _ rfl
              have c1 := box_cell g1 1 _ rfl
              have c2 := box_cell g1 2 _ rfl
              have z0 := frozen_of_row _ _ 0 _ _ g1
              have z1 := frozen_of_row _ _ 1 _ _ g1
              have z2 := frozen_of_row _ _ 2 _ _ g1
              have hR := keepB hb1 HG.out
              have hgs : wr.heap.size < w1.heap.size := (Array.getElem?_eq_some_iff.mp g1).1
              have hrs : w.heap.size < wr.heap.size := (Array.getElem?_eq_some_iff.mp HG.out).1
              have HB1 := Lib.hid (bThen HB.out hb1)
              have hcd : Cand s.data.toList (0, x, 0) := cand_con h87 h115 HNS.out hx
              obtain ⟨t, hts⟩ : ∃ t, opTextS (0, x, 0) = t := ⟨_, rfl⟩
              obtain ⟨d, hd⟩ : ∃ d, opB 30 (0, x, 0) = d := ⟨_, rfl⟩
              have hck := specOpCheck rfl hts hd hcd
              have HCK := Lib.hid hck
              have sm := set_mid (v := .int .i64 x) c0 c1 c2
              have hR2 : (w1.setCell ⟨wr.heap.size, 1, none⟩ (.int .i64 x)).heap[w.heap.size]? = some (.cells #[.int .i64 0, .int .i64 0, .int .i64 0] 25) := by
                rw [heap_setCell_other _ _ _ _ (by show w.heap.size ≠ wr.heap.size; omega)]; exact hR
              have HR2 := Lib.hid hR2
              have SM := Lib.hid sm
              clear hb hb1 hx g1 hcd hck hR hR2 sm
              go_wp2_with fail
              refine (specText_at (0, x, 0) _ hts hd).mono ?_
              rintro e w2 ⟨rfl, hb⟩
              have HB2 := Lib.hid (bThen (bSet HB1.out (by show w.heap.size ≤ wr.heap.size; omega) _) hb)
              have e0 := keep hb SM.out.1
              have e1 := keep hb SM.out.2.1
              have e2 := keep hb SM.out.2.2
              have q := keepB hb HR2.out
              have r0 := box_cell q 0 _ rfl
              have r1 := box_cell q 1 _ rfl
              have r2 := box_cell q 2 _ rfl
              have y0 := frozen_of_row _ _ 0 _ _ q
              have y1 := frozen_of_row _ _ 1 _ _ q
              have y2 := frozen_of_row _ _ 2 _ _ q
              have l1 := World.block_lt_of_cell? _ _ r0
              have l2 := World.block_lt_of_cell? _ _ e0
              clear hb q hts hd c0 c1 c2 z0 z1 z2
              cases d with
              | false =>
                go_wp2
                ((try simp only [Exit.inBlock, Exit.then]); refine bodyPost_ret (v := (.tuple #[.agg #[.int .i64 0, .int .i64 0, .int .i64 0], .bool false])) (by rw [results_cell_tmp rfl]; go_simp) rfl ?_)
                exact .no (HCK.out.2 (.inl (by simp))) (bSet (bSet (bSet HB2.out (Nat.le_refl _) _) (Nat.le_refl _) _) (Nat.le_refl _) _)
              | true =>
                by_cases hq : t = s
                · subst hq
                  go_wp2
                  ((try simp only [Exit.inBlock, Exit.then]); refine bodyPost_ret (v := (.tuple #[.agg #[.int .i64 0, .int .i64 x, .int .i64 0], .bool true])) (by rw [results_cell_tmp rfl]; go_simp) rfl ?_)
                  exact .yes (HCK.out.1 (by simp) (by simp)) (bSet (bSet (bSet HB2.out (Nat.le_refl _) _) (Nat.le_refl _) _) (Nat.le_refl _) _)
                · have hne : (t.toList == s.toList) = false := by
                    rw [Lib.toList_data, Lib.toList_data, beq_eq_false_iff_ne]
                    exact fun h => hq (bytes_eq h)
                  go_wp2
                  ((try simp only [Exit.inBlock, Exit.then]); refine bodyPost_ret (v := (.tuple #[.agg #[.int .i64 0, .int .i64 0, .int .i64 0], .bool false])) (by rw [results_cell_tmp rfl]; go_simp) rfl ?_)
                  exact .no (HCK.out.2 (.inr hq)) (bSet (bSet (bSet HB2.out (Nat.le_refl _) _) (Nat.le_refl _) _) (Nat.le_refl _) _)
        · have h115 : ∀ t, s.data.toList ≠ 115 :: t := (by intro t e; have := congrArg List.length e; simp at this; omega)
          go_wp2_with fail
          refine (specParse_any s _ hs).mono ?_
          rintro e w1 ⟨x, ok, rfl, hx, hb⟩
          cases ok with
          | false =>
            have hno := no_con h87 h115 HNS.out hx
            have HNO := Lib.hid hno
            obtain ⟨g1, hb1⟩ := box1 hb
            have hR := keepB hb1 HG.out
            have HB1 := Lib.hid (bThen HB.out hb1)
            have r0 := box_cell hR 0 _ rfl
            have r1 := box_cell hR 1 _ rfl
            have r2 := box_cell hR 2 _ rfl
            have y0 := frozen_of_row _ _ 0 _ _ hR
            have y1 := frozen_of_row _ _ 1 _ _ hR
            have y2 := frozen_of_row _ _ 2 _ _ hR
            have l1 := World.block_lt_of_cell? _ _ r0
            clear hb hb1 hx g1 hR hno
            go_wp2
            ((try simp only [Exit.inBlock, Exit.then]); refine bodyPost_ret (v := (.tuple #[.agg #[.int .i64 0, .int .i64 0, .int .i64 0], .bool false])) (by rw [results_cell_tmp rfl]; go_simp) rfl ?_)
            exact .no HNO.out (bSet (bSet (bSet HB1.out (Nat.le_refl _) _) (Nat.le_refl _) _) (Nat.le_refl _) _)
          | true =>
            obtain ⟨g1, hb1⟩ := box1 hb
            have c0 := box_cell g1 0 _ rfl
            have c1 := box_cell g1 1 _ rfl
            have c2 := box_cell g1 2 _ rfl
            have z0 := frozen_of_row _ _ 0 _ _ g1
            have z1 := frozen_of_row _ _ 1 _ _ g1
            have z2 := frozen_of_row _ _ 2 _ _ g1
            have hR := keepB hb1 HG.out
            have hgs : wr.heap.size < w1.heap.size := (Array.getElem?_eq_some_iff.mp g1).1
            have hrs : w.heap.size < wr.heap.size := (Array.getElem?_eq_some_iff.mp HG.out).1
            have HB1 := Lib.hid (bThen HB.out hb1)
            have hcd : Cand s.data.toList (0, x, 0) := cand_con h87 h115 HNS.out hx
            obtain ⟨t, hts⟩ : ∃ t, opTextS (0, x, 0) = t := ⟨_, rfl⟩
            obtain ⟨d, hd⟩ : ∃ d, opB 30 (0, x, 0) = d := ⟨_, rfl⟩
            have hck := specOpCheck rfl hts hd hcd
            have HCK := Lib.hid hck
            have sm := set_mid (v := .int .i64 x) c0 c1 c2
            have hR2 : (w1.setCell ⟨wr.heap.size, 1, none⟩ (.int .i64 x)).heap[w.heap.size]? = some (.cells #[.int .i64 0, .int .i64 0, .int .i64 0] 25) := by
              rw [heap_setCell_other _ _ _ _ (by show w.heap.size ≠ wr.heap.size; omega)]; exact hR
            have HR2 := Lib.hid hR2
            have SM := Lib.hid sm
            clear hb hb1 hx g1 hcd hck hR hR2 sm
            go_wp2_with fail
            refine (specText_at (0, x, 0) _ hts hd).mono ?_
            rintro e w2 ⟨rfl, hb⟩
            have HB2 := Lib.hid (bThen (bSet HB1.out (by show w.heap.size ≤ wr.heap.size; omega) _) hb)
            have e0 := keep hb SM.out.1
            have e1 := keep hb SM.out.2.1
            have e2 := keep hb SM.out.2.2
            have q := keepB hb HR2.out
            have r0 := box_cell q 0 _ rfl
            have r1 := box_cell q 1 _ rfl
            have r2 := box_cell q 2 _ rfl
            have y0 := frozen_of_row _ _ 0 _ _ q
            have y1 := frozen_of_row _ _ 1 _ _ q
            have y2 := frozen_of_row _ _ 2 _ _ q
            have l1 := World.block_lt_of_cell? _ _ r0
            have l2 := World.block_lt_of_cell? _ _ e0
            clear hb q hts hd c0 c1 c2 z0 z1 z2
            cases d with
            | false =>
              go_wp2
              ((try simp only [Exit.inBlock, Exit.then]); refine bodyPost_ret (v := (.tuple #[.agg #[.int .i64 0, .int .i64 0, .int .i64 0], .bool false])) (by rw [results_cell_tmp rfl]; go_simp) rfl ?_)
              exact .no (HCK.out.2 (.inl (by simp))) (bSet (bSet (bSet HB2.out (Nat.le_refl _) _) (Nat.le_refl _) _) (Nat.le_refl _) _)
            | true =>
              by_cases hq : t = s
              · subst hq
                go_wp2
                ((try simp only [Exit.inBlock, Exit.then]); refine bodyPost_ret (v := (.tuple #[.agg #[.int .i64 0, .int .i64 x, .int .i64 0], .bool true])) (by rw [results_cell_tmp rfl]; go_simp) rfl ?_)
                exact .yes (HCK.out.1 (by simp) (by simp)) (bSet (bSet (bSet HB2.out (Nat.le_refl _) _) (Nat.le_refl _) _) (Nat.le_refl _) _)
              · have hne : (t.toList == s.toList) = false := by
                  rw [Lib.toList_data, Lib.toList_data, beq_eq_false_iff_ne]
                  exact fun h => hq (bytes_eq h)
                go_wp2
                ((try simp only [Exit.inBlock, Exit.then]); refine bodyPost_ret (v := (.tuple #[.agg #[.int .i64 0, .int .i64 0, .int .i64 0], .bool false])) (by rw [results_cell_tmp rfl]; go_simp) rfl ?_)
                exact .no (HCK.out.2 (.inr hq)) (bSet (bSet (bSet HB2.out (Nat.le_refl _) _) (Nat.le_refl _) _) (Nat.le_refl _) _)
end Go.Proofs.YtikibabknlpnkaaDoor
