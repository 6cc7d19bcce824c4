/-
  The widths of the ports of a module, as the reference finds them.
-/
import Derived.Test.YtmjofpfkgbnknaaGreatFlatMath
import Derived.Test.YtmjofpfkgbnknaaGreatIntS
namespace Go.Proofs.YtmjofpfkgbnknaaGreat
open Go.RowKit
set_option linter.unusedVariables false
set_option linter.unusedSimpArgs false

set_option maxRecDepth 100000 in
set_option maxHeartbeats 3200000 in
theorem specWidths_any (x : DModule) (q : Int) (us : List Value) {B T : Nat} (w : World) (h : rdModule B T w us x) (hT : T ≤ w.heap.size) :
    Calls Tryz.prog 70 #[.agg us.toArray, .int .i64 q] w fun e w' => ∃ v, e = .returned v ∧ OwnsI w' w.heap.size v (widthsL x q) ∧ Below w.heap.size w w' := by
  obtain ⟨i0, hi, hz0, hz1, hz2⟩ := info_parts infoI
  obtain ⟨u0, u1, u2, u3, rfl, uh0, uh1, uh2, uh3⟩ := h
  have uq0 := uh0
  obtain ⟨u0A, u0c, ue0, -⟩ := uq0
  injection ue0 with ue0
  subst ue0
  have uq1 := uh1
  obtain ⟨u1A, u1c, ue1, -⟩ := uq1
  injection ue1 with ue1
  subst ue1
  have uq2 := uh2
  obtain ⟨u2A, u2c, ue2, -⟩ := uq2
  injection ue2 with ue2
  subst ue2
  have uq3 := uh3
  obtain ⟨u3A, u3c, ue3, -⟩ := uq3
  injection ue3 with ue3
  subst ue3
  unfold widthsL
  by_cases hl : x.1.length ≤ 30
  · rw [if_pos hl]
    have t1 : ¬ (30 : Int) < (x.1.length : Int) := by omega
    obtain ⟨A, c, ea, hm, hA⟩ := uh0
    injection ea with ea
    injection ea with ea1 ea2 ea3
    subst ea1 ea3
    have HA := Lib.hid hA
    clear hA uh1 uh2 uh3
    go_enter Tryz.func70, Tryz.ntmps70
    go_wp2
    obtain ⟨W, hW⟩ : ∃ W, W = w.alloc (.cells #[.slice u0A (x.1).length u0c, .slice u1A (x.2.1).length u1c, .slice u2A (x.2.2.1).length u2c, .slice u3A (x.2.2.2).length u3c] 31) := ⟨_, rfl⟩
    rw [← hW]
    have g := eqbox1 hW
    have d0 : W.cell? ⟨w.heap.size, 0, none⟩ = some (.slice u0A (x.1).length u0c) := box_cell g.1 0 _ rfl
    have d1 : W.cell? ⟨w.heap.size, 1, none⟩ = some (.slice u1A (x.2.1).length u1c) := box_cell g.1 1 _ rfl
    have d2 : W.cell? ⟨w.heap.size, 2, none⟩ = some (.slice u2A (x.2.2.1).length u2c) := box_cell g.1 2 _ rfl
    have d3 : W.cell? ⟨w.heap.size, 3, none⟩ = some (.slice u3A (x.2.2.2).length u3c) := box_cell g.1 3 _ rfl
    have hWs : W.heap.size = w.heap.size + 1 := by rw [hW]; simp
    have HW := Lib.hid g.2
    have hO := own_newI W W.heap.size (Nat.le_refl _)
    have HO0 := Lib.hid hO
    have HWS := Lib.hid hWs
    have hsz := g.2.size
    clear hW g hO
    (try rw [← hWs])
    clear hWs
    go_loopw [5, 6] (fun v i wr => ∃ k : Nat, k ≤ x.1.length ∧ i = .int .i64 k ∧ OwnsI wr W.heap.size v (widthsK x.1 q k) ∧ Below W.heap.size W wr) (fun _ i _ => x.1.length - (intOf i).toNat)
    case atStart => exact ⟨0, Nat.zero_le _, rfl, by first | exact HO0.out | (have h := HO0.out; rw [HWS.out] at h ⊢; exact h), bAlloc (Below.refl _ _) (Nat.le_refl _) _⟩
    case round =>
      obtain ⟨k, hk, rfl, hown, hb⟩ := hrel
      have HO := Lib.hid hown
      have HB := Lib.hid hb
      have e0 := keep hb d0
      have hsr := hb.size
      have hpl := widthsK_len x.1 q k
      by_cases hlt : k < x.1.length
      · obtain ⟨b, o, rfl, _, hbT, us, hul, hc, hr⟩ := HA.out k hlt
        obtain ⟨s, hs⟩ : ∃ s, x.1[k] = s := ⟨_, rfl⟩
        have hs? : x.1[k]? = some s := by rw [List.getElem?_eq_getElem hlt, hs]
        rw [hs] at hr
        obtain ⟨v0, v1, v2, rfl, ⟨f0, _⟩, ⟨f1, _⟩, ⟨f2, _⟩⟩ := hr
        injection f0 with f0
        injection f1 with f1
        injection f2 with f2
        subst f0 f1 f2
        have x0 : wr.cell? ⟨b, o + k * 3, none⟩ = some (.int .i64 s.1) := keep hb (keep HW.out (hc 0 _ rfl))
        have x1 : wr.cell? ⟨b, o + k * 3 + 1, none⟩ = some (.int .i64 s.2.1) := keep hb (keep HW.out (hc 1 _ rfl))
        have x2 : wr.cell? ⟨b, o + k * 3 + 2, none⟩ = some (.int .i64 s.2.2) := keep hb (keep HW.out (hc 2 _ rfl))
        have HS := Lib.hid hs?
        clear hown hb d0 d1 d2 d3 hc hs hs? hul HO0
        by_cases hp : s.1 = q
        · have HY := Lib.hid (And.intro (widthsK_yes x.1 q k s HS.out hp) hpl)
          obtain ⟨a, ha⟩ : ∃ a, s.2.1 = a := ⟨_, rfl⟩
          obtain ⟨ii, hii⟩ : ∃ a, s.2.2 = a := ⟨_, rfl⟩
          obtain ⟨kd, hkd⟩ : ∃ a, q = a := ⟨_, rfl⟩
          rw [hp, hkd] at x0
          rw [ha] at x1 HY
          rw [hii] at x2
          have HKD := Lib.hid hkd
          subst hkd
          clear hp ha hii
          go_wp2_with (refine wpList_append_lies _ rfl _ _ 49 (by rfl) W.heap.size 3 i0 _ 1 8 Tryz.underlying49 hi hz0 hz1 hz2 rfl (by omega) u5 (widthsK x.1 q k).length _ (by rfl) (HO.out.alloc _) ⟨wr.heap.size, 0, none⟩ 1 1 [.int .i64 a] (by rfl) (by rfl) (World.news_of_block (heap_alloc_new wr _)) (by simp [Value.oneCell']) (by omega) (by unfold maxLen; omega) (by omega) (by simp; omega) (wr.heap.size + 1) (by simp) ?_; intro gg cap w2 hown2 hgrow2 hat2 hlt2)
          have R := own_addI HO.out hsr HB.out (bAlloc (Below.refl _ _) (Nat.le_refl _) _) hgrow2 hown2
          have HR := Lib.hid R
          clear R hown2 hgrow2 hat2 hlt2
          go_roundw
          case rel => exact ⟨k + 1, by omega, by go_num, by rw [HY.out.1]; exact HR.out.1, HR.out.2⟩
          case measure => simp [intOf]; omega
        · have HY := Lib.hid (widthsK_no x.1 q k s HS.out hp)
          obtain ⟨kd, hkd⟩ : ∃ a, s.1 = a := ⟨_, rfl⟩
          rw [hkd] at hp x0
          have b0 : (kd == q) = false := by simpa using hp
          clear hp hkd hbT
          go_wp2
          go_roundw
          case rel => exact ⟨k + 1, by omega, by go_num, by rw [HY.out]; exact HO.out, HB.out⟩
          case measure => simp [intOf]; omega
      · obtain rfl : k = x.1.length := by omega
        clear hown hb d0 d1 d2 d3
        go_wp2
        go_ret
        exact ⟨_, rfl, HO.out.lower hsz, bThen HW.out HB.out⟩
  · rw [if_neg hl]
    have t1 : (30 : Int) < (x.1.length : Int) := by omega
    clear uh0 uh1 uh2 uh3
    go_enter Tryz.func70, Tryz.ntmps70
    go_wp2
    go_ret
    refine ⟨_, rfl, OwnsI.lower (B := w.heap.size + 1) ?_ (by omega), by (repeat' (first | assumption | exact Below.refl _ _ | refine bDrewN ?_ _ | refine Below.drew ?_ | refine bAlloc ?_ (Nat.le_refl _) _ | refine bSet ?_ (by first | exact Nat.le_refl _ | omega | (simp <;> omega)) _))⟩
    have h0 := own_newI (w.alloc (.cells #[.slice u0A (x.1).length u0c, .slice u1A (x.2.1).length u1c, .slice u2A (x.2.2.1).length u2c, .slice u3A (x.2.2.2).length u3c] 31)) (w.heap.size + 1) (by simp)
    simpa using h0
end Go.Proofs.YtmjofpfkgbnknaaGreat
