/-
  The ports of a module, as the reference finds them.
-/
import Derived.Test.YtmjofpfkgbnknaaGreatDtAll
import Derived.Test.YtmjofpfkgbnknaaGreatIntS
namespace Go.Proofs.YtmjofpfkgbnknaaGreat
open Go.RowKit
set_option linter.unusedVariables false
set_option linter.unusedSimpArgs false

/-- An input or an output. -/
def isPort (s : DSignal) : Bool := decide (s.1 = 0) || decide (s.1 = 1)
def portsK (S : List DSignal) (k : Nat) : List Int := ((List.range k).filter fun i => (S[i]?).any isPort).map fun i : Nat => (i : Int)
def portsL (x : DModule) : List Int := if x.1.length ≤ 30 then portsK x.1 x.1.length else []
theorem portsK_yes (S : List DSignal) (k : Nat) (s : DSignal) (hs : S[k]? = some s) (h : isPort s = true) : portsK S (k + 1) = portsK S k ++ [(k : Int)] := by
  unfold portsK; rw [List.range_succ, List.filter_append, List.map_append]; simp [hs, h]
theorem portsK_no (S : List DSignal) (k : Nat) (s : DSignal) (hs : S[k]? = some s) (h : isPort s = false) : portsK S (k + 1) = portsK S k := by
  unfold portsK; rw [List.range_succ, List.filter_append, List.map_append]; simp [hs, h]
theorem portsK_len (S : List DSignal) (k : Nat) : (portsK S k).length ≤ k := by
  unfold portsK; rw [List.length_map]; exact Nat.le_trans (List.length_filter_le _ _) (by simp)
theorem OwnsI.lower {w : World} {B B' : Nat} {v : Value} {L : List Int} (h : OwnsI w B v L) (hB : B' ≤ B) : OwnsI w B' v L := by
  obtain ⟨h1, h2⟩ := h
  refine ⟨h1, ?_⟩
  rcases h2 with h2 | ⟨g, cap, cur, e1, e2, e3⟩
  · exact .inl h2
  · exact .inr ⟨g, cap, cur, e1, Nat.le_trans hB e2, e3⟩
theorem infoI : (Tryz.prog.info? 3).map (fun i => (i.zero, i.size, i.bytes)) = some (some (.int .i64 0), 1, 8) := by kernel_rfl

set_option maxRecDepth 100000 in
set_option maxHeartbeats 3200000 in
theorem specPorts_any (x : DModule) (us : List Value) {B T : Nat} (w : World) (h : rdModule B T w us x) (hT : T ≤ w.heap.size) :
    Calls Tryz.prog 122 #[.agg us.toArray] w fun e w' => ∃ v, e = .returned v ∧ OwnsI w' w.heap.size v (portsL x) ∧ Below w.heap.size w w' := by
  obtain ⟨i0, hi, hz0, hz1, hz2⟩ := info_parts infoI
  obtain ⟨u0, u1, u2, u3, rfl, uh0, uh1, uh2, uh3⟩ := h
  have uq0 := uh0
  obtain ⟨u0A, u0c, ue0, -⟩ := uq0
  injection ue0 with ue0
  subst ue0
  have uq1 := uh1
  obtain ⟨u1A, u1c, ue1, -⟩ := uq1
  injection ue1 with ue1
  subst ue1
  have uq2 := uh2
  obtain ⟨u2A, u2c, ue2, -⟩ := uq2
  injection ue2 with ue2
  subst ue2
  have uq3 := uh3
  obtain ⟨u3A, u3c, ue3, -⟩ := uq3
  injection ue3 with ue3
  subst ue3
  unfold portsL
  by_cases hl : x.1.length ≤ 30
  · rw [if_pos hl]
    have t1 : ¬ (30 : Int) < (x.1.length : Int) := by omega
    obtain ⟨A, c, ea, hm, hA⟩ := uh0
    injection ea with ea
    injection ea with ea1 ea2 ea3
    subst ea1 ea3
    have HA := Lib.hid hA
    clear hA uh1 uh2 uh3
    go_enter Tryz.func122, Tryz.ntmps122
    go_wp2
    obtain ⟨W, hW⟩ : ∃ W, W = w.alloc (.cells #[.slice u0A (x.1).length u0c, .slice u1A (x.2.1).length u1c, .slice u2A (x.2.2.1).length u2c, .slice u3A (x.2.2.2).length u3c] 31) := ⟨_, rfl⟩
    rw [← hW]
    have g := eqbox1 hW
    have d0 : W.cell? ⟨w.heap.size, 0, none⟩ = some (.slice u0A (x.1).length u0c) := box_cell g.1 0 _ rfl
    have d1 : W.cell? ⟨w.heap.size, 1, none⟩ = some (.slice u1A (x.2.1).length u1c) := box_cell g.1 1 _ rfl
    have d2 : W.cell? ⟨w.heap.size, 2, none⟩ = some (.slice u2A (x.2.2.1).length u2c) := box_cell g.1 2 _ rfl
    have d3 : W.cell? ⟨w.heap.size, 3, none⟩ = some (.slice u3A (x.2.2.2).length u3c) := box_cell g.1 3 _ rfl
    have hWs : W.heap.size = w.heap.size + 1 := by rw [hW]; simp
    have HW := Lib.hid g.2
    have hO := own_newI W W.heap.size (Nat.le_refl _)
    have HO0 := Lib.hid hO
    have HWS := Lib.hid hWs
    have hsz := g.2.size
    clear hW g hO
    (try rw [← hWs])
    clear hWs
    go_loopw [3, 4] (fun v i wr => ∃ k : Nat, k ≤ x.1.length ∧ i = .int .i64 k ∧ OwnsI wr W.heap.size v (portsK x.1 k) ∧ Below W.heap.size W wr) (fun _ i _ => x.1.length - (intOf i).toNat)
    case atStart => exact ⟨0, Nat.zero_le _, rfl, by first | exact HO0.out | (have h := HO0.out; rw [HWS.out] at h ⊢; exact h), bAlloc (Below.refl _ _) (Nat.le_refl _) _⟩
    case round =>
      obtain ⟨k, hk, rfl, hown, hb⟩ := hrel
      have HO := Lib.hid hown
      have HB := Lib.hid hb
      have e0 := keep hb d0
      have hsr := hb.size
      have hpl := portsK_len x.1 k
      by_cases hlt : k < x.1.length
      · obtain ⟨b, o, rfl, _, hbT, us, hul, hc, hr⟩ := HA.out k hlt
        obtain ⟨s, hs⟩ : ∃ s, x.1[k] = s := ⟨_, rfl⟩
        have hs? : x.1[k]? = some s := by rw [List.getElem?_eq_getElem hlt, hs]
        rw [hs] at hr
        obtain ⟨v0, v1, v2, rfl, ⟨f0, _⟩, _, _⟩ := hr
        injection f0 with f0
        subst f0
        have x0 : wr.cell? ⟨b, o + k * 3, none⟩ = some (.int .i64 s.1) := keep hb (keep HW.out (hc 0 _ rfl))
        have HS := Lib.hid hs?
        clear hown hb d0 d1 d2 d3 hc hs hs? hul HO0
        obtain ⟨n, hn⟩ : ∃ n, s.1 = n := ⟨_, rfl⟩
        rw [hn] at x0
        by_cases hp : n = 0 ∨ n = 1
        · have hyes : isPort s = true := by unfold isPort; rw [hn]; simpa using hp
          have HY := Lib.hid (And.intro (portsK_yes x.1 k s HS.out hyes) hpl)
          have hp' : n = 0 ∨ n = 1 := hp
          clear hyes hp
          rcases hp' with rfl | rfl
          all_goals
            go_wp2_with (refine wpList_append_lies _ rfl _ _ 49 (by rfl) W.heap.size 3 i0 _ 1 8 Tryz.underlying49 hi hz0 hz1 hz2 rfl (by omega) u3 (portsK x.1 k).length _ (by rfl) (HO.out.alloc _) ⟨wr.heap.size, 0, none⟩ 1 1 [.int .i64 (k)] (by rfl) (by rfl) (World.news_of_block (heap_alloc_new wr _)) (by simp [Value.oneCell']) (by omega) (by unfold maxLen; omega) (by omega) (by simp; omega) (wr.heap.size + 1) (by simp) ?_; intro gg cap w2 hown2 hgrow2 hat2 hlt2)
            have R := own_addI HO.out hsr HB.out (bAlloc (Below.refl _ _) (Nat.le_refl _) _) hgrow2 hown2
            have HR := Lib.hid R
            clear R hown2 hgrow2 hat2 hlt2
            go_roundw
            case rel => exact ⟨k + 1, by omega, by go_num, by rw [HY.out.1]; exact HR.out.1, HR.out.2⟩
            case measure => simp [intOf]; omega
        · have hno : isPort s = false := by unfold isPort; rw [hn]; simpa using hp
          have HY := Lib.hid (portsK_no x.1 k s HS.out hno)
          have n0 : ¬ n = 0 := fun e => hp (.inl e)
          have n1 : ¬ n = 1 := fun e => hp (.inr e)
          have b0 : (n == 0) = false := by simpa using n0
          have b1 : (n == 1) = false := by simpa using n1
          clear hno hp hn hbT
          go_wp2
          go_roundw
          case rel => exact ⟨k + 1, by omega, by go_num, by rw [HY.out]; exact HO.out, HB.out⟩
          case measure => simp [intOf]; omega
      · obtain rfl : k = x.1.length := by omega
        clear hown hb d0 d1 d2 d3
        go_wp2
        go_ret
        exact ⟨_, rfl, HO.out.lower hsz, bThen HW.out HB.out⟩
  · rw [if_neg hl]
    have t1 : (30 : Int) < (x.1.length : Int) := by omega
    clear uh0 uh1 uh2 uh3
    go_enter Tryz.func122, Tryz.ntmps122
    go_wp2
    go_ret
    refine ⟨_, rfl, OwnsI.lower (B := w.heap.size + 1) ?_ (by omega), by (repeat' (first | assumption | exact Below.refl _ _ | refine bDrewN ?_ _ | refine Below.drew ?_ | refine bAlloc ?_ (Nat.le_refl _) _ | refine bSet ?_ (by first | exact Nat.le_refl _ | omega | (simp <;> omega)) _))⟩
    have h0 := own_newI (w.alloc (.cells #[.slice u0A (x.1).length u0c, .slice u1A (x.2.1).length u1c, .slice u2A (x.2.2.1).length u2c, .slice u3A (x.2.2.2).length u3c] 31)) (w.heap.size + 1) (by simp)
    simpa using h0
end Go.Proofs.YtmjofpfkgbnknaaGreat
