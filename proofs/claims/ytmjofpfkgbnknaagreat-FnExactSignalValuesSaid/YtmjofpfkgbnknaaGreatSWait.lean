/-
  Whether an expression reads a signal that waits: the reference.
-/
import Derived.Test.YtmjofpfkgbnknaaGreatWaitS
namespace Go.Proofs.YtmjofpfkgbnknaaGreat
open Go.RowKit
set_option linter.unusedVariables false
set_option linter.unusedSimpArgs false

set_option maxHeartbeats 3200000 in
theorem specWaits_at (L : List DOp) (Wt : List Bool) (v u : Value) {B T B' T' : Nat} {r : Bool} (w : World) (hv : rdOpS B T w [v] L) (hu : rdBoolS B' T' w [u] Wt) (hok : ReadsIn L Wt.length) (hr : waitsB L Wt = r) :
    Calls Tryz.prog 105 #[v, u] w fun e w' => e = .returned (.bool r) ∧ w = w' := by
  have HR := Lib.hid hr
  have HK := Lib.hid hok
  clear hr hok
  obtain ⟨vA, vc, ve, vm, vAk⟩ := hv
  injection ve with ve
  subst ve
  unfold maxLen at vm
  have HV := Lib.hid vAk
  clear vAk
  obtain ⟨uA, uc, ue, um, uAk⟩ := hu
  injection ue with ue
  subst ue
  unfold maxLen at um
  have HU := Lib.hid uAk
  clear uAk
  go_enter Tryz.func105, Tryz.ntmps105
  go_wp2
  go_loop [5] (fun x => ∃ i : Nat, i ≤ L.length ∧ x = .int .i64 i ∧ waitsB (L.take i) Wt = false) (fun x => L.length - (intOf x).toNat)
  case atStart => exact ⟨0, Nat.zero_le _, rfl, by simp [waitsB]⟩
  case round =>
    obtain ⟨i, hi, rfl, hno⟩ := hrel
    have HN := Lib.hid hno
    clear hno
    by_cases hlt : i < L.length
    · skip
      obtain ⟨xb, xo, xe, _, _, xus, _, xhc, xhr⟩ := HV.out i hlt
      obtain ⟨x, xx⟩ : ∃ x, L[i]'hlt = x := ⟨_, rfl⟩
      have xx? : L[i]? = some x := by rw [List.getElem?_eq_getElem hlt, xx]
      rw [xx] at xhr
      subst xe
      obtain ⟨xu0, xu1, xu2, rfl, xh0, xh1, xh2⟩ := xhr
      obtain ⟨xf0, -⟩ := xh0
      injection xf0 with xf0
      subst xf0
      obtain ⟨xf1, -⟩ := xh1
      injection xf1 with xf1
      subst xf1
      obtain ⟨xf2, -⟩ := xh2
      injection xf2 with xf2
      subst xf2
      have xc0 : w.cell? ⟨xb, xo + i * 3, none⟩ = some (.int .i64 x.1) := (xhc 0 _ rfl)
      have xc1 : w.cell? ⟨xb, xo + i * 3 + 1, none⟩ = some (.int .i64 x.2.1) := (xhc 1 _ rfl)
      have xc2 : w.cell? ⟨xb, xo + i * 3 + 2, none⟩ = some (.int .i64 x.2.2) := (xhc 2 _ rfl)
      have xlt : xb < w.heap.size := World.block_lt_of_cell? _ _ xc0
      clear xhc xx
      have HX := Lib.hid xx?
      have HI := Lib.hid (HK.out x (List.mem_of_getElem? xx?))
      clear xx?
      obtain ⟨k, a, b⟩ := x
      dsimp only at xc0 xc1 xc2
      by_cases h23 : k = 2 ∨ k = 3
      · obtain ⟨ha0, ha1⟩ := HI.out h23
        dsimp only at ha0 ha1
        obtain ⟨t, rfl⟩ := Int.eq_ofNat_of_zero_le ha0
        have ht : t < Wt.length := by omega
        obtain ⟨gb, go, ge, _, _, gus, _, ghc, ghr⟩ := HU.out t ht
        subst ge
        have ghr' : gus = [.bool (Wt[t]'ht)] := ghr
        subst ghr'
        obtain ⟨q, hq⟩ : ∃ q, Wt[t]'ht = q := ⟨_, rfl⟩
        have g0 := ghc 0 _ rfl
        rw [Nat.add_zero, Nat.mul_one, hq] at g0
        have HQ := Lib.hid (show Wt.getD t false = q by rw [List.getD_eq_getElem?_getD, List.getElem?_eq_getElem ht, hq]; rfl)
        clear ghc ghr hq
        have HRW := Lib.hid (reads_yes (W := Wt) (b := b) h23 HQ.out)
        clear ha0 ha1
        cases q with
        | true =>
          have HE := Lib.hid (HR.out.symm.trans (waits_at L Wt i _ HX.out HRW.out))
          rcases h23 with rfl | rfl
          all_goals
            go_wp2
            go_ret
            exact ⟨ret_bool HE.out.symm, rfl⟩
        | false =>
          have HS := Lib.hid (waits_step L Wt i _ HX.out HRW.out HN.out)
          rcases h23 with rfl | rfl
          all_goals
            go_wp2
            go_round
            case rel => exact ⟨i + 1, by omega, by go_num, HS.out⟩
            case measure => simp [intOf]; omega
      · have HS := Lib.hid (waits_step L Wt i _ HX.out (reads_no h23) HN.out)
        have b2 : (k == 2) = false := by simpa using fun e => h23 (.inl e)
        have b3 : (k == 3) = false := by simpa using fun e => h23 (.inr e)
        clear h23
        go_wp2
        go_round
        case rel => exact ⟨i + 1, by omega, by go_num, HS.out⟩
        case measure => simp [intOf]; omega
    · obtain rfl : i = L.length := by omega
      have HE := Lib.hid (show r = false by have h := HN.out; rw [List.take_length] at h; exact HR.out.symm.trans h)
      go_wp2
      go_ret
      exact ⟨ret_bool HE.out.symm, rfl⟩
end Go.Proofs.YtmjofpfkgbnknaaGreat
