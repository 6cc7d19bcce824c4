/-
  A drawn number of known ones; a drawn place.
-/
import Derived.Test.YtikibabknlpnkaaDoorCurC
import Derived.Test.YtikibabknlpnkaaDoorRecs
import Derived.Test.YtikibabknlpnkaaDoorBits64
import Derived.Deep.RegionLaw
namespace Go.Proofs.YtikibabknlpnkaaDoor
open Go.RowKit
set_option linter.unusedVariables false
set_option linter.unusedSimpArgs false

theorem fit_of {x : Int} (h0 : -1000000 ≤ x) (h1 : x ≤ 1000000) : Fit x := by unfold Fit; omega
set_option maxHeartbeats 1600000 in
theorem pickIn_any (g n b m : Nat) (L : List Int) (w : World) (hm : L.length = m) (h0 : 0 < m) (hm2 : m ≤ 1000) (hb : b ≠ g) (hl : ∀ j (hj : j < L.length), w.cell? ⟨b, j, none⟩ = some (.int .i64 L[j])) (hc : Cur 47 w g n) :
    Calls Tryd.prog 27 #[.pointer (some ⟨g, 0, none⟩), .slice (some ⟨b, 0, none⟩) m m] w (Drawn 47 (· ∈ L) g n w) := by
  have HI := Lib.hid hl
  clear hl
  go_enter Tryd.func27, Tryd.ntmps27
  go_wp2_with fail
  refine (below_any g n _ _ (by omega) (by omega) hc).mono ?_
  rintro e w1 ⟨x, rfl, ⟨hx0, hx1⟩, hcur, hch⟩
  obtain ⟨j, rfl⟩ : ∃ j : Nat, x = (j : Int) := ⟨x.toNat, by omega⟩
  have hj : j < L.length := by omega
  have hv := HI.out j hj
  have hv' : w1.cell? ⟨b, j, none⟩ = some (.int .i64 L[j]) := (hch.cell (p := ⟨b, j, none⟩) (World.block_lt_of_cell? _ _ hv) hb).trans hv
  have HC := Lib.hid (And.intro hcur hch)
  have HM := Lib.hid (List.getElem_mem hj)
  obtain ⟨y, hy⟩ : ∃ y, L[j] = y := ⟨_, rfl⟩
  rw [hy] at hv' HM
  clear hv hcur hch HI hy
  go_wp2
  go_ret
  exact ⟨_, rfl, HM.out, HC.out.1, HC.out.2⟩

set_option maxHeartbeats 1600000 in
theorem place_any (g n : Nat) (m : Int) (w : World) (h1 : 1 ≤ m) (h2 : m ≤ 1000) (hc : Cur 47 w g n) :
    Calls Tryd.prog 17 #[.pointer (some ⟨g, 0, none⟩), .int .i64 m] w (Drawn 47 Fit g n w) := by
  have ew : IntKind.i64.wrap (m + 1) = m + 1 := wrap64_int _ (by omega) (by omega)
  go_enter Tryd.func17, Tryd.ntmps17
  go_wp2_with fail
  refine (once_any g n 15 _ (by omega) (by omega) hc).mono ?_
  rintro e w1 ⟨x, rfl, hcu, hch⟩
  have HC := Lib.hid hcu
  have HH := Lib.hid hch
  clear hcu hch
  cases x
  · go_wp2_with fail
    refine (below_any g n m _ (by omega) (by omega) HC.out).mono ?_
    rintro e w2 ⟨y, rfl, ⟨hy0, hy1⟩, hcu, hch⟩
    have HC2 := Lib.hid hcu
    have HH2 := Lib.hid (HH.out.trans hch)
    clear hcu hch
    go_wp2
    go_ret
    exact ⟨_, rfl, fit_of (by omega) (by omega), HC2.out, HH2.out⟩
  · go_wp2_with fail
    refine (pickIn_any g n w1.heap.size 5 [-1, m, m + 1, 9223372036854775807, -9223372036854775808] _ rfl (by omega) (by omega) (fun e => by have := HC.out.lt; omega) ?_ (HC.out.keep (bAlloc (Below.refl _ _) (Nat.le_refl _) _))).mono ?_
    · intro j hj
      rw [World.cell?_alloc_at _ _ _ _ rfl]
      match j, hj with
      | 0, _ | 1, _ | 2, _ | 3, _ | 4, _ => rfl
    rintro e w2 ⟨y, rfl, hy, hcu, hch⟩
    have hf : Fit y := by
      unfold Fit
      simp at hy
      omega
    have HC2 := Lib.hid hcu
    have HH2 := Lib.hid ((HH.out.alloc _).trans hch)
    clear hcu hch hy
    go_wp2
    go_ret
    exact ⟨_, rfl, hf, HC2.out, HH2.out⟩
end Go.Proofs.YtikibabknlpnkaaDoor
