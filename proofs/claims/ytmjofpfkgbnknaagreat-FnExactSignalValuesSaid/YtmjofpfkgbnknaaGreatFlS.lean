/-
  Sums of widths; what a valid module says of its widths.
-/
import Derived.Test.YtmjofpfkgbnknaaGreatFlatMath
import Derived.Test.YtmjofpfkgbnknaaGreatIntS
namespace Go.Proofs.YtmjofpfkgbnknaaGreat
open Go.RowKit
set_option linter.unusedVariables false
set_option linter.unusedSimpArgs false

def Small4 (L : List Int) : Prop := ∀ x ∈ L, 0 ≤ x ∧ x ≤ 4
theorem sum_bnd : ∀ (L : List Int), Small4 L → 0 ≤ sumL L ∧ sumL L ≤ 4 * L.length := by
  have hgo : ∀ (L : List Int) (a : Int), Small4 L → a ≤ L.foldl (· + ·) a ∧ L.foldl (· + ·) a ≤ a + 4 * L.length := by
    intro L
    induction L with
    | nil => intro a _; simp
    | cons x L ih =>
      intro a h
      have h1 := ih (a + x) fun y hy => h y (List.mem_cons_of_mem _ hy)
      have h2 := h x (List.mem_cons_self ..)
      simp only [List.foldl_cons, List.length_cons]
      omega
  intro L h
  have := hgo L 0 h
  unfold sumL
  omega
theorem Small4.take {L : List Int} (h : Small4 L) (k : Nat) : 0 ≤ sumL (L.take k) ∧ sumL (L.take k) ≤ 4 * L.length := by
  have h1 := sum_bnd (L.take k) fun x hx => h x (List.mem_of_mem_take hx)
  have h2 := List.length_take_le k L
  have h3 : (L.take k).length ≤ L.length := by rw [List.length_take]; omega
  omega
theorem sigOk_wid {s : DSignal} (h : sigOk s = true) : 0 ≤ s.2.1 ∧ s.2.1 ≤ 4 := by
  unfold sigOk at h; simp only [Bool.and_eq_true, decide_eq_true_eq] at h; exact h.1.2
theorem widths_small {d : List DModule} {k : Int} {m : DModule} (h : ModOk d k m) (q : Int) : Small4 (widthsL m q) := by
  intro x hx
  unfold widthsL at hx
  split at hx
  · unfold widthsK at hx
    obtain ⟨s, hs, rfl⟩ := List.mem_map.1 hx
    have hm := (List.mem_filter.1 hs).1
    exact sigOk_wid (h.sig s (List.mem_of_mem_take hm))
  · cases hx
theorem wid_at {m : DModule} {t : Nat} {s : DSignal} (h : m.1[t]? = some s) : widI m t = s.2.1 := by unfold widI; rw [Int.toNat_natCast, h]; rfl
theorem wid_bnd {d : List DModule} {k : Int} {m : DModule} (h : ModOk d k m) (s : Int) : 0 ≤ widI m s ∧ widI m s ≤ 4 := by
  unfold widI
  cases hs : m.1[s.toNat]? with
  | none => simp
  | some x => exact sigOk_wid (h.sig x (List.mem_of_getElem? hs))
theorem memBits_bnd {d : List DModule} {k0 : Int} {m : DModule} (h : ModOk d k0 m) (k : Nat) : 0 ≤ memBits m k ∧ memBits m k ≤ 8 := by
  have h1 := sum_bnd ((m.2.2.2.take k).map fun x => widI m x.2.2.2) (by
    intro x hx
    obtain ⟨y, _, rfl⟩ := List.mem_map.1 hx
    exact wid_bnd h _)
  have h2 := h.l3
  rw [List.length_map, List.length_take] at h1
  unfold memBits
  omega
/-- A valid module whose order exists. -/
theorem order_ok {m : DModule} (h : (orderO m).isSome = true) : ModOk [m] 0 m := by
  obtain ⟨L, hL⟩ := Option.isSome_iff_exists.1 h
  have hd := order_design hL
  rw [design_one] at hd
  exact (modOk_of (d := [m]) (K := 0) rfl hd).2
theorem flat_no0 {m : DModule} {r : Bool} (hr : flatB m = r) (h : (orderO m).isSome = false) : r = false := by rw [← hr]; unfold flatB; rw [h]; rfl
theorem flat_no1 {m : DModule} {r : Bool} (hr : flatB m = r) (i : Nat) (s : DSignal) (hs : m.1[i]? = some s) (h : s.2.1 = 0) : r = false := by
  rw [← hr]; unfold flatB
  have : m.1.all (fun s => !decide (s.2.1 = 0)) = false := by rw [List.all_eq_false]; exact ⟨s, List.mem_of_getElem? hs, by simp [h]⟩
  rw [this, Bool.and_false]; rfl
theorem flat_no2 {m : DModule} {r : Bool} (hr : flatB m = r) (i : Nat) (a : DAssign) (ha : m.2.1[i]? = some a) (h : noPar a = false) : r = false := by
  rw [← hr]; unfold flatB
  have : m.2.1.all noPar = false := by rw [List.all_eq_false]; exact ⟨a, List.mem_of_getElem? ha, by simp [h]⟩
  rw [this, Bool.and_false]; rfl
theorem flat_no3 {m : DModule} {r : Bool} (hr : flatB m = r) (i : Nat) (x : DMem) (hx : m.2.2.2[i]? = some x) (h : memWid m x = false) : r = false := by
  rw [← hr]; unfold flatB
  have : m.2.2.2.all (memWid m) = false := by rw [List.all_eq_false]; exact ⟨x, List.mem_of_getElem? hx, by simp [h]⟩
  rw [this, Bool.and_false]; rfl
theorem flat_end {m : DModule} {r : Bool} (hr : flatB m = r) (h0 : (orderO m).isSome = true) (h1 : m.1.all (fun s => !decide (s.2.1 = 0)) = true) (h2 : m.2.1.all noPar = true) (h3 : m.2.2.2.all (memWid m) = true) : r = bitsB m := by
  rw [← hr]; unfold flatB; rw [h0, h1, h2, h3]; simp
theorem noPar_no {a : DAssign} (i : Nat) (o : DOp) (ho : a.2[i]? = some o) (h : o.1 = 1) : noPar a = false := by
  unfold noPar; rw [List.all_eq_false]; exact ⟨o, List.mem_of_getElem? ho, by simp [h]⟩
/-- A property of all of the first i elements, kept out of sight. -/
def AllF {α : Type} (f : α → Bool) (L : List α) : Prop := L.all f = true
theorem AllF.nil {α : Type} (f : α → Bool) (L : List α) : AllF f (L.take 0) := by simp [AllF]
theorem AllF.step {α : Type} {f : α → Bool} {L : List α} {i : Nat} {x : α} (h : L[i]? = some x) (hf : f x = true) (h0 : AllF f (L.take i)) : AllF f (L.take (i + 1)) := by
  unfold AllF at h0 ⊢; rw [List.take_add_one, h, List.all_append, h0]; simp [hf]
theorem AllF.done {α : Type} {f : α → Bool} {L : List α} (h : AllF f (L.take L.length)) : L.all f = true := by unfold AllF at h; rwa [List.take_length] at h

set_option maxHeartbeats 1600000 in
theorem specSum_at (L : List Int) (v : Value) {B : Nat} {s : Int} (w : World) (h : OwnsI w B v L) (hl : L.length ≤ 30) (hs4 : Small4 L) (hs : sumL L = s) :
    Calls Tryz.prog 86 #[v] w fun e w' => e = .returned (.int .i64 s) ∧ w = w' := by
  obtain ⟨A, c, rfl, hA⟩ := h.shape
  have HA := Lib.hid hA
  have HS4 := Lib.hid hs4
  have HSS := Lib.hid hs
  clear hA hs4 hs h
  go_enter Tryz.func86, Tryz.ntmps86
  go_wp2
  go_loop [3, 4] (fun n i => ∃ k : Nat, k ≤ L.length ∧ i = .int .i64 k ∧ n = .int .i64 (sumL (L.take k))) (fun _ i => L.length - (intOf i).toNat)
  case atStart => exact ⟨0, Nat.zero_le _, rfl, rfl⟩
  case round =>
    obtain ⟨k, hk, rfl, rfl⟩ := hrel
    have hb := HS4.out.take k
    by_cases hlt : k < L.length
    · obtain ⟨g, rfl, h1, _⟩ := HA.out k hlt
      obtain ⟨x, hx⟩ : ∃ x, L.getD k 0 = x := ⟨_, rfl⟩
      rw [hx] at h1
      have HX := Lib.hid (show sumL (L.take (k + 1)) = sumL (L.take k) + x by
        rw [List.take_add_one, List.getElem?_eq_getElem hlt]
        rw [List.getD_eq_getElem?_getD, List.getElem?_eq_getElem hlt] at hx
        simp only [Option.getD_some] at hx
        rw [hx]; exact sumL_snoc _ _)
      have hx4 : 0 ≤ x ∧ x ≤ 4 := by
        rw [List.getD_eq_getElem?_getD, List.getElem?_eq_getElem hlt] at hx
        simp only [Option.getD_some] at hx
        rw [← hx]; exact HS4.out _ (List.getElem_mem hlt)
      obtain ⟨q, hq⟩ : ∃ q, sumL (L.take k) = q := ⟨_, rfl⟩
      rw [hq] at hb
      have HQ := Lib.hid hq
      rw [hq]
      clear hx hq HA
      go_wp2
      go_round
      case rel => exact ⟨k + 1, by omega, by go_num, by first | (rw [HX.out, HQ.out]; done) | (rw [HX.out, HQ.out]; go_num)⟩
      case measure => simp [intOf]; omega
    · obtain rfl : k = L.length := by omega
      have HE := Lib.hid (show sumL (L.take L.length) = s by rw [List.take_length]; exact HSS.out)
      clear hb
      go_wp2
      go_ret
      exact ⟨ret_i64 (by have h := HE.out; rwa [List.take_length] at h), rfl⟩
end Go.Proofs.YtmjofpfkgbnknaaGreat
