/-
  Ordered lists of ints: the program.
-/
import Derived.Test.YtiejilmgchmppaaBsA
import Derived.Test.YtiejilmgchmppaaInI
import Derived.Test.YtiejilmgchmppaaDoN
import Derived.Test.YtiejilmgchmppaaOwN
import Derived.Deep.RegionHeld3
namespace Go.Proofs.Ytiejilmgchmppaa
open Go.RowKit
set_option linter.unusedVariables false
set_option linter.unusedSimpArgs false

/-- Block g is an ordered list with the elements L. -/
structure ListI (w : World) (g B : Nat) (v : Value) (L : List Int) : Prop where
  box : w.heap[g]? = some (.cells #[.func (.func 55) #[] #[], v] 80 (0, 0))
  own : OwnsI w B v L
  gB : B ≤ g
  ne : v.ownBlock ≠ some g
  fit : ∀ x ∈ L, Fit x
  asc : L.Pairwise (· < ·)
section
variable {w w' : World} {g B : Nat} {v : Value} {L : List Int}
theorem ListI.lt (h : ListI w g B v L) : g < w.heap.size := (Array.getElem?_eq_some_iff.1 h.box).1
theorem ListI.below (h : ListI w g B v L) (hb : Below w.heap.size w w') : ListI w' g B v L := ⟨(hb.block g h.lt).trans h.box, h.own.below hb, h.gB, h.ne, h.fit, h.asc⟩
theorem setCell_two {a b u : Value} {t : TypeId} (h : w.heap[g]? = some (.cells #[a, b] t (0, 0))) : (w.setCell ⟨g, 1, none⟩ u).heap[g]? = some (.cells #[a, u] t (0, 0)) := by
  have hlt := (Array.getElem?_eq_some_iff.1 h).1
  have e : w.heap[g]'hlt = .cells #[a, b] t (0, 0) := by rw [Array.getElem?_eq_getElem hlt] at h; injection h
  simp [World.setCell, hlt, Array.getElem_modify_self, e]
theorem heap_far {h2 : Nat} {u : Value} {j : Nat} (hne : h2 ≠ g) : (w.setCell ⟨g, j, none⟩ u).heap[h2]? = w.heap[h2]? := Below.heap_setCell w _ _ h2 (by intro e; exact hne e)
end
/-- What becomes of a list. -/
def ListTo (w w' : World) (g B : Nat) (v : Value) (L' : List Int) : Prop :=
  ∃ v', ListI w' g B v' L' ∧ ChgL (g :: blkL v) w w' ∧ ∀ b ∈ blkL v', b ∈ blkL v ∨ w.heap.size ≤ b
theorem ListI.same {w w' : World} {g B : Nat} {v : Value} {L : List Int} (h : ListI w g B v L) (hb : Below w.heap.size w w') : ListTo w w' g B v L := ⟨v, h.below hb, (ChgL.refl _ w).below hb, fun b hb => .inl hb⟩
/-- A row changed, and the list's cell. -/
theorem listTo_set {w w3 w5 : World} {g B : Nat} {v : Value} {L L' : List Int} {A' : Option Addr} {c' n' : Nat} (h : ListI w g B v L) (hB : B ≤ w.heap.size) (hb : Below w.heap.size w w3) (hg : w3.grownBy w5 v.ownBlock) (hv : OwnsI w5 B (.slice A' n' c') L') (hat : (Value.slice A' n' c').ownBlock = v.ownBlock ∨ (∃ b, (Value.slice A' n' c').ownBlock = some b ∧ w.heap.size ≤ b)) (hf : ∀ x ∈ L', Fit x) (ha : L'.Pairwise (· < ·)) :
    ListTo w (w5.setCell ⟨g, 1, none⟩ (.slice A' n' c')) g B v L' := by
  have hgl := h.lt
  have h3 : w3.heap[g]? = _ := (hb.block g hgl).trans h.box
  have h5 : w5.heap[g]? = _ := (hg.block g (Nat.lt_of_lt_of_le hgl hb.size) (fun e => h.ne e.symm)).trans h3
  have hne : (Value.slice A' n' c').ownBlock ≠ some g := fun e => by
    rcases hat with h1 | ⟨b, h1, h2⟩
    · exact h.ne (h1 ▸ e)
    · rw [h1] at e; injection e with e; omega
  refine ⟨.slice A' n' c', ⟨setCell_two h5, ownI_far (g := g) (k := 1) hv hne, h.gB, hne, hf, ha⟩, ?_, fun b hb' => ?_⟩
  · refine ⟨?_, ?_, ?_, ?_, fun k hk hn => ?_⟩
    · show w5.os = w.os; exact hg.os.trans hb.os
    · show w5.tape = w.tape; exact hg.tape.trans hb.tape
    · show w5.output = w.output; exact hg.output.trans hb.output
    · have := hg.size; have := hb.size; simp [World.setCell]; omega
    · have hkg : k ≠ g := fun e => hn (by rw [e]; exact List.mem_cons_self ..)
      rw [heap_far hkg, hg.block k (Nat.lt_of_lt_of_le hk hb.size) (fun e => hn (List.mem_cons_of_mem _ (mem_blkL.2 e.symm))), hb.block k hk]
  · have e := mem_blkL.1 hb'
    rcases hat with h1 | ⟨b2, h1, h2⟩
    · exact .inl (mem_blkL.2 (h1 ▸ e))
    · rw [h1] at e; injection e with e; exact .inr (by omega)
theorem own_cast {w : World} {B n : Nat} {A : Option Addr} {c : Nat} {L : List Int} {xs : List Value} (h : w.ownsRow B 3 1 (.slice A n c) n xs) (hn : L.length = n) (hx : L.map vI = xs) : OwnsI w B (.slice A n c) L := by
  unfold OwnsI; rw [hn, hx]; exact h
theorem place_at {L : List Int} {x : Int} {p : Nat} (hA : L.Pairwise (· < ·)) (hp : PlaceI (· < ·) L x p) (hm : x ∈ L) : p < L.length ∧ L[p]? = some x := by
  rcases Nat.lt_or_ge p L.length with h | h
  · obtain ⟨y, hy⟩ : ∃ y, L[p]? = some y := ⟨_, List.getElem?_eq_getElem h⟩
    exact ⟨h, by rw [hy, (place_mem hA hp hy).1 hm]⟩
  · have := hp.low x (by rw [List.take_of_length_le h]; exact hm)
    omega
theorem del_sub (L : List Int) (p : Nat) : (L.take p ++ L.drop (p + 1)).Sublist L := by
  conv => rhs; rw [← List.take_append_drop p L]
  refine List.Sublist.append (List.Sublist.refl _) ?_
  rw [← List.drop_drop]
  exact List.drop_sublist 1 _
theorem del_mem {L : List Int} {x : Int} {p : Nat} (hA : L.Pairwise (· < ·)) (hx : L[p]? = some x) : ∀ y, y ∈ L.take p ++ L.drop (p + 1) ↔ y ≠ x ∧ y ∈ L := fun y => by
  have hpl := (List.getElem?_eq_some_iff.1 hx).1
  have hd : L.drop p = x :: L.drop (p + 1) := by rw [List.drop_eq_getElem_cons hpl]; congr 1; exact (List.getElem?_eq_some_iff.1 hx).2
  obtain ⟨h1, h2, h3⟩ := pw_take_drop hA p
  rw [hd, List.pairwise_cons] at h2
  have hs : y ∈ L ↔ y ∈ L.take p ∨ y = x ∨ y ∈ L.drop (p + 1) := by conv => lhs; rw [← List.take_append_drop p L, hd, List.mem_append, List.mem_cons]
  rw [List.mem_append, hs]
  constructor
  · rintro (h | h)
    · have := h3 y h x (by rw [hd]; exact List.mem_cons_self ..)
      exact ⟨by omega, .inl h⟩
    · have := h2.1 y h
      exact ⟨by omega, .inr (.inr h)⟩
  · rintro ⟨h0, h | h | h⟩
    · exact .inl h
    · exact absurd h h0
    · exact .inr h
set_option maxRecDepth 100000 in
set_option maxHeartbeats 12800000 in
theorem addI_at (g B : Nat) (v : Value) (L : List Int) (x : Int) (w : World) (h : ListI w g B v L) (hB : B ≤ w.heap.size) (hx : Fit x) (hn : L.length ≤ 1000000) :
    Calls Try.prog 56 #[.pointer (some ⟨g, 0, none⟩), .int .i64 x] w fun e w' => e = .returned (.tuple #[]) ∧ ∃ L', ListTo w w' g B v L' ∧ (∀ y, y ∈ L' ↔ y = x ∨ y ∈ L) ∧ L'.length ≤ L.length + 1 := by
  have HL := Lib.hid h
  have HO := Lib.hid h.own
  have HF := Lib.hid h.fit
  have HA := Lib.hid h.asc
  have HBX := Lib.hid h.box
  have hgl := h.lt
  have hgB := h.gB
  have HNE := Lib.hid h.ne
  obtain ⟨A, c, rfl, -⟩ := h.own.shape
  have c0 := box_cell h.box 0 _ rfl
  have c1 := box_cell h.box 1 _ rfl
  clear h
  go_enter Try.func56, Try.ntmps56
  go_wp2_with fail
  have hS0 : (fun w' => Below w.heap.size w w' ∧ w'.cell? ⟨g, 0, none⟩ = some (.func (.func 55) #[] #[]) ∧ w'.cell? ⟨g, 1, none⟩ = some (.slice A L.length c)) w := ⟨Below.refl _ _, c0, c1⟩
  have hS : ∀ {w0 w' : World}, (fun w' => Below w.heap.size w w' ∧ w'.cell? ⟨g, 0, none⟩ = some (.func (.func 55) #[] #[]) ∧ w'.cell? ⟨g, 1, none⟩ = some (.slice A L.length c)) w0 → Below w0.heap.size w0 w' → (fun w' => Below w.heap.size w w' ∧ w'.cell? ⟨g, 0, none⟩ = some (.func (.func 55) #[] #[]) ∧ w'.cell? ⟨g, 1, none⟩ = some (.slice A L.length c)) w' := fun h hb => ⟨bThen h.1 hb, keep hb h.2.1, keep hb h.2.2⟩
  dsimp only at hS0 hS
  refine wp_region_noPanic ?_
  refine wp_region_kept 14 15 (fun w' => Below w.heap.size w w' ∧ w'.cell? ⟨g, 0, none⟩ = some (.func (.func 55) #[] #[]) ∧ w'.cell? ⟨g, 1, none⟩ = some (.slice A L.length c)) (by kernel_rfl) rfl (hS hS0 (Below.drew (Below.refl _ _))) (fun hK0 => ?_)
  refine Kept.take (v := ?va0) 0 (by kernel_rfl) rfl (by kernel_rfl) (fun _ _ _ h => h) (Or.inl ⟨by rfl, ?hya0⟩) hK0 ?resta0
  case hya0 =>
    intro w0 hSw
    (try dsimp only at hSw)
    go_simp
    all_goals (with_reducible rfl)
  (try simp only [Act.put, List.setIfInBounds_toArray, List.set_cons_zero, List.set_cons_succ])
  refine Kept.take (v := ?va1) 1 (by kernel_rfl) rfl (by kernel_rfl) (fun _ _ _ h => h) (Or.inl ⟨by rfl, ?hya1⟩) hK0 ?resta1
  case hya1 =>
    intro w0 hSw
    (try dsimp only at hSw)
    go_simp
    all_goals (with_reducible rfl)
  (try simp only [Act.put, List.setIfInBounds_toArray, List.set_cons_zero, List.set_cons_succ])
  refine Kept.take (v := ?va2) 2 (by kernel_rfl) rfl (by kernel_rfl) (fun _ _ _ h => h) (Or.inl ⟨by rfl, ?hya2⟩) hK0 ?resta2
  case hya2 =>
    intro w0 hSw
    (try dsimp only at hSw)
    go_simp
    all_goals (with_reducible rfl)
  (try simp only [Act.put, List.setIfInBounds_toArray, List.set_cons_zero, List.set_cons_succ])
  refine Kept.take (v := ?va3) 3 (by kernel_rfl) rfl (by kernel_rfl) (fun _ _ _ h => h) (Or.inl ⟨by rfl, ?hya3⟩) hK0 ?resta3
  case hya3 =>
    intro w0 hSw
    (try dsimp only at hSw)
    go_simp
    all_goals (with_reducible rfl)
  (try simp only [Act.put, List.setIfInBounds_toArray, List.set_cons_zero, List.set_cons_succ])
  refine Kept.take (v := ?va4) 4 (by kernel_rfl) rfl (by kernel_rfl) (fun _ _ _ h => h) (Or.inl ⟨by rfl, ?hya4⟩) hK0 ?resta4
  case hya4 =>
    intro w0 hSw
    (try dsimp only at hSw)
    go_simp
    all_goals (with_reducible rfl)
  (try simp only [Act.put, List.setIfInBounds_toArray, List.set_cons_zero, List.set_cons_succ])
  refine Kept.take (v := ?va5) 5 (by kernel_rfl) rfl (by kernel_rfl) (fun _ _ _ h => h) (Or.inl ⟨by rfl, ?hya5⟩) hK0 ?resta5
  case hya5 =>
    intro w0 hSw
    (try dsimp only at hSw)
    go_simp
    all_goals (with_reducible rfl)
  (try simp only [Act.put, List.setIfInBounds_toArray, List.set_cons_zero, List.set_cons_succ])
  refine Kept.take (v := ?va6) 6 (by kernel_rfl) rfl (by kernel_rfl) (fun _ _ _ h => h) (Or.inl ⟨by rfl, ?hya6⟩) hK0 ?resta6
  case hya6 =>
    intro w0 hSw
    (try dsimp only at hSw)
    go_simp
    all_goals (with_reducible rfl)
  (try simp only [Act.put, List.setIfInBounds_toArray, List.set_cons_zero, List.set_cons_succ])
  refine Kept.take (v := ?va7) 7 (by kernel_rfl) rfl (by kernel_rfl) (fun _ _ _ h => h) (Or.inl ⟨by rfl, ?hya7⟩) hK0 ?resta7
  case hya7 =>
    intro w0 hSw
    (try dsimp only at hSw)
    go_simp
    all_goals (with_reducible rfl)
  (try simp only [Act.put, List.setIfInBounds_toArray, List.set_cons_zero, List.set_cons_succ])
  refine Kept.take (v := ?va8) 8 (by kernel_rfl) rfl (by kernel_rfl) (fun _ _ _ h => h) (Or.inl ⟨by rfl, ?hya8⟩) hK0 ?resta8
  case hya8 =>
    intro w0 hSw
    (try dsimp only at hSw)
    go_simp
    all_goals (with_reducible rfl)
  (try simp only [Act.put, List.setIfInBounds_toArray, List.set_cons_zero, List.set_cons_succ])
  refine Kept.one 9 (by kernel_rfl) rfl (fun K hK => ?_)
  go_simp
  go_at_call 70
  refine (bsearchI_at L x _ _ (ownI_rd (HO.out.below hK0.1) HF.out) HA.out hn).mono ?_
  rintro e w3 ⟨p, rfl, hp, hb3⟩
  have HPL := Lib.hid hp
  clear hp
  go_simp
  refine hK.out _ _ (hS hK0 hb3) (fun hK1 => ?_)
  clear hK K hK0
  (try simp only [Act.put, List.setIfInBounds_toArray, List.set_cons_zero, List.set_cons_succ])
  refine Kept.take (v := ?va10) 10 (by kernel_rfl) rfl (by kernel_rfl) (fun _ _ _ h => h) (Or.inl ⟨by rfl, ?hya10⟩) hK1 ?resta10
  case hya10 =>
    intro w0 hSw
    (try dsimp only at hSw)
    go_simp
    all_goals (with_reducible rfl)
  (try simp only [Act.put, List.setIfInBounds_toArray, List.set_cons_zero, List.set_cons_succ])
  refine Kept.take (v := ?va11) 11 (by kernel_rfl) rfl (by kernel_rfl) (fun _ _ _ h => h) (Or.inl ⟨by rfl, ?hya11⟩) hK1 ?resta11
  case hya11 =>
    intro w0 hSw
    (try dsimp only at hSw)
    go_simp
    all_goals (with_reducible rfl)
  (try simp only [Act.put, List.setIfInBounds_toArray, List.set_cons_zero, List.set_cons_succ])
  refine Kept.take (v := ?va12) 12 (by kernel_rfl) rfl (by kernel_rfl) (fun _ _ _ h => h) (Or.inl ⟨by rfl, ?hya12⟩) hK1 ?resta12
  case hya12 =>
    intro w0 hSw
    (try dsimp only at hSw)
    go_simp
    all_goals (with_reducible rfl)
  (try simp only [Act.put, List.setIfInBounds_toArray, List.set_cons_zero, List.set_cons_succ])
  refine Kept.take (v := ?va13) 13 (by kernel_rfl) rfl (by kernel_rfl) (fun _ _ _ h => h) (Or.inl ⟨by rfl, ?hya13⟩) hK1 ?resta13
  case hya13 =>
    intro w0 hSw
    (try dsimp only at hSw)
    go_simp
    all_goals (with_reducible rfl)
  (try simp only [Act.put, List.setIfInBounds_toArray, List.set_cons_zero, List.set_cons_succ])
  refine Kept.tail (by rfl) (by kernel_rfl) ?_
  simp only [List.drop_succ_cons, List.drop_zero]
  have HB := Lib.hid hK1.1
  have d1 := hK1.2.2
  have d0 := hK1.2.1
  clear hK1 hS hS0 c0 c1
  go_wp2
  refine NoPanic.normal ?_
  by_cases hm : x ∈ L
  · have hd : decide (x ∈ L) = true := decide_eq_true hm
    rw [hd]
    go_wp2
    go_end0
    refine ⟨rfl, L, HL.out.same HB.out, fun y => ⟨.inr, fun h => ?_⟩, by omega⟩
    rcases h with rfl | h
    · exact hm
    · exact h
  · have hd : decide (x ∈ L) = false := decide_eq_false hm
    rw [hd]
    go_wp2_with fail
    obtain ⟨W4, hW4⟩ : ∃ W4, W4 = w3.alloc (.cells #[.int .i64 x] 3) := ⟨_, rfl⟩
    rw [← hW4]
    have hbA : Below w3.heap.size w3 W4 := by rw [hW4]; exact bAlloc (Below.refl _ _) (Nat.le_refl _) _
    have hrow : W4.heap[w3.heap.size]? = some (.cells #[.int .i64 x] 3 (0, 0)) := by rw [hW4]; exact heap_alloc_new _ _
    have hB4 := bThen HB.out hbA
    have hO4 := HO.out.below hB4
    have hgs := HB.out.size
    have hPP := HPL.out
    have hlen : (L.map vI).length = L.length := by simp
    refine (insI_at (.slice A L.length c) L.length (L.map vI) [.int .i64 x] p w3.heap.size W4 (B := B) hO4 (fun u hu => by obtain ⟨y, _, rfl⟩ := List.mem_map.1 hu; rfl) hrow rfl (fun u hu => by simp only [List.mem_singleton] at hu; subst hu; rfl) (fun e => by have := (HO.out.lt _ e).2; omega) hPP.le hn (by have := hB4.size; omega)).mono ?_
    rintro e w5 ⟨A', c', rfl, hown, hgr, hat⟩
    have HT := Lib.hid (listTo_set (w5 := w5) HL.out hB hB4 hgr (own_cast (L := L.take p ++ x :: L.drop p) hown (by rw [List.length_append, List.length_cons, List.length_take, List.length_drop]; have := hPP.le; omega) (by simp [vI, List.map_take, List.map_drop])) (by
      rcases hat with h1 | h1
      · exact .inl h1
      · exact .inr ⟨_, h1, hB4.size⟩) (fun y hy => by
      rcases ins_mem.1 hy with e | hy
      · rw [e]; exact hx
      · exact HF.out y hy) (ins_pw (fun a b c h1 h2 => by omega) (fun a b h1 h2 => by omega) HA.out hPP hm))
    have e1 : w5.cell? ⟨g, 1, none⟩ = some (.slice A L.length c) := (World.cell?_of_block (hgr.block g (by have := hB4.size; omega) (fun e => HNE.out e.symm))).trans (keep hbA d1)
    have e2 : w5.frozen? ⟨g, 1, none⟩ = false := (World.frozen?_of_block (a := ⟨g, 1, none⟩) (hgr.block g (by have := hB4.size; omega) (fun e => HNE.out e.symm))).trans ((World.frozen?_of_block (a := ⟨g, 1, none⟩) (hB4.block g hgl)).trans (frozen_of_row _ _ 1 _ _ HBX.out))
    clear hW4 hbA hrow hB4 hO4 hown hgr hat d0 d1 hgs hPP
    go_wp2
    go_end0
    refine ⟨rfl, _, HT.out, fun y => ins_mem, ?_⟩
    rw [List.length_append, List.length_cons, List.length_take, List.length_drop]
    omega
set_option maxRecDepth 100000 in
set_option maxHeartbeats 12800000 in
theorem remI_at (g B : Nat) (v : Value) (L : List Int) (x : Int) (w : World) (h : ListI w g B v L) (hB : B ≤ w.heap.size) (hn : L.length ≤ 1000000) :
    Calls Try.prog 59 #[.pointer (some ⟨g, 0, none⟩), .int .i64 x] w fun e w' => e = .returned (.bool (decide (x ∈ L))) ∧ ∃ L', ListTo w w' g B v L' ∧ (∀ y, y ∈ L' ↔ y ≠ x ∧ y ∈ L) ∧ L'.length ≤ L.length := by
  have HL := Lib.hid h
  have HO := Lib.hid h.own
  have HF := Lib.hid h.fit
  have HA := Lib.hid h.asc
  have HBX := Lib.hid h.box
  have hgl := h.lt
  have hgB := h.gB
  have HNE := Lib.hid h.ne
  obtain ⟨A, c, rfl, -⟩ := h.own.shape
  have c0 := box_cell h.box 0 _ rfl
  have c1 := box_cell h.box 1 _ rfl
  clear h
  go_enter Try.func59, Try.ntmps59
  go_wp2_with fail
  have hS0 : (fun w' => Below w.heap.size w w' ∧ w'.cell? ⟨g, 0, none⟩ = some (.func (.func 55) #[] #[]) ∧ w'.cell? ⟨g, 1, none⟩ = some (.slice A L.length c)) w := ⟨Below.refl _ _, c0, c1⟩
  have hS : ∀ {w0 w' : World}, (fun w' => Below w.heap.size w w' ∧ w'.cell? ⟨g, 0, none⟩ = some (.func (.func 55) #[] #[]) ∧ w'.cell? ⟨g, 1, none⟩ = some (.slice A L.length c)) w0 → Below w0.heap.size w0 w' → (fun w' => Below w.heap.size w w' ∧ w'.cell? ⟨g, 0, none⟩ = some (.func (.func 55) #[] #[]) ∧ w'.cell? ⟨g, 1, none⟩ = some (.slice A L.length c)) w' := fun h hb => ⟨bThen h.1 hb, keep hb h.2.1, keep hb h.2.2⟩
  dsimp only at hS0 hS
  refine wp_region_noPanic ?_
  refine wp_region_kept 14 15 (fun w' => Below w.heap.size w w' ∧ w'.cell? ⟨g, 0, none⟩ = some (.func (.func 55) #[] #[]) ∧ w'.cell? ⟨g, 1, none⟩ = some (.slice A L.length c)) (by kernel_rfl) rfl (hS hS0 (Below.drew (Below.refl _ _))) (fun hK0 => ?_)
  refine Kept.take (v := ?va0) 0 (by kernel_rfl) rfl (by kernel_rfl) (fun _ _ _ h => h) (Or.inl ⟨by rfl, ?hya0⟩) hK0 ?resta0
  case hya0 =>
    intro w0 hSw
    (try dsimp only at hSw)
    go_simp
    all_goals (with_reducible rfl)
  (try simp only [Act.put, List.setIfInBounds_toArray, List.set_cons_zero, List.set_cons_succ])
  refine Kept.take (v := ?va1) 1 (by kernel_rfl) rfl (by kernel_rfl) (fun _ _ _ h => h) (Or.inl ⟨by rfl, ?hya1⟩) hK0 ?resta1
  case hya1 =>
    intro w0 hSw
    (try dsimp only at hSw)
    go_simp
    all_goals (with_reducible rfl)
  (try simp only [Act.put, List.setIfInBounds_toArray, List.set_cons_zero, List.set_cons_succ])
  refine Kept.take (v := ?va2) 2 (by kernel_rfl) rfl (by kernel_rfl) (fun _ _ _ h => h) (Or.inl ⟨by rfl, ?hya2⟩) hK0 ?resta2
  case hya2 =>
    intro w0 hSw
    (try dsimp only at hSw)
    go_simp
    all_goals (with_reducible rfl)
  (try simp only [Act.put, List.setIfInBounds_toArray, List.set_cons_zero, List.set_cons_succ])
  refine Kept.take (v := ?va3) 3 (by kernel_rfl) rfl (by kernel_rfl) (fun _ _ _ h => h) (Or.inl ⟨by rfl, ?hya3⟩) hK0 ?resta3
  case hya3 =>
    intro w0 hSw
    (try dsimp only at hSw)
    go_simp
    all_goals (with_reducible rfl)
  (try simp only [Act.put, List.setIfInBounds_toArray, List.set_cons_zero, List.set_cons_succ])
  refine Kept.take (v := ?va4) 4 (by kernel_rfl) rfl (by kernel_rfl) (fun _ _ _ h => h) (Or.inl ⟨by rfl, ?hya4⟩) hK0 ?resta4
  case hya4 =>
    intro w0 hSw
    (try dsimp only at hSw)
    go_simp
    all_goals (with_reducible rfl)
  (try simp only [Act.put, List.setIfInBounds_toArray, List.set_cons_zero, List.set_cons_succ])
  refine Kept.take (v := ?va5) 5 (by kernel_rfl) rfl (by kernel_rfl) (fun _ _ _ h => h) (Or.inl ⟨by rfl, ?hya5⟩) hK0 ?resta5
  case hya5 =>
    intro w0 hSw
    (try dsimp only at hSw)
    go_simp
    all_goals (with_reducible rfl)
  (try simp only [Act.put, List.setIfInBounds_toArray, List.set_cons_zero, List.set_cons_succ])
  refine Kept.take (v := ?va6) 6 (by kernel_rfl) rfl (by kernel_rfl) (fun _ _ _ h => h) (Or.inl ⟨by rfl, ?hya6⟩) hK0 ?resta6
  case hya6 =>
    intro w0 hSw
    (try dsimp only at hSw)
    go_simp
    all_goals (with_reducible rfl)
  (try simp only [Act.put, List.setIfInBounds_toArray, List.set_cons_zero, List.set_cons_succ])
  refine Kept.take (v := ?va7) 7 (by kernel_rfl) rfl (by kernel_rfl) (fun _ _ _ h => h) (Or.inl ⟨by rfl, ?hya7⟩) hK0 ?resta7
  case hya7 =>
    intro w0 hSw
    (try dsimp only at hSw)
    go_simp
    all_goals (with_reducible rfl)
  (try simp only [Act.put, List.setIfInBounds_toArray, List.set_cons_zero, List.set_cons_succ])
  refine Kept.take (v := ?va8) 8 (by kernel_rfl) rfl (by kernel_rfl) (fun _ _ _ h => h) (Or.inl ⟨by rfl, ?hya8⟩) hK0 ?resta8
  case hya8 =>
    intro w0 hSw
    (try dsimp only at hSw)
    go_simp
    all_goals (with_reducible rfl)
  (try simp only [Act.put, List.setIfInBounds_toArray, List.set_cons_zero, List.set_cons_succ])
  refine Kept.one 9 (by kernel_rfl) rfl (fun K hK => ?_)
  go_simp
  go_at_call 70
  refine (bsearchI_at L x _ _ (ownI_rd (HO.out.below hK0.1) HF.out) HA.out hn).mono ?_
  rintro e w3 ⟨p, rfl, hp, hb3⟩
  have HPL := Lib.hid hp
  clear hp
  go_simp
  refine hK.out _ _ (hS hK0 hb3) (fun hK1 => ?_)
  clear hK K hK0
  (try simp only [Act.put, List.setIfInBounds_toArray, List.set_cons_zero, List.set_cons_succ])
  refine Kept.take (v := ?va10) 10 (by kernel_rfl) rfl (by kernel_rfl) (fun _ _ _ h => h) (Or.inl ⟨by rfl, ?hya10⟩) hK1 ?resta10
  case hya10 =>
    intro w0 hSw
    (try dsimp only at hSw)
    go_simp
    all_goals (with_reducible rfl)
  (try simp only [Act.put, List.setIfInBounds_toArray, List.set_cons_zero, List.set_cons_succ])
  refine Kept.take (v := ?va11) 11 (by kernel_rfl) rfl (by kernel_rfl) (fun _ _ _ h => h) (Or.inl ⟨by rfl, ?hya11⟩) hK1 ?resta11
  case hya11 =>
    intro w0 hSw
    (try dsimp only at hSw)
    go_simp
    all_goals (with_reducible rfl)
  (try simp only [Act.put, List.setIfInBounds_toArray, List.set_cons_zero, List.set_cons_succ])
  refine Kept.take (v := ?va12) 12 (by kernel_rfl) rfl (by kernel_rfl) (fun _ _ _ h => h) (Or.inl ⟨by rfl, ?hya12⟩) hK1 ?resta12
  case hya12 =>
    intro w0 hSw
    (try dsimp only at hSw)
    go_simp
    all_goals (with_reducible rfl)
  (try simp only [Act.put, List.setIfInBounds_toArray, List.set_cons_zero, List.set_cons_succ])
  refine Kept.take (v := ?va13) 13 (by kernel_rfl) rfl (by kernel_rfl) (fun _ _ _ h => h) (Or.inl ⟨by rfl, ?hya13⟩) hK1 ?resta13
  case hya13 =>
    intro w0 hSw
    (try dsimp only at hSw)
    go_simp
    all_goals (with_reducible rfl)
  (try simp only [Act.put, List.setIfInBounds_toArray, List.set_cons_zero, List.set_cons_succ])
  refine Kept.tail (by rfl) (by kernel_rfl) ?_
  simp only [List.drop_succ_cons, List.drop_zero]
  have HB := Lib.hid hK1.1
  have d1 := hK1.2.2
  have d0 := hK1.2.1
  clear hK1 hS hS0 c0 c1
  go_wp2
  refine NoPanic.normal ?_
  by_cases hm : x ∈ L
  · have hd : decide (x ∈ L) = true := decide_eq_true hm
    rw [hd]
    have hPP := HPL.out
    obtain ⟨hpl, hpe⟩ := place_at HA.out hPP hm
    have hp1 : IntKind.i64.wrap ((p : Int) + 1) = ((p + 1 : Nat) : Int) := by rw [wrap64_int _ (by omega) (by omega)]; omega
    obtain ⟨q, hq⟩ : ∃ q, p + 1 = q := ⟨_, rfl⟩
    have hq2 : (p : Int) + 1 = (q : Int) := by omega
    rw [hq] at hp1
    have HQ := Lib.hid hq
    clear hq
    go_wp2_with fail
    rw [← HQ.out]
    refine (delI_at (.slice A L.length c) L.length (L.map vI) p w3 (B := B) (HO.out.below HB.out) (fun u hu => by obtain ⟨y, _, rfl⟩ := List.mem_map.1 hu; rfl) hpl hn).mono ?_
    rintro e w5 ⟨A', c', rfl, hown, hgr, hat⟩
    have HT := Lib.hid (listTo_set (w5 := w5) HL.out hB HB.out hgr (own_cast (L := L.take p ++ L.drop (p + 1)) hown (by rw [List.length_append, List.length_take, List.length_drop]; omega) (by simp [vI, List.map_take, List.map_drop])) (.inl hat) (fun y hy => by
      rcases List.mem_append.1 hy with hy | hy
      · exact HF.out y (List.mem_of_mem_take hy)
      · exact HF.out y (List.mem_of_mem_drop hy)) (HA.out.sublist (del_sub L p)))
    have HMM := Lib.hid (del_mem HA.out hpe)
    have e1 : w5.cell? ⟨g, 1, none⟩ = some (.slice A L.length c) := (World.cell?_of_block (hgr.block g (by have := HB.out.size; omega) (fun e => HNE.out e.symm))).trans d1
    have e2 : w5.frozen? ⟨g, 1, none⟩ = false := (World.frozen?_of_block (a := ⟨g, 1, none⟩) (hgr.block g (by have := HB.out.size; omega) (fun e => HNE.out e.symm))).trans ((World.frozen?_of_block (a := ⟨g, 1, none⟩) (HB.out.block g hgl)).trans (frozen_of_row _ _ 1 _ _ HBX.out))
    clear hown hgr hat d0 d1 hPP hpe hp1
    go_wp2
    go_ret
    refine ⟨by rw [hd]; rfl, _, HT.out, HMM.out, ?_⟩
    rw [List.length_append, List.length_take, List.length_drop]
    omega
  · have hd : decide (x ∈ L) = false := decide_eq_false hm
    rw [hd]
    clear d0 d1
    go_wp2
    go_ret
    refine ⟨by rw [hd]; rfl, L, HL.out.same HB.out, fun y => ⟨fun h => ⟨fun e => hm (e ▸ h), h⟩, fun h => h.2⟩, Nat.le_refl _⟩
end Go.Proofs.Ytiejilmgchmppaa
