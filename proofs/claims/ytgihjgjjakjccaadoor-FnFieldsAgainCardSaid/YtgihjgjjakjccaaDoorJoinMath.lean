/-
  Plain facts: the fields of a line, joined by single spaces, have the same fields.
-/
import Derived.Test.YtgihjgjjakjccaaDoorSplitMath
import Derived.Test.YtgihjgjjakjccaaDoorFmtMath
namespace Go.Proofs.YtgihjgjjakjccaaDoor
open Go.RowKit

/-- The fields of a row of bytes, the current field begun with cur. -/
def fl (cur : List UInt8) : List UInt8 → List (List UInt8)
  | [] => if cur = [] then [] else [cur]
  | c :: r => if c.toNat = 32 then (if cur = [] then fl [] r else cur :: fl [] r) else fl (cur ++ [c]) r
theorem ext_list (s : ByteArray) (b k : Nat) : (s.extract b k).data.toList = (s.data.toList.take k).drop b := by
  simp [List.drop_take]
theorem inv_fl (s : ByteArray) : ∀ k, k ≤ s.size → (stF s k).1.map (fun x => x.data.toList) ++ fl ((s.data.toList.take k).drop (stF s k).2) (s.data.toList.drop k) = fl [] s.data.toList
  | 0, _ => by simp [stF]
  | k + 1, h => by
    have ih := inv_fl s k (by omega)
    have hb := stF_begin s k
    have hlen : (s.data.toList.take k).length = k := by rw [List.length_take]; simp; omega
    rw [List.drop_eq_getElem_cons (by simp; omega : k < s.data.toList.length)] at ih
    have eg : s.data.toList[k]'(by simp; omega) = s[k] := rfl
    rw [eg, fl] at ih
    by_cases h32 : s[k].toNat = 32
    · rw [stF_space s k (by omega) h32]
      rw [if_pos h32] at ih
      have e0 : (s.data.toList.take (k + 1)).drop (k + 1) = [] := List.drop_eq_nil_of_le (by rw [List.length_take]; omega)
      rw [e0, ← ih]
      unfold addF
      by_cases hbk : (stF s k).2 < k
      · have hne : (s.data.toList.take k).drop (stF s k).2 ≠ [] := by
          intro e
          have := congrArg List.length e
          rw [List.length_drop, hlen] at this
          simp at this
          omega
        rw [if_pos hbk, if_neg hne]
        simp [List.drop_take]
      · have he : (s.data.toList.take k).drop (stF s k).2 = [] := List.drop_eq_nil_of_le (by rw [hlen]; omega)
        rw [if_neg hbk, if_pos he]
    · rw [stF_other s k (by omega) h32]
      rw [if_neg h32] at ih
      rw [← ih, take_snoc s k (by omega), List.drop_append_of_le_length (by rw [hlen]; exact hb)]
theorem finF_fl (s : ByteArray) : (finF s).map (fun x => x.data.toList) = fl [] s.data.toList := by
  have h := inv_fl s s.size (Nat.le_refl _)
  have hlen : (s.data.toList.take s.size).length = s.size := by rw [List.length_take]; simp
  have e : s.data.toList.drop s.size = [] := List.drop_eq_nil_of_le (by simp)
  rw [e, fl] at h
  rw [← h]
  unfold finF addF
  by_cases hb : (stF s s.size).2 < s.size
  · have hne : (s.data.toList.take s.size).drop (stF s s.size).2 ≠ [] := by
      intro e
      have := congrArg List.length e
      rw [List.length_drop, hlen] at this
      simp at this
      omega
    rw [if_pos hb, if_neg hne]
    simp [List.drop_take]
  · have he : (s.data.toList.take s.size).drop (stF s s.size).2 = [] := List.drop_eq_nil_of_le (by rw [hlen]; omega)
    rw [if_neg hb, if_pos he]
    simp
/-- A field: not empty, no space in it. -/
def Fld (x : List UInt8) : Prop := x ≠ [] ∧ ∀ c ∈ x, c.toNat ≠ 32
theorem fl_flds : ∀ (l cur : List UInt8), (∀ c ∈ cur, c.toNat ≠ 32) → ∀ x ∈ fl cur l, Fld x ∧ ∀ c ∈ x, c ∈ cur ∨ c ∈ l
  | [], cur, hc, x, hx => by
    rw [fl] at hx
    split at hx
    · cases hx
    · rename_i hne
      obtain rfl : x = cur := by simpa using hx
      exact ⟨⟨hne, hc⟩, fun c hcx => .inl hcx⟩
  | a :: r, cur, hc, x, hx => by
    rw [fl] at hx
    split at hx
    · split at hx
      · obtain ⟨h1, h2⟩ := fl_flds r [] (fun c h => by cases h) x hx
        exact ⟨h1, fun c h => by rcases h2 c h with h | h; · cases h
                                 · exact .inr (.tail _ h)⟩
      · rename_i hne
        rcases List.mem_cons.1 hx with rfl | hx
        · exact ⟨⟨hne, hc⟩, fun c h => .inl h⟩
        · obtain ⟨h1, h2⟩ := fl_flds r [] (fun c h => by cases h) x hx
          exact ⟨h1, fun c h => by rcases h2 c h with h | h; · cases h
                                   · exact .inr (.tail _ h)⟩
    · rename_i h32
      obtain ⟨h1, h2⟩ := fl_flds r (cur ++ [a]) (fun c h => by
        rcases List.mem_append.1 h with h | h
        · exact hc c h
        · obtain rfl : c = a := by simpa using h
          exact h32) x hx
      refine ⟨h1, fun c h => ?_⟩
      rcases h2 c h with h | h
      · rcases List.mem_append.1 h with h | h
        · exact .inl h
        · obtain rfl : c = a := by simpa using h
          exact .inr (.head _)
      · exact .inr (.tail _ h)
theorem fl_run : ∀ (x cur r : List UInt8), (∀ c ∈ x, c.toNat ≠ 32) → fl cur (x ++ r) = fl (cur ++ x) r
  | [], cur, r, _ => by simp
  | a :: x, cur, r, h => by
    rw [List.cons_append, fl, if_neg (h a (.head _)), fl_run x (cur ++ [a]) r (fun c hc => h c (.tail _ hc))]
    simp
/-- The fields, each with a space behind it. -/
def joinF (L : List (List UInt8)) : List UInt8 := L.flatMap fun x => x ++ [32]
theorem fl_join : ∀ (L : List (List UInt8)), (∀ x ∈ L, Fld x) → fl [] (joinF L) = L
  | [], _ => rfl
  | x :: L, h => by
    have hx := h x (.head _)
    show fl [] ((x ++ [32]) ++ joinF L) = x :: L
    rw [List.append_assoc, fl_run x [] _ hx.2, List.nil_append]
    show fl x (32 :: joinF L) = x :: L
    rw [fl, if_pos (by decide), if_neg hx.1, fl_join L (fun y hy => h y (.tail _ hy))]
theorem map_inj {L M : List ByteArray} (h : L.map (fun x => x.data.toList) = M.map (fun x => x.data.toList)) : L = M := by
  induction L generalizing M with
  | nil => cases M with
    | nil => rfl
    | cons a M => simp at h
  | cons a L ih => cases M with
    | nil => simp at h
    | cons b M =>
      simp only [List.map_cons, List.cons.injEq] at h
      rw [bytes_eq h.1, ih h.2]
/-- The line of the fields of a valid line has these fields. -/
theorem again {s t : ByteArray} {L : List ByteArray} (h : FieldsOf s L true) (ht : t.data.toList = joinF (L.map fun x => x.data.toList)) (hs : t.size ≤ 600) : FieldsOf t L true := by
  rcases h with ⟨_, _, hok, h40, rfl⟩ | ⟨h, _⟩
  · have hflds : ∀ x ∈ (finF s).map (fun x => x.data.toList), Fld x ∧ ∀ c ∈ x, c ∈ s.data.toList := fun x hx => by
      rw [finF_fl] at hx
      obtain ⟨h1, h2⟩ := fl_flds _ [] (fun c h => by cases h) x hx
      exact ⟨h1, fun c hc => by rcases h2 c hc with h | h; · cases h
                                · exact h⟩
    have hfin : finF t = finF s := map_inj (by rw [finF_fl t, ht, fl_join _ (fun x hx => (hflds x hx).1)])
    refine .inl ⟨rfl, hs, fun k hk => ?_, by rw [hfin]; exact h40, hfin.symm⟩
    have hmem : t.data.toList.getD k 0 ∈ t.data.toList := by
      rw [getD_at t k hk]
      exact List.getElem_mem (l := t.data.toList) (by simpa using hk)
    rw [ht] at hmem
    unfold joinF at hmem
    obtain ⟨x, hx, hc⟩ := List.mem_flatMap.1 hmem
    rw [← show joinF ((finF s).map fun x => x.data.toList) = ((finF s).map fun x => x.data.toList).flatMap (fun x => x ++ [32]) from rfl, ← ht] at hc
    rcases List.mem_append.1 hc with hc | hc
    · have hin := (hflds x hx).2 _ hc
      obtain ⟨j, hj, hje⟩ := List.getElem_of_mem hin
      have := hok j (by simpa using hj)
      rw [getD_at s j (by simpa using hj)] at this
      rw [← hje]
      exact this
    · have : t.data.toList.getD k 0 = 32 := by simpa using hc
      rw [this]
      decide
  · cases h
/-- A field is no longer than its line. -/
theorem fld_size {s : ByteArray} {L : List ByteArray} (h : FieldsOf s L true) (x : ByteArray) (hx : x ∈ L) : x.size ≤ 600 := by
  have key : ∀ (o : List ByteArray) (b k : Nat), k ≤ s.size → (∀ y ∈ o, y.size ≤ s.size) → ∀ y ∈ addF s o b k, y.size ≤ s.size := fun o b k hk ho y hy => by
    unfold addF at hy
    split at hy
    · rcases List.mem_append.1 hy with hy | hy
      · exact ho y hy
      · obtain rfl : y = s.extract b k := by simpa using hy
        rw [extract_size s b k hk]; omega
    · exact ho y hy
  have st : ∀ k, k ≤ s.size → ∀ y ∈ (stF s k).1, y.size ≤ s.size := fun k => by
    induction k with
    | zero => intro _ y hy; cases hy
    | succ k ih =>
      intro hk
      rw [stF, stepF]
      split
      · exact key _ _ k (by omega) (ih (by omega))
      · exact ih (by omega)
  rcases h with ⟨_, h6, _, _, rfl⟩ | ⟨h, _⟩
  · have := key _ _ s.size (Nat.le_refl _) (st s.size (Nat.le_refl _)) x hx
    omega
  · cases h
end Go.Proofs.YtgihjgjjakjccaaDoor
