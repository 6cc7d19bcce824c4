/-
  The contract of spec.SplitFields.
-/
import Derived.Test.YtgihjgjjakjccaaDoorRows
import Derived.Test.YtgihjgjjakjccaaDoorSplitMath
import Derived.Test.YtgihjgjjakjccaaDoorOwnS
import Derived.Lib.Hide
import Derived.Deep.AppendLies
namespace Go.Proofs.YtgihjgjjakjccaaDoor
open Go.RowKit

theorem Tryd.infoS : (Tryd.prog.info? 9).map (fun i => (i.zero, i.size, i.bytes)) = some (some (.string ⟨#[]⟩), 1, 16) := by kernel_rfl
/-- The post of a function that splits a line. -/
def SplitPost (s : ByteArray) (w : World) (e : Ending) (w' : World) : Prop :=
  ∃ v L ok, e = .returned (.tuple #[v, .bool ok]) ∧ FieldsOf s L ok ∧ OwnsS w' w.heap.size v L ∧ Below w.heap.size w w'
/-- What the loop over the bytes holds: L and b are the state behind i bytes, or all is done. -/
def SplitRel (s : ByteArray) (i b : Nat) (L : List ByteArray) : Prop :=
  (∀ j, j < i → j < s.size → 32 ≤ (s.data.toList.getD j 0).toNat ∧ (s.data.toList.getD j 0).toNat ≤ 126) ∧ L.length ≤ i ∧
    ((i ≤ s.size ∧ b ≤ i ∧ stF s i = (L, b)) ∨ (i = s.size + 1 ∧ L = finF s))
theorem SplitRel.ok {s : ByteArray} {b : Nat} {L : List ByteArray} (h : SplitRel s (s.size + 1) b L) : okF s ∧ L = finF s := by
  obtain ⟨h1, _, ⟨h2, _⟩ | ⟨_, h2⟩⟩ := h
  · omega
  · exact ⟨fun k hk => h1 k (by omega) hk, h2⟩
theorem SplitRel.begin {s : ByteArray} {i b : Nat} {L : List ByteArray} (h : SplitRel s i b L) (hi : i ≤ s.size) : b ≤ i := by
  obtain ⟨_, _, ⟨_, h2, _⟩ | ⟨h2, _⟩⟩ := h
  · exact h2
  · omega
theorem SplitRel.old {s : ByteArray} {i b : Nat} {L : List ByteArray} (h : SplitRel s i b L) (hi : i < s.size) (h1 : 32 ≤ s[i].toNat) (h2 : s[i].toNat ≤ 126) (j : Nat) (hj : j < i + 1) (hs : j < s.size) :
    32 ≤ (s.data.toList.getD j 0).toNat ∧ (s.data.toList.getD j 0).toNat ≤ 126 := by
  by_cases e : j = i
  · subst e; rw [getD_at s j hi]; exact ⟨h1, h2⟩
  · exact h.1 j (by omega) hs
theorem SplitRel.other {s : ByteArray} {i b : Nat} {L : List ByteArray} (h : SplitRel s i b L) (hi : i < s.size) (h1 : 32 ≤ s[i].toNat) (h2 : s[i].toNat ≤ 126) (h3 : s[i].toNat ≠ 32) : SplitRel s (i + 1) b L := by
  refine ⟨h.old hi h1 h2, by have := h.2.1; omega, ?_⟩
  obtain ⟨_, _, ⟨_, k2, k3⟩ | ⟨k2, _⟩⟩ := h
  · exact .inl ⟨hi, by omega, by rw [stF_other s i hi h3]; exact k3⟩
  · omega
theorem SplitRel.space {s : ByteArray} {i b : Nat} {L : List ByteArray} (h : SplitRel s i b L) (hi : i < s.size) (h3 : s[i].toNat = 32) : SplitRel s (i + 1) (i + 1) (addF s L b i) := by
  refine ⟨h.old hi (by omega) (by omega), by have := h.2.1; unfold addF; split <;> simp <;> omega, ?_⟩
  obtain ⟨_, _, ⟨_, k2, k3⟩ | ⟨k2, _⟩⟩ := h
  · exact .inl ⟨hi, Nat.le_refl _, by rw [stF_space s i hi h3, k3]⟩
  · omega
theorem SplitRel.last {s : ByteArray} {b b' : Nat} {L : List ByteArray} (h : SplitRel s s.size b L) : SplitRel s (s.size + 1) b' (addF s L b s.size) := by
  refine ⟨fun j _ hs => h.1 j hs hs, by have := h.2.1; unfold addF; split <;> simp <;> omega, .inr ⟨rfl, ?_⟩⟩
  obtain ⟨_, _, ⟨_, k2, k3⟩ | ⟨k2, _⟩⟩ := h
  · unfold finF; rw [k3]
  · omega
theorem own_nilS (w : World) (B : Nat) (c : Nat) (hc : c = 0) : OwnsS w B (.slice none 0 c) [] := by subst hc; exact World.ownsRow_nil _ _ _ _
theorem own_newS (w : World) : OwnsS (w.alloc (.cells #[] 9)) w.heap.size (.slice (some ⟨w.heap.size, 0, none⟩) 0 0) [] := World.ownsRow_lit w #[] 0 (Nat.le_refl _) (by unfold maxLen; omega) rfl
theorem own_newS' (w : World) (B : Nat) (hB : B ≤ w.heap.size) : OwnsS (w.alloc (.cells #[] 9)) B (.slice (some ⟨w.heap.size, 0, none⟩) 0 0) [] := World.ownsRow_lit w #[] 0 hB (by unfold maxLen; omega) rfl
/-- Behind an append of one text. -/
theorem own_addS {B : Nat} {w wr a w1 : World} {v v' : Value} {L : List ByteArray} {x : ByteArray} (hown : OwnsS wr B v L) (hsz : B ≤ wr.heap.size) (hbel : Below B w wr) (ha : Below wr.heap.size wr a) (hgrow : a.grownBy w1 v.ownBlock)
    (hown' : w1.ownsRow B 9 1 v' (L.length + 1) (L.map Value.string ++ [.string x])) : OwnsS w1 B v' (L ++ [x]) ∧ Below B w w1 := by
  refine ⟨?_, (hbel.trans (ha.mono hsz)).grown hgrow (Nat.le_trans hsz ha.size) (fun j hj => (hown.lt j hj).1)⟩
  unfold OwnsS
  rw [List.length_append, List.map_append]
  exact hown'

set_option maxHeartbeats 400000 in
theorem specSplit_long (s : ByteArray) (w : World) (hs : 600 < s.size) (hm : s.size ≤ 1048576) :
    Calls Tryd.prog 17 #[.string s] w (SplitPost s w) := by
  go_enter Tryd.func17, Tryd.ntmps17
  go_wp2
  go_ret2
  exact ⟨_, [], false, rfl, .inr ⟨rfl, rfl, .inl hs⟩, own_newS w, (Below.refl _ _).alloc (Nat.le_refl _) _⟩

set_option maxRecDepth 100000 in
set_option maxHeartbeats 1600000 in
theorem specSplit_short (s : ByteArray) (w : World) (hs : s.size ≤ 600) :
    Calls Tryd.prog 17 #[.string s] w (SplitPost s w) := by
  obtain ⟨i0, hi, hz0, hz1, hz2⟩ := info_parts Tryd.infoS
  go_enter Tryd.func17, Tryd.ntmps17
  go_wp2
  go_loopw [4, 5, 6] (fun v bg iv wr => ∃ (i b : Nat) (L : List ByteArray), i ≤ s.size + 1 ∧ iv = .int .i64 i ∧ bg = .int .i64 b ∧ b ≤ 1000 ∧ SplitRel s i b L ∧ OwnsS wr w.heap.size v L ∧ Below w.heap.size w wr)
    (fun _ _ iv _ => s.size + 1 - (intOf iv).toNat)
  case atStart => exact ⟨0, 0, [], by omega, rfl, rfl, by omega, ⟨fun j hj => absurd hj (by omega), by simp, .inl ⟨by omega, by omega, rfl⟩⟩, own_newS w, (Below.refl _ _).alloc (Nat.le_refl _) _⟩
  case round =>
    obtain ⟨i, b, L, hk, rfl, rfl, hb1000, hrel, hown, hbel⟩ := hrel
    have hsz := hbel.size
    have HR := Lib.hid hrel
    have HO := Lib.hid hown
    have HB := Lib.hid hbel
    have hLi := hrel.2.1
    clear hrel hown hbel
    by_cases hle : i ≤ s.size
    · have hbi := HR.out.begin hle
      by_cases hlt : i < s.size
      · by_cases hbl : b < i
        · go_wp2_with (refine wpList_append_lies _ rfl _ _ 31 (by rfl) w.heap.size 9 i0 _ 1 16 Tryd.underlying31 hi hz0 hz1 hz2 rfl (by omega) u4 L.length _ (by rfl) (HO.out.alloc _) ⟨wr.heap.size, 0, none⟩ 1 1 [.string (s.extract b i)] (by rfl) (by rfl) (World.news_of_block (heap_alloc_new wr _)) (by simp [Value.oneCell']) (by omega) (by unfold maxLen; omega) (by omega) (by simp; omega) (wr.heap.size + 1) (by simp) ?_; intro gg cap w2 hown2 hgrow2 hat2 hlt2)
          all_goals first
            | (have h32 : ((s[i].toNat : Int) != 32) = true := by assumption
               go_roundw
               case rel => exact ⟨i + 1, b, L, by omega, by go_num, rfl, hb1000, HR.out.other hlt (by omega) (by omega) (by intro e; rw [e] at h32; simp at h32), HO.out, HB.out⟩
               case measure => simp [intOf]; omega)
            | (have h32 : ((s[i].toNat : Int) != 32) = false := by assumption
               have e32 : s[i].toNat = 32 := by simp at h32; omega
               have R := own_addS HO.out hsz HB.out ((Below.refl _ _).alloc (Nat.le_refl _) _) hgrow2 hown2
               have S := HR.out.space hlt e32
               rw [addF, if_pos hbl] at S
               go_roundw
               case rel => exact ⟨i + 1, i + 1, _, by omega, by go_num, by go_num, by omega, S, R.1, R.2⟩
               case measure => simp [intOf]; omega)
            | (go_ret2
               exact ⟨_, [], false, rfl, .inr ⟨rfl, rfl, .inr (.inl (okF_bad s i hlt (by omega)))⟩, own_newS' wr w.heap.size hsz, HB.out.alloc hsz _⟩)
        · go_wp2
          all_goals first
            | (have h32 : ((s[i].toNat : Int) != 32) = true := by assumption
               go_roundw
               case rel => exact ⟨i + 1, b, L, by omega, by go_num, rfl, hb1000, HR.out.other hlt (by omega) (by omega) (by intro e; rw [e] at h32; simp at h32), HO.out, HB.out⟩
               case measure => simp [intOf]; omega)
            | (have h32 : ((s[i].toNat : Int) != 32) = false := by assumption
               have e32 : s[i].toNat = 32 := by simp at h32; omega
               have S := HR.out.space hlt e32
               rw [addF, if_neg hbl] at S
               go_roundw
               case rel => exact ⟨i + 1, i + 1, L, by omega, by go_num, by go_num, by omega, S, HO.out, HB.out⟩
               case measure => simp [intOf]; omega)
            | (go_ret2
               exact ⟨_, [], false, rfl, .inr ⟨rfl, rfl, .inr (.inl (okF_bad s i hlt (by omega)))⟩, own_newS' wr w.heap.size hsz, HB.out.alloc hsz _⟩)
      · obtain rfl : i = s.size := by omega
        by_cases hbl : b < s.size
        · have S := Lib.hid (HR.out.last (b' := s.size + 1))
          go_wp2_with (refine wpList_append_lies _ rfl _ _ 31 (by rfl) w.heap.size 9 i0 _ 1 16 Tryd.underlying31 hi hz0 hz1 hz2 rfl (by omega) u4 L.length _ (by rfl) (HO.out.alloc _) ⟨wr.heap.size, 0, none⟩ 1 1 [.string (s.extract b s.size)] (by rfl) (by rfl) (World.news_of_block (heap_alloc_new wr _)) (by simp [Value.oneCell']) (by omega) (by unfold maxLen; omega) (by omega) (by simp; omega) (wr.heap.size + 1) (by simp) ?_; intro gg cap w2 hown2 hgrow2 hat2 hlt2)
          have R := own_addS HO.out hsz HB.out ((Below.refl _ _).alloc (Nat.le_refl _) _) hgrow2 hown2
          have S' := S.out
          rw [addF, if_pos hbl] at S'
          go_roundw
          case rel => exact ⟨s.size + 1, s.size + 1, _, by omega, by go_num, by go_num, by omega, S', R.1, R.2⟩
          case measure => simp [intOf]
        · have S := Lib.hid (HR.out.last (b' := s.size + 1))
          go_wp2
          have S' := S.out
          rw [addF, if_neg hbl] at S'
          go_roundw
          case rel => exact ⟨s.size + 1, s.size + 1, L, by omega, by go_num, by go_num, by omega, S', HO.out, HB.out⟩
          case measure => simp [intOf]
    · obtain rfl : i = s.size + 1 := by omega
      obtain ⟨hok, rfl⟩ := HR.out.ok
      obtain ⟨A, c, hv, _⟩ := HO.out.shape
      have HOK := Lib.hid hok
      rw [hv] at HO
      rw [hv]
      clear hv HR hok
      by_cases h40 : (finF s).length ≤ 40
      · go_wp2
        go_ret2
        exact ⟨_, _, true, rfl, .inl ⟨rfl, hs, HOK.out, h40, rfl⟩, HO.out, HB.out⟩
      · go_wp2
        go_ret2
        exact ⟨_, [], false, rfl, .inr ⟨rfl, rfl, .inr (.inr (by omega))⟩, own_newS' wr w.heap.size hsz, HB.out.alloc hsz _⟩

theorem specSplit_any (s : ByteArray) (w : World) (hm : s.size ≤ 1048576) : Calls Tryd.prog 17 #[.string s] w (SplitPost s w) := by
  by_cases h : s.size ≤ 600
  · exact specSplit_short s w h
  · exact specSplit_long s w (by omega) hm
end Go.Proofs.YtgihjgjjakjccaaDoor
