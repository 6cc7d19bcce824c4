/-
  The contracts of impl.appendField and impl.SplitFields.
-/
import Derived.Test.YtgihjgjjakjccaaDoorSplitA
import Derived.Test.YtgihjgjjakjccaaDoorShelf
import Derived.WalkMore
import Derived.Deep.LoopGhost
namespace Go.Proofs.YtgihjgjjakjccaaDoor
open Go.RowKit

/-- The post of appendField. -/
def AddedPost (B : Nat) (L : List ByteArray) (x : ByteArray) (w : World) (e : Ending) (w' : World) : Prop :=
  ∃ v, e = .returned v ∧ OwnsS w' B v (if x.size = 0 then L else L ++ [x]) ∧ Below B w w'

theorem clone_any (s : ByteArray) (w : World) (hs : s.size ≤ 1000000) : Calls Tryd.prog 39 #[.string s] w fun e w' => e = .returned (.string s) ∧ Below w.heap.size w w' := by
  go_enter Tryd.func39, Tryd.ntmps39
  go_wp2_with fail
  refine (Tryd.stringslite_Clone s _ (by omega)).mono ?_
  rintro e w1 ⟨rfl, hb⟩
  go_wp2
  go_ret
  exact ⟨rfl, hb⟩

set_option maxHeartbeats 400000 in
theorem addField_any (B : Nat) (v : Value) (L : List ByteArray) (x : ByteArray) (w : World) (hB : B ≤ w.heap.size) (hown : OwnsS w B v L) (hL : L.length ≤ 1000) (hx : x.size ≤ 1000000) :
    Calls Tryd.prog 31 #[v, .string x] w (AddedPost B L x w) := by
  obtain ⟨i0, hi, hz0, hz1, hz2⟩ := info_parts Tryd.infoS
  have HO := Lib.hid hown
  clear hown
  by_cases h0 : x.size = 0
  · have e0 : x.toList.isEmpty = true := by rw [Lib.toList_data]; have : x.data.toList.length = 0 := by simpa using h0
                                            simp [List.eq_nil_of_length_eq_zero this]
    have H0 := Lib.hid h0
    clear h0
    go_enter Tryd.func31, Tryd.ntmps31
    go_wp2
    go_ret
    exact ⟨_, rfl, by rw [if_pos H0.out]; exact HO.out, Below.refl _ _⟩
  · have e0 : x.toList.isEmpty = false := by
      rw [Lib.toList_data]
      cases hq : x.data.toList with
      | nil => exact absurd (by have := congrArg List.length hq; simpa using this) h0
      | cons a l => rfl
    have H0 := Lib.hid h0
    clear h0
    go_enter Tryd.func31, Tryd.ntmps31
    go_wp2_with fail
    refine (clone_any x _ hx).mono ?_
    rintro e w1 ⟨rfl, hb⟩
    have ho1 := HO.out.below hb
    have HB := Lib.hid hb
    have hs1 := hb.size
    clear hb
    go_wp2_with (refine wpList_append_lies _ rfl _ _ 31 (by rfl) B 9 i0 _ 1 16 Tryd.underlying31 hi hz0 hz1 hz2 rfl (by omega) v L.length _ (by rfl) (ho1.alloc _) ⟨w1.heap.size, 0, none⟩ 1 1 [.string x] (by rfl) (by rfl) (World.news_of_block (heap_alloc_new w1 _)) (by simp [Value.oneCell']) (by omega) (by unfold maxLen; omega) (by omega) (by simp; omega) (w1.heap.size + 1) (by simp) ?_; intro gg cap w2 hown2 hgrow2 hat2 hlt2)
    have R := own_addS ho1 (by omega) (HB.out.mono hB) ((Below.refl _ _).alloc (Nat.le_refl _) _) hgrow2 hown2
    have HR := Lib.hid R
    clear hown2 hgrow2 R ho1
    go_ret
    exact ⟨_, rfl, by rw [if_neg H0.out]; exact HR.out.1, HR.out.2⟩

theorem addF_eq (s : ByteArray) (L : List ByteArray) (b k : Nat) (hk : k ≤ s.size) : (if (s.extract b k).size = 0 then L else L ++ [s.extract b k]) = addF s L b k := by
  unfold addF
  rw [extract_size s b k hk]
  by_cases h : b < k
  · rw [if_neg (by omega), if_pos h]
  · rw [if_pos (by omega), if_neg h]

set_option maxHeartbeats 400000 in
theorem implSplit_long (s : ByteArray) (w : World) (hs : 600 < s.size) (hm : s.size ≤ 1048576) :
    Calls Tryd.prog 16 #[.string s] w (SplitPost s w) := by
  go_enter Tryd.func16, Tryd.ntmps16
  go_wp2
  go_step3
  go_wp2
  rw [Exit.noGoto_ret]
  go_ret2
  exact ⟨_, [], false, rfl, .inr ⟨rfl, rfl, .inl hs⟩, own_nilS _ _ _ rfl, Below.refl _ _⟩

set_option maxRecDepth 100000 in
set_option maxHeartbeats 1600000 in
theorem implSplit_short (s : ByteArray) (w : World) (hs : s.size ≤ 600) :
    Calls Tryd.prog 16 #[.string s] w (SplitPost s w) := by
  go_enter Tryd.func16, Tryd.ntmps16
  go_wp2
  go_step3
  go_wp2
  go_step3
  go_wp2
  go_loopw [4, 5, 6] (fun v bg iv wr => ∃ (i b : Nat) (L : List ByteArray), i ≤ s.size ∧ iv = .int .i64 i ∧ bg = .int .i64 b ∧ b ≤ 1000 ∧ SplitRel s i b L ∧ OwnsS wr w.heap.size v L ∧ Below w.heap.size w wr)
    (fun _ _ iv _ => s.size + 1 - (intOf iv).toNat)
  case atStart => exact ⟨0, 0, [], by omega, rfl, rfl, by omega, ⟨fun j hj => absurd hj (by omega), by simp, .inl ⟨by omega, by omega, rfl⟩⟩, own_nilS _ _ _ rfl, Below.refl _ _⟩
  case round =>
    obtain ⟨i, b, L, hk, rfl, rfl, hb1000, hrel, hown, hbel⟩ := hrel
    have hsz := hbel.size
    have HR := Lib.hid hrel
    have HO := Lib.hid hown
    have HB := Lib.hid hbel
    have hLi := hrel.2.1
    have hbi := hrel.begin hk
    clear hrel hown hbel
    by_cases hlt : i < s.size
    · go_wp2_with fail
      all_goals first
        | (have h32 : ((s[i].toNat : Int) == 32) = true := by assumption
           have e32 : s[i].toNat = 32 := by simp at h32; omega
           have S := HR.out.space hlt e32
           rw [← addF_eq s L b i hk] at S
           have HS := Lib.hid S
           clear S
           refine (addField_any w.heap.size _ L (s.extract b i) _ hsz HO.out (by omega) (by rw [extract_size s b i hk]; omega)).mono ?_
           rintro e w1 ⟨v1, rfl, ho, hb⟩
           have R := Lib.hid (And.intro ho (HB.out.trans hb))
           clear ho hb
           go_wp2
           go_roundw
           case rel => exact ⟨i + 1, i + 1, _, by omega, by go_num, by go_num, by omega, HS.out, R.out.1, R.out.2⟩
           case measure => simp [intOf]; omega)
        | (have h32 : ((s[i].toNat : Int) == 32) = false := by assumption
           go_roundw
           case rel => exact ⟨i + 1, b, L, by omega, by go_num, rfl, hb1000, HR.out.other hlt (by omega) (by omega) (by intro e; rw [e] at h32; simp at h32), HO.out, HB.out⟩
           case measure => simp [intOf]; omega)
        | (try rw [Exit.noGoto_ret]
           go_ret2
           exact ⟨_, [], false, rfl, .inr ⟨rfl, rfl, .inr (.inl (okF_bad s i hlt (by omega)))⟩, own_nilS _ _ _ rfl, HB.out⟩)
    · obtain rfl : i = s.size := by omega
      have S := HR.out.last (b' := s.size + 1)
      rw [← addF_eq s L b s.size (Nat.le_refl _)] at S
      have HS := Lib.hid S
      clear S
      go_wp2_with fail
      refine (addField_any w.heap.size _ L (s.extract b s.size) _ hsz HO.out (by omega) (by rw [extract_size s b s.size (Nat.le_refl _)]; omega)).mono ?_
      rintro e w1 ⟨v1, rfl, ho, hb⟩
      obtain ⟨hok, hfin⟩ := HS.out.ok
      rw [hfin] at ho
      obtain ⟨A, c, hv, _⟩ := ho.shape
      subst hv
      have R := Lib.hid (And.intro ho (HB.out.trans hb))
      have HOK := Lib.hid hok
      clear ho hb hfin hok
      by_cases h40 : (finF s).length ≤ 40
      · go_wp2
        try rw [Exit.noGoto_ret]
        go_ret2
        exact ⟨_, _, true, rfl, .inl ⟨rfl, hs, HOK.out, h40, rfl⟩, R.out.1, R.out.2⟩
      · go_wp2
        try rw [Exit.noGoto_ret]
        go_ret2
        exact ⟨_, [], false, rfl, .inr ⟨rfl, rfl, .inr (.inr (by omega))⟩, own_nilS _ _ _ rfl, R.out.2⟩

theorem implSplit_any (s : ByteArray) (w : World) (hm : s.size ≤ 1048576) : Calls Tryd.prog 16 #[.string s] w (SplitPost s w) := by
  by_cases h : s.size ≤ 600
  · exact implSplit_short s w h
  · exact implSplit_long s w (by omega) hm
end Go.Proofs.YtgihjgjjakjccaaDoor
