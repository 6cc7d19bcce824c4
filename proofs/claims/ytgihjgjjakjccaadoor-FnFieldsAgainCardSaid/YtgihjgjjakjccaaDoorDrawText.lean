/-
  The contracts of l01Text and l01Long: a text of bytes.
-/
import Derived.Test.YtgihjgjjakjccaaDoorCurA
import Derived.Test.YtgihjgjjakjccaaDoorHexMath
import Derived.Deep.AppendLies
namespace Go.Proofs.YtgihjgjjakjccaaDoor
open Go.RowKit

theorem Tryd.infoB : (Tryd.prog.info? 5).map (fun i => (i.zero, i.size, i.bytes)) = some (some (.int .u8 0), 1, 1) := by kernel_rfl

/-- A row of the call's own stays owned where another block alone is changed. -/
theorem own_chg {w w' : World} {B e size n g : Nat} {v : Value} {xs : List Value} (h : w.ownsRow B e size v n xs) (hc : Chg g w w') (hg : g < B) : w'.ownsRow B e size v n xs :=
  h.kept (row := some g) ⟨hc.os, hc.tape, hc.output, hc.size, fun k hk hne => hc.block k hk (fun e => hne (by rw [e]))⟩
    (by
      cases hv : v.ownBlock with
      | none => exact .inl rfl
      | some k => exact .inr (by have := (h.lt k hv).1; simp; omega))

/-- A post for a drawn text of at most m bytes. -/
def DrawnS (T g n m : Nat) (w : World) (e : Ending) (w' : World) : Prop := ∃ s : ByteArray, e = .returned (.string s) ∧ s.size ≤ m ∧ Cur T w' g n ∧ Chg g w w'

set_option maxHeartbeats 800000 in
theorem text_any (g n : Nat) (m : Int) (w : World) (hm0 : 0 ≤ m) (hm : m ≤ 5000) (hc : Cur 54 w g n) :
    Calls Tryd.prog 25 #[.pointer (some ⟨g, 0, none⟩), .int .i64 m] w (DrawnS 54 g n 5000 w) := by
  obtain ⟨i0, hi, hz0, hz1, hz2⟩ := info_parts Tryd.infoB
  have hgl := hc.lt
  go_enter Tryd.func25, Tryd.ntmps25
  go_wp2
  go_loopw [5, 6] (fun v i wr => ∃ (k : Nat) (l : List UInt8), (k : Int) ≤ m ∧ i = .int .i64 k ∧ l.length = k ∧ wr.ownsRow w.heap.size 5 1 v k (l.map bv) ∧ Cur 54 wr g n ∧ Chg g w wr)
    (fun _ i _ => (m - intOf i).toNat)
  case atStart => exact ⟨0, [], hm0, rfl, rfl, World.ownsRow_lit _ #[] 0 (Nat.le_refl _) (by unfold maxLen; omega) rfl, hc.keep ((Below.refl _ _).alloc (Nat.le_refl _) _), (Chg.refl g w).alloc _⟩
  case round =>
    obtain ⟨k, l, hk, rfl, hl, hown, hcur, hch⟩ := hrel
    have hsz := hch.size
    have HL := Lib.hid hl
    have HC := Lib.hid (And.intro hcur hch)
    have HO := Lib.hid hown
    clear hl hcur hch hown hc
    by_cases hlt : (k : Int) < m
    · go_wp2_with fail
      refine (byte_any g n _ HC.out.1).mono ?_
      rintro e w1 ⟨x, rfl, ⟨hx0, hx1⟩, hcur1, hch1⟩
      have hown1 := own_chg HO.out hch1 hgl
      have hs1 := hch1.size
      have HC1 := Lib.hid (And.intro hcur1 (HC.out.2.trans hch1))
      have HO1 := Lib.hid hown1
      obtain ⟨b, hb⟩ : ∃ b : UInt8, x = (b.toNat : Int) := ⟨UInt8.ofNat x.toNat, by simp; omega⟩
      subst hb
      clear hcur1 hch1 hown1 HC HO
      go_wp2_with (refine wpList_append_lies _ rfl _ _ 22 (by rfl) w.heap.size 5 i0 _ 1 1 Tryd.underlying22 hi hz0 hz1 hz2 rfl (by omega) u5 k _ (by rfl) (HO1.out.alloc _) ⟨w1.heap.size, 0, none⟩ 1 1 _ (by rfl) (by rfl) (World.news_of_block (heap_alloc_new w1 _)) (by simp [Value.oneCell']) (by omega) (by unfold maxLen; omega) (by omega) (by simp; omega) (w1.heap.size + 1) (by simp) ?_; intro gg cap w2 hown2 hgrow2 hat2 hlt2)
      have hrow : ∀ j, u5.ownBlock = some j → w.heap.size ≤ j := fun j hj => (HO1.out.lt j hj).1
      have hch2 := chg_grown HC1.out.2 ((Below.refl _ _).alloc (Nat.le_refl _) _) hgrow2 hrow
      have hcur2 := cur_grown HC1.out.1 ((Below.refl _ _).alloc (Nat.le_refl _) _) hgrow2 (fun j hj => Nat.lt_of_lt_of_le hgl (hrow j hj))
      have R := Lib.hid (And.intro hown2 (And.intro hcur2 hch2))
      clear hown2 hgrow2 hch2 hcur2 hrow HO1
      go_wp2
      go_roundw
      case rel => exact ⟨k + 1, l ++ [b], by omega, by go_num, by rw [List.length_append, HL.out]; rfl, by rw [List.map_append]; exact R.out.1, R.out.2.1, R.out.2.2⟩
      case measure => simp [intOf]; omega
    · obtain ⟨a, c, hv, hcv⟩ := own_string (P := Tryd.prog) 22 9 HO.out Tryd.underlying22 Tryd.underlying5 Tryd.underlying9
      rw [hv]
      clear hv HO
      go_wp2
      go_ret
      exact ⟨_, rfl, by have := HL.out; show l.toArray.size ≤ _; simp; omega, HC.out.1, HC.out.2⟩

set_option maxHeartbeats 800000 in
theorem long_any (m : Nat) (x : UInt8) (w : World) (hm : m ≤ 100000) :
    Calls Tryd.prog 23 #[.int .i64 m, .int .u8 (x.toNat : Int)] w fun e w' => e = .returned (.string ⟨(List.replicate m x).toArray⟩) ∧ Below w.heap.size w w' := by
  obtain ⟨i0, hi, hz0, hz1, hz2⟩ := info_parts Tryd.infoB
  go_enter Tryd.func23, Tryd.ntmps23
  go_wp2_with (at_make; refine wpList_make_full _ rfl _ _ 22 rfl w.heap.size 5 i0 (.int .u8 0) 1 Tryd.underlying22 hi hz0 hz1 .i64 .i64 (m : Int) (m : Int) m rfl rfl rfl rfl (by rw [hz2]; omega) (by unfold maxLen; omega) (Nat.le_refl _) ?_; intro w1 hown1 hgrow1)
  have hbel1 : Below w.heap.size w w1 := (Below.refl _ _).grown hgrow1 (Nat.le_refl _) (by intro g hg; cases hg)
  have hown0 : w1.ownsRow w.heap.size 5 1 (.slice (some ⟨w.heap.size, 0, none⟩) m m) m ((List.replicate m (0 : UInt8)).map bv) := by
    have e : (madeCells (Value.int .u8 0).cells (m * 1)).toList = (List.replicate m (0 : UInt8)).map bv := by
      rw [show (Value.int .u8 0).cells = #[.int .u8 0] from rfl, toList_madeCells_one]
      simp [bv]
    rw [← e]; exact hown1
  clear hown1 hgrow1
  go_loopw [6] (fun i wr => ∃ k : Nat, k ≤ m ∧ i = .int .i64 k ∧ wr.ownsRow w.heap.size 5 1 (.slice (some ⟨w.heap.size, 0, none⟩) m m) m ((List.replicate k x ++ List.replicate (m - k) (0 : UInt8)).map bv) ∧ Below w.heap.size w wr)
    (fun i _ => m - (intOf i).toNat)
  case atStart => exact ⟨0, Nat.zero_le _, rfl, by simpa using hown0, hbel1⟩
  case round =>
    obtain ⟨k, hk, rfl, hown, hbel⟩ := hrel
    have HB := Lib.hid hbel
    have HO := Lib.hid hown
    clear hown0 hbel1 hbel hown
    by_cases hlt : k < m
    · obtain ⟨v0, hv0⟩ : ∃ v0, wr.cell? ⟨w.heap.size, k, none⟩ = some v0 := by
        have := HO.out.cellAt k (by omega)
        rw [this]
        have hl : k < ((List.replicate k x ++ List.replicate (m - k) (0 : UInt8)).map bv).length := by simp; omega
        exact ⟨_, List.getElem?_eq_getElem hl⟩
      have hf := HO.out.frozenAt k
      have hst := HO.out.stored k (bv x)
      have R := Lib.hid (And.intro hst.1 (HB.out.setCell (p := ⟨w.heap.size, k, none⟩) (Nat.le_refl _) (bv x)))
      have el : ((List.replicate k x ++ List.replicate (m - k) (0 : UInt8)).map bv).set k (bv x) = (List.replicate (k + 1) x ++ List.replicate (m - (k + 1)) (0 : UInt8)).map bv := by
        rw [← List.map_set]
        congr 1
        rw [List.set_append_right _ _ (by simp), List.length_replicate, Nat.sub_self, show m - k = (m - (k + 1)) + 1 from by omega, List.replicate_succ, List.set_cons_zero, List.replicate_succ', List.append_assoc]
        rfl
      have HEL := Lib.hid el
      clear hst el
      go_wp2
      go_roundw
      case rel => exact ⟨k + 1, by omega, by go_num, by rw [← HEL.out]; exact R.out.1, R.out.2⟩
      case measure => simp [intOf]; omega
    · obtain rfl : k = m := by omega
      have hown := HO.out
      rw [Nat.sub_self, List.replicate_zero, List.append_nil] at hown
      obtain ⟨a, c, hv, hcv⟩ := own_string (P := Tryd.prog) 22 9 hown Tryd.underlying22 Tryd.underlying5 Tryd.underlying9
      injection hv with h1 h2 h3
      subst h1 h3
      clear hown HO
      go_wp2
      go_ret
      exact ⟨rfl, HB.out⟩
end Go.Proofs.YtgihjgjjakjccaaDoor
