/-
  The text of an operator: plain facts; the reference's function.
-/
import Derived.Test.YtdfcbccpdflbfaaGreatDoorSOps
import Derived.Test.YtdfcbccpdflbfaaGreatDoorFmtB
import Derived.Lib.QuietBelow
import Derived.Test.YtdfcbccpdflbfaaGreatDoorNumMath
namespace Go.Proofs.YtdfcbccpdflbfaaGreatDoor
open Go.RowKit
set_option linter.unusedVariables false
set_option linter.unusedSimpArgs false

/-- The text of a list of bytes. -/
def tx (l : List UInt8) : ByteArray := ⟨l.toArray⟩
theorem tx_data (l : List UInt8) : (tx l).data.toList = l := rfl
theorem tx_size (l : List UInt8) : (tx l).size = l.length := rfl
theorem tx_app (l m : List UInt8) : tx l ++ tx m = tx (l ++ m) := bytes_eq (by simp [tx])
theorem tx_inj {l m : List UInt8} (h : tx l = tx m) : l = m := by have := congrArg (fun s => s.data.toList) h; exact this
/-- The text of an operator, as a list of bytes. -/
def opTextL (o : DOp) : List UInt8 :=
  if o.1 = 0 then Lib.itoa o.2.1 else if o.1 = 1 then [87] else if o.1 = 2 then 115 :: Lib.itoa o.2.1
  else if o.1 = 3 then 115 :: (Lib.itoa o.2.1 ++ 46 :: Lib.itoa o.2.2)
  else if o.1 = 4 then [126] else if o.1 = 5 then [38] else if o.1 = 6 then [124] else if o.1 = 7 then [94] else if o.1 = 8 then [43]
  else if o.1 = 9 then [45] else if o.1 = 10 then [61] else if o.1 = 11 then [60] else [63]
/-- The text that an operator has: none if it is not valid. -/
def opTextS (o : DOp) : ByteArray := if opB 30 o = true then tx (opTextL o) else ByteArray.empty
theorem opTextS_ok {o : DOp} (h : opB 30 o = true) : opTextS o = tx (opTextL o) := if_pos h
theorem opTextS_no {o : DOp} (h : opB 30 o = false) : opTextS o = ByteArray.empty := if_neg (by rw [h]; simp)
/-- The kinds of a valid operator. -/
theorem opB_kinds {n k a b : Int} (h : opB n (k, a, b) = true) :
    (k = 0 ∧ 0 ≤ a ∧ a ≤ 15 ∧ b = 0) ∨ (k = 2 ∧ 0 ≤ a ∧ a < n ∧ b = 0) ∨ (k = 3 ∧ 0 ≤ a ∧ a < n ∧ 0 ≤ b ∧ b ≤ 3) ∨
    ((k = 1 ∨ k = 4 ∨ k = 5 ∨ k = 6 ∨ k = 7 ∨ k = 8 ∨ k = 9 ∨ k = 10 ∨ k = 11 ∨ k = 12) ∧ a = 0 ∧ b = 0) := by
  unfold opB at h
  dsimp only at h
  split at h
  · rename_i k0; simp at h; exact .inl ⟨k0, h.1.1, h.1.2, h.2⟩
  · split at h
    · rename_i k2; simp at h; exact .inr (.inl ⟨k2, h.1.1, h.1.2, h.2⟩)
    · split at h
      · rename_i k3; simp at h; exact .inr (.inr (.inl ⟨k3, h.1.1, h.1.2, h.2.1, h.2.2⟩))
      · rename_i k0 k2 k3
        simp at h
        obtain ⟨⟨h1, h2⟩, h3⟩ := h
        refine .inr (.inr (.inr ⟨?_, h2, h3⟩))
        unfold arityI at h1
        split at h1
        · omega
        · omega
/-- The numeral of a small number is short. -/
theorem itoa_short {n : Int} (h0 : 0 ≤ n) (h1 : n ≤ 1000000000) : ∃ s, tx (Lib.itoa n) = s ∧ s.size ≤ 10 := by
  refine ⟨_, rfl, ?_⟩
  rw [tx_size]
  exact IsNum.len ⟨h0, h1, rfl⟩
theorem specFmt_at {n : Int} {s : ByteArray} (w : World) (h : tx (Lib.itoa n) = s) (h0 : 0 ≤ n) (h1 : n ≤ 1000000000) :
    Calls Tryz.prog 19 #[.int .i64 n] w fun e w' => e = .returned (.string s) ∧ Below w.heap.size w w' := by
  subst h; exact specFmt_any n w (by omega) (by omega)
theorem implFmt_at {n : Int} {s : ByteArray} (w : World) (h : tx (Lib.itoa n) = s) (h0 : 0 ≤ n) (h1 : n ≤ 1000000000) (ht : PowTab w) :
    Calls Tryz.prog 51 #[.int .i64 n] w fun e w' => e = .returned (.string s) ∧ Below w.heap.size w w' := by
  subst h; exact implFmt_any n w (by omega) (by omega) ht
theorem ret_sb {s t : ByteArray} {b : Bool} (h : s = t) : Ending.returned (.tuple #[.string s, .bool b]) = .returned (.tuple #[.string t, .bool b]) := by rw [h]

set_option maxHeartbeats 3200000 in
theorem specText_any (k a b : Int) (w : World) :
    Calls Tryz.prog 20 #[.agg #[.int .i64 k, .int .i64 a, .int .i64 b]] w fun e w' => e = .returned (.tuple #[.string (opTextS (k, a, b)), .bool (opB 30 (k, a, b))]) ∧ Below w.heap.size w w' := by
  obtain ⟨d, hd⟩ : ∃ d, opB 30 (k, a, b) = d := ⟨_, rfl⟩
  have hcall := fun W => specOp_at 30 (k, a, b) W hd
  cases d with
  | false =>
    rw [opTextS_no hd, hd]
    clear hd
    go_enter Tryz.func20, Tryz.ntmps20
    go_wp2_with fail
    refine (hcall _).mono ?_
    rintro e w1 ⟨rfl, hb⟩
    obtain ⟨g, hb'⟩ := box1 hb
    have c0 := box_cell g 0 _ rfl
    have c1 := box_cell g 1 _ rfl
    have c2 := box_cell g 2 _ rfl
    have HB := Lib.hid hb'
    clear hb hb' g
    go_wp2
    go_ret2
    exact ⟨rfl, HB.out⟩
  | true =>
    rw [opTextS_ok hd, hd]
    have hk := opB_kinds hd
    clear hd
    rcases hk with ⟨rfl, h1, h2, rfl⟩ | ⟨rfl, h1, h2, rfl⟩ | ⟨rfl, h1, h2, h3, h4⟩ | ⟨hk, rfl, rfl⟩
    · obtain ⟨sa, ha, hna⟩ := itoa_short (n := a) (by omega) (by omega)
      go_enter Tryz.func20, Tryz.ntmps20
      go_wp2_with fail
      refine (hcall _).mono ?_
      rintro e w1 ⟨rfl, hb⟩
      obtain ⟨g, hb'⟩ := box1 hb
      have c0 := box_cell g 0 _ rfl
      have c1 := box_cell g 1 _ rfl
      have c2 := box_cell g 2 _ rfl
      have HB := Lib.hid hb'
      clear hb hb' g
      go_wp2_with fail
      refine (specFmt_at _ ha (by omega) (by omega)).mono ?_
      rintro e w2 ⟨rfl, hb⟩
      replace HB := Lib.hid (HB.out.trans (hb.mono HB.out.size))
      clear hb
      go_wp2
      go_ret2
      exact ⟨ret_sb ha.symm, HB.out⟩
    · obtain ⟨sa, ha, hna⟩ := itoa_short (n := a) (by omega) (by omega)
      go_enter Tryz.func20, Tryz.ntmps20
      go_wp2_with fail
      refine (hcall _).mono ?_
      rintro e w1 ⟨rfl, hb⟩
      obtain ⟨g, hb'⟩ := box1 hb
      have c0 := box_cell g 0 _ rfl
      have c1 := box_cell g 1 _ rfl
      have c2 := box_cell g 2 _ rfl
      have HB := Lib.hid hb'
      clear hb hb' g
      go_wp2_with fail
      refine (specFmt_at _ ha (by omega) (by omega)).mono ?_
      rintro e w2 ⟨rfl, hb⟩
      replace HB := Lib.hid (HB.out.trans (hb.mono HB.out.size))
      clear hb
      go_wp2
      go_ret2
      exact ⟨ret_sb (by subst ha; exact tx_app [115] _), HB.out⟩
    · obtain ⟨sa, ha, hna⟩ := itoa_short (n := a) (by omega) (by omega)
      obtain ⟨sb, hb0, hnb⟩ := itoa_short (n := b) (by omega) (by omega)
      have hfmt : ∀ (n : Int) (s : ByteArray) (W : World), ((n = a ∧ s = sa) ∨ (n = b ∧ s = sb)) → Calls Tryz.prog 19 #[.int .i64 n] W fun e w' => e = .returned (.string s) ∧ Below W.heap.size W w' := by
        rintro n s W (⟨rfl, rfl⟩ | ⟨rfl, rfl⟩)
        · exact specFmt_at _ ha (by omega) (by omega)
        · exact specFmt_at _ hb0 (by omega) (by omega)
      have HF := Lib.hid hfmt
      clear hfmt
      go_enter Tryz.func20, Tryz.ntmps20
      go_wp2_with fail
      refine (hcall _).mono ?_
      rintro e w1 ⟨rfl, hb⟩
      obtain ⟨g, hb'⟩ := box1 hb
      have c0 := box_cell g 0 _ rfl
      have c1 := cell_regrown (box_cell g 1 _ rfl)
      have c2 := cell_regrown (box_cell g 2 _ rfl)
      have HB := Lib.hid hb'
      clear hb hb' g
      go_wp2
      clear c0
      refine wp_region_quiet_below (by kernel_rfl) (by kernel_rfl) ?_
      repeat (go_big_quiet_step (first | (go_at_call 19; refine Calls.regrown_of (HF.out _ _ _ (by first | exact Or.inl ⟨rfl, rfl⟩ | exact Or.inr ⟨rfl, rfl⟩)))))
      refine wpQuiet_nil ?_
      intro _ hw'
      obtain ⟨⟨dq, osq⟩, hw''⟩ := hw'
      subst hw''
      go_wp2
      go_ret2
      exact ⟨ret_sb (by subst ha; subst hb0; exact bytes_eq (by simp [tx, opTextL])), bThen HB.out (below_regrown _ _ _)⟩
    · rcases hk with rfl | rfl | rfl | rfl | rfl | rfl | rfl | rfl | rfl | rfl
      all_goals
        go_enter Tryz.func20, Tryz.ntmps20
        go_wp2_with fail
        refine (hcall _).mono ?_
        rintro e w1 ⟨rfl, hb⟩
        obtain ⟨g, hb'⟩ := box1 hb
        have c0 := box_cell g 0 _ rfl
        have c1 := box_cell g 1 _ rfl
        have c2 := box_cell g 2 _ rfl
        have HB := Lib.hid hb'
        clear hb hb' g
        go_wp2
        go_ret2
        exact ⟨ret_sb (bytes_eq (by decide)), HB.out⟩
end Go.Proofs.YtdfcbccpdflbfaaGreatDoor
