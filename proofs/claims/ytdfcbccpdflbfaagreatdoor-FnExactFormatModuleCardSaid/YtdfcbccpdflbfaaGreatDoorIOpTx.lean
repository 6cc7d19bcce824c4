/-
  The text of an operator: the program's functions.
-/
import Derived.Test.YtdfcbccpdflbfaaGreatDoorOpTx
import Derived.Test.YtdfcbccpdflbfaaGreatDoorIOps
namespace Go.Proofs.YtdfcbccpdflbfaaGreatDoor
open Go.RowKit
set_option linter.unusedVariables false
set_option linter.unusedSimpArgs false

/-- "s" and a text. -/
theorem s_tx {a : Int} {s : ByteArray} (h : tx (Lib.itoa a) = s) : (ByteArray.mk #[115]) ++ s = tx (115 :: Lib.itoa a) := by subst h; exact tx_app [115] _
theorem sig_short {n : Int} (h0 : 0 ≤ n) (h1 : n ≤ 1000000000) : ∃ s, tx (115 :: Lib.itoa n) = s ∧ s.size ≤ 11 := by
  refine ⟨_, rfl, ?_⟩
  rw [tx_size]
  have := IsNum.len (l := Lib.itoa n) ⟨h0, h1, rfl⟩
  simp; omega
theorem sigText_any (a : Int) {t : ByteArray} (w : World) (h : tx (115 :: Lib.itoa a) = t) (h0 : 0 ≤ a) (h1 : a ≤ 1000000000) (ht : PowTab w) :
    Calls Tryz.prog 78 #[.int .i64 a] w fun e w' => e = .returned (.string t) ∧ Below w.heap.size w w' := by
  subst h
  obtain ⟨s, hs, hn⟩ := itoa_short h0 h1
  go_enter Tryz.func78, Tryz.ntmps78
  go_wp2_with fail
  refine (implFmt_at _ hs h0 h1 ht).mono ?_
  rintro e w1 ⟨rfl, hb⟩
  have HB := Lib.hid hb
  clear hb ht
  go_wp2
  go_ret
  exact ⟨congrArg (fun b => Ending.returned (.string b)) (s_tx hs), HB.out⟩

set_option maxHeartbeats 3200000 in
theorem implText_any (k a b : Int) (w : World) (ht : PowTab w) :
    Calls Tryz.prog 76 #[.agg #[.int .i64 k, .int .i64 a, .int .i64 b]] w fun e w' => e = .returned (.tuple #[.string (opTextS (k, a, b)), .bool (opB 30 (k, a, b))]) ∧ Below w.heap.size w w' := by
  obtain ⟨d, hd⟩ : ∃ d, opB 30 (k, a, b) = d := ⟨_, rfl⟩
  have hcall := fun W => implOp_at 30 (k, a, b) W hd
  have HT := Lib.hid ht
  clear ht
  cases d with
  | false =>
    rw [opTextS_no hd, hd]
    clear hd
    go_enter Tryz.func76, Tryz.ntmps76
    go_wp2_with fail
    refine (hcall _).mono ?_
    rintro e w1 ⟨rfl, hb⟩
    obtain ⟨g, hb'⟩ := box1 hb
    have HB := Lib.hid hb'
    clear hb hb' g
    go_wp2
    go_ret2
    exact ⟨rfl, HB.out⟩
  | true =>
    rw [opTextS_ok hd, hd]
    have hk := opB_kinds hd
    clear hd
    rcases hk with ⟨rfl, h1, h2, rfl⟩ | ⟨rfl, h1, h2, rfl⟩ | ⟨rfl, h1, h2, h3, h4⟩ | ⟨hk, rfl, rfl⟩
    · obtain ⟨sa, ha, hna⟩ := itoa_short (n := a) (by omega) (by omega)
      go_enter Tryz.func76, Tryz.ntmps76
      go_wp2_with fail
      refine (hcall _).mono ?_
      rintro e w1 ⟨rfl, hb⟩
      obtain ⟨g, hb'⟩ := box1 hb
      have c0 := box_cell g 0 _ rfl
      have c1 := box_cell g 1 _ rfl
      have c2 := box_cell g 2 _ rfl
      have HB := Lib.hid hb'
      clear hb hb' g
      go_wp2_with fail
      refine (implFmt_at _ ha (by omega) (by omega) (HT.out.keep HB.out)).mono ?_
      rintro e w2 ⟨rfl, hb⟩
      replace HB := Lib.hid (HB.out.trans (hb.mono HB.out.size))
      clear hb
      go_wp2
      go_ret2
      exact ⟨ret_sb ha.symm, HB.out⟩
    · obtain ⟨sa, ha, hna⟩ := sig_short (n := a) (by omega) (by omega)
      go_enter Tryz.func76, Tryz.ntmps76
      go_wp2_with fail
      refine (hcall _).mono ?_
      rintro e w1 ⟨rfl, hb⟩
      obtain ⟨g, hb'⟩ := box1 hb
      have c0 := box_cell g 0 _ rfl
      have c1 := box_cell g 1 _ rfl
      have c2 := box_cell g 2 _ rfl
      have HB := Lib.hid hb'
      clear hb hb' g
      go_wp2_with fail
      refine (sigText_any _ _ ha (by omega) (by omega) (HT.out.keep HB.out)).mono ?_
      rintro e w2 ⟨rfl, hb⟩
      replace HB := Lib.hid (HB.out.trans (hb.mono HB.out.size))
      clear hb
      go_wp2
      go_ret2
      exact ⟨ret_sb ha.symm, HB.out⟩
    · obtain ⟨sa, ha, hna⟩ := sig_short (n := a) (by omega) (by omega)
      obtain ⟨sb, hb0, hnb⟩ := itoa_short (n := b) (by omega) (by omega)
      go_enter Tryz.func76, Tryz.ntmps76
      go_wp2_with fail
      refine (hcall _).mono ?_
      rintro e w1 ⟨rfl, hb⟩
      obtain ⟨g, hb'⟩ := box1 hb
      have c0 := box_cell g 0 _ rfl
      have c1 := box_cell g 1 _ rfl
      have c2 := box_cell g 2 _ rfl
      have HB := Lib.hid hb'
      clear hb hb' g
      have HT1 := Lib.hid (HT.out.keep HB.out)
      have hf1 : ∀ (d : Nat) (os : Array Obj), Calls Tryz.prog 51 #[.int .i64 b] (Sort.grow (redrawn w1 d) os) fun e w' => e = .returned (.string sb) ∧ Below (Sort.grow (redrawn w1 d) os).heap.size (Sort.grow (redrawn w1 d) os) w' := fun d os => implFmt_at _ hb0 (by omega) (by omega) (HT1.out.keep (below_regrown _ _ _))
      have hf2 : ∀ (d : Nat) (os : Array Obj), Calls Tryz.prog 78 #[.int .i64 a] (Sort.grow (redrawn w1 d) os) fun e w' => e = .returned (.string sa) ∧ Below (Sort.grow (redrawn w1 d) os).heap.size (Sort.grow (redrawn w1 d) os) w' := fun d os => sigText_any _ _ ha (by omega) (by omega) (HT1.out.keep (below_regrown _ _ _))
      have HF1 := Lib.hid hf1
      have HF2 := Lib.hid hf2
      clear hf1 hf2
      go_wp2
      replace c1 := cell_regrown c1
      replace c2 := cell_regrown c2
      clear c0
      refine wp_region_quiet_below (by kernel_rfl) (by kernel_rfl) ?_
      repeat (go_big_quiet_step (first | (go_at_call 51; refine Calls.regrown_of (HF1.out _ _)) | (go_at_call 78; refine Calls.regrown_of (HF2.out _ _))))
      refine wpQuiet_nil ?_
      intro _ hw'
      obtain ⟨⟨dq, osq⟩, hw''⟩ := hw'
      subst hw''
      go_wp2
      go_ret2
      exact ⟨ret_sb (by subst ha; subst hb0; exact bytes_eq (by simp [tx, opTextL])), bThen HB.out (below_regrown _ _ _)⟩
    · rcases hk with rfl | rfl | rfl | rfl | rfl | rfl | rfl | rfl | rfl | rfl
      all_goals
        go_enter Tryz.func76, Tryz.ntmps76
        go_wp2_with fail
        refine (hcall _).mono ?_
        rintro e w1 ⟨rfl, hb⟩
        obtain ⟨g, hb'⟩ := box1 hb
        have c0 := box_cell g 0 _ rfl
        have c1 := box_cell g 1 _ rfl
        have c2 := box_cell g 2 _ rfl
        have HB := Lib.hid hb'
        clear hb hb' g
        go_wp2
        go_ret2
        exact ⟨ret_sb (bytes_eq (by decide)), HB.out⟩

theorem specText_at (o : DOp) {s : ByteArray} {d : Bool} (w : World) (h : opTextS o = s) (hd : opB 30 o = d) :
    Calls Tryz.prog 20 #[.agg #[.int .i64 o.1, .int .i64 o.2.1, .int .i64 o.2.2]] w fun e w' => e = .returned (.tuple #[.string s, .bool d]) ∧ Below w.heap.size w w' := by subst h; subst hd; exact specText_any _ _ _ w
theorem implText_at (o : DOp) {s : ByteArray} {d : Bool} (w : World) (h : opTextS o = s) (hd : opB 30 o = d) (ht : PowTab w) :
    Calls Tryz.prog 76 #[.agg #[.int .i64 o.1, .int .i64 o.2.1, .int .i64 o.2.2]] w fun e w' => e = .returned (.tuple #[.string s, .bool d]) ∧ Below w.heap.size w w' := by subst h; subst hd; exact implText_any _ _ _ w ht
end Go.Proofs.YtdfcbccpdflbfaaGreatDoor
