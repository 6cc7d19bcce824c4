/-
  The walk of FnRamReads.
-/
import Derived.Test.YtaebiiopommhdaaNr1
import Derived.Test.YtaebiiopommhdaaAt
namespace Go.Proofs.Ytaebiiopommhdaa
open Go.RowKit
set_option linter.unusedVariables false
set_option linter.unusedSimpArgs false

structure RamF (s a d wr rd ot pl u z h : Nat) : Prop where
  w : ramI (s : Int) ((a : Int) + 4 * d + 8) = (wr : Int)
  r : ramI (wr : Int) (a : Int) = (rd : Int)
  o : ramI (wr : Int) (((a + 1) % 4 : Nat) : Int) = (ot : Int)
  p : ramI (s : Int) (((a + 1) % 4 : Nat) : Int) = (pl : Int)
  w32 : wr < 32
  wu : wr % 2 = u
  su : s / 2 ^ (a + 1) % 2 = u
  rdd : rd % 2 = d
  oz : ot % 2 = z
  pz : pl % 2 = z
  rh : rd / 2 = h
  wh : wr / 2 = h
theorem ramF {s a d : Nat} (hs : s < 32) (ha : a < 4) (hd : d < 2) : ∃ wr rd ot pl u z h, RamF s a d wr rd ot pl u z h := by
  have hq := of_decide_eq_true (ramReads_all ⟨s, hs⟩ ⟨a, ha⟩ ⟨d, hd⟩)
  dsimp only at hq
  have i1 := ramI_in (v := (s : Int)) (by omega) (by omega) ((a : Int) + 4 * d + 8)
  obtain ⟨wr, hw⟩ : ∃ wr : Nat, ramI (s : Int) ((a : Int) + 4 * d + 8) = (wr : Int) := ⟨_, (Int.toNat_of_nonneg i1.1).symm⟩
  have em : ((a : Int) + 1) % 4 = (((a + 1) % 4 : Nat) : Int) := by omega
  rw [hw, em, Int.toNat_natCast] at hq
  rw [hw] at i1
  have i2 := ramI_in (v := (wr : Int)) i1.1 i1.2 (a : Int)
  have i3 := ramI_in (v := (wr : Int)) i1.1 i1.2 (((a + 1) % 4 : Nat) : Int)
  have i4 := ramI_in (v := (s : Int)) (by omega) (by omega) (((a + 1) % 4 : Nat) : Int)
  obtain ⟨rd, hr⟩ : ∃ rd : Nat, ramI (wr : Int) (a : Int) = (rd : Int) := ⟨_, (Int.toNat_of_nonneg i2.1).symm⟩
  obtain ⟨ot, ho⟩ : ∃ ot : Nat, ramI (wr : Int) (((a + 1) % 4 : Nat) : Int) = (ot : Int) := ⟨_, (Int.toNat_of_nonneg i3.1).symm⟩
  obtain ⟨pl, hp⟩ : ∃ pl : Nat, ramI (s : Int) (((a + 1) % 4 : Nat) : Int) = (pl : Int) := ⟨_, (Int.toNat_of_nonneg i4.1).symm⟩
  rw [hr, ho, hp] at hq
  obtain ⟨q1, q2, q3, q4⟩ := hq
  have e1 : (s : Int) / 2 ^ (a + 1) % 2 = ((s / 2 ^ (a + 1) % 2 : Nat) : Int) := by rw [Int.natCast_emod, Int.natCast_ediv, Int.natCast_pow]; rfl
  rw [e1] at q1
  exact ⟨wr, rd, ot, pl, wr % 2, ot % 2, rd / 2, hw, hr, ho, hp, by omega, rfl, by omega, by omega, rfl, by omega, rfl, by omega⟩
theorem seq_ram {v : Nat} (h : v < 32) (x : Int) : seqI 1 (v : Int) x = ramI (v : Int) x := by
  unfold seqI
  rw [if_neg (by omega), if_pos ⟨rfl, by omega, by omega⟩]
set_option maxRecDepth 100000 in
set_option maxHeartbeats 6400000 in
theorem ramReads_walk (a : Option Addr) (len cap : Nat) (zs : List Int) (w : World) (hw : IsRow .u8 w a len cap zs) :
    Calls Try.prog 4 #[.slice a len cap] w fun e w' => e = .returned (.bool true) ∧ Below w.heap.size w w' := by
  have HCD := Lib.hid hw.codeW
  clear hw
  by_cases hbig : 1048576 < (len : Int)
  · go_enter Try.func4, Try.ntmps4
    go_wp2_with fail
    refine (big_any a len cap _).mono ?_
    rw [decide_eq_true (by omega)]
    rintro e w1 ⟨rfl, rfl⟩
    go_wp2
    go_ret
    exact ⟨rfl, Below.refl _ _⟩
  obtain ⟨x0, hx0, at0⟩ := at_ex a len cap 0 w HCD.out (by omega)
  obtain ⟨x1, hx1, at1⟩ := at_ex a len cap 1 w HCD.out (by omega)
  obtain ⟨x2, hx2, at2⟩ := at_ex a len cap 2 w HCD.out (by omega)
  have HA0 := Lib.hid at0
  have HA1 := Lib.hid at1
  have HA2 := Lib.hid at2
  clear at0 at1 at2
  obtain ⟨s, hs, hs32⟩ : ∃ s, x0 % 32 = s ∧ s < 32 := ⟨_, rfl, by omega⟩
  obtain ⟨av, ha, ha4⟩ : ∃ av, x1 % 4 = av ∧ av < 4 := ⟨_, rfl, by omega⟩
  obtain ⟨d, hd, hd2⟩ : ∃ d, x2 % 2 = d ∧ d < 2 := ⟨_, rfl, by omega⟩
  have es : (x0 : Int) % 32 = (s : Int) := by omega
  have ed : (x2 : Int) % 2 = (d : Int) := by omega
  obtain ⟨wr, rd, ot, pl, u, z, h, hF⟩ := ramF hs32 ha4 hd2
  have wr32 := hF.w32
  have b1 := and_one (wr : Int)
  rw [show (wr : Int) % 2 = (u : Int) by have := hF.wu; omega] at b1
  have b3 := and_one (rd : Int)
  rw [show (rd : Int) % 2 = (d : Int) by have := hF.rdd; omega] at b3
  have b4 := and_one (ot : Int)
  rw [show (ot : Int) % 2 = (z : Int) by have := hF.oz; omega] at b4
  have b5 := and_one (pl : Int)
  rw [show (pl : Int) % 2 = (z : Int) by have := hF.pz; omega] at b5
  have h1 : (rd : Int) / 2 = (h : Int) := by have := hF.rh; omega
  have h2 : (wr : Int) / 2 = (h : Int) := by have := hF.wh; omega
  have hsu : (s : Int) / 2 ^ (av + 1) % 2 = (u : Int) := by rw [← hF.su, Int.natCast_emod, Int.natCast_ediv, Int.natCast_pow]; rfl
  have HF := Lib.hid hF
  clear hF hs hd
  rcases (by omega : av = 0 ∨ av = 1 ∨ av = 2 ∨ av = 3) with rfl | rfl | rfl | rfl
  · have ea : (x1 : Int) % 4 = 0 := by omega
    have b2 := and_one ((s : Int) / 2)
    rw [show (s : Int) / 2 % 2 = (u : Int) from hsu] at b2
    have HB := Lib.hid (Below.refl w.heap.size w)
    clear ha hsu
    go_enter Try.func4, Try.ntmps4
    go_wp2_with fail
    refine (big_any a len cap _).mono ?_
    rw [decide_eq_false (by omega)]
    rintro e w1 ⟨rfl, rfl⟩
    go_wp2_with fail
    refine (HA0.out _ HB.out).mono ?_
    rintro e w2 ⟨rfl, hb⟩
    replace HB := Lib.hid (bThen HB.out hb)
    clear hb
    go_wp2_with fail
    refine (HA1.out _ HB.out).mono ?_
    rintro e w2 ⟨rfl, hb⟩
    replace HB := Lib.hid (bThen HB.out hb)
    clear hb
    go_wp2_with fail
    refine (HA2.out _ HB.out).mono ?_
    rintro e w2 ⟨rfl, hb⟩
    replace HB := Lib.hid (bThen HB.out hb)
    clear hb
    go_wp2_with fail
    refine (implSeq_at 1 s (4 * (d : Int) + 8) _ ((seq_ram hs32 _).trans ((congrArg (ramI (s : Int)) (by omega)).trans HF.out.w))).mono ?_
    rintro e w2 ⟨rfl, hb⟩
    replace HB := Lib.hid (bThen HB.out hb)
    clear hb
    go_wp2_with fail
    refine (implSeq_at 1 wr 0 _ ((seq_ram wr32 _).trans HF.out.r)).mono ?_
    rintro e w2 ⟨rfl, hb⟩
    replace HB := Lib.hid (bThen HB.out hb)
    clear hb
    go_wp2_with fail
    refine (implSeq_at 1 wr 1 _ ((seq_ram wr32 _).trans HF.out.o)).mono ?_
    rintro e w2 ⟨rfl, hb⟩
    replace HB := Lib.hid (bThen HB.out hb)
    clear hb
    go_wp2_with fail
    refine (implSeq_at 1 s 1 _ ((seq_ram hs32 _).trans HF.out.p)).mono ?_
    rintro e w2 ⟨rfl, hb⟩
    replace HB := Lib.hid (bThen HB.out hb)
    clear hb
    go_wp2_with fail
    refine (implSeq_at 0 0 1 _ (show seqI 0 0 1 = 1 by decide)).mono ?_
    rintro e w2 ⟨rfl, hb⟩
    replace HB := Lib.hid (bThen HB.out hb)
    clear hb
    go_wp2
    go_ret
    exact ⟨rfl, HB.out⟩
  · have ea : (x1 : Int) % 4 = 1 := by omega
    have b2 := and_one ((s : Int) / 4)
    rw [show (s : Int) / 4 % 2 = (u : Int) from hsu] at b2
    have HB := Lib.hid (Below.refl w.heap.size w)
    clear ha hsu
    go_enter Try.func4, Try.ntmps4
    go_wp2_with fail
    refine (big_any a len cap _).mono ?_
    rw [decide_eq_false (by omega)]
    rintro e w1 ⟨rfl, rfl⟩
    go_wp2_with fail
    refine (HA0.out _ HB.out).mono ?_
    rintro e w2 ⟨rfl, hb⟩
    replace HB := Lib.hid (bThen HB.out hb)
    clear hb
    go_wp2_with fail
    refine (HA1.out _ HB.out).mono ?_
    rintro e w2 ⟨rfl, hb⟩
    replace HB := Lib.hid (bThen HB.out hb)
    clear hb
    go_wp2_with fail
    refine (HA2.out _ HB.out).mono ?_
    rintro e w2 ⟨rfl, hb⟩
    replace HB := Lib.hid (bThen HB.out hb)
    clear hb
    go_wp2_with fail
    refine (implSeq_at 1 s (1 + 4 * (d : Int) + 8) _ ((seq_ram hs32 _).trans ((congrArg (ramI (s : Int)) (by omega)).trans HF.out.w))).mono ?_
    rintro e w2 ⟨rfl, hb⟩
    replace HB := Lib.hid (bThen HB.out hb)
    clear hb
    go_wp2_with fail
    refine (implSeq_at 1 wr 1 _ ((seq_ram wr32 _).trans HF.out.r)).mono ?_
    rintro e w2 ⟨rfl, hb⟩
    replace HB := Lib.hid (bThen HB.out hb)
    clear hb
    go_wp2_with fail
    refine (implSeq_at 1 wr 2 _ ((seq_ram wr32 _).trans HF.out.o)).mono ?_
    rintro e w2 ⟨rfl, hb⟩
    replace HB := Lib.hid (bThen HB.out hb)
    clear hb
    go_wp2_with fail
    refine (implSeq_at 1 s 2 _ ((seq_ram hs32 _).trans HF.out.p)).mono ?_
    rintro e w2 ⟨rfl, hb⟩
    replace HB := Lib.hid (bThen HB.out hb)
    clear hb
    go_wp2_with fail
    refine (implSeq_at 0 0 1 _ (show seqI 0 0 1 = 1 by decide)).mono ?_
    rintro e w2 ⟨rfl, hb⟩
    replace HB := Lib.hid (bThen HB.out hb)
    clear hb
    go_wp2
    go_ret
    exact ⟨rfl, HB.out⟩
  · have ea : (x1 : Int) % 4 = 2 := by omega
    have b2 := and_one ((s : Int) / 8)
    rw [show (s : Int) / 8 % 2 = (u : Int) from hsu] at b2
    have HB := Lib.hid (Below.refl w.heap.size w)
    clear ha hsu
    go_enter Try.func4, Try.ntmps4
    go_wp2_with fail
    refine (big_any a len cap _).mono ?_
    rw [decide_eq_false (by omega)]
    rintro e w1 ⟨rfl, rfl⟩
    go_wp2_with fail
    refine (HA0.out _ HB.out).mono ?_
    rintro e w2 ⟨rfl, hb⟩
    replace HB := Lib.hid (bThen HB.out hb)
    clear hb
    go_wp2_with fail
    refine (HA1.out _ HB.out).mono ?_
    rintro e w2 ⟨rfl, hb⟩
    replace HB := Lib.hid (bThen HB.out hb)
    clear hb
    go_wp2_with fail
    refine (HA2.out _ HB.out).mono ?_
    rintro e w2 ⟨rfl, hb⟩
    replace HB := Lib.hid (bThen HB.out hb)
    clear hb
    go_wp2_with fail
    refine (implSeq_at 1 s (2 + 4 * (d : Int) + 8) _ ((seq_ram hs32 _).trans ((congrArg (ramI (s : Int)) (by omega)).trans HF.out.w))).mono ?_
    rintro e w2 ⟨rfl, hb⟩
    replace HB := Lib.hid (bThen HB.out hb)
    clear hb
    go_wp2_with fail
    refine (implSeq_at 1 wr 2 _ ((seq_ram wr32 _).trans HF.out.r)).mono ?_
    rintro e w2 ⟨rfl, hb⟩
    replace HB := Lib.hid (bThen HB.out hb)
    clear hb
    go_wp2_with fail
    refine (implSeq_at 1 wr 3 _ ((seq_ram wr32 _).trans HF.out.o)).mono ?_
    rintro e w2 ⟨rfl, hb⟩
    replace HB := Lib.hid (bThen HB.out hb)
    clear hb
    go_wp2_with fail
    refine (implSeq_at 1 s 3 _ ((seq_ram hs32 _).trans HF.out.p)).mono ?_
    rintro e w2 ⟨rfl, hb⟩
    replace HB := Lib.hid (bThen HB.out hb)
    clear hb
    go_wp2_with fail
    refine (implSeq_at 0 0 1 _ (show seqI 0 0 1 = 1 by decide)).mono ?_
    rintro e w2 ⟨rfl, hb⟩
    replace HB := Lib.hid (bThen HB.out hb)
    clear hb
    go_wp2
    go_ret
    exact ⟨rfl, HB.out⟩
  · have ea : (x1 : Int) % 4 = 3 := by omega
    have b2 := and_one ((s : Int) / 16)
    rw [show (s : Int) / 16 % 2 = (u : Int) from hsu] at b2
    have HB := Lib.hid (Below.refl w.heap.size w)
    clear ha hsu
    go_enter Try.func4, Try.ntmps4
    go_wp2_with fail
    refine (big_any a len cap _).mono ?_
    rw [decide_eq_false (by omega)]
    rintro e w1 ⟨rfl, rfl⟩
    go_wp2_with fail
    refine (HA0.out _ HB.out).mono ?_
    rintro e w2 ⟨rfl, hb⟩
    replace HB := Lib.hid (bThen HB.out hb)
    clear hb
    go_wp2_with fail
    refine (HA1.out _ HB.out).mono ?_
    rintro e w2 ⟨rfl, hb⟩
    replace HB := Lib.hid (bThen HB.out hb)
    clear hb
    go_wp2_with fail
    refine (HA2.out _ HB.out).mono ?_
    rintro e w2 ⟨rfl, hb⟩
    replace HB := Lib.hid (bThen HB.out hb)
    clear hb
    go_wp2_with fail
    refine (implSeq_at 1 s (3 + 4 * (d : Int) + 8) _ ((seq_ram hs32 _).trans ((congrArg (ramI (s : Int)) (by omega)).trans HF.out.w))).mono ?_
    rintro e w2 ⟨rfl, hb⟩
    replace HB := Lib.hid (bThen HB.out hb)
    clear hb
    go_wp2_with fail
    refine (implSeq_at 1 wr 3 _ ((seq_ram wr32 _).trans HF.out.r)).mono ?_
    rintro e w2 ⟨rfl, hb⟩
    replace HB := Lib.hid (bThen HB.out hb)
    clear hb
    go_wp2_with fail
    refine (implSeq_at 1 wr 0 _ ((seq_ram wr32 _).trans HF.out.o)).mono ?_
    rintro e w2 ⟨rfl, hb⟩
    replace HB := Lib.hid (bThen HB.out hb)
    clear hb
    go_wp2_with fail
    refine (implSeq_at 1 s 0 _ ((seq_ram hs32 _).trans HF.out.p)).mono ?_
    rintro e w2 ⟨rfl, hb⟩
    replace HB := Lib.hid (bThen HB.out hb)
    clear hb
    go_wp2_with fail
    refine (implSeq_at 0 0 1 _ (show seqI 0 0 1 = 1 by decide)).mono ?_
    rintro e w2 ⟨rfl, hb⟩
    replace HB := Lib.hid (bThen HB.out hb)
    clear hb
    go_wp2
    go_ret
    exact ⟨rfl, HB.out⟩
end Go.Proofs.Ytaebiiopommhdaa
