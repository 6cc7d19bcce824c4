/-
  The lines of a module: the reference's FormatModule.
-/
import Derived.Test.YtdfcbccpdflbfaaGreatDoorTxMath
import Derived.Test.YtdfcbccpdflbfaaGreatDoorAppS
import Derived.Test.YtdfcbccpdflbfaaGreatDoorSMod
import Derived.Test.YtdfcbccpdflbfaaGreatDoorIOpTx
import Derived.Deep.CutRange
import Derived.Deep.RegionHeld3
import Derived.BigQuiet
import Derived.Lib.QuietBelow
namespace Go.Proofs.YtdfcbccpdflbfaaGreatDoor
open Go.RowKit
set_option linter.unusedVariables false
set_option linter.unusedSimpArgs false

theorem specNum_at {n : Int} {s : ByteArray} (w : World) (h : numB n = s) (h0 : 0 ≤ n) (h1 : n ≤ 1000000000) :
    Calls Tryz.prog 19 #[.int .i64 n] w fun e w' => e = .returned (.string s) ∧ Below w.heap.size w w' := specFmt_at w h h0 h1
theorem specWid_at {n : Int} {s : ByteArray} (w : World) (h : widB n = s) (h0 : 0 ≤ n) (h1 : n ≤ 1000000000) :
    Calls Tryz.prog 18 #[.int .i64 n] w fun e w' => e = .returned (.string s) ∧ Below w.heap.size w w' := by
  by_cases hn : n = 0
  · subst hn
    subst h
    go_enter Tryz.func18, Tryz.ntmps18
    go_wp2
    go_ret
    exact ⟨rfl, by (repeat' (first | assumption | exact Below.refl _ _ | refine bDrewN ?_ _ | refine Below.drew ?_ | refine bAlloc ?_ (Nat.le_refl _) _ | refine bSet ?_ (by first | exact Nat.le_refl _ | omega | (simp <;> omega)) _))⟩
  · rw [show widB n = numB n from if_neg hn] at h
    go_enter Tryz.func18, Tryz.ntmps18
    go_wp2_with fail
    refine (specNum_at _ h h0 h1).mono ?_
    rintro e w1 ⟨rfl, hb⟩
    go_wp2
    go_ret
    exact ⟨rfl, by first | exact hb | (repeat' (first | assumption | exact Below.refl _ _ | refine bDrewN ?_ _ | refine Below.drew ?_ | refine bAlloc ?_ (Nat.le_refl _) _ | refine bSet ?_ (by first | exact Nat.le_refl _ | omega | (simp <;> omega)) _))⟩
def FmtPost (z : DDesign) (k : Int) (w : World) (e : Ending) (w' : World) : Prop := ∃ v, e = .returned (.tuple #[v, .bool (moduleB z k)]) ∧ OwnsS w' w.heap.size v (if moduleB z k = true then modT ((z[k.toNat]?).getD ([], [], [], [])) else []) ∧ Below w.heap.size w w'
theorem FmtPost.no {z : DDesign} {k : Int} {w w' : World} {v : Value} (h : moduleB z k = false) (ho : OwnsS w' w.heap.size v []) (hb : Below w.heap.size w w') : FmtPost z k w (.returned (.tuple #[v, .bool false])) w' := ⟨v, by rw [h], by rw [h]; exact ho, hb⟩
theorem FmtPost.yes {z : DDesign} {K : Nat} {m : DModule} {w w' : World} {v : Value} (h : moduleB z K = true) (hm : z[K]? = some m) (ho : OwnsS w' w.heap.size v (modT m)) (hb : Below w.heap.size w w') : FmtPost z K w (.returned (.tuple #[v, .bool true])) w' :=
  ⟨v, by rw [h], by rw [h, if_pos rfl, Int.toNat_natCast, hm]; exact ho, hb⟩

set_option maxRecDepth 100000 in
set_option maxHeartbeats 25600000 in
theorem specFmtMod_any (z : DDesign) (k : Int) (us : List Value) {B T : Nat} (w : World) (hd : rdDesign B T w us z) (hT : T ≤ w.heap.size) :
    Calls Tryz.prog 6 #[.agg us.toArray, .int .i64 k] w (FmtPost z k w) := by
  obtain ⟨i0, hi, hz0, hz1, hz2⟩ := info_parts infoStr
  have HI := Lib.hid (And.intro hi (And.intro hz0 (And.intro hz1 hz2)))
  have HD := Lib.hid hd
  obtain ⟨du, rfl, dh⟩ := hd
  obtain ⟨dA, dq, de, dm, dk⟩ := dh
  injection de with de
  subst de
  unfold maxLen at dm
  have DE := Lib.hid dk
  obtain ⟨r, hr⟩ : ∃ r, moduleB z k = r := ⟨_, rfl⟩
  have HR := Lib.hid hr
  clear hi hz0 hz1 hz2 dk hr
  go_enter Tryz.func6, Tryz.ntmps6
  go_wp2_with fail
  refine (specModule_at z k _ _ (good_Design.below HD.out hT (by (repeat' (first | assumption | exact Below.refl _ _ | refine bDrewN ?_ _ | refine Below.drew ?_ | refine bAlloc ?_ (Nat.le_refl _) _ | refine bSet ?_ (by first | exact Nat.le_refl _ | omega | (simp <;> omega)) _)))) (by simp <;> omega) HR.out).mono ?_
  rintro e w1 ⟨rfl, hb⟩
  have g := box1 hb
  have d0 : w1.cell? ⟨w.heap.size, 0, none⟩ = some (.slice dA z.length dq) := box_cell g.1 0 _ rfl
  have HW1 := Lib.hid g.2
  clear hb g
  cases r with
  | false =>
    go_wp2
    go_ret2
    exact FmtPost.no HR.out (own_newS' w1 _ HW1.out.size) (bAlloc HW1.out (Nat.le_refl _) _)
  | true =>
    obtain ⟨K, m, rfl, hK, hd4, hzm, hf⟩ := modFit_of HR.out
    have HFIT := Lib.hid hf
    have HZM := Lib.hid hzm
    have hl0 := hf.l0
    have hl1 := hf.l1
    have hl2 := hf.l2
    have hl3 := hf.l3
    clear hf
    have dlt : w.heap.size < w1.heap.size := World.block_lt_of_cell? _ _ d0
    obtain ⟨mb, mo, me, _, _, mus, _, mhc, mhr⟩ := DE.out K hK
    rw [(List.getElem?_eq_some_iff.1 hzm).2] at mhr
    clear hzm
    subst me
    obtain ⟨mu0, mu1, mu2, mu3, rfl, mh0, mh1, mh2, mh3⟩ := mhr
    obtain ⟨mA0, mq0, mf0, mm0, mk0⟩ := mh0
    injection mf0 with mf0
    subst mf0
    unfold maxLen at mm0
    have mE0 := Lib.hid mk0
    clear mk0
    obtain ⟨mA1, mq1, mf1, mm1, mk1⟩ := mh1
    injection mf1 with mf1
    subst mf1
    unfold maxLen at mm1
    have mE1 := Lib.hid mk1
    clear mk1
    obtain ⟨mA2, mq2, mf2, mm2, mk2⟩ := mh2
    injection mf2 with mf2
    subst mf2
    unfold maxLen at mm2
    have mE2 := Lib.hid mk2
    clear mk2
    obtain ⟨mA3, mq3, mf3, mm3, mk3⟩ := mh3
    injection mf3 with mf3
    subst mf3
    unfold maxLen at mm3
    have mE3 := Lib.hid mk3
    clear mk3
    have mc0 : w1.cell? ⟨mb, mo + K * 4, none⟩ = some (.slice mA0 (m.1).length mq0) := keep HW1.out (mhc 0 _ rfl)
    have mc1 : w1.cell? ⟨mb, mo + K * 4 + 1, none⟩ = some (.slice mA1 (m.2.1).length mq1) := keep HW1.out (mhc 1 _ rfl)
    have mc2 : w1.cell? ⟨mb, mo + K * 4 + 2, none⟩ = some (.slice mA2 (m.2.2.1).length mq2) := keep HW1.out (mhc 2 _ rfl)
    have mc3 : w1.cell? ⟨mb, mo + K * 4 + 3, none⟩ = some (.slice mA3 (m.2.2.2).length mq3) := keep HW1.out (mhc 3 _ rfl)
    have mlt : mb < w1.heap.size := World.block_lt_of_cell? _ _ mc0
    clear mhc
    go_wp2_with fail
    obtain ⟨V, hV⟩ : ∃ V, V = w1.alloc (.cells #[.slice mA0 (m.1).length mq0, .slice mA1 (m.2.1).length mq1, .slice mA2 (m.2.2.1).length mq2, .slice mA3 (m.2.2.2).length mq3] 48) := ⟨_, rfl⟩
    rw [← hV]
    have g := eqbox1 hV
    have e0 : V.cell? ⟨w1.heap.size, 0, none⟩ = some (.slice mA0 (m.1).length mq0) := box_cell g.1 0 _ rfl
    have e1 : V.cell? ⟨w1.heap.size, 1, none⟩ = some (.slice mA1 (m.2.1).length mq1) := box_cell g.1 1 _ rfl
    have e2 : V.cell? ⟨w1.heap.size, 2, none⟩ = some (.slice mA2 (m.2.2.1).length mq2) := box_cell g.1 2 _ rfl
    have e3 : V.cell? ⟨w1.heap.size, 3, none⟩ = some (.slice mA3 (m.2.2.2).length mq3) := box_cell g.1 3 _ rfl
    have hvs : V.heap.size = w1.heap.size + 1 := by rw [hV]; simp
    have HV := Lib.hid (bThen HW1.out g.2)
    clear hV g mc0 mc1 mc2 mc3 mlt dlt d0
    obtain ⟨L0, hL0⟩ : ∃ L, L = [(⟨#[109, 111, 100, 117, 108, 101]⟩ : ByteArray)] := ⟨_, rfl⟩
    have p0 : L0.length ≤ 1 := by rw [hL0]; show (1 : Nat) ≤ 1; omega
    have HO := Lib.hid (show OwnsS (V.alloc (.cells #[.string ⟨#[109, 111, 100, 117, 108, 101]⟩] 9)) V.heap.size (.slice (some ⟨w1.heap.size + 1, 0, none⟩) 1 1) L0 by rw [hL0, ← hvs]; exact own_new1S V V.heap.size (Nat.le_refl _) _)
    have HB := Lib.hid (show Below V.heap.size V (V.alloc (.cells #[.string ⟨#[109, 111, 100, 117, 108, 101]⟩] 9)) by (repeat' (first | assumption | exact Below.refl _ _ | refine bDrewN ?_ _ | refine Below.drew ?_ | refine bAlloc ?_ (Nat.le_refl _) _ | refine bSet ?_ (by first | exact Nat.le_refl _ | omega | (simp <;> omega)) _)))
    clear hvs
    go_wp2
    go_loopw [7, 8] (fun l v wr => ∃ (i : Nat) (L : List ByteArray), i ≤ m.1.length ∧ v = .int .i64 i ∧ L = L0 ++ (m.1.take i).map sigT ∧ OwnsS wr V.heap.size l L ∧ Below V.heap.size V wr) (fun _ v _ => m.1.length - (intOf v).toNat)
    case atStart => exact ⟨0, _, Nat.zero_le _, rfl, by simp, HO.out, HB.out⟩
    case round =>
      obtain ⟨i, L1, hi, rfl, hL, ho, hb⟩ := hrel
      obtain ⟨W0, rfl⟩ : ∃ W, W = wr := ⟨_, rfl⟩
      replace HO := Lib.hid ho
      replace HB := Lib.hid hb
      have p1 : L1.length ≤ 31 := by rw [hL, List.length_append, List.length_map, List.length_take]; omega
      have HL0 := Lib.hid hL
      have HW := Lib.hid (bThen HV.out hb)
      have e0' := keep hb e0
      have e1' := keep hb e1
      have e2' := keep hb e2
      have e3' := keep hb e3
      have hsz := hb.size
      clear ho hb hL
      by_cases hlt : i < m.1.length
      · have elt : w1.heap.size < W0.heap.size := World.block_lt_of_cell? _ _ e0'
        obtain ⟨xb, xo, xe, _, _, xus, _, xhc, xhr⟩ := mE0.out i hlt
        obtain ⟨x, xx⟩ : ∃ x, m.1[i]'hlt = x := ⟨_, rfl⟩
        have xx? : m.1[i]? = some x := by rw [List.getElem?_eq_getElem hlt, xx]
        rw [xx] at xhr
        subst xe
        have HXR := Lib.hid xhr
        obtain ⟨xu0, xu1, xu2, rfl, xh0, xh1, xh2⟩ := xhr
        obtain ⟨xf0, -⟩ := xh0
        injection xf0 with xf0
        subst xf0
        obtain ⟨xf1, -⟩ := xh1
        injection xf1 with xf1
        subst xf1
        obtain ⟨xf2, -⟩ := xh2
        injection xf2 with xf2
        subst xf2
        have xc0 : W0.cell? ⟨xb, xo + i * 3, none⟩ = some (.int .i64 x.1) := keep HW.out (xhc 0 _ rfl)
        have xc1 : W0.cell? ⟨xb, xo + i * 3 + 1, none⟩ = some (.int .i64 x.2.1) := keep HW.out (xhc 1 _ rfl)
        have xc2 : W0.cell? ⟨xb, xo + i * 3 + 2, none⟩ = some (.int .i64 x.2.2) := keep HW.out (xhc 2 _ rfl)
        have xlt : xb < W0.heap.size := World.block_lt_of_cell? _ _ xc0
        clear xhc xx
        have hf := HFIT.out.sig x (List.mem_of_getElem? xx?)
        obtain ⟨k, a, n⟩ := x
        dsimp only at xc0 xc1 xc2 hf
        have XQ := Lib.hid xx?
        obtain ⟨sw, hw1, hz1⟩ := widB_small (n := a) (by omega) (by omega)
        obtain ⟨sn, hw2, hz2⟩ := numB_small (n := n) (by omega) (by omega)
        clear xx? HXR
        go_wp2_with fail
        obtain ⟨U, hU⟩ : ∃ U, U = W0.alloc (.cells #[.int .i64 k, .int .i64 a, .int .i64 n] 50) := ⟨_, rfl⟩
        rw [← hU]
        have g := eqbox1 hU
        have y0 : U.cell? ⟨W0.heap.size, 0, none⟩ = some (.int .i64 k) := box_cell g.1 0 _ rfl
        have y1 : U.cell? ⟨W0.heap.size, 1, none⟩ = some (.int .i64 a) := box_cell g.1 1 _ rfl
        have y2 : U.cell? ⟨W0.heap.size, 2, none⟩ = some (.int .i64 n) := box_cell g.1 2 _ rfl
        have HBU := Lib.hid g.2
        have ylt : W0.heap.size < U.heap.size := World.block_lt_of_cell? _ _ y0
        clear hU g e0' e1' e2' e3' elt xc0 xc1 xc2 xlt
        obtain ⟨K, rfl⟩ : ∃ K : Nat, k = (K : Int) := ⟨k.toNat, by omega⟩
        have hK4 : (K : Int) < 4 := by omega
        have hK0 : (0 : Int) ≤ (K : Int) := by omega
        have hKn : K < 4 := by omega
        obtain ⟨sk, hk', hz0⟩ := kwB_small (K : Int)
        have hKa : (#[.string ⟨#[105, 110]⟩, .string ⟨#[111, 117, 116]⟩, .string ⟨#[119, 105, 114, 101]⟩, .string ⟨#[114, 101, 103]⟩] : Array Value)[K]? = some (.string sk) := by
          rw [← hk']
          match K, hKn with
          | 0, _ | 1, _ | 2, _ | 3, _ => rfl
        have hKl : ([.string ⟨#[105, 110]⟩, .string ⟨#[111, 117, 116]⟩, .string ⟨#[119, 105, 114, 101]⟩, .string ⟨#[114, 101, 103]⟩] : List Value)[K]? = some (.string sk) := by simpa using hKa
        obtain ⟨hKs, hKg⟩ := List.getElem?_eq_some_iff.1 hKl
        have HKN := Lib.hid (And.intro hk' hKn)
        have f0 : ¬ 9223372036854775807 < sk.size + 1 := by omega
        have f1 : ¬ 9223372036854775807 < sk.size + 1 + sw.size := by omega
        have hS : ∀ w', Below U.heap.size U w' → Below U.heap.size U w' ∧ w'.cell? ⟨W0.heap.size, 0, none⟩ = some (.int .i64 ↑K) ∧ w'.cell? ⟨W0.heap.size, 1, none⟩ = some (.int .i64 a) := fun w' h => ⟨h, keep h y0, keep h y1⟩
        clear hk'
        go_cut [10] from 44 to 53 (fun v wx => v = .string ((sk ++ ⟨#[32]⟩) ++ sw) ∧ Below U.heap.size U wx)
        case first =>
          go_region_law (first | (go_simp; go_at_call 18; refine (specWid_at _ hw1 (by omega) (by omega)).mono ?_; rintro e w1' ⟨rfl, hb⟩; have hc := fun p h => hb.cell (p := p) h; have HC := Lib.hid (show Below U.heap.size U w1' from bThen (by (repeat' (first | assumption | exact Below.refl _ _ | refine bDrewN ?_ _ | refine Below.drew ?_ | refine bAlloc ?_ (Nat.le_refl _) _ | refine bSet ?_ (by first | exact Nat.le_refl _ | omega | (simp <;> omega)) _))) hb); have q0 := keep HC.out y0; have q1 := keep HC.out y1; have q2 := World.block_lt_of_cell? _ _ q0; have hs := hb.size))
          all_goals (go_wp2_with fail; go_meet; exact ⟨rfl, by repeat' (first | exact HC.out | refine Below.drew ?_ | refine bAlloc ?_ (Nat.le_refl _) _)⟩)
        case rest =>
          obtain ⟨rfl, hbr⟩ := hcut
          obtain ⟨W7, hW7⟩ : ∃ W7, W7 = wc := ⟨_, rfl⟩
          rw [← hW7] at hbr ⊢
          clear hW7 hS hKa hKl hKg
          replace y0 := keep hbr y0
          replace y1 := keep hbr y1
          replace y2 := keep hbr y2
          have HBW := Lib.hid (bThen HBU.out hbr)
          clear hbr
          by_cases h3 : K = 3
          · subst h3
            have HS := Lib.hid (show sigT ((3 : Nat), a, n) = ((((sk ++ ⟨#[32]⟩) ++ sw) ++ ⟨#[32]⟩) ++ sn) by rw [← HKN.out.1, ← hw1, ← hw2]; rfl)
            go_wp2_with fail
            refine (specNum_at _ hw2 (by omega) (by omega)).mono ?_
            rintro e W8 ⟨rfl, hb8⟩
            replace HBW := Lib.hid (bThen HBW.out hb8)
            clear hb8 y0 y1 y2
            have HO9 := Lib.hid (HO.out.below HBW.out)
            have HB9 := Lib.hid (bThen HB.out HBW.out)
            have hsz9 := HB9.out.size
            go_wp2_with (refine wpList_append_lies _ rfl _ _ 26 (by rfl) V.heap.size 9 i0 _ 1 16 Tryz.underlying26 HI.out.1 HI.out.2.1 HI.out.2.2.1 HI.out.2.2.2 rfl (by omega) u7 L1.length _ (by rfl) (HO9.out.alloc _) ⟨W8.heap.size, 0, none⟩ 1 1 [.string ((((sk ++ ⟨#[32]⟩) ++ sw) ++ ⟨#[32]⟩) ++ sn)] (by rfl) (by rfl) (World.news_of_block (heap_alloc_new W8 _)) (by simp [Value.oneCell']) (by omega) (by unfold maxLen; omega) (by omega) (by simp; omega) (W8.heap.size + 1) (by simp) ?_; intro gg cap w9 hown2 hgrow2 hat2 hlt2)
            have R := own_addS HO9.out hsz9 HB9.out ((Below.refl _ _).alloc (Nat.le_refl _) _) hgrow2 hown2
            go_roundw
            case rel => exact ⟨i + 1, _, by omega, by go_num, map_step XQ.out HL0.out, by rw [HS.out]; exact R.1, R.2⟩
            case measure => simp [intOf]; omega
          · have b3 : ((K : Int) == 3) = false := by simp; omega
            have HS := Lib.hid (show sigT (↑K, a, n) = ((sk ++ ⟨#[32]⟩) ++ sw) by unfold sigT; dsimp only; rw [if_neg (by omega), HKN.out.1, hw1])
            have HO9 := Lib.hid (HO.out.below HBW.out)
            have HB9 := Lib.hid (bThen HB.out HBW.out)
            have hsz9 := HB9.out.size
            go_wp2_with (refine wpList_append_lies _ rfl _ _ 26 (by rfl) V.heap.size 9 i0 _ 1 16 Tryz.underlying26 HI.out.1 HI.out.2.1 HI.out.2.2.1 HI.out.2.2.2 rfl (by omega) u7 L1.length _ (by rfl) (HO9.out.alloc _) ⟨W7.heap.size, 0, none⟩ 1 1 [.string ((sk ++ ⟨#[32]⟩) ++ sw)] (by rfl) (by rfl) (World.news_of_block (heap_alloc_new W7 _)) (by simp [Value.oneCell']) (by omega) (by unfold maxLen; omega) (by omega) (by simp; omega) (W7.heap.size + 1) (by simp) ?_; intro gg cap w9 hown2 hgrow2 hat2 hlt2)
            have R := own_addS HO9.out hsz9 HB9.out ((Below.refl _ _).alloc (Nat.le_refl _) _) hgrow2 hown2
            go_roundw
            case rel => exact ⟨i + 1, _, by omega, by go_num, map_step XQ.out HL0.out, by rw [HS.out]; exact R.1, R.2⟩
            case measure => simp [intOf]; omega
      · obtain rfl : i = m.1.length := by omega
        rw [List.take_length] at HL0
        clear hlt
        go_wp2
        go_loopw [7, 11] (fun l v wr => ∃ (i : Nat) (L : List ByteArray), i ≤ m.2.1.length ∧ v = .int .i64 i ∧ L = L1 ++ (m.2.1.take i).map setT ∧ OwnsS wr V.heap.size l L ∧ Below V.heap.size V wr) (fun _ v _ => m.2.1.length - (intOf v).toNat)
        case atStart => exact ⟨0, _, Nat.zero_le _, rfl, by simp, HO.out, HB.out⟩
        case round =>
          obtain ⟨i, L2, hi, rfl, hL, ho, hb⟩ := hrel
          obtain ⟨W1, rfl⟩ : ∃ W, W = wr := ⟨_, rfl⟩
          replace HO := Lib.hid ho
          replace HB := Lib.hid hb
          have p2 : L2.length ≤ 61 := by rw [hL, List.length_append, List.length_map, List.length_take]; omega
          have HL1 := Lib.hid hL
          have HW := Lib.hid (bThen HV.out hb)
          have e0' := keep hb e0
          have e1' := keep hb e1
          have e2' := keep hb e2
          have e3' := keep hb e3
          have hsz := hb.size
          clear ho hb hL
          by_cases hlt : i < m.2.1.length
          · have elt : w1.heap.size < W1.heap.size := World.block_lt_of_cell? _ _ e0'
            obtain ⟨xb, xo, xe, _, _, xus, _, xhc, xhr⟩ := mE1.out i hlt
            obtain ⟨x, xx⟩ : ∃ x, m.2.1[i]'hlt = x := ⟨_, rfl⟩
            have xx? : m.2.1[i]? = some x := by rw [List.getElem?_eq_getElem hlt, xx]
            rw [xx] at xhr
            subst xe
            have HXR := Lib.hid xhr
            obtain ⟨xu0, xu1, rfl, xh0, xh1⟩ := xhr
            obtain ⟨xf0, -⟩ := xh0
            injection xf0 with xf0
            subst xf0
            obtain ⟨xA1, xq1, xf1, xm1, xk1⟩ := xh1
            injection xf1 with xf1
            subst xf1
            unfold maxLen at xm1
            have xE1 := Lib.hid xk1
            clear xk1
            have xc0 : W1.cell? ⟨xb, xo + i * 2, none⟩ = some (.int .i64 x.1) := keep HW.out (xhc 0 _ rfl)
            have xc1 : W1.cell? ⟨xb, xo + i * 2 + 1, none⟩ = some (.slice xA1 (x.2).length xq1) := keep HW.out (xhc 1 _ rfl)
            have xlt : xb < W1.heap.size := World.block_lt_of_cell? _ _ xc0
            clear xhc xx
            have hf := HFIT.out.asg x (List.mem_of_getElem? xx?)
            have XQ := Lib.hid xx?
            obtain ⟨s0, h0, z0⟩ := numB_small (n := x.1) (by omega) (by omega)
            obtain ⟨P, hP⟩ : ∃ P : ByteArray, ⟨#[115, 101, 116, 32, 115]⟩ ++ s0 = P := ⟨_, rfl⟩
            have zP : P.size ≤ 15 := by rw [← hP, ByteArray.size_append]; show 5 + s0.size ≤ 15; omega
            have HST := Lib.hid (show setT x = opsT P x.2 by unfold setT; rw [h0, hP])
            clear xx? HXR e0' e2' e3'
            go_wp2_with fail
            refine (specNum_at _ h0 (by omega) (by omega)).mono ?_
            rintro e W8 ⟨rfl, hb8⟩
            have e1'' := keep hb8 e1'
            have xc1' := keep hb8 xc1
            have HB8 := Lib.hid hb8
            clear hb8 e1' xc0 xc1 elt xlt
            go_wp2
            try simp only [hP]
            go_loopw [12, 13] (fun q v wr => ∃ j : Nat, j ≤ x.2.length ∧ v = .int .i64 j ∧ (∃ t : ByteArray, opsT P (x.2.take j) = t ∧ t.size ≤ 15 + 101 * j ∧ q = .string t) ∧ Below W8.heap.size W8 wr) (fun _ v _ => x.2.length - (intOf v).toNat)
            case atStart => exact ⟨0, Nat.zero_le _, rfl, ⟨_, rfl, by show P.size ≤ _; omega, rfl⟩, Below.refl _ _⟩
            case round =>
              obtain ⟨j, hj, rfl, ⟨q, hq, hz, rfl⟩, hb⟩ := hrel
              obtain ⟨wq, rfl⟩ : ∃ W, W = wr := ⟨_, rfl⟩
              have e1 := keep hb e1''
              have xc1 := keep hb xc1'
              have HBW := Lib.hid (bThen HB8.out hb)
              have HBj := Lib.hid hb
              have HWq := Lib.hid (bThen HW.out HBW.out)
              have HRq := Lib.hid hq
              clear hb hq
              by_cases hlj : j < x.2.length
              · skip
                obtain ⟨yb, yo, ye, _, _, yus, _, yhc, yhr⟩ := xE1.out j hlj
                obtain ⟨y, yx⟩ : ∃ y, x.2[j]'hlj = y := ⟨_, rfl⟩
                have yx? : x.2[j]? = some y := by rw [List.getElem?_eq_getElem hlj, yx]
                rw [yx] at yhr
                subst ye
                obtain ⟨yu0, yu1, yu2, rfl, yh0, yh1, yh2⟩ := yhr
                obtain ⟨yf0, -⟩ := yh0
                injection yf0 with yf0
                subst yf0
                obtain ⟨yf1, -⟩ := yh1
                injection yf1 with yf1
                subst yf1
                obtain ⟨yf2, -⟩ := yh2
                injection yf2 with yf2
                subst yf2
                have yc0 : wq.cell? ⟨yb, yo + j * 3, none⟩ = some (.int .i64 y.1) := keep HWq.out (yhc 0 _ rfl)
                have yc1 : wq.cell? ⟨yb, yo + j * 3 + 1, none⟩ = some (.int .i64 y.2.1) := keep HWq.out (yhc 1 _ rfl)
                have yc2 : wq.cell? ⟨yb, yo + j * 3 + 2, none⟩ = some (.int .i64 y.2.2) := keep HWq.out (yhc 2 _ rfl)
                have ylt : yb < wq.heap.size := World.block_lt_of_cell? _ _ yc0
                clear yhc yx
                obtain ⟨s, hs⟩ : ∃ s, opTextS y = s := ⟨_, rfl⟩
                obtain ⟨d, hd⟩ : ∃ d, opB 30 y = d := ⟨_, rfl⟩
                have hsz2 : s.size ≤ 100 := by rw [← hs]; exact opTextS_small y
                have HX2 := Lib.hid (show opsT P (x.2.take (j + 1)) = (q ++ ⟨#[32]⟩) ++ s by rw [opsT_step yx?, HRq.out, hs])
                have HS := Lib.hid (And.intro hs hd)
                clear yx? hs hd
                go_wp2_with fail
                refine (specText_at y _ HS.out.1 HS.out.2).mono ?_
                rintro e w2 ⟨rfl, hb⟩
                replace HBj := Lib.hid (bThen HBj.out hb)
                clear hb yc0 yc1 yc2 ylt e1 xc1
                go_wp2
                go_roundw
                case rel => exact ⟨j + 1, by omega, by go_num, ⟨_, HX2.out, by rw [size2]; omega, rfl⟩, HBj.out⟩
                case measure => simp [intOf]; omega
              · obtain rfl : j = x.2.length := by omega
                rw [List.take_length] at HRq
                have HS := Lib.hid (HST.out.trans HRq.out)
                clear hlj
                have HO9 := Lib.hid (HO.out.below HBW.out)
                have HB9 := Lib.hid (bThen HB.out HBW.out)
                have hsz9 := HB9.out.size
                go_wp2_with (refine wpList_append_lies _ rfl _ _ 26 (by rfl) V.heap.size 9 i0 _ 1 16 Tryz.underlying26 HI.out.1 HI.out.2.1 HI.out.2.2.1 HI.out.2.2.2 rfl (by omega) u7 L2.length _ (by rfl) (HO9.out.alloc _) ⟨wq.heap.size, 0, none⟩ 1 1 [.string q] (by rfl) (by rfl) (World.news_of_block (heap_alloc_new wq _)) (by simp [Value.oneCell']) (by omega) (by unfold maxLen; omega) (by omega) (by simp; omega) (wq.heap.size + 1) (by simp) ?_; intro gg cap w9 hown2 hgrow2 hat2 hlt2)
                have R := own_addS HO9.out hsz9 HB9.out ((Below.refl _ _).alloc (Nat.le_refl _) _) hgrow2 hown2
                go_roundw
                case rel => exact ⟨i + 1, _, by omega, by go_num, map_step XQ.out HL1.out, by rw [HS.out]; exact R.1, R.2⟩
                case measure => simp [intOf]; omega
          · obtain rfl : i = m.2.1.length := by omega
            rw [List.take_length] at HL1
            clear hlt
            go_wp2
            go_loopw [7, 16] (fun l v wr => ∃ (i : Nat) (L : List ByteArray), i ≤ m.2.2.1.length ∧ v = .int .i64 i ∧ L = L2 ++ (m.2.2.1.take i).map useT ∧ OwnsS wr V.heap.size l L ∧ Below V.heap.size V wr) (fun _ v _ => m.2.2.1.length - (intOf v).toNat)
            case atStart => exact ⟨0, _, Nat.zero_le _, rfl, by simp, HO.out, HB.out⟩
            case round =>
              obtain ⟨i, L3, hi, rfl, hL, ho, hb⟩ := hrel
              obtain ⟨W2, rfl⟩ : ∃ W, W = wr := ⟨_, rfl⟩
              replace HO := Lib.hid ho
              replace HB := Lib.hid hb
              have p3 : L3.length ≤ 64 := by rw [hL, List.length_append, List.length_map, List.length_take]; omega
              have HL2 := Lib.hid hL
              have HW := Lib.hid (bThen HV.out hb)
              have e0' := keep hb e0
              have e1' := keep hb e1
              have e2' := keep hb e2
              have e3' := keep hb e3
              have hsz := hb.size
              clear ho hb hL
              by_cases hlt : i < m.2.2.1.length
              · have elt : w1.heap.size < W2.heap.size := World.block_lt_of_cell? _ _ e0'
                obtain ⟨xb, xo, xe, _, _, xus, _, xhc, xhr⟩ := mE2.out i hlt
                obtain ⟨x, xx⟩ : ∃ x, m.2.2.1[i]'hlt = x := ⟨_, rfl⟩
                have xx? : m.2.2.1[i]? = some x := by rw [List.getElem?_eq_getElem hlt, xx]
                rw [xx] at xhr
                subst xe
                have HXR := Lib.hid xhr
                obtain ⟨xu0, xu1, xu2, rfl, xh0, xh1, xh2⟩ := xhr
                obtain ⟨xf0, -⟩ := xh0
                injection xf0 with xf0
                subst xf0
                obtain ⟨xf1, -⟩ := xh1
                injection xf1 with xf1
                subst xf1
                obtain ⟨xA2, xq2, xf2, xm2, xk2⟩ := xh2
                injection xf2 with xf2
                subst xf2
                unfold maxLen at xm2
                have xE2 := Lib.hid xk2
                clear xk2
                have xc0 : W2.cell? ⟨xb, xo + i * 3, none⟩ = some (.int .i64 x.1) := keep HW.out (xhc 0 _ rfl)
                have xc1 : W2.cell? ⟨xb, xo + i * 3 + 1, none⟩ = some (.int .i64 x.2.1) := keep HW.out (xhc 1 _ rfl)
                have xc2 : W2.cell? ⟨xb, xo + i * 3 + 2, none⟩ = some (.slice xA2 (x.2.2).length xq2) := keep HW.out (xhc 2 _ rfl)
                have xlt : xb < W2.heap.size := World.block_lt_of_cell? _ _ xc0
                clear xhc xx
                have hf := HFIT.out.ins x (List.mem_of_getElem? xx?)
                have XQ := Lib.hid xx?
                obtain ⟨s1, h1, z1⟩ := numB_small (n := x.1) (by omega) (by omega)
                obtain ⟨s2, h2, z2⟩ := widB_small (n := x.2.1) (by omega) (by omega)
                obtain ⟨P, hP⟩ : ∃ P : ByteArray, ((⟨#[117, 115, 101, 32, 109]⟩ ++ s1) ++ ⟨#[32]⟩) ++ s2 = P := ⟨_, rfl⟩
                have zP : P.size ≤ 26 := by rw [← hP, ByteArray.size_append, ByteArray.size_append, ByteArray.size_append]; show 5 + s1.size + 1 + s2.size ≤ 26; omega
                have HST := Lib.hid (show useT x = prtT P x.2.2 by unfold useT; rw [h1, h2, hP])
                have q2 := cell_regrown e2'
                have r0 := cell_regrown xc0
                have r1 := cell_regrown xc1
                have HY := Lib.hid (And.intro e2' xc2)
                have HFP := Lib.hid hf.2.2.2
                clear xx? HXR e0' e1' e3'
                go_wp2
                clear e2' xc0 xc1 xc2
                refine wp_region_quiet_below (by kernel_rfl) (by kernel_rfl) ?_
                repeat (go_big_quiet_step (first | (go_at_call 19; refine Calls.regrown_of (specNum_at _ h1 (by omega) (by omega))) | (go_at_call 18; refine Calls.regrown_of (specWid_at _ h2 (by omega) (by omega)))))
                refine wpQuiet_nil ?_
                intro _ hw'
                obtain ⟨⟨dq', osq⟩, hw''⟩ := hw'
                subst hw''
                obtain ⟨W8, hW8⟩ : ∃ W8, W8 = Sort.grow (redrawn W2 dq') osq := ⟨_, rfl⟩
                have hbr : Below W2.heap.size W2 W8 := by rw [hW8]; exact below_regrown _ _ _
                rw [← hW8]
                have e2'' := keep hbr HY.out.1
                have xc2' := keep hbr HY.out.2
                have HB8 := Lib.hid hbr
                clear hW8 hbr q2 r0 r1 elt xlt
                go_wp2
                try simp only [hP]
                go_loopw [17, 18] (fun q v wr => ∃ j : Nat, j ≤ x.2.2.length ∧ v = .int .i64 j ∧ (∃ t : ByteArray, prtT P (x.2.2.take j) = t ∧ t.size ≤ 26 + 12 * j ∧ q = .string t) ∧ Below W8.heap.size W8 wr) (fun _ v _ => x.2.2.length - (intOf v).toNat)
                case atStart => exact ⟨0, Nat.zero_le _, rfl, ⟨_, rfl, by show P.size ≤ _; omega, rfl⟩, Below.refl _ _⟩
                case round =>
                  obtain ⟨j, hj, rfl, ⟨q, hq, hz, rfl⟩, hb⟩ := hrel
                  obtain ⟨wq, rfl⟩ : ∃ W, W = wr := ⟨_, rfl⟩
                  have e2 := keep hb e2''
                  have xc2 := keep hb xc2'
                  have HBW := Lib.hid (bThen HB8.out hb)
                  have HBj := Lib.hid hb
                  have HWq := Lib.hid (bThen HW.out HBW.out)
                  have HRq := Lib.hid hq
                  clear hb hq
                  by_cases hlj : j < x.2.2.length
                  · obtain ⟨yb, yo, ye, _, _, us, _, hc, ⟨e0, _⟩⟩ := xE2.out j hlj
                    subst e0
                    subst ye
                    have x0 := keep HWq.out (hc 0 _ rfl)
                    rw [Nat.add_zero, Nat.mul_one] at x0
                    obtain ⟨p, hp⟩ : ∃ p : Int, x.2.2[j]'hlj = p := ⟨_, rfl⟩
                    have hx : x.2.2[j]? = some p := by rw [List.getElem?_eq_getElem hlj, hp]
                    have hpf : 0 ≤ p ∧ p < 30 := HFP.out p (List.mem_of_getElem? hx)
                    obtain ⟨s, hs, hsz2⟩ := numB_small (n := p) (by omega) (by omega)
                    rw [hp] at x0
                    have HX2 := Lib.hid (show prtT P (x.2.2.take (j + 1)) = (q ++ ⟨#[32, 115]⟩) ++ s by rw [prtT_step hx, HRq.out, hs])
                    have HS := Lib.hid hs
                    have ylt : yb < wq.heap.size := World.block_lt_of_cell? _ _ x0
                    clear hc hp hx hs
                    go_wp2_with fail
                    refine (specNum_at _ HS.out (by omega) (by omega)).mono ?_
                    rintro e w2 ⟨rfl, hb⟩
                    replace HBj := Lib.hid (bThen HBj.out hb)
                    clear hb x0 ylt e2 xc2
                    go_wp2
                    go_roundw
                    case rel => exact ⟨j + 1, by omega, by go_num, ⟨_, HX2.out, by rw [size3]; omega, rfl⟩, HBj.out⟩
                    case measure => simp [intOf]; omega
                  · obtain rfl : j = x.2.2.length := by omega
                    rw [List.take_length] at HRq
                    have HS := Lib.hid (HST.out.trans HRq.out)
                    clear hlj
                    have HO9 := Lib.hid (HO.out.below HBW.out)
                    have HB9 := Lib.hid (bThen HB.out HBW.out)
                    have hsz9 := HB9.out.size
                    go_wp2_with (refine wpList_append_lies _ rfl _ _ 26 (by rfl) V.heap.size 9 i0 _ 1 16 Tryz.underlying26 HI.out.1 HI.out.2.1 HI.out.2.2.1 HI.out.2.2.2 rfl (by omega) u7 L3.length _ (by rfl) (HO9.out.alloc _) ⟨wq.heap.size, 0, none⟩ 1 1 [.string q] (by rfl) (by rfl) (World.news_of_block (heap_alloc_new wq _)) (by simp [Value.oneCell']) (by omega) (by unfold maxLen; omega) (by omega) (by simp; omega) (wq.heap.size + 1) (by simp) ?_; intro gg cap w9 hown2 hgrow2 hat2 hlt2)
                    have R := own_addS HO9.out hsz9 HB9.out ((Below.refl _ _).alloc (Nat.le_refl _) _) hgrow2 hown2
                    go_roundw
                    case rel => exact ⟨i + 1, _, by omega, by go_num, map_step XQ.out HL2.out, by rw [HS.out]; exact R.1, R.2⟩
                    case measure => simp [intOf]; omega
              · obtain rfl : i = m.2.2.1.length := by omega
                rw [List.take_length] at HL2
                clear hlt
                go_wp2
                go_loopw [7, 19] (fun l v wr => ∃ (i : Nat) (L : List ByteArray), i ≤ m.2.2.2.length ∧ v = .int .i64 i ∧ L = L3 ++ (m.2.2.2.take i).map memT ∧ OwnsS wr V.heap.size l L ∧ Below V.heap.size V wr) (fun _ v _ => m.2.2.2.length - (intOf v).toNat)
                case atStart => exact ⟨0, _, Nat.zero_le _, rfl, by simp, HO.out, HB.out⟩
                case round =>
                  obtain ⟨i, L4, hi, rfl, hL, ho, hb⟩ := hrel
                  obtain ⟨W3, rfl⟩ : ∃ W, W = wr := ⟨_, rfl⟩
                  replace HO := Lib.hid ho
                  replace HB := Lib.hid hb
                  have p4 : L4.length ≤ 66 := by rw [hL, List.length_append, List.length_map, List.length_take]; omega
                  have HL3 := Lib.hid hL
                  have HW := Lib.hid (bThen HV.out hb)
                  have e0' := keep hb e0
                  have e1' := keep hb e1
                  have e2' := keep hb e2
                  have e3' := keep hb e3
                  have hsz := hb.size
                  clear ho hb hL
                  by_cases hlt : i < m.2.2.2.length
                  · have elt : w1.heap.size < W3.heap.size := World.block_lt_of_cell? _ _ e0'
                    obtain ⟨xb, xo, xe, _, _, xus, _, xhc, xhr⟩ := mE3.out i hlt
                    obtain ⟨x, xx⟩ : ∃ x, m.2.2.2[i]'hlt = x := ⟨_, rfl⟩
                    have xx? : m.2.2.2[i]? = some x := by rw [List.getElem?_eq_getElem hlt, xx]
                    rw [xx] at xhr
                    subst xe
                    have HXR := Lib.hid xhr
                    obtain ⟨xu0, xu1, xu2, xu3, rfl, xh0, xh1, xh2, xh3⟩ := xhr
                    obtain ⟨xf0, -⟩ := xh0
                    injection xf0 with xf0
                    subst xf0
                    obtain ⟨xf1, -⟩ := xh1
                    injection xf1 with xf1
                    subst xf1
                    obtain ⟨xf2, -⟩ := xh2
                    injection xf2 with xf2
                    subst xf2
                    obtain ⟨xf3, -⟩ := xh3
                    injection xf3 with xf3
                    subst xf3
                    have xc0 : W3.cell? ⟨xb, xo + i * 4, none⟩ = some (.int .i64 x.1) := keep HW.out (xhc 0 _ rfl)
                    have xc1 : W3.cell? ⟨xb, xo + i * 4 + 1, none⟩ = some (.int .i64 x.2.1) := keep HW.out (xhc 1 _ rfl)
                    have xc2 : W3.cell? ⟨xb, xo + i * 4 + 2, none⟩ = some (.int .i64 x.2.2.1) := keep HW.out (xhc 2 _ rfl)
                    have xc3 : W3.cell? ⟨xb, xo + i * 4 + 3, none⟩ = some (.int .i64 x.2.2.2) := keep HW.out (xhc 3 _ rfl)
                    have xlt : xb < W3.heap.size := World.block_lt_of_cell? _ _ xc0
                    clear xhc xx
                    have hf := HFIT.out.mem x (List.mem_of_getElem? xx?)
                    have XQ := Lib.hid xx?
                    obtain ⟨sa, ha, za⟩ := numB_small (n := x.1) (by omega) (by omega)
                    obtain ⟨sb, hb, zb⟩ := numB_small (n := x.2.1) (by omega) (by omega)
                    obtain ⟨sc, hc, zc⟩ := numB_small (n := x.2.2.1) (by omega) (by omega)
                    obtain ⟨sd, hd, zd⟩ := numB_small (n := x.2.2.2) (by omega) (by omega)
                    have hfmt : ∀ (n : Int) (s : ByteArray) (W : World), ((n = x.1 ∧ s = sa) ∨ (n = x.2.1 ∧ s = sb) ∨ (n = x.2.2.1 ∧ s = sc) ∨ (n = x.2.2.2 ∧ s = sd)) → Calls Tryz.prog 19 #[.int .i64 n] W fun e w' => e = .returned (.string s) ∧ Below W.heap.size W w' := by
                      rintro n s W (⟨rfl, rfl⟩ | ⟨rfl, rfl⟩ | ⟨rfl, rfl⟩ | ⟨rfl, rfl⟩)
                      · exact specNum_at _ ha (by omega) (by omega)
                      · exact specNum_at _ hb (by omega) (by omega)
                      · exact specNum_at _ hc (by omega) (by omega)
                      · exact specNum_at _ hd (by omega) (by omega)
                    have HF := Lib.hid hfmt
                    have HS := Lib.hid (show memT x = ((((((⟨#[109, 101, 109, 32, 115]⟩ ++ sa) ++ ⟨#[32, 115]⟩) ++ sb) ++ ⟨#[32, 115]⟩) ++ sc) ++ ⟨#[32, 115]⟩) ++ sd by unfold memT; rw [ha, hb, hc, hd])
                    clear xx? HXR hfmt ha hb hc hd hf
                    go_wp2_with fail
                    obtain ⟨U, hU⟩ : ∃ U, U = W3.alloc (.cells #[.int .i64 x.1, .int .i64 x.2.1, .int .i64 x.2.2.1, .int .i64 x.2.2.2] 62) := ⟨_, rfl⟩
                    rw [← hU]
                    have g := eqbox1 hU
                    have hS0 : (fun w' => Below V.heap.size V w' ∧ w'.cell? ⟨W3.heap.size, 0, none⟩ = some (.int .i64 x.1) ∧ w'.cell? ⟨W3.heap.size, 1, none⟩ = some (.int .i64 x.2.1) ∧ w'.cell? ⟨W3.heap.size, 2, none⟩ = some (.int .i64 x.2.2.1) ∧ w'.cell? ⟨W3.heap.size, 3, none⟩ = some (.int .i64 x.2.2.2) ∧ OwnsS w' V.heap.size u7 L4) U := ⟨bThen HB.out g.2, box_cell g.1 0 _ rfl, box_cell g.1 1 _ rfl, box_cell g.1 2 _ rfl, box_cell g.1 3 _ rfl, HO.out.below g.2⟩
                    clear hU g e0' e1' e2' e3' elt xc0 xc1 xc2 xc3 xlt
                    have hlow : ∀ j, u7.ownBlock = some j → V.heap.size ≤ j := fun j hj => (HO.out.lt j hj).1
                    have hne : u7.ownBlock ≠ some W3.heap.size := fun e => by have := (HO.out.lt _ e).2; omega
                    have hS : ∀ {w0 w' : World}, (fun w' => Below V.heap.size V w' ∧ w'.cell? ⟨W3.heap.size, 0, none⟩ = some (.int .i64 x.1) ∧ w'.cell? ⟨W3.heap.size, 1, none⟩ = some (.int .i64 x.2.1) ∧ w'.cell? ⟨W3.heap.size, 2, none⟩ = some (.int .i64 x.2.2.1) ∧ w'.cell? ⟨W3.heap.size, 3, none⟩ = some (.int .i64 x.2.2.2) ∧ OwnsS w' V.heap.size u7 L4) w0 → Below w0.heap.size w0 w' → (fun w' => Below V.heap.size V w' ∧ w'.cell? ⟨W3.heap.size, 0, none⟩ = some (.int .i64 x.1) ∧ w'.cell? ⟨W3.heap.size, 1, none⟩ = some (.int .i64 x.2.1) ∧ w'.cell? ⟨W3.heap.size, 2, none⟩ = some (.int .i64 x.2.2.1) ∧ w'.cell? ⟨W3.heap.size, 3, none⟩ = some (.int .i64 x.2.2.2) ∧ OwnsS w' V.heap.size u7 L4) w' := fun h hb => ⟨bThen h.1 hb, keep hb h.2.1, keep hb h.2.2.1, keep hb h.2.2.2.1, keep hb h.2.2.2.2.1, h.2.2.2.2.2.below hb⟩
                    have hSA : ∀ {w0 w' : World}, (fun w' => Below V.heap.size V w' ∧ w'.cell? ⟨W3.heap.size, 0, none⟩ = some (.int .i64 x.1) ∧ w'.cell? ⟨W3.heap.size, 1, none⟩ = some (.int .i64 x.2.1) ∧ w'.cell? ⟨W3.heap.size, 2, none⟩ = some (.int .i64 x.2.2.1) ∧ w'.cell? ⟨W3.heap.size, 3, none⟩ = some (.int .i64 x.2.2.2) ∧ OwnsS w' V.heap.size u7 L4) w0 → w0.grownBy w' u7.ownBlock → w'.ownsRow V.heap.size 9 1 u7 L4.length (L4.map Value.string) → (fun w' => Below V.heap.size V w' ∧ w'.cell? ⟨W3.heap.size, 0, none⟩ = some (.int .i64 x.1) ∧ w'.cell? ⟨W3.heap.size, 1, none⟩ = some (.int .i64 x.2.1) ∧ w'.cell? ⟨W3.heap.size, 2, none⟩ = some (.int .i64 x.2.2.1) ∧ w'.cell? ⟨W3.heap.size, 3, none⟩ = some (.int .i64 x.2.2.2) ∧ OwnsS w' V.heap.size u7 L4) w' := fun h hg hk => ⟨h.1.grown hg h.1.size hlow, grown_at hg h.2.1 hne, grown_at hg h.2.2.1 hne, grown_at hg h.2.2.2.1 hne, grown_at hg h.2.2.2.2.1 hne, hk⟩
                    have f1 : ¬ 9223372036854775807 < 5 + sa.size := by omega
                    have f2 : ¬ 9223372036854775807 < 5 + sa.size + 2 := by omega
                    have f3 : ¬ 9223372036854775807 < 5 + sa.size + 2 + sb.size := by omega
                    have f4 : ¬ 9223372036854775807 < 5 + sa.size + 2 + sb.size + 2 := by omega
                    have f5 : ¬ 9223372036854775807 < 5 + sa.size + 2 + sb.size + 2 + sc.size := by omega
                    have f6 : ¬ 9223372036854775807 < 5 + sa.size + 2 + sb.size + 2 + sc.size + 2 := by omega
                    have f7 : ¬ 9223372036854775807 < 5 + sa.size + 2 + sb.size + 2 + sc.size + 2 + sd.size := by omega
                    dsimp only at hS0 hS hSA
                    go_region_held3 (fun w' => Below V.heap.size V w' ∧ w'.cell? ⟨W3.heap.size, 0, none⟩ = some (.int .i64 x.1) ∧ w'.cell? ⟨W3.heap.size, 1, none⟩ = some (.int .i64 x.2.1) ∧ w'.cell? ⟨W3.heap.size, 2, none⟩ = some (.int .i64 x.2.2.1) ∧ w'.cell? ⟨W3.heap.size, 3, none⟩ = some (.int .i64 x.2.2.2) ∧ OwnsS w' V.heap.size u7 L4) (first | exact hS0 | exact HA | exact hS (‹Below V.heap.size V _ ∧ _›) (by repeat' (first | assumption | exact Below.refl _ _ | refine Below.drew ?_ | refine bAlloc ?_ (Nat.le_refl _) _))) (first | (go_at_call 19; refine (HF.out _ _ _ (by first | exact Or.inl ⟨rfl, rfl⟩ | exact Or.inr (Or.inl ⟨rfl, rfl⟩) | exact Or.inr (Or.inr (Or.inl ⟨rfl, rfl⟩)) | exact Or.inr (Or.inr (Or.inr ⟨rfl, rfl⟩)))).mono ?_; rintro e w1' ⟨rfl, hb⟩) | (refine step_append_keep (by rfl) _ _ _ (by rfl) V.heap.size 9 i0 _ 1 16 Tryz.underlying26 HI.out.1 HI.out.2.1 HI.out.2.2.1 HI.out.2.2.2 rfl (by omega) u7 L4.length (L4.map Value.string) (by rfl) (‹Below V.heap.size V _ ∧ _ ∧ _ ∧ _ ∧ _ ∧ _›).2.2.2.2.2 _ 1 1 [.string (((((((⟨#[109, 101, 109, 32, 115]⟩ ++ sa) ++ ⟨#[32, 115]⟩) ++ sb) ++ ⟨#[32, 115]⟩) ++ sc) ++ ⟨#[32, 115]⟩) ++ sd)] (by rfl) (by rfl) (by exact World.news_of_block (heap_alloc_new _ _)) (by simp [Value.oneCell']) (by unfold maxLen; omega) (by omega) (‹Below V.heap.size V _ ∧ _›).1.size ?_; intro v5 w5 hown5 hgrow5 hkeep5; have HA := hSA (‹Below V.heap.size V _ ∧ _›) hgrow5 hkeep5))
                    all_goals
                      have R3 : OwnsS w5 V.heap.size v5 (L4 ++ [memT x]) := by rw [HS.out]; unfold OwnsS; rw [List.length_append, List.map_append]; exact hown5
                      have HR3 := Lib.hid (And.intro R3 (‹Below V.heap.size V _ ∧ _›).1)
                      clear R3 hS hSA hS0
                      go_wp2
                      go_roundw
                      case rel => exact ⟨i + 1, _, by omega, by go_num, map_step XQ.out HL3.out, HR3.out.1, HR3.out.2⟩
                      case measure => simp [intOf]; omega
                  · obtain rfl : i = m.2.2.2.length := by omega
                    rw [List.take_length] at HL3
                    clear hlt
                    go_wp2_with (refine wpList_append_lies _ rfl _ _ 26 (by rfl) V.heap.size 9 i0 _ 1 16 Tryz.underlying26 HI.out.1 HI.out.2.1 HI.out.2.2.1 HI.out.2.2.2 rfl (by omega) u7 L4.length _ (by rfl) (HO.out.alloc _) ⟨W3.heap.size, 0, none⟩ 1 1 [.string ⟨#[101, 110, 100]⟩] (by rfl) (by rfl) (World.news_of_block (heap_alloc_new W3 _)) (by simp [Value.oneCell']) (by omega) (by unfold maxLen; omega) (by omega) (by simp; omega) (W3.heap.size + 1) (by simp) ?_; intro gg cap w9 hown2 hgrow2 hat2 hlt2)
                    have R := own_addS HO.out HB.out.size HB.out ((Below.refl _ _).alloc (Nat.le_refl _) _) hgrow2 hown2
                    go_ret2
                    refine FmtPost.yes HR.out HZM.out ?_ (bThen HV.out R.2)
                    have hE : modT m = L4 ++ [⟨#[101, 110, 100]⟩] := by
                      rw [HL3.out, HL2.out, HL1.out, HL0.out, hL0]
                      simp [modT, List.append_assoc]
                    rw [hE]
                    exact R.1.low HV.out.size
end Go.Proofs.YtdfcbccpdflbfaaGreatDoor
