/-
  Drawn expressions.
-/
import Derived.Test.YtllddjkdjdohhaaSOps
import Derived.Test.YtllddjkdjdohhaaCurC
import Derived.Test.YtllddjkdjdohhaaBits64
import Derived.Deep.CutRange
import Derived.Deep.RegionLaw
import Derived.Deep.AppendLies
namespace Go.Proofs.Ytllddjkdjdohhaa
open Go.RowKit
set_option linter.unusedVariables false
set_option linter.unusedSimpArgs false

set_option maxHeartbeats 800000 in
theorem pickIn_any (g n b m : Nat) (L : List Int) (w : World) (hm : L.length = m) (h0 : 0 < m) (hm2 : m ≤ 1000) (hb : b ≠ g) (hl : ∀ j (hj : j < L.length), w.cell? ⟨b, j, none⟩ = some (.int .i64 L[j])) (hc : Cur 125 w g n) :
    Calls Try.prog 95 #[.pointer (some ⟨g, 0, none⟩), .slice (some ⟨b, 0, none⟩) m m] w (Drawn 125 (· ∈ L) g n w) := by
  have HI := Lib.hid hl
  clear hl
  go_enter Try.func95, Try.ntmps95
  go_wp2_with fail
  refine (below_any g n _ _ (by omega) (by omega) hc).mono ?_
  rintro e w1 ⟨x, rfl, ⟨hx0, hx1⟩, hcur, hch⟩
  obtain ⟨j, rfl⟩ : ∃ j : Nat, x = (j : Int) := ⟨x.toNat, by omega⟩
  have hj : j < L.length := by omega
  have hv := HI.out j hj
  have hv' : w1.cell? ⟨b, j, none⟩ = some (.int .i64 L[j]) := (hch.cell (p := ⟨b, j, none⟩) (World.block_lt_of_cell? _ _ hv) hb).trans hv
  have HC := Lib.hid (And.intro hcur hch)
  have HM := Lib.hid (List.getElem_mem hj)
  obtain ⟨y, hy⟩ : ∃ y, L[j] = y := ⟨_, rfl⟩
  rw [hy] at hv' HM
  clear hv hcur hch HI hy
  go_wp2
  go_ret
  exact ⟨_, rfl, HM.out, HC.out.1, HC.out.2⟩

def fO (x : DOp) : List Value := [.int .i64 x.1, .int .i64 x.2.1, .int .i64 x.2.2]
theorem fO_len (x : DOp) : (fO x).length = 3 := rfl
def FitO (x : DOp) : Prop := Fit x.1 ∧ Fit x.2.1 ∧ Fit x.2.2
/-- A slice of operators that the call owns. -/
def OwnsO (w : World) (B : Nat) (v : Value) (L : List DOp) : Prop := OwnsR fO 3 49 w B v L
theorem OwnsO.rd {w : World} {B : Nat} {v : Value} {L : List DOp} (h : OwnsO w B v L) (hf : ∀ x ∈ L, FitO x) (hl : L.length ≤ 1000000) : rdOpS B w.heap.size w [v] L := by
  have hlt := h.lt
  obtain ⟨A, c, rfl, hs⟩ := OwnsR.shape fO_len h
  refine ⟨A, c, rfl, by unfold maxLen; omega, fun j hj => ?_⟩
  obtain ⟨g, rfl, hc⟩ := hs j hj
  have hx := hf _ (List.getElem_mem hj)
  refine ⟨g, 0, rfl, (hlt g rfl).1, (hlt g rfl).2, fO L[j], rfl, fun i u hu => ?_, ⟨_, _, _, rfl, ⟨rfl, hx.1⟩, ⟨rfl, hx.2.1⟩, ⟨rfl, hx.2.2⟩⟩⟩
  rw [Nat.zero_add]
  exact (hc i u hu).1
theorem own_op1 (w : World) (B : Nat) (hB : B ≤ w.heap.size) (k a b : Int) : OwnsO (w.alloc (.cells #[.int .i64 k, .int .i64 a, .int .i64 b] 49)) B (.slice (some ⟨w.heap.size, 0, none⟩) 1 1) [(k, a, b)] :=
  World.ownsRow_lit w #[.int .i64 k, .int .i64 a, .int .i64 b] 1 hB (by unfold maxLen; omega) rfl
theorem Cur.drew {T g n : Nat} {w : World} (h : Cur T w g n) : Cur T w.drew g n := h.keep ((Below.refl _ _).drew)
theorem withFact' {p q : Prop} (h : p) (k : p → q) : q := k h
theorem fit_of {x : Int} (h0 : -1000000 ≤ x) (h1 : x ≤ 1000000) : Fit x := by unfold Fit; omega
theorem rd_chg {α : Type} {P : Rd α} (gd : P.Good) {B T g : Nat} {w w' : World} {vs : List Value} {x : α} (h : P B T w vs x) (hT : T ≤ w.heap.size) (hg : g < B) (hc : Chg g w w') : P B T w' vs x :=
  gd B T B T w w' vs x h (Nat.le_refl _) (Nat.le_refl _) fun b h1 h2 => hc.block b (Nat.lt_of_lt_of_le h2 hT) (by omega)
/-- What l04Expr leaves. -/
def ExprD (g n : Nat) (m : Int) (w : World) (e : Ending) (w' : World) : Prop :=
  ∃ v L, e = .returned v ∧ OwnsO w' w.heap.size v L ∧ 0 < L.length ∧ (L.length : Int) ≤ m ∧ (∀ x ∈ L, FitO x) ∧ Cur 125 w' g n ∧ Chg g w w'
theorem exprD_one {g n : Nat} {m : Int} {w w1 : World} (hm : 1 ≤ m) (hc : Cur 125 w1 g n) (hh : Chg g w w1) (k a b : Int) (hk : Fit k) (ha : Fit a) (hb : Fit b) :
    ExprD g n m w (.returned (.slice (some ⟨w1.heap.size, 0, none⟩) 1 1)) (w1.alloc (.cells #[.int .i64 k, .int .i64 a, .int .i64 b] 49)) :=
  ⟨_, [(k, a, b)], rfl, own_op1 w1 _ hh.size k a b, by simp, by simpa using hm, fun x hx => by simp at hx; subst hx; exact ⟨hk, ha, hb⟩, hc.keep (bAlloc (Below.refl _ _) (Nat.le_refl _) _), hh.alloc _⟩

/-- The list of na ints at A, read in every world that a cursor at g leaves. -/
def Avail (A : Option Addr) (na g : Nat) (w : World) : Prop := na ≤ 1000 ∧ ∃ f : Nat → Int, (∀ j, j < na → Fit (f j)) ∧ (0 < na → ∃ b o, A = some ⟨b, o, none⟩ ∧ ∀ w', Chg g w w' → ∀ j, j < na → w'.cell? ⟨b, o + j, none⟩ = some (.int .i64 (f j)))
theorem Avail.chg {A : Option Addr} {na g : Nat} {w w' : World} (h : Avail A na g w) (hc : Chg g w w') : Avail A na g w' :=
by
  obtain ⟨h1, f, hf, h⟩ := h
  refine ⟨h1, f, hf, fun h0 => ?_⟩
  obtain ⟨b, o, e, hA⟩ := h h0
  exact ⟨b, o, e, fun w2 h2 => hA w2 (hc.trans h2)⟩
theorem Chg.grown {g : Nat} {w w' : World} (h : Chg g w w') : w.grownBy w' (some g) := ⟨h.os, h.tape, h.output, h.size, fun k hk hne => h.block k hk (fun e => hne (by rw [e]))⟩
theorem OwnsO.chg {g B : Nat} {w w' : World} {v : Value} {L : List DOp} (h : OwnsO w B v L) (hc : Chg g w w') (hg : g < B) : OwnsO w' B v L :=
  World.ownsRow.kept h hc.grown (by
    cases hv : v.ownBlock with
    | none => exact .inl rfl
    | some j => exact .inr (fun e => by have := (World.ownsRow.lt h j hv).1; injection e with e; omega))
def ExprCall (g n : Nat) (most : Int) (A : Option Addr) (na ca : Nat) (w : World) : Prop := Calls Try.prog 57 #[.pointer (some ⟨g, 0, none⟩), .slice A na ca, .int .i64 most] w (ExprD g n most w)

set_option maxRecDepth 100000 in
set_option maxHeartbeats 12800000 in
theorem expr_step (g n : Nat) (N : Nat) (ih : ∀ (most : Int) (A : Option Addr) (na ca : Nat) (w : World), 1 ≤ most → most ≤ 1000 → most < N → Cur 125 w g n → Avail A na g w → ExprCall g n most A na ca w)
    (most : Int) (A : Option Addr) (na ca : Nat) (w : World) (h1 : 1 ≤ most) (h2 : most ≤ 1000) (hN : most ≤ N) (hc : Cur 125 w g n) (hav : Avail A na g w) : ExprCall g n most A na ca w := by
  obtain ⟨i0, hi, hz0, hz1, hz2⟩ := info_parts info_Op
  have HCG := Lib.hid hc.lt
  have HAVA := Lib.hid hav
  obtain ⟨hna, f, hf, hav⟩ := hav
  have HF := Lib.hid hf
  have HAV := Lib.hid hav
  have IH := Lib.hid ih
  clear hav ih hf
  unfold ExprCall
  by_cases h4 : most < 4
  · go_enter Try.func57, Try.ntmps57
    go_wp2_with fail
    refine (below_any g n 8 _ (by omega) (by omega) hc).mono ?_
    rintro e wd ⟨dd, rfl, ⟨hd0, hd1⟩, hcu, hch⟩
    have HCwd := Lib.hid hcu
    have HHwd := Lib.hid (hch)
    clear hcu hch
    by_cases e0 : dd = 0
    · subst e0
      go_wp2_with fail
      refine (below_any g n 16 _ (by omega) (by omega) HCwd.out).mono ?_
      rintro e we ⟨x, rfl, ⟨hx0, hx1⟩, hcu, hch⟩
      have HCwe := Lib.hid hcu
      have HHwe := Lib.hid (HHwd.out.trans hch)
      clear hcu hch
      go_wp2
      go_ret
      exact exprD_one (by omega) HCwe.out HHwe.out 0 x 0 (fit_of (by omega) (by omega)) (fit_of (by omega) (by omega)) (fit_of (by omega) (by omega))
    · have f0 : (dd == 0) = false := by simpa using e0
      by_cases e1 : dd = 1
      · subst e1
        go_wp2_with fail
        refine (once_any g n 3 _ (by omega) (by omega) HCwd.out).mono ?_
        rintro e we ⟨x, rfl, hcu, hch⟩
        have HCwe := Lib.hid hcu
        have HHwe := Lib.hid (HHwd.out.trans hch)
        clear hcu hch
        cases x
        · skip
          by_cases hn0 : na = 0
          · have t5 : ((na : Int) == 0) = true := by simpa using hn0
            subst hn0
            go_wp2
            go_ret
            exact exprD_one (by omega) HCwe.out HHwe.out 0 1 0 (fit_of (by omega) (by omega)) (fit_of (by omega) (by omega)) (fit_of (by omega) (by omega))
          · have t5 : ((na : Int) == 0) = false := by simpa using hn0
            go_wp2_with fail
            refine (below_any g n (na : Int) _ (by omega) (by omega) HCwe.out).mono ?_
            rintro e wea ⟨ix, rfl, ⟨hx0, hx1⟩, hcu, hch⟩
            have HCwea := Lib.hid hcu
            have HHwea := Lib.hid (HHwe.out.trans hch)
            clear hcu hch
            obtain ⟨j, rfl⟩ : ∃ j : Nat, ix = (j : Int) := ⟨ix.toNat, by omega⟩
            have hjn : j < na := by omega
            obtain ⟨ab, ao, hA, hall⟩ := HAV.out (by omega)
            subst hA
            have hyc := hall wea HHwea.out j hjn
            have hy := HF.out j hjn
            obtain ⟨y, hyy⟩ : ∃ y, f j = y := ⟨_, rfl⟩
            rw [hyy] at hyc hy
            clear hall
            go_wp2
            go_ret
            exact exprD_one (by omega) HCwea.out HHwea.out 2 y 0 (fit_of (by omega) (by omega)) hy (fit_of (by omega) (by omega))
        · skip
          go_wp2
          go_ret
          exact exprD_one (by omega) HCwe.out HHwe.out 1 0 0 (fit_of (by omega) (by omega)) (fit_of (by omega) (by omega)) (fit_of (by omega) (by omega))
      · have f1 : (dd == 1) = false := by simpa using e1
        by_cases e23 : dd = 2 ∨ dd = 3
        · by_cases hn0 : na = 0
          · rcases e23 with rfl | rfl
            all_goals
              have t4 : ¬ (0 : Int) < (na : Int) := by omega
              have t5 : ((na : Int) == 0) = true := by simpa using hn0
              subst hn0
              go_wp2
              go_ret
              exact exprD_one (by omega) HCwd.out HHwd.out 0 1 0 (fit_of (by omega) (by omega)) (fit_of (by omega) (by omega)) (fit_of (by omega) (by omega))
          · have t4 : 0 < na := by omega
            obtain ⟨ab, ao, hA, hall⟩ := HAV.out (by omega)
            subst hA
            have HALL := Lib.hid hall
            clear hall
            rcases e23 with rfl | rfl
            all_goals
              go_wp2
              go_cut [6] from 37 to 47 (fun v wx => ExprD g n most w (.returned v) wx)
              case first =>
                go_region_law (go_simp; go_at_call 48; refine (below_any g n _ _ (by omega) (by omega) (by first | exact HC3.out | exact HCwd.out.drew)).mono ?_; rintro e w3 ⟨z, rfl, ⟨z0, z1⟩, hcur, hch⟩; have HC3 := Lib.hid hcur; have HH3 := Lib.hid (Chg.trans (by first | exact HH3.out | exact HHwd.out.drew) hch); obtain ⟨j, rfl⟩ := Int.eq_ofNat_of_zero_le z0; (try (refine withFact' (p := j < na) ?_ ?_; (focus omega); intro hjn; have hy := HF.out j hjn; have HYA := Lib.hid (fun w' h' => HALL.out w' h' j hjn))); (try have hyc := HYA.out w3 HH3.out); clear hcur hch)
                all_goals (go_wp2_with fail; go_meet; exact exprD_one (by omega) HC3.out HH3.out 3 _ _ (fit_of (by omega) (by omega)) hy (fit_of (by omega) (by omega)))
              case rest =>
                go_wp2
                go_ret
                exact hcut
        · have e2 : ¬ dd = 2 := fun h => e23 (.inl h)
          have e3 : ¬ dd = 3 := fun h => e23 (.inr h)
          have f2 : (dd == 2) = false := by simpa using e2
          have f3 : (dd == 3) = false := by simpa using e3
          clear e23
          by_cases hn0 : na = 0
          · have t5 : ((na : Int) == 0) = true := by simpa using hn0
            subst hn0
            go_wp2
            go_ret
            exact exprD_one (by omega) HCwd.out HHwd.out 0 1 0 (fit_of (by omega) (by omega)) (fit_of (by omega) (by omega)) (fit_of (by omega) (by omega))
          · have t5 : ((na : Int) == 0) = false := by simpa using hn0
            go_wp2_with fail
            refine (below_any g n (na : Int) _ (by omega) (by omega) HCwd.out).mono ?_
            rintro e wda ⟨ix, rfl, ⟨hx0, hx1⟩, hcu, hch⟩
            have HCwda := Lib.hid hcu
            have HHwda := Lib.hid (HHwd.out.trans hch)
            clear hcu hch
            obtain ⟨j, rfl⟩ : ∃ j : Nat, ix = (j : Int) := ⟨ix.toNat, by omega⟩
            have hjn : j < na := by omega
            obtain ⟨ab, ao, hA, hall⟩ := HAV.out (by omega)
            subst hA
            have hyc := hall wda HHwda.out j hjn
            have hy := HF.out j hjn
            obtain ⟨y, hyy⟩ : ∃ y, f j = y := ⟨_, rfl⟩
            rw [hyy] at hyc hy
            clear hall
            go_wp2
            go_ret
            exact exprD_one (by omega) HCwda.out HHwda.out 2 y 0 (fit_of (by omega) (by omega)) hy (fit_of (by omega) (by omega))
  · go_enter Try.func57, Try.ntmps57
    go_wp2_with fail
    refine (once_any g n 3 _ (by omega) (by omega) hc).mono ?_
    rintro e w0 ⟨x, rfl, hcu, hch⟩
    have HCw0 := Lib.hid hcu
    have HHw0 := Lib.hid hch
    clear hcu hch
    cases x
    · skip
      go_wp2_with fail
      refine (pickIn_any g n w0.heap.size 11 [4, 5, 6, 7, 8, 9, 10, 11, 12, 7, 12] _ rfl (by omega) (by omega) (fun e => by have := HCw0.out.lt; omega) ?_ (HCw0.out.keep (bAlloc (Below.refl _ _) (Nat.le_refl _) _))).mono ?_
      · intro j hj
        rw [World.cell?_alloc_at _ _ _ _ rfl]
        match j, hj with
        | 0, _ | 1, _ | 2, _ | 3, _ | 4, _ | 5, _ | 6, _ | 7, _ | 8, _ | 9, _ | 10, _ => rfl
      rintro e w1 ⟨kk, rfl, hkk, hcu, hch⟩
      have hk1 : 4 ≤ kk ∧ kk ≤ 12 := by simp at hkk; omega
      have HCw1 := Lib.hid hcu
      have HHw1 := Lib.hid ((HHw0.out.alloc _).trans hch)
      clear hcu hch hkk
      obtain ⟨ar, har, har1, har3⟩ : ∃ ar : Nat, arityI kk = (ar : Int) ∧ 1 ≤ ar ∧ ar ≤ 3 := by
        unfold arityI
        rw [if_pos (by omega)]
        by_cases e4 : kk = 4
        · exact ⟨1, by rw [if_neg (by omega), if_pos e4]; rfl, by omega, by omega⟩
        · by_cases e12 : kk = 12
          · exact ⟨3, by rw [if_neg (by omega), if_neg e4, if_pos e12]; rfl, by omega, by omega⟩
          · exact ⟨2, by rw [if_neg (by omega), if_neg e4, if_neg e12]; rfl, by omega, by omega⟩
      obtain ⟨q, hq, hq1, hqm⟩ : ∃ q : Nat, (most - 1).tdiv (ar : Int) = (q : Int) ∧ 1 ≤ q ∧ (1 + ((ar * q : Nat) : Int)) ≤ most := by
        rw [Int.tdiv_eq_ediv_of_nonneg (by omega)]
        rcases (by omega : ar = 1 ∨ ar = 2 ∨ ar = 3) with rfl | rfl | rfl
        · exact ⟨((most - 1) / 1).toNat, by omega, by omega, by omega⟩
        · exact ⟨((most - 1) / 2).toNat, by omega, by omega, by omega⟩
        · exact ⟨((most - 1) / 3).toNat, by omega, by omega, by omega⟩
      have har0 : ¬ (ar : Int) = 0 := by omega
      have harq : q ≤ ar * q := Nat.le_mul_of_pos_left q (by omega)
      have hqs : (q : Int) < most := by omega
      have ew : IntKind.i64.wrap (most - 1) = most - 1 := wrap64_int _ (by omega) (by omega)
      have eq2 : IntKind.i64.wrap (q : Int) = (q : Int) := wrap64_int _ (by omega) (by omega)
      go_wp2_with fail
      refine (specArity_at kk _ har).mono ?_
      rintro e w2 ⟨rfl, rfl⟩
      have HO0 := Lib.hid (own_op1 w1 w.heap.size HHw1.out.size kk 0 0)
      have HC0 := Lib.hid (HCw1.out.keep (bAlloc (Below.refl _ _) (Nat.le_refl _) (.cells #[.int .i64 kk, .int .i64 0, .int .i64 0] 49)))
      have HH0 := Lib.hid (HHw1.out.alloc (.cells #[.int .i64 kk, .int .i64 0, .int .i64 0] 49))
      have HAQ := Lib.hid (And.intro hqm harq)
      have HAR := Lib.hid har
      clear har hqm harq
      go_wp2
      go_loopw [8, 10] (fun u v wr => ∃ (k : Nat) (L : List DOp), k ≤ ar ∧ v = .int .i64 k ∧ OwnsO wr w.heap.size u L ∧ 0 < L.length ∧ L.length ≤ 1 + k * q ∧ (∀ x ∈ L, FitO x) ∧ Cur 125 wr g n ∧ Chg g w wr) (fun _ v _ => ar - (intOf v).toNat)
      case atStart =>
        exact ⟨0, [(kk, 0, 0)], Nat.zero_le _, rfl, HO0.out, by simp, by simp, fun x hx => by simp at hx; subst hx; exact (show Fit kk ∧ Fit 0 ∧ Fit 0 from ⟨fit_of (by omega) (by omega), fit_of (by omega) (by omega), fit_of (by omega) (by omega)⟩), HC0.out, HH0.out⟩
      case round =>
        obtain ⟨k, L, hk, rfl, hown, hl0, hl1, hfit, hcu, hch⟩ := hrel
        have HO := Lib.hid hown
        have HL := Lib.hid (And.intro hl0 hl1)
        have HFL := Lib.hid hfit
        have HC := Lib.hid hcu
        have HH := Lib.hid hch
        have hkq : k * q ≤ ar * q := Nat.mul_le_mul_right q hk
        have HKQ := Lib.hid hkq
        clear hown hl0 hl1 hfit hcu hch hkq
        by_cases hlt : k < ar
        · go_wp2_with fail
          refine (IH.out (q : Int) A na ca wr (by omega) (by omega) (by omega) HC.out (HAVA.out.chg HH.out)).mono ?_
          rintro e w3 ⟨v2, L2, rfl, hown2, hl20, hl2, hfit2, hcu2, hch2⟩
          obtain ⟨g2, c2, rfl, hb2, hlt2⟩ := World.ownsRow.form hown2 hl20
          have hnews := World.ownsRow.cells hown2 (g := g2) rfl
          have hone : ∀ u ∈ L2.flatMap fO, u.oneCell' = true := by
            intro u hu
            obtain ⟨x, -, hx⟩ := List.mem_flatMap.1 hu
            simp [fO] at hx
            rcases hx with rfl | rfl | rfl <;> rfl
          have HO3 := Lib.hid (OwnsO.chg HO.out hch2 HCG.out)
          have HH3 := Lib.hid (HH.out.trans hch2)
          have HC3 := Lib.hid hcu2
          have HF2 := Lib.hid hfit2
          have hle1 : L.length ≤ 1000 := by have := HL.out.2; have := HKQ.out; have := HAQ.out.1; omega
          have hle2 : L2.length ≤ 1000 := by omega
          have hbase := HH3.out.size
          have hln : (L2.flatMap fO).length = L2.length * 3 := flat_len fO 3 fO_len L2
          clear hown2 hcu2 hch2 hfit2
          go_wp2_with (refine wpList_append_lies _ rfl _ _ 44 (by rfl) w.heap.size 49 i0 _ 3 24 Try.underlying44 hi hz0 hz1 hz2 rfl (by omega) u8 L.length _ (by rfl) HO3.out ⟨g2, 0, none⟩ L2.length c2 (L2.flatMap fO) (by rfl) hln hnews hone hl20 (by unfold maxLen; omega) (by omega) hbase w3.heap.size rfl ?_; intro gg cap w4 hown4 hgrow4 hat4 hlt4)
          have ho4 : OwnsO w4 w.heap.size (.slice (some ⟨gg, 0, none⟩) (L.length + L2.length) cap) (L ++ L2) := by
            unfold OwnsO OwnsR
            rw [List.length_append, List.flatMap_append]
            exact hown4
          have hc4 := cur_grown HC3.out (Below.refl _ _) hgrow4 (fun i hi => by have := (World.ownsRow.lt HO3.out i hi).1; have := HCG.out; omega)
          have hh4 := chg_grown HH3.out (Below.refl _ _) hgrow4 (fun i hi => (World.ownsRow.lt HO3.out i hi).1)
          have HO4 := Lib.hid ho4
          have HC4 := Lib.hid hc4
          have HH4 := Lib.hid hh4
          clear hown4 hgrow4 hat4 hlt4 ho4 hc4 hh4 hnews hone
          go_roundw
          case rel =>
            refine ⟨k + 1, L ++ L2, by omega, by go_num, HO4.out, ?_, ?_, ?_, HC4.out, HH4.out⟩
            · have := HL.out.1; rw [List.length_append]; omega
            · have := HL.out.2; rw [List.length_append, Nat.succ_mul]; omega
            · intro x hx
              rcases List.mem_append.1 hx with hx | hx
              · exact HFL.out x hx
              · exact HF2.out x hx
          case measure => simp [intOf]; omega
        · go_wp2
          go_ret
          obtain rfl : k = ar := by omega
          exact ⟨_, L, rfl, HO.out, HL.out.1, by have := HL.out.2; have := HAQ.out.1; omega, HFL.out, HC.out, HH.out⟩
    · skip
      go_wp2_with fail
      refine (below_any g n 8 _ (by omega) (by omega) HCw0.out).mono ?_
      rintro e wd ⟨dd, rfl, ⟨hd0, hd1⟩, hcu, hch⟩
      have HCwd := Lib.hid hcu
      have HHwd := Lib.hid (HHw0.out.trans hch)
      clear hcu hch
      by_cases e0 : dd = 0
      · subst e0
        go_wp2_with fail
        refine (below_any g n 16 _ (by omega) (by omega) HCwd.out).mono ?_
        rintro e we ⟨x, rfl, ⟨hx0, hx1⟩, hcu, hch⟩
        have HCwe := Lib.hid hcu
        have HHwe := Lib.hid (HHwd.out.trans hch)
        clear hcu hch
        go_wp2
        go_ret
        exact exprD_one (by omega) HCwe.out HHwe.out 0 x 0 (fit_of (by omega) (by omega)) (fit_of (by omega) (by omega)) (fit_of (by omega) (by omega))
      · have f0 : (dd == 0) = false := by simpa using e0
        by_cases e1 : dd = 1
        · subst e1
          go_wp2_with fail
          refine (once_any g n 3 _ (by omega) (by omega) HCwd.out).mono ?_
          rintro e we ⟨x, rfl, hcu, hch⟩
          have HCwe := Lib.hid hcu
          have HHwe := Lib.hid (HHwd.out.trans hch)
          clear hcu hch
          cases x
          · skip
            by_cases hn0 : na = 0
            · have t5 : ((na : Int) == 0) = true := by simpa using hn0
              subst hn0
              go_wp2
              go_ret
              exact exprD_one (by omega) HCwe.out HHwe.out 0 1 0 (fit_of (by omega) (by omega)) (fit_of (by omega) (by omega)) (fit_of (by omega) (by omega))
            · have t5 : ((na : Int) == 0) = false := by simpa using hn0
              go_wp2_with fail
              refine (below_any g n (na : Int) _ (by omega) (by omega) HCwe.out).mono ?_
              rintro e wea ⟨ix, rfl, ⟨hx0, hx1⟩, hcu, hch⟩
              have HCwea := Lib.hid hcu
              have HHwea := Lib.hid (HHwe.out.trans hch)
              clear hcu hch
              obtain ⟨j, rfl⟩ : ∃ j : Nat, ix = (j : Int) := ⟨ix.toNat, by omega⟩
              have hjn : j < na := by omega
              obtain ⟨ab, ao, hA, hall⟩ := HAV.out (by omega)
              subst hA
              have hyc := hall wea HHwea.out j hjn
              have hy := HF.out j hjn
              obtain ⟨y, hyy⟩ : ∃ y, f j = y := ⟨_, rfl⟩
              rw [hyy] at hyc hy
              clear hall
              go_wp2
              go_ret
              exact exprD_one (by omega) HCwea.out HHwea.out 2 y 0 (fit_of (by omega) (by omega)) hy (fit_of (by omega) (by omega))
          · skip
            go_wp2
            go_ret
            exact exprD_one (by omega) HCwe.out HHwe.out 1 0 0 (fit_of (by omega) (by omega)) (fit_of (by omega) (by omega)) (fit_of (by omega) (by omega))
        · have f1 : (dd == 1) = false := by simpa using e1
          by_cases e23 : dd = 2 ∨ dd = 3
          · by_cases hn0 : na = 0
            · rcases e23 with rfl | rfl
              all_goals
                have t4 : ¬ (0 : Int) < (na : Int) := by omega
                have t5 : ((na : Int) == 0) = true := by simpa using hn0
                subst hn0
                go_wp2
                go_ret
                exact exprD_one (by omega) HCwd.out HHwd.out 0 1 0 (fit_of (by omega) (by omega)) (fit_of (by omega) (by omega)) (fit_of (by omega) (by omega))
            · have t4 : 0 < na := by omega
              obtain ⟨ab, ao, hA, hall⟩ := HAV.out (by omega)
              subst hA
              have HALL := Lib.hid hall
              clear hall
              rcases e23 with rfl | rfl
              all_goals
                go_wp2
                go_cut [6] from 37 to 47 (fun v wx => ExprD g n most w (.returned v) wx)
                case first =>
                  go_region_law (go_simp; go_at_call 48; refine (below_any g n _ _ (by omega) (by omega) (by first | exact HC3.out | exact HCwd.out.drew)).mono ?_; rintro e w3 ⟨z, rfl, ⟨z0, z1⟩, hcur, hch⟩; have HC3 := Lib.hid hcur; have HH3 := Lib.hid (Chg.trans (by first | exact HH3.out | exact HHwd.out.drew) hch); obtain ⟨j, rfl⟩ := Int.eq_ofNat_of_zero_le z0; (try (refine withFact' (p := j < na) ?_ ?_; (focus omega); intro hjn; have hy := HF.out j hjn; have HYA := Lib.hid (fun w' h' => HALL.out w' h' j hjn))); (try have hyc := HYA.out w3 HH3.out); clear hcur hch)
                  all_goals (go_wp2_with fail; go_meet; exact exprD_one (by omega) HC3.out HH3.out 3 _ _ (fit_of (by omega) (by omega)) hy (fit_of (by omega) (by omega)))
                case rest =>
                  go_wp2
                  go_ret
                  exact hcut
          · have e2 : ¬ dd = 2 := fun h => e23 (.inl h)
            have e3 : ¬ dd = 3 := fun h => e23 (.inr h)
            have f2 : (dd == 2) = false := by simpa using e2
            have f3 : (dd == 3) = false := by simpa using e3
            clear e23
            by_cases hn0 : na = 0
            · have t5 : ((na : Int) == 0) = true := by simpa using hn0
              subst hn0
              go_wp2
              go_ret
              exact exprD_one (by omega) HCwd.out HHwd.out 0 1 0 (fit_of (by omega) (by omega)) (fit_of (by omega) (by omega)) (fit_of (by omega) (by omega))
            · have t5 : ((na : Int) == 0) = false := by simpa using hn0
              go_wp2_with fail
              refine (below_any g n (na : Int) _ (by omega) (by omega) HCwd.out).mono ?_
              rintro e wda ⟨ix, rfl, ⟨hx0, hx1⟩, hcu, hch⟩
              have HCwda := Lib.hid hcu
              have HHwda := Lib.hid (HHwd.out.trans hch)
              clear hcu hch
              obtain ⟨j, rfl⟩ : ∃ j : Nat, ix = (j : Int) := ⟨ix.toNat, by omega⟩
              have hjn : j < na := by omega
              obtain ⟨ab, ao, hA, hall⟩ := HAV.out (by omega)
              subst hA
              have hyc := hall wda HHwda.out j hjn
              have hy := HF.out j hjn
              obtain ⟨y, hyy⟩ : ∃ y, f j = y := ⟨_, rfl⟩
              rw [hyy] at hyc hy
              clear hall
              go_wp2
              go_ret
              exact exprD_one (by omega) HCwda.out HHwda.out 2 y 0 (fit_of (by omega) (by omega)) hy (fit_of (by omega) (by omega))


theorem expr_any (g n : Nat) (most : Int) (A : Option Addr) (na ca : Nat) (w : World) (h1 : 1 ≤ most) (h2 : most ≤ 1000) (hc : Cur 125 w g n) (hav : Avail A na g w) :
    Calls Try.prog 57 #[.pointer (some ⟨g, 0, none⟩), .slice A na ca, .int .i64 most] w (ExprD g n most w) := by
  have key : ∀ N : Nat, ∀ (most : Int) (A : Option Addr) (na ca : Nat) (w : World), 1 ≤ most → most ≤ 1000 → most ≤ N → Cur 125 w g n → Avail A na g w → ExprCall g n most A na ca w := by
    intro N
    induction N with
    | zero => intro most A na ca w a1 a2 a3; omega
    | succ N ih => intro most A na ca w a1 a2 a3 a4 a5; exact expr_step g n (N + 1) (fun m' A' na' ca' w' b1 b2 b3 b4 b5 => ih m' A' na' ca' w' b1 b2 (by omega) b4 b5) most A na ca w a1 a2 a3 a4 a5
  exact key most.toNat most A na ca w h1 h2 (by omega) hc hav
end Go.Proofs.Ytllddjkdjdohhaa
