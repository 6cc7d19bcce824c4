/-
  The prime implicants, as the reference finds them.
-/
import Derived.Test.YtjibjnkabfmgaaaImp
import Derived.Lib.QuietBelow
namespace Go.Proofs.Ytjibjnkabfmgaaa
open Go.RowKit
set_option linter.unusedVariables false
set_option linter.unusedSimpArgs false

/-- None of the first m literals can be dropped. -/
def priK (N B X Y m : Nat) : Bool := (List.range m).all fun k => !(X.testBit k && impB N B (andNot X (2 ^ k)) (andNot Y (2 ^ k)))
theorem priK_step (N B X Y m : Nat) : priK N B X Y (m + 1) = (priK N B X Y m && !(X.testBit m && impB N B (andNot X (2 ^ m)) (andNot Y (2 ^ m)))) := by
  unfold priK; rw [List.range_succ, List.all_append]; simp
def primeB (N B X Y : Nat) : Bool := decide (andNot Y X = 0) && impB N B X Y && priK N B X Y N
/-- The primes with this Care and a Value below m. -/
def priR (N B X m : Nat) : List (Int × Int) := ((List.range m).filter (primeB N B X)).map fun Y : Nat => ((X : Int), (Y : Int))
/-- The primes with a Care below m. -/
def priA (N B m : Nat) : List (Int × Int) := (List.range m).flatMap fun X => priR N B X (2 ^ N)
def primesL (N B : Nat) : List (Int × Int) := priA N B (2 ^ N)
theorem priR_yes (N B X m : Nat) (h : primeB N B X m = true) : priR N B X (m + 1) = priR N B X m ++ [((X : Int), (m : Int))] := by
  unfold priR; rw [List.range_succ, List.filter_append, List.map_append]; simp [h]
theorem priR_no (N B X m : Nat) (h : primeB N B X m = false) : priR N B X (m + 1) = priR N B X m := by
  unfold priR; rw [List.range_succ, List.filter_append, List.map_append]; simp [h]
theorem priA_step (N B X : Nat) : priA N B (X + 1) = priA N B X ++ priR N B X (2 ^ N) := by
  unfold priA; rw [List.range_succ, List.flatMap_append]; simp
theorem priR_len (N B X m : Nat) : (priR N B X m).length ≤ m := by
  unfold priR; rw [List.length_map]; exact Nat.le_trans (List.length_filter_le _ _) (by simp)
theorem priA_len (N B : Nat) : ∀ m, (priA N B m).length ≤ m * 2 ^ N
  | 0 => by simp [priA]
  | m + 1 => by
    rw [priA_step, List.length_append, Nat.succ_mul]
    have := priA_len N B m
    have := priR_len N B m (2 ^ N)
    omega
theorem specImp_at (N B X Y : Nat) {d : Bool} (w : World) (hN : N ≤ 4) (hB : B ≤ 65535) (hX : X ≤ 15) (hY : Y ≤ 15) (h : impB N B X Y = d) :
    Calls Try.prog 50 #[.agg #[.int .i64 N, .int .i64 B], .agg #[.int .i64 X, .int .i64 Y]] w fun e w' => e = .returned (.bool d) ∧ Below w.heap.size w w' := by
  subst h; exact specImp_any N B X Y w hN hB hX hY
theorem specOkC_at (n b : Int) {v : Bool} (w : World) (h : okB n b = v) : Calls Try.prog 44 #[.agg #[.int .i64 n, .int .i64 b]] w fun e w' => e = .returned (.bool v) ∧ Below w.heap.size w w' := by
  subst h; exact specOk_any n b w

set_option maxHeartbeats 12800000 in
theorem specPri_yes (N B : Nat) (w : World) (hok : okB N B = true) (hN : N ≤ 4) (hB : B ≤ 65535) :
    Calls Try.prog 30 #[T N B] w fun e w' => ∃ v, e = .returned v ∧ OwnsCube w' w.heap.size v (primesL N B) ∧ Below w.heap.size w w' := by
  obtain ⟨i0, hi, hz0, hz1, hz2⟩ := info_parts infoCube
  have h16 := pow16 N hN
  have e1 := shl_one N hN
  have hmul : 2 ^ N * 2 ^ N ≤ 256 := Nat.le_trans (Nat.mul_le_mul h16 h16) (by decide)
  unfold T
  go_enter Try.func30, Try.ntmps30
  go_wp2_with fail
  refine (specOkC_at N B _ hok).mono ?_
  rintro e w1 ⟨rfl, hb⟩
  have g := box2 hb
  have c0 : w1.cell? ⟨w.heap.size, 0, none⟩ = some (.int .i64 N) := box_cell g.1 0 _ rfl
  have c1 : w1.cell? ⟨w.heap.size, 1, none⟩ = some (.int .i64 B) := box_cell g.1 1 _ rfl
  have hO : OwnsCube w1 (w.heap.size + 1) (.slice (some ⟨w.heap.size + 1, 0, none⟩) 0 0) [] := by
    have h0 := ownR_new fP 2 32 (w.alloc (.cells #[.int .i64 N, .int .i64 B] 25)) (w.heap.size + 1) (by simp)
    exact (by simpa using h0 : OwnsCube _ _ (.slice (some ⟨w.heap.size + 1, 0, none⟩) 0 0) []).below hb
  have hB1' : Below (w.heap.size + 1) (w.alloc (.cells #[.int .i64 N, .int .i64 B] 25)) w1 :=
    bTrans (B := w.heap.size + 1) (a := w.alloc (.cells #[.int .i64 N, .int .i64 B] 25)) (bAlloc (Below.refl _ _) (by simp) _) (by simp) hb
  obtain ⟨W, hW⟩ : ∃ W, W = w.alloc (.cells #[.int .i64 N, .int .i64 B] 25) := ⟨_, rfl⟩
  have hWs : W.heap.size = w.heap.size + 1 := by rw [hW]; simp
  have gW := eqbox1 hW
  have d0 : W.cell? ⟨w.heap.size, 0, none⟩ = some (.int .i64 N) := box_cell gW.1 0 _ rfl
  have d1 : W.cell? ⟨w.heap.size, 1, none⟩ = some (.int .i64 B) := box_cell gW.1 1 _ rfl
  rw [← hW, ← hWs] at hB1'
  rw [← hWs] at hO
  have HO0 := Lib.hid hO
  have HB0 := Lib.hid hB1'
  have HWW := Lib.hid gW.2
  have hsz := gW.2.size
  have HE := Lib.hid hWs
  clear hb g hO hB1' hW gW
  go_wp2
  go_loopw [3, 4, 5, 6, 7, 8] (fun v x _ _ _ _ wr => ∃ X : Nat, X ≤ 2 ^ N ∧ x = .int .i64 X ∧ OwnsCube wr W.heap.size v (priA N B X) ∧ Below W.heap.size W wr) (fun _ x _ _ _ _ _ => 2 ^ N - (intOf x).toNat)
  case atStart => exact ⟨0, Nat.zero_le _, rfl, by rw [HE.out]; rw [HE.out] at HO0; exact HO0.out, HB0.out⟩
  case round =>
    obtain ⟨X, hX, rfl, hown, hb⟩ := hrel
    have HO := Lib.hid hown
    have HB := Lib.hid hb
    have x0 := keep hb d0
    have x1 := keep hb d1
    clear hown hb c0 c1 hWs HO0 HB0
    by_cases hlt : X < 2 ^ N
    · have t1 : (X : Int) < 2 ^ N := by rw [pow_cast]; omega
      have hXX : (X + 1) * 2 ^ N ≤ 2 ^ N * 2 ^ N := Nat.mul_le_mul_right _ hlt
      have hAl := priA_len N B X
      rw [Nat.succ_mul] at hXX
      go_wp2
      (try rw [e1.trans (pow_cast N).symm])
      go_loopw [3, 5, 6, 7, 8] (fun v y _ _ _ wq => ∃ Y : Nat, Y ≤ 2 ^ N ∧ y = .int .i64 Y ∧ OwnsCube wq W.heap.size v (priA N B X ++ priR N B X Y) ∧ Below W.heap.size W wq) (fun _ y _ _ _ _ => 2 ^ N - (intOf y).toNat)
      case atStart => exact ⟨0, Nat.zero_le _, rfl, by simpa [priR] using HO.out, HB.out⟩
      case round =>
        obtain ⟨Y, hY, rfl, hown, hb⟩ := hrel
        have HO2 := Lib.hid hown
        have HB2 := Lib.hid hb
        have y0 := keep hb d0
        have y1 := keep hb d1
        clear hown hb x0 x1
        by_cases hYl : Y < 2 ^ N
        · have t2 : (Y : Int) < 2 ^ N := by rw [pow_cast]; omega
          have ev := i64_andNot Y X (by omega) (by omega)
          obtain ⟨q, hq⟩ : ∃ q, andNot Y X = q := ⟨_, rfl⟩
          rw [hq] at ev
          have HQ := Lib.hid hq
          clear hq
          by_cases hq0 : q = 0
          · have t3 : ((q : Int) != 0) = false := by simp [hq0]
            cases him : impB N B X Y
            · have hno : primeB N B X Y = false := by unfold primeB; rw [him]; simp
              have HN := Lib.hid hno
              have HI := Lib.hid him
              clear hno hq0 him
              have l0 : w.heap.size < wr.heap.size := World.block_lt_of_cell? _ _ y0
              go_wp2_with fail
              refine (specImp_at N B X Y _ hN hB (by omega) (by omega) HI.out).mono ?_
              rintro e w2 ⟨rfl, hb⟩
              have g := box1 hb
              have R := Lib.hid (And.intro (OwnsR.below HO2.out g.2) (bThen HB2.out g.2))
              clear hb g
              go_wp2
              go_roundw
              case rel => exact ⟨Y + 1, by omega, by go_num, by rw [priR_no N B X Y HN.out]; exact R.out.1, R.out.2⟩
              case measure => simp [intOf]; omega
            · have HI := Lib.hid him
              have HZ := Lib.hid hq0
              clear hq0 him
              have l0 : w.heap.size < wr.heap.size := World.block_lt_of_cell? _ _ y0
              go_wp2_with fail
              refine (specImp_at N B X Y _ hN hB (by omega) (by omega) HI.out).mono ?_
              rintro e w2 ⟨rfl, hb⟩
              have g := box1 hb
              have z0 : w2.cell? ⟨wr.heap.size, 0, none⟩ = some (.int .i64 X) := box_cell g.1 0 _ rfl
              have z1 : w2.cell? ⟨wr.heap.size, 1, none⟩ = some (.int .i64 Y) := box_cell g.1 1 _ rfl
              have u0 := keep g.2 y0
              have u1 := keep g.2 y1
              have R := Lib.hid (And.intro (OwnsR.below HO2.out g.2) (bThen HB2.out g.2))
              clear hb g y0 y1
              go_wp2
              (try rw [e1.trans (pow_cast N).symm])
              go_loopw [7, 8] (fun p k wk => ∃ m : Nat, m ≤ N ∧ k = .int .i64 m ∧ p = .bool (priK N B X Y m) ∧ Below w2.heap.size w2 wk) (fun _ k _ => N - (intOf k).toNat)
              case atStart => exact ⟨0, Nat.zero_le _, rfl, rfl, Below.refl _ _⟩
              case round =>
                obtain ⟨m, hm, rfl, rfl, hbk⟩ := hrel
                have HK := Lib.hid hbk
                have s0 := keep hbk u0
                have s1 := keep hbk u1
                have r0 := keep hbk z0
                have r1 := keep hbk z1
                by_cases hml : m < N
                · have t4 : (m : Int) < (N : Int) := by omega
                  have ev1 := bit_and1 X m (by omega) (by omega)
                  have em := (shl_one m (by omega)).trans (pow_cast m).symm
                  have p8 : 2 ^ m ≤ 16 := pow16 m (by omega)
                  have ax := i64_andNot X (2 ^ m) (by omega) (by omega)
                  have ay := i64_andNot Y (2 ^ m) (by omega) (by omega)
                  have lx : andNot X (2 ^ m) ≤ X := andNot_le X (2 ^ m)
                  have ly : andNot Y (2 ^ m) ≤ Y := andNot_le Y (2 ^ m)
                  rw [← pow_cast] at ax ay
                  have hst := priK_step N B X Y m
                  obtain ⟨x', hx'⟩ : ∃ x', andNot X (2 ^ m) = x' := ⟨_, rfl⟩
                  obtain ⟨y', hy'⟩ : ∃ y', andNot Y (2 ^ m) = y' := ⟨_, rfl⟩
                  rw [hx', hy'] at hst
                  rw [hx'] at ax lx
                  rw [hy'] at ay ly
                  obtain ⟨pk, hpk⟩ : ∃ pk, priK N B X Y m = pk := ⟨_, rfl⟩
                  obtain ⟨di, hdi⟩ : ∃ di, impB N B x' y' = di := ⟨_, rfl⟩
                  rw [hpk, hdi] at hst
                  rw [hpk]
                  obtain ⟨tb, hbit⟩ : ∃ tb, X.testBit m = tb := ⟨_, rfl⟩
                  rw [hbit] at ev1 hst
                  have HST := Lib.hid hst
                  have HDI := Lib.hid hdi
                  have k0 := cell_regrown s0
                  have k1 := cell_regrown s1
                  clear hst hbit hbk u0 u1 z0 z1 hx' hy' hpk hdi
                  cases tb <;> cases di
                  all_goals
                    simp only [Bool.toNat_false, Bool.toNat_true] at ev1
                    go_wp2
                    refine wp_region_quiet_below (by kernel_rfl) (by kernel_rfl) ?_
                    repeat (go_big_quiet_step (first | (go_at_call 50; refine Calls.regrown_of (specImp_at N B _ _ _ hN hB (by omega) (by omega) HDI.out))))
                    refine wpQuiet_nil ?_
                    intro _ hw'
                    obtain ⟨⟨dq, osq⟩, hw''⟩ := hw'
                    subst hw''
                    go_wp2
                    go_roundw
                    case rel => exact ⟨m + 1, by omega, by go_num, by rw [HST.out]; simp, bThen HK.out (below_regrown _ _ _)⟩
                    case measure => simp [intOf]; omega
                · have hmN : N = m := by omega
                  subst hmN
                  have t4 : ¬ (N : Int) < (N : Int) := by omega
                  obtain ⟨pk, hpk⟩ : ∃ pk, priK N B X Y N = pk := ⟨_, rfl⟩
                  rw [hpk]
                  have HPK := Lib.hid hpk
                  have HOW := Lib.hid (OwnsR.below R.out.1 HK.out)
                  have HBW := Lib.hid (bThen R.out.2 HK.out)
                  have hsw : W.heap.size ≤ wr.heap.size := HBW.out.size
                  clear hpk hbk u0 u1 z0 z1 R HK
                  cases pk
                  · have hno : primeB N B X Y = false := by unfold primeB; rw [HI.out, HPK.out]; simp
                    have HN := Lib.hid hno
                    clear hno
                    go_wp2
                    go_roundw
                    case rel => exact ⟨Y + 1, by omega, by go_num, by rw [priR_no N B X Y HN.out]; exact HOW.out, HBW.out⟩
                    case measure => simp [intOf]; omega
                  · have hyes : primeB N B X Y = true := by unfold primeB; rw [HI.out, HPK.out, HQ.out]; simp [HZ.out]
                    have HN := Lib.hid hyes
                    have hRl := priR_len N B X Y
                    obtain ⟨L, hL⟩ : ∃ L, priA N B X ++ priR N B X Y = L := ⟨_, rfl⟩
                    have hLl : L.length ≤ 512 := by rw [← hL, List.length_append]; omega
                    have hst := priR_yes N B X Y HN.out
                    have hst2 : priA N B X ++ priR N B X (Y + 1) = L ++ [((X : Int), (Y : Int))] := by rw [hst, ← List.append_assoc, hL]
                    rw [hL] at HOW
                    have HST := Lib.hid hst2
                    clear hyes hst hst2 hL hRl
                    go_wp2_with (refine wpList_append_lies _ rfl _ _ 28 (by rfl) W.heap.size 32 i0 _ 2 16 Try.underlying28 hi hz0 hz1 hz2 rfl (by omega) u3 L.length _ (by rfl) (World.ownsRow.alloc HOW.out _) ⟨wr.heap.size, 0, none⟩ 1 1 [.int .i64 X, .int .i64 Y] (by rfl) (by rfl) (World.news_of_block (heap_alloc_new wr _)) (by simp [Value.oneCell']) (by omega) (by unfold maxLen; omega) (by omega) (by simp; omega) (wr.heap.size + 1) (by simp) ?_; intro gg cap w2 hown2 hgrow2 hat2 hlt2)
                    have RR := ownR_add (x := ((X : Int), (Y : Int))) HOW.out hsw HBW.out (bAlloc (Below.refl _ _) (Nat.le_refl _) _) hgrow2 hown2
                    have HR := Lib.hid RR
                    clear RR hown2 hgrow2 hat2 hlt2
                    go_wp2
                    go_roundw
                    case rel => exact ⟨Y + 1, by omega, by go_num, by rw [HST.out]; exact HR.out.1, HR.out.2⟩
                    case measure => simp [intOf]; omega
          · have t3 : ((q : Int) != 0) = true := by simp [hq0]
            have hno : primeB N B X Y = false := by unfold primeB; rw [HQ.out]; simp [hq0]
            have HN := Lib.hid hno
            have hBa := HB2.out
            have R := Lib.hid (OwnsR.below HO2.out (bAlloc (Below.refl wr.heap.size wr) (Nat.le_refl _) (.cells #[.int .i64 X, .int .i64 Y] 32)))
            clear hno hq0
            go_wp2
            go_roundw
            case rel => exact ⟨Y + 1, by omega, by go_num, by rw [priR_no N B X Y HN.out]; exact R.out, by (repeat' (first | assumption | exact Below.refl _ _ | refine bDrewN ?_ _ | refine Below.drew ?_ | refine bAlloc ?_ (Nat.le_refl _) _ | refine bSet ?_ (by first | exact Nat.le_refl _ | omega | (simp <;> omega)) _))⟩
            case measure => simp [intOf]; omega
        · obtain rfl : Y = 2 ^ N := by omega
          have t2 : ¬ (((2 ^ N : Nat) : Int)) < 2 ^ N := by rw [pow_cast]; omega
          go_wp2
          go_roundw
          case rel => exact ⟨X + 1, by omega, by go_num, by rw [priA_step]; exact HO2.out, HB2.out⟩
          case measure => simp [intOf]; omega
    · obtain rfl : X = 2 ^ N := by omega
      have t1 : ¬ (((2 ^ N : Nat) : Int)) < 2 ^ N := by rw [pow_cast]; omega
      go_wp2
      go_ret
      exact ⟨_, rfl, HO.out.mono hsz, bThen HWW.out HB.out⟩
end Go.Proofs.Ytjibjnkabfmgaaa
