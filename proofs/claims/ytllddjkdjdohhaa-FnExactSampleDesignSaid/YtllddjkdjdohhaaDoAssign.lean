/-
  The type Assign as the exact laws' helpers see it.
-/
import Derived.Test.YtllddjkdjdohhaaDmAssign
import Derived.Test.YtllddjkdjdohhaaDoOp
namespace Go.Proofs.Ytllddjkdjdohhaa
open Go.RowKit
set_option linter.unusedVariables false
set_option linter.unusedSimpArgs false

abbrev owAssign : Ow DAssign := ow2 owInt owOpS
theorem gow_Assign : Ow.Good owAssign := ow2_good owInt_good gow_OpS
theorem rds_Assign : Ow.Rds owAssign rdAssign := ow2_rds owInt_rds rds_OpS
abbrev owAssignS : Ow (List DAssign) := owS 2 owAssign
theorem gow_AssignS : Ow.Good owAssignS := owS_good 2 gow_Assign
theorem rds_AssignS : Ow.Rds owAssignS rdAssignS := owS_rds 2 rds_Assign
def numAssign (k : Int) (x : DAssign) : DAssign := (k, numOpS (k + 1) (x.2))
def numAssignS (k : Int) (L : List DAssign) : List DAssign := numG numAssign cntAssign k L
theorem cntG_AssignS (L : List DAssign) : cntG cntAssign L = cntAssignS L := rfl
theorem numAssignS_set (L : List DAssign) (i : Nat) (x : DAssign) (k cc : Int) (h : L[i]? = some x) (hc : (cntAssignS (L.take i) : Int) = cc) : (numAssignS k (L.take i) ++ L.drop i).set i (numAssign (k + cc) x) = numAssignS k (L.take (i + 1)) ++ L.drop (i + 1) := by
  have h1 := numG_set numAssign cntAssign L i x k h
  rw [cntG_AssignS, hc] at h1; exact h1
theorem numAssignS_mid (L : List DAssign) (i : Nat) (x : DAssign) (k : Int) (h : L[i]? = some x) : (numAssignS k (L.take i) ++ L.drop i)[i]? = some x := numG_mid numAssign cntAssign L i x k h
theorem numAssignS_get (L : List DAssign) (i : Nat) (x : DAssign) (k cc : Int) (h : L[i]? = some x) (hc : (cntAssignS (L.take i) : Int) = cc) : (numAssignS k L)[i]? = some (numAssign (k + cc) x) := by
  have h1 := numG_get numAssign cntAssign L i x k h
  rw [cntG_AssignS, hc] at h1; exact h1
theorem numAssignS_len (L : List DAssign) (k : Int) : (numAssignS k L).length = L.length := numG_len numAssign cntAssign L k
theorem numAssignS_midlen (L : List DAssign) (i : Nat) (k : Int) (h : i ≤ L.length) : (numAssignS k (L.take i) ++ L.drop i).length = L.length := by
  rw [List.length_append, numAssignS_len, List.length_take, List.length_drop]; omega

set_option maxHeartbeats 6400000 in
theorem markAssignS_own (L : List DAssign) (A : Option Addr) (n c : Nat) (bs : List Nat) (k : Int) (w : World) (h : owAssignS bs w [.slice A n c] L) (nd : bs.Nodup) (hk0 : 0 ≤ k) (hk : k + (cntAssignS L : Int) ≤ 4611686018427387904) :
    Calls Try.prog 77 #[.slice A n c, .int .i64 k] w fun e w' => e = .returned (.int .i64 (k + (cntAssignS L : Int))) ∧ owAssignS bs w' [.slice A n c] (numAssignS k L) ∧ ChgL bs w w' := by
  obtain ⟨A', c', ea, hm, -⟩ := id h
  injection ea with ea
  injection ea with e1 e2 e3
  subst e2
  clear e1 e3
  unfold maxLen at hm
  have HA := Lib.hid h
  have ND := Lib.hid nd
  clear h nd
  go_enter Try.func77, Try.ntmps77
  go_wp2
  go_loopw [1, 5] (fun q v wr => ∃ i : Nat, i ≤ L.length ∧ v = .int .i64 i ∧ q = .int .i64 (k + (cntAssignS (L.take i) : Int)) ∧ owAssignS bs wr [.slice A L.length c] (numAssignS k (L.take i) ++ L.drop i) ∧ ChgL bs w wr) (fun _ v _ => L.length - (intOf v).toNat)
  case atStart => exact ⟨0, Nat.zero_le _, rfl, by simp [cntAssignS], by simpa [numAssignS, numG] using HA.out, ChgL.refl _ _⟩
  case round =>
    obtain ⟨i, hi, rfl, rfl, hown, hchg⟩ := hrel
    obtain ⟨W, rfl⟩ : ∃ W, W = wr := ⟨_, rfl⟩
    have HO := Lib.hid hown
    have HG := Lib.hid hchg
    have hle := cntAssignS_le L i
    clear hown hchg HA
    by_cases hlt : i < L.length
    · obtain ⟨x, hxx⟩ : ∃ x, L[i] = x := ⟨_, rfl⟩
      have hx? : L[i]? = some x := by rw [List.getElem?_eq_getElem hlt, hxx]
      have hil : i < (numAssignS k (L.take i) ++ L.drop i).length := by rw [numAssignS_midlen L i k (by omega)]; exact hlt
      obtain ⟨g, o, bj, us, rfl, hgb, hbj, hgl, hul, hc, hx, hgn, hnd, hset⟩ := owS_elem gow_Assign HO.out ND.out i hil
      have hmx : (numAssignS k (L.take i) ++ L.drop i)[i] = x := by have h := numAssignS_mid L i x k hx?; rw [List.getElem?_eq_getElem hil] at h; injection h
      rw [hmx] at hx
      have hst := cntAssignS_step L i x hx?
      have hle2 := cntAssignS_le L (i + 1)
      obtain ⟨cc, hcc⟩ : ∃ c : Int, (cntAssignS (L.take i) : Int) = c := ⟨_, rfl⟩
      have hns := numAssignS_set L i x k cc hx? hcc
      have HNS := Lib.hid hns
      have HSET := Lib.hid hset
      clear hxx hx? hmx hns hset
      obtain ⟨b0, b1, u0, u1, rfl, rfl, h0, h1⟩ := hx
      obtain ⟨z0, e0, fit0⟩ := h0
      injection e0 with e0
      subst e0
      subst z0
      have q1 := h1
      obtain ⟨xA1, xq1, e1, -⟩ := q1
      injection e1 with e1
      subst e1
      have xc0 : W.cell? ⟨g, o + i * 2, none⟩ = some (.int .i64 x.1) := (hc 0 _ rfl).1
      have xf0 : W.frozen? ⟨g, o + i * 2, none⟩ = false := (hc 0 _ rfl).2
      have xc1 : W.cell? ⟨g, o + i * 2 + 1, none⟩ = some (.slice xA1 (x.2).length xq1) := (hc 1 _ rfl).1
      have xf1 : W.frozen? ⟨g, o + i * 2 + 1, none⟩ = false := (hc 1 _ rfl).2
      obtain ⟨t1, ht1⟩ : ∃ c : Int, (cntOpS (x.2) : Int) = c := ⟨_, rfl⟩
      have hst' : (cntAssignS (L.take (i + 1)) : Int) = cc + 1 + t1 := by unfold cntAssign at hst; omega
      have hbnd : k + (cc + 1 + t1) ≤ 4611686018427387904 := by rw [← hst']; omega
      have hcc0 : 0 ≤ cc := by omega
      have hp1 : 0 ≤ t1 := by omega
      have HC1 := Lib.hid ht1
      have HST := Lib.hid hst'
      rw [hcc]
      have hn1 : b1.Nodup := by simpa using hnd
      have hg1 : g ∉ b1 := fun hb => hgn (by simp [hb])
      clear hst hle2 hst' hle hc hul hil hcc ht1 hnd
      have O1 := Lib.hid h1
      clear h1
      go_wp2_with fail
      refine (markOpS_own (x.2) _ _ _ b1 _ _ (gow_OpS.frame _ _ _ _ _ O1.out (fun b hb => ((Elem.set (Elem.refl g (o + i * 2) (o + i * 2 + 2) [] W) (by omega) (by omega) _)).chg.block b (gow_OpS.lt _ _ _ _ O1.out b hb) (fun h => hg1 (by simp at h; exact h ▸ hb)))) hn1 (by omega) (by rw [HC1.out]; omega)).mono ?_
      rintro e W1 ⟨rfl, ho, hch⟩
      rw [HC1.out]
      have yc0 := chg_cell hch hg1 (set_same xc0)
      have yf0 := chg_froz hch hg1 (set_same xc0) (set_froz xf0)
      have yc1 := chg_cell hch hg1 (set_far xc1 (by omega))
      have yf1 := chg_froz hch hg1 (set_far xc1 (by omega)) (set_froz xf1)
      have hE : Elem g (o + i * 2) (o + i * 2 + 2) ((([] : List Nat) ++ b1)) W W1 := Elem.sub (Elem.set (Elem.refl g _ _ _ W) (by omega) (by omega) _) hch (fun b hb => by simp [hb]) hg1 hgl
      have HE1 := Lib.hid hE
      replace O1 := Lib.hid ho
      clear hE ho hch  xc0 xf0 xc1 xf1
      have xc0 := yc0
      have xf0 := yf0
      have xc1 := yc1
      have xf1 := yf1
      clear yc0 yf0 yc1 yf1
      go_wp2
      go_roundw
      case rel =>
        refine ⟨i + 1, by omega, by go_num, by rw [HST.out]; exact int_eq (by omega), ?_, ?_⟩
        · rw [← HNS.out]
          exact HSET.out _ [_, _] _ (HE1.out) rfl (cells2 ⟨xc0, xf0⟩ ⟨xc1, xf1⟩) (by unfold numAssign; (try rw [HC1.out]); exact ⟨[], b1, _, _, rfl, rfl, ⟨rfl, rfl, by unfold Fit; (try dsimp only); omega⟩, O1.out⟩)
        · refine HG.out.trans (ChgL.wider (bs := g :: ((([] : List Nat) ++ b1))) (Elem.chg (lo := o + i * 2) (hi := o + i * 2 + 2) (HE1.out)) fun b hb => ?_)
          rcases List.mem_cons.1 hb with rfl | hb
          · exact hgb
          · exact hbj b hb
      case measure => simp [intOf]; omega
    · obtain rfl : i = L.length := by omega
      have ho := HO.out
      rw [List.take_length, List.drop_length, List.append_nil] at ho
      have HF := Lib.hid ho
      rw [List.take_length]
      clear hle ho
      go_wp2
      go_ret
      exact ⟨rfl, HF.out, HG.out⟩

set_option maxHeartbeats 3200000 in
theorem heldAssignS_num (L : List DAssign) (v : Value) {B T : Nat} (k : Int) (w : World) (h : rdAssignS B T w [v] (numAssignS k L)) (hT : T ≤ w.heap.size) (hk0 : 0 ≤ k) (hk : k + (cntAssignS L : Int) ≤ 4611686018427387904) :
    Calls Try.prog 108 #[v, .int .i64 k] w fun e w' => e = .returned (.int .i64 (k + (cntAssignS L : Int))) ∧ Below w.heap.size w w' := by
  obtain ⟨A, c, ea, hm, hA⟩ := h
  injection ea with ea
  rw [numAssignS_len] at ea hm
  subst ea
  unfold maxLen at hm
  have HA := Lib.hid hA
  clear hA
  go_enter Try.func108, Try.ntmps108
  go_wp2
  go_loopw [1, 5] (fun q v wr => ∃ i : Nat, i ≤ L.length ∧ v = .int .i64 i ∧ q = .int .i64 (k + (cntAssignS (L.take i) : Int)) ∧ Below w.heap.size w wr) (fun _ v _ => L.length - (intOf v).toNat)
  case atStart => exact ⟨0, Nat.zero_le _, rfl, by simp [cntAssignS], Below.refl _ _⟩
  case round =>
    obtain ⟨i, hi, rfl, rfl, hb⟩ := hrel
    obtain ⟨W, rfl⟩ : ∃ W, W = wr := ⟨_, rfl⟩
    have HB := Lib.hid hb
    have hle := cntAssignS_le L i
    clear hb
    by_cases hlt : i < L.length
    · obtain ⟨b, o, rfl, _, _, us, hul, hc, hx⟩ := HA.out i (by rw [numAssignS_len]; exact hlt)
      obtain ⟨x, hxx⟩ : ∃ x, L[i] = x := ⟨_, rfl⟩
      have hx? : L[i]? = some x := by rw [List.getElem?_eq_getElem hlt, hxx]
      have hst := cntAssignS_step L i x hx?
      have hle2 := cntAssignS_le L (i + 1)
      obtain ⟨cc, hcc⟩ : ∃ c : Int, (cntAssignS (L.take i) : Int) = c := ⟨_, rfl⟩
      have hng := numAssignS_get L i x k cc hx? hcc
      have hnx : (numAssignS k L)[i]'(by rw [numAssignS_len]; exact hlt) = numAssign (k + cc) x := by rw [List.getElem?_eq_getElem (by rw [numAssignS_len]; exact hlt)] at hng; injection hng
      rw [hnx] at hx
      unfold numAssign at hx
      clear hxx hx? hng hnx
      obtain ⟨u0, u1, rfl, h0, h1⟩ := hx
      obtain ⟨t1, ht1⟩ : ∃ c : Int, (cntOpS (x.2) : Int) = c := ⟨_, rfl⟩
      (try simp only [ht1] at h0)
      obtain ⟨e0, -⟩ := h0
      (try dsimp only at e0)
      injection e0 with e0
      subst e0
      (try simp only [ht1] at h1)
      have O1 := Lib.hid h1
      obtain ⟨xA1, xq1, e1, -⟩ := h1
      (try dsimp only at e1)
      rw [numOpS_len] at e1
      injection e1 with e1
      subst e1
      have xc0 : W.cell? ⟨b, o + i * 2, none⟩ = some (.int .i64 (k + cc)) := keep HB.out (hc 0 _ rfl)
      have xc1 : W.cell? ⟨b, o + i * 2 + 1, none⟩ = some (.slice xA1 (x.2).length xq1) := keep HB.out (hc 1 _ rfl)
      have hst' : (cntAssignS (L.take (i + 1)) : Int) = cc + 1 + t1 := by unfold cntAssign at hst; omega
      have hbnd : k + (cc + 1 + t1) ≤ 4611686018427387904 := by rw [← hst']; omega
      have hcc0 : 0 ≤ cc := by omega
      have hp1 : 0 ≤ t1 := by omega
      have HC1 := Lib.hid ht1
      have HST := Lib.hid hst'
      rw [hcc]
      clear hst hle2 hst' hle hcc hc hul ht1
      go_wp2_with fail
      refine (heldOpS_num (x.2) _ _ _ (by have h := good_OpS.below O1.out hT HB.out; (first | exact h | (simpa [Int.add_assoc] using h))) (Nat.le_trans hT (HB.out).size) (by omega) (by rw [HC1.out]; omega)).mono ?_
      rintro e W1 ⟨rfl, hbb⟩
      rw [HC1.out]
      replace xc0 := keep hbb xc0
      replace xc1 := keep hbb xc1
      have HB1 := Lib.hid (bThen (HB.out) hbb)
      have tn1 : ¬ (k + cc + 1 + t1) < 0 := by omega
      clear hbb
      go_wp2
      go_roundw
      case rel => exact ⟨i + 1, by omega, by go_num, by rw [HST.out]; exact int_eq (by omega), HB1.out⟩
      case measure => simp [intOf]; omega
    · obtain rfl : i = L.length := by omega
      rw [List.take_length]
      clear hle
      go_wp2
      go_ret
      exact ⟨rfl, HB.out⟩
end Go.Proofs.Ytllddjkdjdohhaa
