/-
  The type Inst as the exact laws' helpers see it.
-/
import Derived.Test.YtllddjkdjdohhaaDmInst
import Derived.Test.YtllddjkdjdohhaaDoInt
namespace Go.Proofs.Ytllddjkdjdohhaa
open Go.RowKit
set_option linter.unusedVariables false
set_option linter.unusedSimpArgs false

abbrev owInst : Ow DInst := ow3 owInt owInt owIntS
theorem gow_Inst : Ow.Good owInst := ow3_good owInt_good owInt_good gow_IntS
theorem rds_Inst : Ow.Rds owInst rdInst := ow3_rds owInt_rds owInt_rds rds_IntS
abbrev owInstS : Ow (List DInst) := owS 3 owInst
theorem gow_InstS : Ow.Good owInstS := owS_good 3 gow_Inst
theorem rds_InstS : Ow.Rds owInstS rdInstS := owS_rds 3 rds_Inst
def numInst (k : Int) (x : DInst) : DInst := (k, k + 1, numIntS (k + 1 + 1) (x.2.2))
def numInstS (k : Int) (L : List DInst) : List DInst := numG numInst cntInst k L
theorem cntG_InstS (L : List DInst) : cntG cntInst L = cntInstS L := rfl
theorem numInstS_set (L : List DInst) (i : Nat) (x : DInst) (k cc : Int) (h : L[i]? = some x) (hc : (cntInstS (L.take i) : Int) = cc) : (numInstS k (L.take i) ++ L.drop i).set i (numInst (k + cc) x) = numInstS k (L.take (i + 1)) ++ L.drop (i + 1) := by
  have h1 := numG_set numInst cntInst L i x k h
  rw [cntG_InstS, hc] at h1; exact h1
theorem numInstS_mid (L : List DInst) (i : Nat) (x : DInst) (k : Int) (h : L[i]? = some x) : (numInstS k (L.take i) ++ L.drop i)[i]? = some x := numG_mid numInst cntInst L i x k h
theorem numInstS_get (L : List DInst) (i : Nat) (x : DInst) (k cc : Int) (h : L[i]? = some x) (hc : (cntInstS (L.take i) : Int) = cc) : (numInstS k L)[i]? = some (numInst (k + cc) x) := by
  have h1 := numG_get numInst cntInst L i x k h
  rw [cntG_InstS, hc] at h1; exact h1
theorem numInstS_len (L : List DInst) (k : Int) : (numInstS k L).length = L.length := numG_len numInst cntInst L k
theorem numInstS_midlen (L : List DInst) (i : Nat) (k : Int) (h : i ≤ L.length) : (numInstS k (L.take i) ++ L.drop i).length = L.length := by
  rw [List.length_append, numInstS_len, List.length_take, List.length_drop]; omega

set_option maxHeartbeats 6400000 in
theorem markInstS_own (L : List DInst) (A : Option Addr) (n c : Nat) (bs : List Nat) (k : Int) (w : World) (h : owInstS bs w [.slice A n c] L) (nd : bs.Nodup) (hk0 : 0 ≤ k) (hk : k + (cntInstS L : Int) ≤ 4611686018427387904) :
    Calls Try.prog 78 #[.slice A n c, .int .i64 k] w fun e w' => e = .returned (.int .i64 (k + (cntInstS L : Int))) ∧ owInstS bs w' [.slice A n c] (numInstS k L) ∧ ChgL bs w w' := by
  obtain ⟨A', c', ea, hm, -⟩ := id h
  injection ea with ea
  injection ea with e1 e2 e3
  subst e2
  clear e1 e3
  unfold maxLen at hm
  have HA := Lib.hid h
  have ND := Lib.hid nd
  clear h nd
  go_enter Try.func78, Try.ntmps78
  go_wp2
  go_loopw [1, 5] (fun q v wr => ∃ i : Nat, i ≤ L.length ∧ v = .int .i64 i ∧ q = .int .i64 (k + (cntInstS (L.take i) : Int)) ∧ owInstS bs wr [.slice A L.length c] (numInstS k (L.take i) ++ L.drop i) ∧ ChgL bs w wr) (fun _ v _ => L.length - (intOf v).toNat)
  case atStart => exact ⟨0, Nat.zero_le _, rfl, by simp [cntInstS], by simpa [numInstS, numG] using HA.out, ChgL.refl _ _⟩
  case round =>
    obtain ⟨i, hi, rfl, rfl, hown, hchg⟩ := hrel
    obtain ⟨W, rfl⟩ : ∃ W, W = wr := ⟨_, rfl⟩
    have HO := Lib.hid hown
    have HG := Lib.hid hchg
    have hle := cntInstS_le L i
    clear hown hchg HA
    by_cases hlt : i < L.length
    · obtain ⟨x, hxx⟩ : ∃ x, L[i] = x := ⟨_, rfl⟩
      have hx? : L[i]? = some x := by rw [List.getElem?_eq_getElem hlt, hxx]
      have hil : i < (numInstS k (L.take i) ++ L.drop i).length := by rw [numInstS_midlen L i k (by omega)]; exact hlt
      obtain ⟨g, o, bj, us, rfl, hgb, hbj, hgl, hul, hc, hx, hgn, hnd, hset⟩ := owS_elem gow_Inst HO.out ND.out i hil
      have hmx : (numInstS k (L.take i) ++ L.drop i)[i] = x := by have h := numInstS_mid L i x k hx?; rw [List.getElem?_eq_getElem hil] at h; injection h
      rw [hmx] at hx
      have hst := cntInstS_step L i x hx?
      have hle2 := cntInstS_le L (i + 1)
      obtain ⟨cc, hcc⟩ : ∃ c : Int, (cntInstS (L.take i) : Int) = c := ⟨_, rfl⟩
      have hns := numInstS_set L i x k cc hx? hcc
      have HNS := Lib.hid hns
      have HSET := Lib.hid hset
      clear hxx hx? hmx hns hset
      obtain ⟨b0, b1, b2, u0, u1, u2, rfl, rfl, h0, h1, h2⟩ := hx
      obtain ⟨z0, e0, fit0⟩ := h0
      injection e0 with e0
      subst e0
      subst z0
      obtain ⟨z1, e1, fit1⟩ := h1
      injection e1 with e1
      subst e1
      subst z1
      have q2 := h2
      obtain ⟨xA2, xq2, e2, -⟩ := q2
      injection e2 with e2
      subst e2
      have xc0 : W.cell? ⟨g, o + i * 3, none⟩ = some (.int .i64 x.1) := (hc 0 _ rfl).1
      have xf0 : W.frozen? ⟨g, o + i * 3, none⟩ = false := (hc 0 _ rfl).2
      have xc1 : W.cell? ⟨g, o + i * 3 + 1, none⟩ = some (.int .i64 x.2.1) := (hc 1 _ rfl).1
      have xf1 : W.frozen? ⟨g, o + i * 3 + 1, none⟩ = false := (hc 1 _ rfl).2
      have xc2 : W.cell? ⟨g, o + i * 3 + 2, none⟩ = some (.slice xA2 (x.2.2).length xq2) := (hc 2 _ rfl).1
      have xf2 : W.frozen? ⟨g, o + i * 3 + 2, none⟩ = false := (hc 2 _ rfl).2
      obtain ⟨t2, ht2⟩ : ∃ c : Int, (cntIntS (x.2.2) : Int) = c := ⟨_, rfl⟩
      have hst' : (cntInstS (L.take (i + 1)) : Int) = cc + 2 + t2 := by unfold cntInst at hst; omega
      have hbnd : k + (cc + 2 + t2) ≤ 4611686018427387904 := by rw [← hst']; omega
      have hcc0 : 0 ≤ cc := by omega
      have hp2 : 0 ≤ t2 := by omega
      have HC2 := Lib.hid ht2
      have HST := Lib.hid hst'
      rw [hcc]
      have hn2 : b2.Nodup := by simpa using hnd
      have hg2 : g ∉ b2 := fun hb => hgn (by simp [hb])
      clear hst hle2 hst' hle hc hul hil hcc ht2 hnd
      have O2 := Lib.hid h2
      clear h2
      go_wp2_with fail
      refine (markIntS_own (x.2.2) _ _ _ b2 _ _ (gow_IntS.frame _ _ _ _ _ O2.out (fun b hb => ((Elem.set (Elem.set (Elem.refl g (o + i * 3) (o + i * 3 + 3) [] W) (by omega) (by omega) _) (by omega) (by omega) _)).chg.block b (gow_IntS.lt _ _ _ _ O2.out b hb) (fun h => hg2 (by simp at h; exact h ▸ hb)))) hn2 (by omega) (by rw [HC2.out]; omega)).mono ?_
      rintro e W1 ⟨rfl, ho, hch⟩
      rw [HC2.out]
      have yc0 := chg_cell hch hg2 (set_far (set_same xc0) (by omega))
      have yf0 := chg_froz hch hg2 (set_far (set_same xc0) (by omega)) (set_froz (set_froz xf0))
      have yc1 := chg_cell hch hg2 (set_same (set_far xc1 (by omega)))
      have yf1 := chg_froz hch hg2 (set_same (set_far xc1 (by omega))) (set_froz (set_froz xf1))
      have yc2 := chg_cell hch hg2 (set_far (set_far xc2 (by omega)) (by omega))
      have yf2 := chg_froz hch hg2 (set_far (set_far xc2 (by omega)) (by omega)) (set_froz (set_froz xf2))
      have hE : Elem g (o + i * 3) (o + i * 3 + 3) ((([] : List Nat) ++ (([] : List Nat) ++ b2))) W W1 := Elem.sub (Elem.set (Elem.set (Elem.refl g _ _ _ W) (by omega) (by omega) _) (by omega) (by omega) _) hch (fun b hb => by simp [hb]) hg2 hgl
      have HE1 := Lib.hid hE
      replace O2 := Lib.hid ho
      clear hE ho hch  xc0 xf0 xc1 xf1 xc2 xf2
      have xc0 := yc0
      have xf0 := yf0
      have xc1 := yc1
      have xf1 := yf1
      have xc2 := yc2
      have xf2 := yf2
      clear yc0 yf0 yc1 yf1 yc2 yf2
      go_wp2
      go_roundw
      case rel =>
        refine ⟨i + 1, by omega, by go_num, by rw [HST.out]; exact int_eq (by omega), ?_, ?_⟩
        · rw [← HNS.out]
          exact HSET.out _ [_, _, _] _ (HE1.out) rfl (cells3 ⟨xc0, xf0⟩ ⟨xc1, xf1⟩ ⟨xc2, xf2⟩) (by unfold numInst; (try rw [HC2.out]); exact ⟨[], [], b2, _, _, _, rfl, rfl, ⟨rfl, rfl, by unfold Fit; (try dsimp only); omega⟩, ⟨rfl, rfl, by unfold Fit; (try dsimp only); omega⟩, O2.out⟩)
        · refine HG.out.trans (ChgL.wider (bs := g :: ((([] : List Nat) ++ (([] : List Nat) ++ b2)))) (Elem.chg (lo := o + i * 3) (hi := o + i * 3 + 3) (HE1.out)) fun b hb => ?_)
          rcases List.mem_cons.1 hb with rfl | hb
          · exact hgb
          · exact hbj b hb
      case measure => simp [intOf]; omega
    · obtain rfl : i = L.length := by omega
      have ho := HO.out
      rw [List.take_length, List.drop_length, List.append_nil] at ho
      have HF := Lib.hid ho
      rw [List.take_length]
      clear hle ho
      go_wp2
      go_ret
      exact ⟨rfl, HF.out, HG.out⟩

set_option maxHeartbeats 3200000 in
theorem heldInstS_num (L : List DInst) (v : Value) {B T : Nat} (k : Int) (w : World) (h : rdInstS B T w [v] (numInstS k L)) (hT : T ≤ w.heap.size) (hk0 : 0 ≤ k) (hk : k + (cntInstS L : Int) ≤ 4611686018427387904) :
    Calls Try.prog 109 #[v, .int .i64 k] w fun e w' => e = .returned (.int .i64 (k + (cntInstS L : Int))) ∧ Below w.heap.size w w' := by
  obtain ⟨A, c, ea, hm, hA⟩ := h
  injection ea with ea
  rw [numInstS_len] at ea hm
  subst ea
  unfold maxLen at hm
  have HA := Lib.hid hA
  clear hA
  go_enter Try.func109, Try.ntmps109
  go_wp2
  go_loopw [1, 5] (fun q v wr => ∃ i : Nat, i ≤ L.length ∧ v = .int .i64 i ∧ q = .int .i64 (k + (cntInstS (L.take i) : Int)) ∧ Below w.heap.size w wr) (fun _ v _ => L.length - (intOf v).toNat)
  case atStart => exact ⟨0, Nat.zero_le _, rfl, by simp [cntInstS], Below.refl _ _⟩
  case round =>
    obtain ⟨i, hi, rfl, rfl, hb⟩ := hrel
    obtain ⟨W, rfl⟩ : ∃ W, W = wr := ⟨_, rfl⟩
    have HB := Lib.hid hb
    have hle := cntInstS_le L i
    clear hb
    by_cases hlt : i < L.length
    · obtain ⟨b, o, rfl, _, _, us, hul, hc, hx⟩ := HA.out i (by rw [numInstS_len]; exact hlt)
      obtain ⟨x, hxx⟩ : ∃ x, L[i] = x := ⟨_, rfl⟩
      have hx? : L[i]? = some x := by rw [List.getElem?_eq_getElem hlt, hxx]
      have hst := cntInstS_step L i x hx?
      have hle2 := cntInstS_le L (i + 1)
      obtain ⟨cc, hcc⟩ : ∃ c : Int, (cntInstS (L.take i) : Int) = c := ⟨_, rfl⟩
      have hng := numInstS_get L i x k cc hx? hcc
      have hnx : (numInstS k L)[i]'(by rw [numInstS_len]; exact hlt) = numInst (k + cc) x := by rw [List.getElem?_eq_getElem (by rw [numInstS_len]; exact hlt)] at hng; injection hng
      rw [hnx] at hx
      unfold numInst at hx
      clear hxx hx? hng hnx
      obtain ⟨u0, u1, u2, rfl, h0, h1, h2⟩ := hx
      obtain ⟨t2, ht2⟩ : ∃ c : Int, (cntIntS (x.2.2) : Int) = c := ⟨_, rfl⟩
      (try simp only [ht2] at h0)
      obtain ⟨e0, -⟩ := h0
      (try dsimp only at e0)
      injection e0 with e0
      subst e0
      (try simp only [ht2] at h1)
      obtain ⟨e1, -⟩ := h1
      (try dsimp only at e1)
      injection e1 with e1
      subst e1
      (try simp only [ht2] at h2)
      have O2 := Lib.hid h2
      obtain ⟨xA2, xq2, e2, -⟩ := h2
      (try dsimp only at e2)
      rw [numIntS_len] at e2
      injection e2 with e2
      subst e2
      have xc0 : W.cell? ⟨b, o + i * 3, none⟩ = some (.int .i64 (k + cc)) := keep HB.out (hc 0 _ rfl)
      have xc1 : W.cell? ⟨b, o + i * 3 + 1, none⟩ = some (.int .i64 (k + cc + 1)) := keep HB.out (hc 1 _ rfl)
      have xc2 : W.cell? ⟨b, o + i * 3 + 2, none⟩ = some (.slice xA2 (x.2.2).length xq2) := keep HB.out (hc 2 _ rfl)
      have hst' : (cntInstS (L.take (i + 1)) : Int) = cc + 2 + t2 := by unfold cntInst at hst; omega
      have hbnd : k + (cc + 2 + t2) ≤ 4611686018427387904 := by rw [← hst']; omega
      have hcc0 : 0 ≤ cc := by omega
      have hp2 : 0 ≤ t2 := by omega
      have HC2 := Lib.hid ht2
      have HST := Lib.hid hst'
      rw [hcc]
      clear hst hle2 hst' hle hcc hc hul ht2
      go_wp2_with fail
      refine (heldIntS_num (x.2.2) _ _ _ (by have h := good_IntS.below O2.out hT HB.out; (first | exact h | (simpa [Int.add_assoc] using h))) (Nat.le_trans hT (HB.out).size) (by omega) (by rw [HC2.out]; omega)).mono ?_
      rintro e W1 ⟨rfl, hbb⟩
      rw [HC2.out]
      replace xc0 := keep hbb xc0
      replace xc1 := keep hbb xc1
      replace xc2 := keep hbb xc2
      have HB1 := Lib.hid (bThen (HB.out) hbb)
      have tn1 : ¬ (k + cc + 1 + 1 + t2) < 0 := by omega
      clear hbb
      go_wp2
      go_roundw
      case rel => exact ⟨i + 1, by omega, by go_num, by rw [HST.out]; exact int_eq (by omega), HB1.out⟩
      case measure => simp [intOf]; omega
    · obtain rfl : i = L.length := by omega
      rw [List.take_length]
      clear hle
      go_wp2
      go_ret
      exact ⟨rfl, HB.out⟩
end Go.Proofs.Ytllddjkdjdohhaa
