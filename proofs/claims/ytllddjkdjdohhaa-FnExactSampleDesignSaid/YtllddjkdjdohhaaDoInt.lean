/-
  The type Int as the exact laws' helpers see it.
-/
import Derived.Test.YtllddjkdjdohhaaNum
import Derived.Test.YtllddjkdjdohhaaDmInt
namespace Go.Proofs.Ytllddjkdjdohhaa
open Go.RowKit
set_option linter.unusedVariables false
set_option linter.unusedSimpArgs false

abbrev owIntS : Ow (List Int) := owS 1 owInt
theorem gow_IntS : Ow.Good owIntS := owS_good 1 owInt_good
theorem rds_IntS : Ow.Rds owIntS rdIntS := owS_rds 1 owInt_rds
def numInt (k : Int) (_ : Int) : Int := k
def numIntS (k : Int) (L : List Int) : List Int := numG numInt (fun _ => 1) k L
theorem cntG_IntS (L : List Int) : cntG (fun _ : Int => 1) L = cntIntS L := by
  unfold cntG cntIntS
  induction L with
  | nil => rfl
  | cons x xs ih => rw [List.map_cons, List.sum_cons, ih, List.length_cons]; omega
theorem numIntS_set (L : List Int) (i : Nat) (x : Int) (k cc : Int) (h : L[i]? = some x) (hc : (cntIntS (L.take i) : Int) = cc) : (numIntS k (L.take i) ++ L.drop i).set i (numInt (k + cc) x) = numIntS k (L.take (i + 1)) ++ L.drop (i + 1) := by
  have h1 := numG_set numInt (fun _ : Int => 1) L i x k h
  rw [cntG_IntS, hc] at h1; exact h1
theorem numIntS_mid (L : List Int) (i : Nat) (x : Int) (k : Int) (h : L[i]? = some x) : (numIntS k (L.take i) ++ L.drop i)[i]? = some x := numG_mid numInt (fun _ : Int => 1) L i x k h
theorem numIntS_get (L : List Int) (i : Nat) (x : Int) (k cc : Int) (h : L[i]? = some x) (hc : (cntIntS (L.take i) : Int) = cc) : (numIntS k L)[i]? = some (numInt (k + cc) x) := by
  have h1 := numG_get numInt (fun _ : Int => 1) L i x k h
  rw [cntG_IntS, hc] at h1; exact h1
theorem numIntS_len (L : List Int) (k : Int) : (numIntS k L).length = L.length := numG_len numInt (fun _ : Int => 1) L k
theorem numIntS_midlen (L : List Int) (i : Nat) (k : Int) (h : i ≤ L.length) : (numIntS k (L.take i) ++ L.drop i).length = L.length := by
  rw [List.length_append, numIntS_len, List.length_take, List.length_drop]; omega

set_option maxHeartbeats 6400000 in
theorem markIntS_own (L : List Int) (A : Option Addr) (n c : Nat) (bs : List Nat) (k : Int) (w : World) (h : owIntS bs w [.slice A n c] L) (nd : bs.Nodup) (hk0 : 0 ≤ k) (hk : k + (cntIntS L : Int) ≤ 4611686018427387904) :
    Calls Try.prog 35 #[.slice A n c, .int .i64 k] w fun e w' => e = .returned (.int .i64 (k + (cntIntS L : Int))) ∧ owIntS bs w' [.slice A n c] (numIntS k L) ∧ ChgL bs w w' := by
  obtain ⟨A', c', ea, hm, -⟩ := id h
  injection ea with ea
  injection ea with e1 e2 e3
  subst e2
  clear e1 e3
  unfold maxLen at hm
  have HA := Lib.hid h
  have ND := Lib.hid nd
  clear h nd
  go_enter Try.func35, Try.ntmps35
  go_wp2
  go_loopw [1, 5] (fun q v wr => ∃ i : Nat, i ≤ L.length ∧ v = .int .i64 i ∧ q = .int .i64 (k + (cntIntS (L.take i) : Int)) ∧ owIntS bs wr [.slice A L.length c] (numIntS k (L.take i) ++ L.drop i) ∧ ChgL bs w wr) (fun _ v _ => L.length - (intOf v).toNat)
  case atStart => exact ⟨0, Nat.zero_le _, rfl, by simp [cntIntS], by simpa [numIntS, numG] using HA.out, ChgL.refl _ _⟩
  case round =>
    obtain ⟨i, hi, rfl, rfl, hown, hchg⟩ := hrel
    obtain ⟨W, rfl⟩ : ∃ W, W = wr := ⟨_, rfl⟩
    have HO := Lib.hid hown
    have HG := Lib.hid hchg
    have hle := cntIntS_le L i
    clear hown hchg HA
    by_cases hlt : i < L.length
    · obtain ⟨x, hxx⟩ : ∃ x, L[i] = x := ⟨_, rfl⟩
      have hx? : L[i]? = some x := by rw [List.getElem?_eq_getElem hlt, hxx]
      have hil : i < (numIntS k (L.take i) ++ L.drop i).length := by rw [numIntS_midlen L i k (by omega)]; exact hlt
      obtain ⟨g, o, bj, us, rfl, hgb, hbj, hgl, hul, hc, hx, hgn, hnd, hset⟩ := owS_elem owInt_good HO.out ND.out i hil
      have hmx : (numIntS k (L.take i) ++ L.drop i)[i] = x := by have h := numIntS_mid L i x k hx?; rw [List.getElem?_eq_getElem hil] at h; injection h
      rw [hmx] at hx
      have hst := cntIntS_step L i x hx?
      have hle2 := cntIntS_le L (i + 1)
      obtain ⟨cc, hcc⟩ : ∃ c : Int, (cntIntS (L.take i) : Int) = c := ⟨_, rfl⟩
      have hns := numIntS_set L i x k cc hx? hcc
      have HNS := Lib.hid hns
      have HSET := Lib.hid hset
      clear hxx hx? hmx hns hset
      obtain ⟨bj0, e0, fit0⟩ := hx
      subst e0
      subst bj0
      have xc0 : W.cell? ⟨g, o + i, none⟩ = some (.int .i64 x) := by
        have h := (hc 0 _ rfl).1
        rwa [Nat.mul_one, Nat.add_zero] at h
      have xf0 : W.frozen? ⟨g, o + i, none⟩ = false := by
        have h := (hc 0 _ rfl).2
        rwa [Nat.mul_one, Nat.add_zero] at h
      have hst' : (cntIntS (L.take (i + 1)) : Int) = cc + 1 := by omega
      have hbnd : k + (cc + 1) ≤ 4611686018427387904 := by rw [← hst']; omega
      have hcc0 : 0 ≤ cc := by omega
      have HST := Lib.hid hst'
      rw [hcc]
      clear hst hle2 hst' hle hc hul hil hcc  hnd
      go_wp2
      go_roundw
      case rel =>
        refine ⟨i + 1, by omega, by go_num, by rw [HST.out]; exact int_eq (by omega), ?_, ?_⟩
        · rw [← HNS.out]
          exact HSET.out _ [_] _ ((by rw [Nat.mul_one]; exact Elem.set (Elem.refl g (o + i) (o + i + 1) [] W) (by omega) (by omega) _)) rfl (cells1 (b := o + i * 1) (by rw [Nat.mul_one]; exact ⟨(set_same xc0), (set_froz xf0)⟩)) (by show owInt _ _ _ _; exact ⟨rfl, rfl, by unfold Fit numInt; omega⟩)
        · refine HG.out.trans (ChgL.wider (bs := g :: []) (Elem.chg (lo := o + i * 1) (hi := o + i * 1 + 1) ((by rw [Nat.mul_one]; exact Elem.set (Elem.refl g (o + i) (o + i + 1) [] W) (by omega) (by omega) _))) fun b hb => ?_)
          rcases List.mem_cons.1 hb with rfl | hb
          · exact hgb
          · exact hbj b hb
      case measure => simp [intOf]; omega
    · obtain rfl : i = L.length := by omega
      have ho := HO.out
      rw [List.take_length, List.drop_length, List.append_nil] at ho
      have HF := Lib.hid ho
      rw [List.take_length]
      clear hle ho
      go_wp2
      go_ret
      exact ⟨rfl, HF.out, HG.out⟩

set_option maxHeartbeats 3200000 in
theorem heldIntS_num (L : List Int) (v : Value) {B T : Nat} (k : Int) (w : World) (h : rdIntS B T w [v] (numIntS k L)) (hT : T ≤ w.heap.size) (hk0 : 0 ≤ k) (hk : k + (cntIntS L : Int) ≤ 4611686018427387904) :
    Calls Try.prog 36 #[v, .int .i64 k] w fun e w' => e = .returned (.int .i64 (k + (cntIntS L : Int))) ∧ Below w.heap.size w w' := by
  obtain ⟨A, c, ea, hm, hA⟩ := h
  injection ea with ea
  rw [numIntS_len] at ea hm
  subst ea
  unfold maxLen at hm
  have HA := Lib.hid hA
  clear hA
  go_enter Try.func36, Try.ntmps36
  go_wp2
  go_loopw [1, 5] (fun q v wr => ∃ i : Nat, i ≤ L.length ∧ v = .int .i64 i ∧ q = .int .i64 (k + (cntIntS (L.take i) : Int)) ∧ Below w.heap.size w wr) (fun _ v _ => L.length - (intOf v).toNat)
  case atStart => exact ⟨0, Nat.zero_le _, rfl, by simp [cntIntS], Below.refl _ _⟩
  case round =>
    obtain ⟨i, hi, rfl, rfl, hb⟩ := hrel
    obtain ⟨W, rfl⟩ : ∃ W, W = wr := ⟨_, rfl⟩
    have HB := Lib.hid hb
    have hle := cntIntS_le L i
    clear hb
    by_cases hlt : i < L.length
    · obtain ⟨b, o, rfl, _, _, us, hul, hc, hx⟩ := HA.out i (by rw [numIntS_len]; exact hlt)
      obtain ⟨x, hxx⟩ : ∃ x, L[i] = x := ⟨_, rfl⟩
      have hx? : L[i]? = some x := by rw [List.getElem?_eq_getElem hlt, hxx]
      have hst := cntIntS_step L i x hx?
      have hle2 := cntIntS_le L (i + 1)
      obtain ⟨cc, hcc⟩ : ∃ c : Int, (cntIntS (L.take i) : Int) = c := ⟨_, rfl⟩
      have hng := numIntS_get L i x k cc hx? hcc
      have hnx : (numIntS k L)[i]'(by rw [numIntS_len]; exact hlt) = numInt (k + cc) x := by rw [List.getElem?_eq_getElem (by rw [numIntS_len]; exact hlt)] at hng; injection hng
      rw [hnx] at hx
      unfold numInt at hx
      clear hxx hx? hng hnx
      obtain ⟨e0, -⟩ := hx
      subst e0
      have xc0 : W.cell? ⟨b, o + i, none⟩ = some (.int .i64 (k + cc)) := by
        have h := keep HB.out (hc 0 _ rfl)
        rwa [Nat.mul_one, Nat.add_zero] at h
      have hst' : (cntIntS (L.take (i + 1)) : Int) = cc + 1 := by omega
      have hbnd : k + (cc + 1) ≤ 4611686018427387904 := by rw [← hst']; omega
      have hcc0 : 0 ≤ cc := by omega
      have HST := Lib.hid hst'
      rw [hcc]
      clear hst hle2 hst' hle hcc hc hul 
      go_wp2
      go_roundw
      case rel => exact ⟨i + 1, by omega, by go_num, by rw [HST.out]; exact int_eq (by omega), HB.out⟩
      case measure => simp [intOf]; omega
    · obtain rfl : i = L.length := by omega
      rw [List.take_length]
      clear hle
      go_wp2
      go_ret
      exact ⟨rfl, HB.out⟩
end Go.Proofs.Ytllddjkdjdohhaa
