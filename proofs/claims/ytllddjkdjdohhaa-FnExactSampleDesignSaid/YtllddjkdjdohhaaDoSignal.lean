/-
  The type Signal as the exact laws' helpers see it.
-/
import Derived.Test.YtllddjkdjdohhaaDmSignal
import Derived.Test.YtllddjkdjdohhaaDoInt
namespace Go.Proofs.Ytllddjkdjdohhaa
open Go.RowKit
set_option linter.unusedVariables false
set_option linter.unusedSimpArgs false

abbrev owSignal : Ow DSignal := ow3 owInt owInt owInt
theorem gow_Signal : Ow.Good owSignal := ow3_good owInt_good owInt_good owInt_good
theorem rds_Signal : Ow.Rds owSignal rdSignal := ow3_rds owInt_rds owInt_rds owInt_rds
abbrev owSignalS : Ow (List DSignal) := owS 3 owSignal
theorem gow_SignalS : Ow.Good owSignalS := owS_good 3 gow_Signal
theorem rds_SignalS : Ow.Rds owSignalS rdSignalS := owS_rds 3 rds_Signal
def numSignal (k : Int) (x : DSignal) : DSignal := (k, k + 1, k + 1 + 1)
def numSignalS (k : Int) (L : List DSignal) : List DSignal := numG numSignal cntSignal k L
theorem cntG_SignalS (L : List DSignal) : cntG cntSignal L = cntSignalS L := rfl
theorem numSignalS_set (L : List DSignal) (i : Nat) (x : DSignal) (k cc : Int) (h : L[i]? = some x) (hc : (cntSignalS (L.take i) : Int) = cc) : (numSignalS k (L.take i) ++ L.drop i).set i (numSignal (k + cc) x) = numSignalS k (L.take (i + 1)) ++ L.drop (i + 1) := by
  have h1 := numG_set numSignal cntSignal L i x k h
  rw [cntG_SignalS, hc] at h1; exact h1
theorem numSignalS_mid (L : List DSignal) (i : Nat) (x : DSignal) (k : Int) (h : L[i]? = some x) : (numSignalS k (L.take i) ++ L.drop i)[i]? = some x := numG_mid numSignal cntSignal L i x k h
theorem numSignalS_get (L : List DSignal) (i : Nat) (x : DSignal) (k cc : Int) (h : L[i]? = some x) (hc : (cntSignalS (L.take i) : Int) = cc) : (numSignalS k L)[i]? = some (numSignal (k + cc) x) := by
  have h1 := numG_get numSignal cntSignal L i x k h
  rw [cntG_SignalS, hc] at h1; exact h1
theorem numSignalS_len (L : List DSignal) (k : Int) : (numSignalS k L).length = L.length := numG_len numSignal cntSignal L k
theorem numSignalS_midlen (L : List DSignal) (i : Nat) (k : Int) (h : i ≤ L.length) : (numSignalS k (L.take i) ++ L.drop i).length = L.length := by
  rw [List.length_append, numSignalS_len, List.length_take, List.length_drop]; omega

set_option maxHeartbeats 6400000 in
theorem markSignalS_own (L : List DSignal) (A : Option Addr) (n c : Nat) (bs : List Nat) (k : Int) (w : World) (h : owSignalS bs w [.slice A n c] L) (nd : bs.Nodup) (hk0 : 0 ≤ k) (hk : k + (cntSignalS L : Int) ≤ 4611686018427387904) :
    Calls Try.prog 76 #[.slice A n c, .int .i64 k] w fun e w' => e = .returned (.int .i64 (k + (cntSignalS L : Int))) ∧ owSignalS bs w' [.slice A n c] (numSignalS k L) ∧ ChgL bs w w' := by
  obtain ⟨A', c', ea, hm, -⟩ := id h
  injection ea with ea
  injection ea with e1 e2 e3
  subst e2
  clear e1 e3
  unfold maxLen at hm
  have HA := Lib.hid h
  have ND := Lib.hid nd
  clear h nd
  go_enter Try.func76, Try.ntmps76
  go_wp2
  go_loopw [1, 5] (fun q v wr => ∃ i : Nat, i ≤ L.length ∧ v = .int .i64 i ∧ q = .int .i64 (k + (cntSignalS (L.take i) : Int)) ∧ owSignalS bs wr [.slice A L.length c] (numSignalS k (L.take i) ++ L.drop i) ∧ ChgL bs w wr) (fun _ v _ => L.length - (intOf v).toNat)
  case atStart => exact ⟨0, Nat.zero_le _, rfl, by simp [cntSignalS], by simpa [numSignalS, numG] using HA.out, ChgL.refl _ _⟩
  case round =>
    obtain ⟨i, hi, rfl, rfl, hown, hchg⟩ := hrel
    obtain ⟨W, rfl⟩ : ∃ W, W = wr := ⟨_, rfl⟩
    have HO := Lib.hid hown
    have HG := Lib.hid hchg
    have hle := cntSignalS_le L i
    clear hown hchg HA
    by_cases hlt : i < L.length
    · obtain ⟨x, hxx⟩ : ∃ x, L[i] = x := ⟨_, rfl⟩
      have hx? : L[i]? = some x := by rw [List.getElem?_eq_getElem hlt, hxx]
      have hil : i < (numSignalS k (L.take i) ++ L.drop i).length := by rw [numSignalS_midlen L i k (by omega)]; exact hlt
      obtain ⟨g, o, bj, us, rfl, hgb, hbj, hgl, hul, hc, hx, hgn, hnd, hset⟩ := owS_elem gow_Signal HO.out ND.out i hil
      have hmx : (numSignalS k (L.take i) ++ L.drop i)[i] = x := by have h := numSignalS_mid L i x k hx?; rw [List.getElem?_eq_getElem hil] at h; injection h
      rw [hmx] at hx
      have hst := cntSignalS_step L i x hx?
      have hle2 := cntSignalS_le L (i + 1)
      obtain ⟨cc, hcc⟩ : ∃ c : Int, (cntSignalS (L.take i) : Int) = c := ⟨_, rfl⟩
      have hns := numSignalS_set L i x k cc hx? hcc
      have HNS := Lib.hid hns
      have HSET := Lib.hid hset
      clear hxx hx? hmx hns hset
      obtain ⟨b0, b1, b2, u0, u1, u2, rfl, rfl, h0, h1, h2⟩ := hx
      obtain ⟨z0, e0, fit0⟩ := h0
      injection e0 with e0
      subst e0
      subst z0
      obtain ⟨z1, e1, fit1⟩ := h1
      injection e1 with e1
      subst e1
      subst z1
      obtain ⟨z2, e2, fit2⟩ := h2
      injection e2 with e2
      subst e2
      subst z2
      have xc0 : W.cell? ⟨g, o + i * 3, none⟩ = some (.int .i64 x.1) := (hc 0 _ rfl).1
      have xf0 : W.frozen? ⟨g, o + i * 3, none⟩ = false := (hc 0 _ rfl).2
      have xc1 : W.cell? ⟨g, o + i * 3 + 1, none⟩ = some (.int .i64 x.2.1) := (hc 1 _ rfl).1
      have xf1 : W.frozen? ⟨g, o + i * 3 + 1, none⟩ = false := (hc 1 _ rfl).2
      have xc2 : W.cell? ⟨g, o + i * 3 + 2, none⟩ = some (.int .i64 x.2.2) := (hc 2 _ rfl).1
      have xf2 : W.frozen? ⟨g, o + i * 3 + 2, none⟩ = false := (hc 2 _ rfl).2
      have hst' : (cntSignalS (L.take (i + 1)) : Int) = cc + 3 := by unfold cntSignal at hst; omega
      have hbnd : k + (cc + 3) ≤ 4611686018427387904 := by rw [← hst']; omega
      have hcc0 : 0 ≤ cc := by omega
      have HST := Lib.hid hst'
      rw [hcc]
      clear hst hle2 hst' hle hc hul hil hcc  hnd
      go_wp2
      go_roundw
      case rel =>
        refine ⟨i + 1, by omega, by go_num, by rw [HST.out]; exact int_eq (by omega), ?_, ?_⟩
        · rw [← HNS.out]
          exact HSET.out _ [_, _, _] _ ((Elem.set (Elem.set (Elem.set (Elem.refl g _ _ _ W) (by omega) (by omega) _) (by omega) (by omega) _) (by omega) (by omega) _)) rfl (cells3 ⟨(set_far (set_far (set_same xc0) (by omega)) (by omega)), (set_froz (set_froz (set_froz xf0)))⟩ ⟨(set_far (set_same (set_far xc1 (by omega))) (by omega)), (set_froz (set_froz (set_froz xf1)))⟩ ⟨(set_same (set_far (set_far xc2 (by omega)) (by omega))), (set_froz (set_froz (set_froz xf2)))⟩) (by unfold numSignal; exact ⟨[], [], [], _, _, _, rfl, rfl, ⟨rfl, rfl, by unfold Fit; (try dsimp only); omega⟩, ⟨rfl, rfl, by unfold Fit; (try dsimp only); omega⟩, ⟨rfl, rfl, by unfold Fit; (try dsimp only); omega⟩⟩)
        · refine HG.out.trans (ChgL.wider (bs := g :: ((([] : List Nat) ++ (([] : List Nat) ++ ([] : List Nat))))) (Elem.chg (lo := o + i * 3) (hi := o + i * 3 + 3) ((Elem.set (Elem.set (Elem.set (Elem.refl g _ _ _ W) (by omega) (by omega) _) (by omega) (by omega) _) (by omega) (by omega) _))) fun b hb => ?_)
          rcases List.mem_cons.1 hb with rfl | hb
          · exact hgb
          · exact hbj b hb
      case measure => simp [intOf]; omega
    · obtain rfl : i = L.length := by omega
      have ho := HO.out
      rw [List.take_length, List.drop_length, List.append_nil] at ho
      have HF := Lib.hid ho
      rw [List.take_length]
      clear hle ho
      go_wp2
      go_ret
      exact ⟨rfl, HF.out, HG.out⟩

set_option maxHeartbeats 3200000 in
theorem heldSignalS_num (L : List DSignal) (v : Value) {B T : Nat} (k : Int) (w : World) (h : rdSignalS B T w [v] (numSignalS k L)) (hT : T ≤ w.heap.size) (hk0 : 0 ≤ k) (hk : k + (cntSignalS L : Int) ≤ 4611686018427387904) :
    Calls Try.prog 107 #[v, .int .i64 k] w fun e w' => e = .returned (.int .i64 (k + (cntSignalS L : Int))) ∧ Below w.heap.size w w' := by
  obtain ⟨A, c, ea, hm, hA⟩ := h
  injection ea with ea
  rw [numSignalS_len] at ea hm
  subst ea
  unfold maxLen at hm
  have HA := Lib.hid hA
  clear hA
  go_enter Try.func107, Try.ntmps107
  go_wp2
  go_loopw [1, 5] (fun q v wr => ∃ i : Nat, i ≤ L.length ∧ v = .int .i64 i ∧ q = .int .i64 (k + (cntSignalS (L.take i) : Int)) ∧ Below w.heap.size w wr) (fun _ v _ => L.length - (intOf v).toNat)
  case atStart => exact ⟨0, Nat.zero_le _, rfl, by simp [cntSignalS], Below.refl _ _⟩
  case round =>
    obtain ⟨i, hi, rfl, rfl, hb⟩ := hrel
    obtain ⟨W, rfl⟩ : ∃ W, W = wr := ⟨_, rfl⟩
    have HB := Lib.hid hb
    have hle := cntSignalS_le L i
    clear hb
    by_cases hlt : i < L.length
    · obtain ⟨b, o, rfl, _, _, us, hul, hc, hx⟩ := HA.out i (by rw [numSignalS_len]; exact hlt)
      obtain ⟨x, hxx⟩ : ∃ x, L[i] = x := ⟨_, rfl⟩
      have hx? : L[i]? = some x := by rw [List.getElem?_eq_getElem hlt, hxx]
      have hst := cntSignalS_step L i x hx?
      have hle2 := cntSignalS_le L (i + 1)
      obtain ⟨cc, hcc⟩ : ∃ c : Int, (cntSignalS (L.take i) : Int) = c := ⟨_, rfl⟩
      have hng := numSignalS_get L i x k cc hx? hcc
      have hnx : (numSignalS k L)[i]'(by rw [numSignalS_len]; exact hlt) = numSignal (k + cc) x := by rw [List.getElem?_eq_getElem (by rw [numSignalS_len]; exact hlt)] at hng; injection hng
      rw [hnx] at hx
      unfold numSignal at hx
      clear hxx hx? hng hnx
      obtain ⟨u0, u1, u2, rfl, h0, h1, h2⟩ := hx
      obtain ⟨e0, -⟩ := h0
      (try dsimp only at e0)
      injection e0 with e0
      subst e0
      obtain ⟨e1, -⟩ := h1
      (try dsimp only at e1)
      injection e1 with e1
      subst e1
      obtain ⟨e2, -⟩ := h2
      (try dsimp only at e2)
      injection e2 with e2
      subst e2
      have xc0 : W.cell? ⟨b, o + i * 3, none⟩ = some (.int .i64 (k + cc)) := keep HB.out (hc 0 _ rfl)
      have xc1 : W.cell? ⟨b, o + i * 3 + 1, none⟩ = some (.int .i64 (k + cc + 1)) := keep HB.out (hc 1 _ rfl)
      have xc2 : W.cell? ⟨b, o + i * 3 + 2, none⟩ = some (.int .i64 (k + cc + 1 + 1)) := keep HB.out (hc 2 _ rfl)
      have hst' : (cntSignalS (L.take (i + 1)) : Int) = cc + 3 := by unfold cntSignal at hst; omega
      have hbnd : k + (cc + 3) ≤ 4611686018427387904 := by rw [← hst']; omega
      have hcc0 : 0 ≤ cc := by omega
      have HST := Lib.hid hst'
      rw [hcc]
      clear hst hle2 hst' hle hcc hc hul 
      go_wp2
      go_roundw
      case rel => exact ⟨i + 1, by omega, by go_num, by rw [HST.out]; exact int_eq (by omega), HB.out⟩
      case measure => simp [intOf]; omega
    · obtain rfl : i = L.length := by omega
      rw [List.take_length]
      clear hle
      go_wp2
      go_ret
      exact ⟨rfl, HB.out⟩
end Go.Proofs.Ytllddjkdjdohhaa
