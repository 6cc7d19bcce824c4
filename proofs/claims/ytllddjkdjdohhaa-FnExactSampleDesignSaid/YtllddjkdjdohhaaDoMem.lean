/-
  The type Mem as the exact laws' helpers see it.
-/
import Derived.Test.YtllddjkdjdohhaaDmMem
import Derived.Test.YtllddjkdjdohhaaDoInt
namespace Go.Proofs.Ytllddjkdjdohhaa
open Go.RowKit
set_option linter.unusedVariables false
set_option linter.unusedSimpArgs false

abbrev owMem : Ow DMem := ow4 owInt owInt owInt owInt
theorem gow_Mem : Ow.Good owMem := ow4_good owInt_good owInt_good owInt_good owInt_good
theorem rds_Mem : Ow.Rds owMem rdMem := ow4_rds owInt_rds owInt_rds owInt_rds owInt_rds
abbrev owMemS : Ow (List DMem) := owS 4 owMem
theorem gow_MemS : Ow.Good owMemS := owS_good 4 gow_Mem
theorem rds_MemS : Ow.Rds owMemS rdMemS := owS_rds 4 rds_Mem
def numMem (k : Int) (x : DMem) : DMem := (k, k + 1, k + 1 + 1, k + 1 + 1 + 1)
def numMemS (k : Int) (L : List DMem) : List DMem := numG numMem cntMem k L
theorem cntG_MemS (L : List DMem) : cntG cntMem L = cntMemS L := rfl
theorem numMemS_set (L : List DMem) (i : Nat) (x : DMem) (k cc : Int) (h : L[i]? = some x) (hc : (cntMemS (L.take i) : Int) = cc) : (numMemS k (L.take i) ++ L.drop i).set i (numMem (k + cc) x) = numMemS k (L.take (i + 1)) ++ L.drop (i + 1) := by
  have h1 := numG_set numMem cntMem L i x k h
  rw [cntG_MemS, hc] at h1; exact h1
theorem numMemS_mid (L : List DMem) (i : Nat) (x : DMem) (k : Int) (h : L[i]? = some x) : (numMemS k (L.take i) ++ L.drop i)[i]? = some x := numG_mid numMem cntMem L i x k h
theorem numMemS_get (L : List DMem) (i : Nat) (x : DMem) (k cc : Int) (h : L[i]? = some x) (hc : (cntMemS (L.take i) : Int) = cc) : (numMemS k L)[i]? = some (numMem (k + cc) x) := by
  have h1 := numG_get numMem cntMem L i x k h
  rw [cntG_MemS, hc] at h1; exact h1
theorem numMemS_len (L : List DMem) (k : Int) : (numMemS k L).length = L.length := numG_len numMem cntMem L k
theorem numMemS_midlen (L : List DMem) (i : Nat) (k : Int) (h : i ≤ L.length) : (numMemS k (L.take i) ++ L.drop i).length = L.length := by
  rw [List.length_append, numMemS_len, List.length_take, List.length_drop]; omega

set_option maxHeartbeats 6400000 in
theorem markMemS_own (L : List DMem) (A : Option Addr) (n c : Nat) (bs : List Nat) (k : Int) (w : World) (h : owMemS bs w [.slice A n c] L) (nd : bs.Nodup) (hk0 : 0 ≤ k) (hk : k + (cntMemS L : Int) ≤ 4611686018427387904) :
    Calls Try.prog 79 #[.slice A n c, .int .i64 k] w fun e w' => e = .returned (.int .i64 (k + (cntMemS L : Int))) ∧ owMemS bs w' [.slice A n c] (numMemS k L) ∧ ChgL bs w w' := by
  obtain ⟨A', c', ea, hm, -⟩ := id h
  injection ea with ea
  injection ea with e1 e2 e3
  subst e2
  clear e1 e3
  unfold maxLen at hm
  have HA := Lib.hid h
  have ND := Lib.hid nd
  clear h nd
  go_enter Try.func79, Try.ntmps79
  go_wp2
  go_loopw [1, 5] (fun q v wr => ∃ i : Nat, i ≤ L.length ∧ v = .int .i64 i ∧ q = .int .i64 (k + (cntMemS (L.take i) : Int)) ∧ owMemS bs wr [.slice A L.length c] (numMemS k (L.take i) ++ L.drop i) ∧ ChgL bs w wr) (fun _ v _ => L.length - (intOf v).toNat)
  case atStart => exact ⟨0, Nat.zero_le _, rfl, by simp [cntMemS], by simpa [numMemS, numG] using HA.out, ChgL.refl _ _⟩
  case round =>
    obtain ⟨i, hi, rfl, rfl, hown, hchg⟩ := hrel
    obtain ⟨W, rfl⟩ : ∃ W, W = wr := ⟨_, rfl⟩
    have HO := Lib.hid hown
    have HG := Lib.hid hchg
    have hle := cntMemS_le L i
    clear hown hchg HA
    by_cases hlt : i < L.length
    · obtain ⟨x, hxx⟩ : ∃ x, L[i] = x := ⟨_, rfl⟩
      have hx? : L[i]? = some x := by rw [List.getElem?_eq_getElem hlt, hxx]
      have hil : i < (numMemS k (L.take i) ++ L.drop i).length := by rw [numMemS_midlen L i k (by omega)]; exact hlt
      obtain ⟨g, o, bj, us, rfl, hgb, hbj, hgl, hul, hc, hx, hgn, hnd, hset⟩ := owS_elem gow_Mem HO.out ND.out i hil
      have hmx : (numMemS k (L.take i) ++ L.drop i)[i] = x := by have h := numMemS_mid L i x k hx?; rw [List.getElem?_eq_getElem hil] at h; injection h
      rw [hmx] at hx
      have hst := cntMemS_step L i x hx?
      have hle2 := cntMemS_le L (i + 1)
      obtain ⟨cc, hcc⟩ : ∃ c : Int, (cntMemS (L.take i) : Int) = c := ⟨_, rfl⟩
      have hns := numMemS_set L i x k cc hx? hcc
      have HNS := Lib.hid hns
      have HSET := Lib.hid hset
      clear hxx hx? hmx hns hset
      obtain ⟨b0, b1, b2, b3, u0, u1, u2, u3, rfl, rfl, h0, h1, h2, h3⟩ := hx
      obtain ⟨z0, e0, fit0⟩ := h0
      injection e0 with e0
      subst e0
      subst z0
      obtain ⟨z1, e1, fit1⟩ := h1
      injection e1 with e1
      subst e1
      subst z1
      obtain ⟨z2, e2, fit2⟩ := h2
      injection e2 with e2
      subst e2
      subst z2
      obtain ⟨z3, e3, fit3⟩ := h3
      injection e3 with e3
      subst e3
      subst z3
      have xc0 : W.cell? ⟨g, o + i * 4, none⟩ = some (.int .i64 x.1) := (hc 0 _ rfl).1
      have xf0 : W.frozen? ⟨g, o + i * 4, none⟩ = false := (hc 0 _ rfl).2
      have xc1 : W.cell? ⟨g, o + i * 4 + 1, none⟩ = some (.int .i64 x.2.1) := (hc 1 _ rfl).1
      have xf1 : W.frozen? ⟨g, o + i * 4 + 1, none⟩ = false := (hc 1 _ rfl).2
      have xc2 : W.cell? ⟨g, o + i * 4 + 2, none⟩ = some (.int .i64 x.2.2.1) := (hc 2 _ rfl).1
      have xf2 : W.frozen? ⟨g, o + i * 4 + 2, none⟩ = false := (hc 2 _ rfl).2
      have xc3 : W.cell? ⟨g, o + i * 4 + 3, none⟩ = some (.int .i64 x.2.2.2) := (hc 3 _ rfl).1
      have xf3 : W.frozen? ⟨g, o + i * 4 + 3, none⟩ = false := (hc 3 _ rfl).2
      have hst' : (cntMemS (L.take (i + 1)) : Int) = cc + 4 := by unfold cntMem at hst; omega
      have hbnd : k + (cc + 4) ≤ 4611686018427387904 := by rw [← hst']; omega
      have hcc0 : 0 ≤ cc := by omega
      have HST := Lib.hid hst'
      rw [hcc]
      clear hst hle2 hst' hle hc hul hil hcc  hnd
      go_wp2
      go_roundw
      case rel =>
        refine ⟨i + 1, by omega, by go_num, by rw [HST.out]; exact int_eq (by omega), ?_, ?_⟩
        · rw [← HNS.out]
          exact HSET.out _ [_, _, _, _] _ ((Elem.set (Elem.set (Elem.set (Elem.set (Elem.refl g _ _ _ W) (by omega) (by omega) _) (by omega) (by omega) _) (by omega) (by omega) _) (by omega) (by omega) _)) rfl (cells4 ⟨(set_far (set_far (set_far (set_same xc0) (by omega)) (by omega)) (by omega)), (set_froz (set_froz (set_froz (set_froz xf0))))⟩ ⟨(set_far (set_far (set_same (set_far xc1 (by omega))) (by omega)) (by omega)), (set_froz (set_froz (set_froz (set_froz xf1))))⟩ ⟨(set_far (set_same (set_far (set_far xc2 (by omega)) (by omega))) (by omega)), (set_froz (set_froz (set_froz (set_froz xf2))))⟩ ⟨(set_same (set_far (set_far (set_far xc3 (by omega)) (by omega)) (by omega))), (set_froz (set_froz (set_froz (set_froz xf3))))⟩) (by unfold numMem; exact ⟨[], [], [], [], _, _, _, _, rfl, rfl, ⟨rfl, rfl, by unfold Fit; (try dsimp only); omega⟩, ⟨rfl, rfl, by unfold Fit; (try dsimp only); omega⟩, ⟨rfl, rfl, by unfold Fit; (try dsimp only); omega⟩, ⟨rfl, rfl, by unfold Fit; (try dsimp only); omega⟩⟩)
        · refine HG.out.trans (ChgL.wider (bs := g :: ((([] : List Nat) ++ (([] : List Nat) ++ (([] : List Nat) ++ ([] : List Nat)))))) (Elem.chg (lo := o + i * 4) (hi := o + i * 4 + 4) ((Elem.set (Elem.set (Elem.set (Elem.set (Elem.refl g _ _ _ W) (by omega) (by omega) _) (by omega) (by omega) _) (by omega) (by omega) _) (by omega) (by omega) _))) fun b hb => ?_)
          rcases List.mem_cons.1 hb with rfl | hb
          · exact hgb
          · exact hbj b hb
      case measure => simp [intOf]; omega
    · obtain rfl : i = L.length := by omega
      have ho := HO.out
      rw [List.take_length, List.drop_length, List.append_nil] at ho
      have HF := Lib.hid ho
      rw [List.take_length]
      clear hle ho
      go_wp2
      go_ret
      exact ⟨rfl, HF.out, HG.out⟩

set_option maxHeartbeats 3200000 in
theorem heldMemS_num (L : List DMem) (v : Value) {B T : Nat} (k : Int) (w : World) (h : rdMemS B T w [v] (numMemS k L)) (hT : T ≤ w.heap.size) (hk0 : 0 ≤ k) (hk : k + (cntMemS L : Int) ≤ 4611686018427387904) :
    Calls Try.prog 110 #[v, .int .i64 k] w fun e w' => e = .returned (.int .i64 (k + (cntMemS L : Int))) ∧ Below w.heap.size w w' := by
  obtain ⟨A, c, ea, hm, hA⟩ := h
  injection ea with ea
  rw [numMemS_len] at ea hm
  subst ea
  unfold maxLen at hm
  have HA := Lib.hid hA
  clear hA
  go_enter Try.func110, Try.ntmps110
  go_wp2
  go_loopw [1, 5] (fun q v wr => ∃ i : Nat, i ≤ L.length ∧ v = .int .i64 i ∧ q = .int .i64 (k + (cntMemS (L.take i) : Int)) ∧ Below w.heap.size w wr) (fun _ v _ => L.length - (intOf v).toNat)
  case atStart => exact ⟨0, Nat.zero_le _, rfl, by simp [cntMemS], Below.refl _ _⟩
  case round =>
    obtain ⟨i, hi, rfl, rfl, hb⟩ := hrel
    obtain ⟨W, rfl⟩ : ∃ W, W = wr := ⟨_, rfl⟩
    have HB := Lib.hid hb
    have hle := cntMemS_le L i
    clear hb
    by_cases hlt : i < L.length
    · obtain ⟨b, o, rfl, _, _, us, hul, hc, hx⟩ := HA.out i (by rw [numMemS_len]; exact hlt)
      obtain ⟨x, hxx⟩ : ∃ x, L[i] = x := ⟨_, rfl⟩
      have hx? : L[i]? = some x := by rw [List.getElem?_eq_getElem hlt, hxx]
      have hst := cntMemS_step L i x hx?
      have hle2 := cntMemS_le L (i + 1)
      obtain ⟨cc, hcc⟩ : ∃ c : Int, (cntMemS (L.take i) : Int) = c := ⟨_, rfl⟩
      have hng := numMemS_get L i x k cc hx? hcc
      have hnx : (numMemS k L)[i]'(by rw [numMemS_len]; exact hlt) = numMem (k + cc) x := by rw [List.getElem?_eq_getElem (by rw [numMemS_len]; exact hlt)] at hng; injection hng
      rw [hnx] at hx
      unfold numMem at hx
      clear hxx hx? hng hnx
      obtain ⟨u0, u1, u2, u3, rfl, h0, h1, h2, h3⟩ := hx
      obtain ⟨e0, -⟩ := h0
      (try dsimp only at e0)
      injection e0 with e0
      subst e0
      obtain ⟨e1, -⟩ := h1
      (try dsimp only at e1)
      injection e1 with e1
      subst e1
      obtain ⟨e2, -⟩ := h2
      (try dsimp only at e2)
      injection e2 with e2
      subst e2
      obtain ⟨e3, -⟩ := h3
      (try dsimp only at e3)
      injection e3 with e3
      subst e3
      have xc0 : W.cell? ⟨b, o + i * 4, none⟩ = some (.int .i64 (k + cc)) := keep HB.out (hc 0 _ rfl)
      have xc1 : W.cell? ⟨b, o + i * 4 + 1, none⟩ = some (.int .i64 (k + cc + 1)) := keep HB.out (hc 1 _ rfl)
      have xc2 : W.cell? ⟨b, o + i * 4 + 2, none⟩ = some (.int .i64 (k + cc + 1 + 1)) := keep HB.out (hc 2 _ rfl)
      have xc3 : W.cell? ⟨b, o + i * 4 + 3, none⟩ = some (.int .i64 (k + cc + 1 + 1 + 1)) := keep HB.out (hc 3 _ rfl)
      have hst' : (cntMemS (L.take (i + 1)) : Int) = cc + 4 := by unfold cntMem at hst; omega
      have hbnd : k + (cc + 4) ≤ 4611686018427387904 := by rw [← hst']; omega
      have hcc0 : 0 ≤ cc := by omega
      have HST := Lib.hid hst'
      rw [hcc]
      clear hst hle2 hst' hle hcc hc hul 
      go_wp2
      go_roundw
      case rel => exact ⟨i + 1, by omega, by go_num, by rw [HST.out]; exact int_eq (by omega), HB.out⟩
      case measure => simp [intOf]; omega
    · obtain rfl : i = L.length := by omega
      rw [List.take_length]
      clear hle
      go_wp2
      go_ret
      exact ⟨rfl, HB.out⟩
end Go.Proofs.Ytllddjkdjdohhaa
