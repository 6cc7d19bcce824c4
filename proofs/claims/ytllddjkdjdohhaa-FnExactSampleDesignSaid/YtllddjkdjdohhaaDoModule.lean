/-
  The type Module as the exact laws' helpers see it.
-/
import Derived.Test.YtllddjkdjdohhaaDmModule
import Derived.Test.YtllddjkdjdohhaaDoSignal
import Derived.Test.YtllddjkdjdohhaaDoAssign
import Derived.Test.YtllddjkdjdohhaaDoInst
import Derived.Test.YtllddjkdjdohhaaDoMem
namespace Go.Proofs.Ytllddjkdjdohhaa
open Go.RowKit
set_option linter.unusedVariables false
set_option linter.unusedSimpArgs false

abbrev owModule : Ow DModule := ow4 owSignalS owAssignS owInstS owMemS
theorem gow_Module : Ow.Good owModule := ow4_good gow_SignalS gow_AssignS gow_InstS gow_MemS
theorem rds_Module : Ow.Rds owModule rdModule := ow4_rds rds_SignalS rds_AssignS rds_InstS rds_MemS
abbrev owModuleS : Ow (List DModule) := owS 4 owModule
theorem gow_ModuleS : Ow.Good owModuleS := owS_good 4 gow_Module
theorem rds_ModuleS : Ow.Rds owModuleS rdModuleS := owS_rds 4 rds_Module
def numModule (k : Int) (x : DModule) : DModule := (numSignalS (k) (x.1), numAssignS (k + (cntSignalS (x.1) : Int)) (x.2.1), numInstS (k + (cntSignalS (x.1) : Int) + (cntAssignS (x.2.1) : Int)) (x.2.2.1), numMemS (k + (cntSignalS (x.1) : Int) + (cntAssignS (x.2.1) : Int) + (cntInstS (x.2.2.1) : Int)) (x.2.2.2))
def numModuleS (k : Int) (L : List DModule) : List DModule := numG numModule cntModule k L
theorem cntG_ModuleS (L : List DModule) : cntG cntModule L = cntModuleS L := rfl
theorem numModuleS_set (L : List DModule) (i : Nat) (x : DModule) (k cc : Int) (h : L[i]? = some x) (hc : (cntModuleS (L.take i) : Int) = cc) : (numModuleS k (L.take i) ++ L.drop i).set i (numModule (k + cc) x) = numModuleS k (L.take (i + 1)) ++ L.drop (i + 1) := by
  have h1 := numG_set numModule cntModule L i x k h
  rw [cntG_ModuleS, hc] at h1; exact h1
theorem numModuleS_mid (L : List DModule) (i : Nat) (x : DModule) (k : Int) (h : L[i]? = some x) : (numModuleS k (L.take i) ++ L.drop i)[i]? = some x := numG_mid numModule cntModule L i x k h
theorem numModuleS_get (L : List DModule) (i : Nat) (x : DModule) (k cc : Int) (h : L[i]? = some x) (hc : (cntModuleS (L.take i) : Int) = cc) : (numModuleS k L)[i]? = some (numModule (k + cc) x) := by
  have h1 := numG_get numModule cntModule L i x k h
  rw [cntG_ModuleS, hc] at h1; exact h1
theorem numModuleS_len (L : List DModule) (k : Int) : (numModuleS k L).length = L.length := numG_len numModule cntModule L k
theorem numModuleS_midlen (L : List DModule) (i : Nat) (k : Int) (h : i ≤ L.length) : (numModuleS k (L.take i) ++ L.drop i).length = L.length := by
  rw [List.length_append, numModuleS_len, List.length_take, List.length_drop]; omega

set_option maxHeartbeats 6400000 in
theorem markModuleS_own (L : List DModule) (A : Option Addr) (n c : Nat) (bs : List Nat) (k : Int) (w : World) (h : owModuleS bs w [.slice A n c] L) (nd : bs.Nodup) (hk0 : 0 ≤ k) (hk : k + (cntModuleS L : Int) ≤ 4611686018427387904) :
    Calls Try.prog 86 #[.slice A n c, .int .i64 k] w fun e w' => e = .returned (.int .i64 (k + (cntModuleS L : Int))) ∧ owModuleS bs w' [.slice A n c] (numModuleS k L) ∧ ChgL bs w w' := by
  obtain ⟨A', c', ea, hm, -⟩ := id h
  injection ea with ea
  injection ea with e1 e2 e3
  subst e2
  clear e1 e3
  unfold maxLen at hm
  have HA := Lib.hid h
  have ND := Lib.hid nd
  clear h nd
  go_enter Try.func86, Try.ntmps86
  go_wp2
  go_loopw [1, 5] (fun q v wr => ∃ i : Nat, i ≤ L.length ∧ v = .int .i64 i ∧ q = .int .i64 (k + (cntModuleS (L.take i) : Int)) ∧ owModuleS bs wr [.slice A L.length c] (numModuleS k (L.take i) ++ L.drop i) ∧ ChgL bs w wr) (fun _ v _ => L.length - (intOf v).toNat)
  case atStart => exact ⟨0, Nat.zero_le _, rfl, by simp [cntModuleS], by simpa [numModuleS, numG] using HA.out, ChgL.refl _ _⟩
  case round =>
    obtain ⟨i, hi, rfl, rfl, hown, hchg⟩ := hrel
    obtain ⟨W, rfl⟩ : ∃ W, W = wr := ⟨_, rfl⟩
    have HO := Lib.hid hown
    have HG := Lib.hid hchg
    have hle := cntModuleS_le L i
    clear hown hchg HA
    by_cases hlt : i < L.length
    · obtain ⟨x, hxx⟩ : ∃ x, L[i] = x := ⟨_, rfl⟩
      have hx? : L[i]? = some x := by rw [List.getElem?_eq_getElem hlt, hxx]
      have hil : i < (numModuleS k (L.take i) ++ L.drop i).length := by rw [numModuleS_midlen L i k (by omega)]; exact hlt
      obtain ⟨g, o, bj, us, rfl, hgb, hbj, hgl, hul, hc, hx, hgn, hnd, hset⟩ := owS_elem gow_Module HO.out ND.out i hil
      have hmx : (numModuleS k (L.take i) ++ L.drop i)[i] = x := by have h := numModuleS_mid L i x k hx?; rw [List.getElem?_eq_getElem hil] at h; injection h
      rw [hmx] at hx
      have hst := cntModuleS_step L i x hx?
      have hle2 := cntModuleS_le L (i + 1)
      obtain ⟨cc, hcc⟩ : ∃ c : Int, (cntModuleS (L.take i) : Int) = c := ⟨_, rfl⟩
      have hns := numModuleS_set L i x k cc hx? hcc
      have HNS := Lib.hid hns
      have HSET := Lib.hid hset
      clear hxx hx? hmx hns hset
      obtain ⟨b0, b1, b2, b3, u0, u1, u2, u3, rfl, rfl, h0, h1, h2, h3⟩ := hx
      have q0 := h0
      obtain ⟨xA0, xq0, e0, -⟩ := q0
      injection e0 with e0
      subst e0
      have q1 := h1
      obtain ⟨xA1, xq1, e1, -⟩ := q1
      injection e1 with e1
      subst e1
      have q2 := h2
      obtain ⟨xA2, xq2, e2, -⟩ := q2
      injection e2 with e2
      subst e2
      have q3 := h3
      obtain ⟨xA3, xq3, e3, -⟩ := q3
      injection e3 with e3
      subst e3
      have xc0 : W.cell? ⟨g, o + i * 4, none⟩ = some (.slice xA0 (x.1).length xq0) := (hc 0 _ rfl).1
      have xf0 : W.frozen? ⟨g, o + i * 4, none⟩ = false := (hc 0 _ rfl).2
      have xc1 : W.cell? ⟨g, o + i * 4 + 1, none⟩ = some (.slice xA1 (x.2.1).length xq1) := (hc 1 _ rfl).1
      have xf1 : W.frozen? ⟨g, o + i * 4 + 1, none⟩ = false := (hc 1 _ rfl).2
      have xc2 : W.cell? ⟨g, o + i * 4 + 2, none⟩ = some (.slice xA2 (x.2.2.1).length xq2) := (hc 2 _ rfl).1
      have xf2 : W.frozen? ⟨g, o + i * 4 + 2, none⟩ = false := (hc 2 _ rfl).2
      have xc3 : W.cell? ⟨g, o + i * 4 + 3, none⟩ = some (.slice xA3 (x.2.2.2).length xq3) := (hc 3 _ rfl).1
      have xf3 : W.frozen? ⟨g, o + i * 4 + 3, none⟩ = false := (hc 3 _ rfl).2
      obtain ⟨t0, ht0⟩ : ∃ c : Int, (cntSignalS (x.1) : Int) = c := ⟨_, rfl⟩
      obtain ⟨t1, ht1⟩ : ∃ c : Int, (cntAssignS (x.2.1) : Int) = c := ⟨_, rfl⟩
      obtain ⟨t2, ht2⟩ : ∃ c : Int, (cntInstS (x.2.2.1) : Int) = c := ⟨_, rfl⟩
      obtain ⟨t3, ht3⟩ : ∃ c : Int, (cntMemS (x.2.2.2) : Int) = c := ⟨_, rfl⟩
      have hst' : (cntModuleS (L.take (i + 1)) : Int) = cc + t0 + t1 + t2 + t3 := by unfold cntModule at hst; omega
      have hbnd : k + (cc + t0 + t1 + t2 + t3) ≤ 4611686018427387904 := by rw [← hst']; omega
      have hcc0 : 0 ≤ cc := by omega
      have hp0 : 0 ≤ t0 := by omega
      have HC0 := Lib.hid ht0
      have hp1 : 0 ≤ t1 := by omega
      have HC1 := Lib.hid ht1
      have hp2 : 0 ≤ t2 := by omega
      have HC2 := Lib.hid ht2
      have hp3 : 0 ≤ t3 := by omega
      have HC3 := Lib.hid ht3
      have HST := Lib.hid hst'
      rw [hcc]
      have hn0 : b0.Nodup := by simp [List.nodup_append] at hnd; simp_all
      have hg0 : g ∉ b0 := fun hb => hgn (by simp [hb])
      have hn1 : b1.Nodup := by simp [List.nodup_append] at hnd; simp_all
      have hg1 : g ∉ b1 := fun hb => hgn (by simp [hb])
      have hn2 : b2.Nodup := by simp [List.nodup_append] at hnd; simp_all
      have hg2 : g ∉ b2 := fun hb => hgn (by simp [hb])
      have hn3 : b3.Nodup := by simp [List.nodup_append] at hnd; simp_all
      have hg3 : g ∉ b3 := fun hb => hgn (by simp [hb])
      have hd10 : ∀ b ∈ b1, b ∉ b0 := by
        simp only [List.nodup_append, List.mem_append, List.nil_append] at hnd
        intro b h1 h2
        exact by first | exact absurd rfl (hnd.2.2 b h1 b (by simp [h2])) | exact absurd rfl (hnd.2.2 b h2 b (by simp [h1])) | exact absurd rfl (hnd.2.1.2.2 b h1 b (by simp [h2])) | exact absurd rfl (hnd.2.1.2.2 b h2 b (by simp [h1])) | exact absurd rfl (hnd.2.1.2.1.2.2 b h1 b (by simp [h2])) | exact absurd rfl (hnd.2.1.2.1.2.2 b h2 b (by simp [h1]))
      have hd20 : ∀ b ∈ b2, b ∉ b0 := by
        simp only [List.nodup_append, List.mem_append, List.nil_append] at hnd
        intro b h1 h2
        exact by first | exact absurd rfl (hnd.2.2 b h1 b (by simp [h2])) | exact absurd rfl (hnd.2.2 b h2 b (by simp [h1])) | exact absurd rfl (hnd.2.1.2.2 b h1 b (by simp [h2])) | exact absurd rfl (hnd.2.1.2.2 b h2 b (by simp [h1])) | exact absurd rfl (hnd.2.1.2.1.2.2 b h1 b (by simp [h2])) | exact absurd rfl (hnd.2.1.2.1.2.2 b h2 b (by simp [h1]))
      have hd30 : ∀ b ∈ b3, b ∉ b0 := by
        simp only [List.nodup_append, List.mem_append, List.nil_append] at hnd
        intro b h1 h2
        exact by first | exact absurd rfl (hnd.2.2 b h1 b (by simp [h2])) | exact absurd rfl (hnd.2.2 b h2 b (by simp [h1])) | exact absurd rfl (hnd.2.1.2.2 b h1 b (by simp [h2])) | exact absurd rfl (hnd.2.1.2.2 b h2 b (by simp [h1])) | exact absurd rfl (hnd.2.1.2.1.2.2 b h1 b (by simp [h2])) | exact absurd rfl (hnd.2.1.2.1.2.2 b h2 b (by simp [h1]))
      have hd01 : ∀ b ∈ b0, b ∉ b1 := by
        simp only [List.nodup_append, List.mem_append, List.nil_append] at hnd
        intro b h1 h2
        exact by first | exact absurd rfl (hnd.2.2 b h1 b (by simp [h2])) | exact absurd rfl (hnd.2.2 b h2 b (by simp [h1])) | exact absurd rfl (hnd.2.1.2.2 b h1 b (by simp [h2])) | exact absurd rfl (hnd.2.1.2.2 b h2 b (by simp [h1])) | exact absurd rfl (hnd.2.1.2.1.2.2 b h1 b (by simp [h2])) | exact absurd rfl (hnd.2.1.2.1.2.2 b h2 b (by simp [h1]))
      have hd21 : ∀ b ∈ b2, b ∉ b1 := by
        simp only [List.nodup_append, List.mem_append, List.nil_append] at hnd
        intro b h1 h2
        exact by first | exact absurd rfl (hnd.2.2 b h1 b (by simp [h2])) | exact absurd rfl (hnd.2.2 b h2 b (by simp [h1])) | exact absurd rfl (hnd.2.1.2.2 b h1 b (by simp [h2])) | exact absurd rfl (hnd.2.1.2.2 b h2 b (by simp [h1])) | exact absurd rfl (hnd.2.1.2.1.2.2 b h1 b (by simp [h2])) | exact absurd rfl (hnd.2.1.2.1.2.2 b h2 b (by simp [h1]))
      have hd31 : ∀ b ∈ b3, b ∉ b1 := by
        simp only [List.nodup_append, List.mem_append, List.nil_append] at hnd
        intro b h1 h2
        exact by first | exact absurd rfl (hnd.2.2 b h1 b (by simp [h2])) | exact absurd rfl (hnd.2.2 b h2 b (by simp [h1])) | exact absurd rfl (hnd.2.1.2.2 b h1 b (by simp [h2])) | exact absurd rfl (hnd.2.1.2.2 b h2 b (by simp [h1])) | exact absurd rfl (hnd.2.1.2.1.2.2 b h1 b (by simp [h2])) | exact absurd rfl (hnd.2.1.2.1.2.2 b h2 b (by simp [h1]))
      have hd02 : ∀ b ∈ b0, b ∉ b2 := by
        simp only [List.nodup_append, List.mem_append, List.nil_append] at hnd
        intro b h1 h2
        exact by first | exact absurd rfl (hnd.2.2 b h1 b (by simp [h2])) | exact absurd rfl (hnd.2.2 b h2 b (by simp [h1])) | exact absurd rfl (hnd.2.1.2.2 b h1 b (by simp [h2])) | exact absurd rfl (hnd.2.1.2.2 b h2 b (by simp [h1])) | exact absurd rfl (hnd.2.1.2.1.2.2 b h1 b (by simp [h2])) | exact absurd rfl (hnd.2.1.2.1.2.2 b h2 b (by simp [h1]))
      have hd12 : ∀ b ∈ b1, b ∉ b2 := by
        simp only [List.nodup_append, List.mem_append, List.nil_append] at hnd
        intro b h1 h2
        exact by first | exact absurd rfl (hnd.2.2 b h1 b (by simp [h2])) | exact absurd rfl (hnd.2.2 b h2 b (by simp [h1])) | exact absurd rfl (hnd.2.1.2.2 b h1 b (by simp [h2])) | exact absurd rfl (hnd.2.1.2.2 b h2 b (by simp [h1])) | exact absurd rfl (hnd.2.1.2.1.2.2 b h1 b (by simp [h2])) | exact absurd rfl (hnd.2.1.2.1.2.2 b h2 b (by simp [h1]))
      have hd32 : ∀ b ∈ b3, b ∉ b2 := by
        simp only [List.nodup_append, List.mem_append, List.nil_append] at hnd
        intro b h1 h2
        exact by first | exact absurd rfl (hnd.2.2 b h1 b (by simp [h2])) | exact absurd rfl (hnd.2.2 b h2 b (by simp [h1])) | exact absurd rfl (hnd.2.1.2.2 b h1 b (by simp [h2])) | exact absurd rfl (hnd.2.1.2.2 b h2 b (by simp [h1])) | exact absurd rfl (hnd.2.1.2.1.2.2 b h1 b (by simp [h2])) | exact absurd rfl (hnd.2.1.2.1.2.2 b h2 b (by simp [h1]))
      have hd03 : ∀ b ∈ b0, b ∉ b3 := by
        simp only [List.nodup_append, List.mem_append, List.nil_append] at hnd
        intro b h1 h2
        exact by first | exact absurd rfl (hnd.2.2 b h1 b (by simp [h2])) | exact absurd rfl (hnd.2.2 b h2 b (by simp [h1])) | exact absurd rfl (hnd.2.1.2.2 b h1 b (by simp [h2])) | exact absurd rfl (hnd.2.1.2.2 b h2 b (by simp [h1])) | exact absurd rfl (hnd.2.1.2.1.2.2 b h1 b (by simp [h2])) | exact absurd rfl (hnd.2.1.2.1.2.2 b h2 b (by simp [h1]))
      have hd13 : ∀ b ∈ b1, b ∉ b3 := by
        simp only [List.nodup_append, List.mem_append, List.nil_append] at hnd
        intro b h1 h2
        exact by first | exact absurd rfl (hnd.2.2 b h1 b (by simp [h2])) | exact absurd rfl (hnd.2.2 b h2 b (by simp [h1])) | exact absurd rfl (hnd.2.1.2.2 b h1 b (by simp [h2])) | exact absurd rfl (hnd.2.1.2.2 b h2 b (by simp [h1])) | exact absurd rfl (hnd.2.1.2.1.2.2 b h1 b (by simp [h2])) | exact absurd rfl (hnd.2.1.2.1.2.2 b h2 b (by simp [h1]))
      have hd23 : ∀ b ∈ b2, b ∉ b3 := by
        simp only [List.nodup_append, List.mem_append, List.nil_append] at hnd
        intro b h1 h2
        exact by first | exact absurd rfl (hnd.2.2 b h1 b (by simp [h2])) | exact absurd rfl (hnd.2.2 b h2 b (by simp [h1])) | exact absurd rfl (hnd.2.1.2.2 b h1 b (by simp [h2])) | exact absurd rfl (hnd.2.1.2.2 b h2 b (by simp [h1])) | exact absurd rfl (hnd.2.1.2.1.2.2 b h1 b (by simp [h2])) | exact absurd rfl (hnd.2.1.2.1.2.2 b h2 b (by simp [h1]))
      clear hst hle2 hst' hle hc hul hil hcc ht0 ht1 ht2 ht3 hnd
      have O0 := Lib.hid h0
      have O1 := Lib.hid h1
      have O2 := Lib.hid h2
      have O3 := Lib.hid h3
      clear h0 h1 h2 h3
      go_wp2_with fail
      refine (markSignalS_own (x.1) _ _ _ b0 _ _ (gow_SignalS.frame _ _ _ _ _ O0.out (fun b hb => ((Elem.refl g (o + i * 4) (o + i * 4 + 4) [] W)).chg.block b (gow_SignalS.lt _ _ _ _ O0.out b hb) (fun h => hg0 (by simp at h; exact h ▸ hb)))) hn0 (by omega) (by rw [HC0.out]; omega)).mono ?_
      rintro e W1 ⟨rfl, ho, hch⟩
      rw [HC0.out]
      have yc0 := chg_cell hch hg0 xc0
      have yf0 := chg_froz hch hg0 xc0 xf0
      have yc1 := chg_cell hch hg0 xc1
      have yf1 := chg_froz hch hg0 xc1 xf1
      have yc2 := chg_cell hch hg0 xc2
      have yf2 := chg_froz hch hg0 xc2 xf2
      have yc3 := chg_cell hch hg0 xc3
      have yf3 := chg_froz hch hg0 xc3 xf3
      have oq1 := gow_AssignS.frame _ _ _ _ _ (gow_AssignS.frame _ _ _ _ _ O1.out (fun b hb => ((Elem.refl g (o + i * 4) (o + i * 4 + 4) [] W)).chg.block b (gow_AssignS.lt _ _ _ _ O1.out b hb) (fun h => hg1 (by simp at h; exact h ▸ hb)))) (fun b hb => hch.block b (gow_AssignS.lt _ _ _ _ (gow_AssignS.frame _ _ _ _ _ O1.out (fun b hb => ((Elem.refl g (o + i * 4) (o + i * 4 + 4) [] W)).chg.block b (gow_AssignS.lt _ _ _ _ O1.out b hb) (fun h => hg1 (by simp at h; exact h ▸ hb)))) b hb) (hd10 b hb))
      have oq2 := gow_InstS.frame _ _ _ _ _ (gow_InstS.frame _ _ _ _ _ O2.out (fun b hb => ((Elem.refl g (o + i * 4) (o + i * 4 + 4) [] W)).chg.block b (gow_InstS.lt _ _ _ _ O2.out b hb) (fun h => hg2 (by simp at h; exact h ▸ hb)))) (fun b hb => hch.block b (gow_InstS.lt _ _ _ _ (gow_InstS.frame _ _ _ _ _ O2.out (fun b hb => ((Elem.refl g (o + i * 4) (o + i * 4 + 4) [] W)).chg.block b (gow_InstS.lt _ _ _ _ O2.out b hb) (fun h => hg2 (by simp at h; exact h ▸ hb)))) b hb) (hd20 b hb))
      have oq3 := gow_MemS.frame _ _ _ _ _ (gow_MemS.frame _ _ _ _ _ O3.out (fun b hb => ((Elem.refl g (o + i * 4) (o + i * 4 + 4) [] W)).chg.block b (gow_MemS.lt _ _ _ _ O3.out b hb) (fun h => hg3 (by simp at h; exact h ▸ hb)))) (fun b hb => hch.block b (gow_MemS.lt _ _ _ _ (gow_MemS.frame _ _ _ _ _ O3.out (fun b hb => ((Elem.refl g (o + i * 4) (o + i * 4 + 4) [] W)).chg.block b (gow_MemS.lt _ _ _ _ O3.out b hb) (fun h => hg3 (by simp at h; exact h ▸ hb)))) b hb) (hd30 b hb))
      have hE : Elem g (o + i * 4) (o + i * 4 + 4) ((b0 ++ (b1 ++ (b2 ++ b3)))) W W1 := Elem.sub (Elem.refl g _ _ _ W) hch (fun b hb => by simp [hb]) hg0 hgl
      have HE1 := Lib.hid hE
      replace O0 := Lib.hid ho
      replace O1 := Lib.hid oq1
      replace O2 := Lib.hid oq2
      replace O3 := Lib.hid oq3
      clear hE ho hch oq1 oq2 oq3 xc0 xf0 xc1 xf1 xc2 xf2 xc3 xf3
      have xc0 := yc0
      have xf0 := yf0
      have xc1 := yc1
      have xf1 := yf1
      have xc2 := yc2
      have xf2 := yf2
      have xc3 := yc3
      have xf3 := yf3
      clear yc0 yf0 yc1 yf1 yc2 yf2 yc3 yf3
      go_wp2_with fail
      refine (markAssignS_own (x.2.1) _ _ _ b1 _ _ (gow_AssignS.frame _ _ _ _ _ O1.out (fun b hb => ((Elem.refl g (o + i * 4) (o + i * 4 + 4) [] W1)).chg.block b (gow_AssignS.lt _ _ _ _ O1.out b hb) (fun h => hg1 (by simp at h; exact h ▸ hb)))) hn1 (by omega) (by rw [HC1.out]; omega)).mono ?_
      rintro e W2 ⟨rfl, ho, hch⟩
      rw [HC1.out]
      have yc0 := chg_cell hch hg1 xc0
      have yf0 := chg_froz hch hg1 xc0 xf0
      have yc1 := chg_cell hch hg1 xc1
      have yf1 := chg_froz hch hg1 xc1 xf1
      have yc2 := chg_cell hch hg1 xc2
      have yf2 := chg_froz hch hg1 xc2 xf2
      have yc3 := chg_cell hch hg1 xc3
      have yf3 := chg_froz hch hg1 xc3 xf3
      have oq0 := gow_SignalS.frame _ _ _ _ _ (gow_SignalS.frame _ _ _ _ _ O0.out (fun b hb => ((Elem.refl g (o + i * 4) (o + i * 4 + 4) [] W1)).chg.block b (gow_SignalS.lt _ _ _ _ O0.out b hb) (fun h => hg0 (by simp at h; exact h ▸ hb)))) (fun b hb => hch.block b (gow_SignalS.lt _ _ _ _ (gow_SignalS.frame _ _ _ _ _ O0.out (fun b hb => ((Elem.refl g (o + i * 4) (o + i * 4 + 4) [] W1)).chg.block b (gow_SignalS.lt _ _ _ _ O0.out b hb) (fun h => hg0 (by simp at h; exact h ▸ hb)))) b hb) (hd01 b hb))
      have oq2 := gow_InstS.frame _ _ _ _ _ (gow_InstS.frame _ _ _ _ _ O2.out (fun b hb => ((Elem.refl g (o + i * 4) (o + i * 4 + 4) [] W1)).chg.block b (gow_InstS.lt _ _ _ _ O2.out b hb) (fun h => hg2 (by simp at h; exact h ▸ hb)))) (fun b hb => hch.block b (gow_InstS.lt _ _ _ _ (gow_InstS.frame _ _ _ _ _ O2.out (fun b hb => ((Elem.refl g (o + i * 4) (o + i * 4 + 4) [] W1)).chg.block b (gow_InstS.lt _ _ _ _ O2.out b hb) (fun h => hg2 (by simp at h; exact h ▸ hb)))) b hb) (hd21 b hb))
      have oq3 := gow_MemS.frame _ _ _ _ _ (gow_MemS.frame _ _ _ _ _ O3.out (fun b hb => ((Elem.refl g (o + i * 4) (o + i * 4 + 4) [] W1)).chg.block b (gow_MemS.lt _ _ _ _ O3.out b hb) (fun h => hg3 (by simp at h; exact h ▸ hb)))) (fun b hb => hch.block b (gow_MemS.lt _ _ _ _ (gow_MemS.frame _ _ _ _ _ O3.out (fun b hb => ((Elem.refl g (o + i * 4) (o + i * 4 + 4) [] W1)).chg.block b (gow_MemS.lt _ _ _ _ O3.out b hb) (fun h => hg3 (by simp at h; exact h ▸ hb)))) b hb) (hd31 b hb))
      have hE : Elem g (o + i * 4) (o + i * 4 + 4) ((b0 ++ (b1 ++ (b2 ++ b3)))) W W2 := Elem.sub HE1.out hch (fun b hb => by simp [hb]) hg1 hgl
      have HE2 := Lib.hid hE
      replace O1 := Lib.hid ho
      replace O0 := Lib.hid oq0
      replace O2 := Lib.hid oq2
      replace O3 := Lib.hid oq3
      clear hE ho hch oq0 oq2 oq3 xc0 xf0 xc1 xf1 xc2 xf2 xc3 xf3
      have xc0 := yc0
      have xf0 := yf0
      have xc1 := yc1
      have xf1 := yf1
      have xc2 := yc2
      have xf2 := yf2
      have xc3 := yc3
      have xf3 := yf3
      clear yc0 yf0 yc1 yf1 yc2 yf2 yc3 yf3
      go_wp2_with fail
      refine (markInstS_own (x.2.2.1) _ _ _ b2 _ _ (gow_InstS.frame _ _ _ _ _ O2.out (fun b hb => ((Elem.refl g (o + i * 4) (o + i * 4 + 4) [] W2)).chg.block b (gow_InstS.lt _ _ _ _ O2.out b hb) (fun h => hg2 (by simp at h; exact h ▸ hb)))) hn2 (by omega) (by rw [HC2.out]; omega)).mono ?_
      rintro e W3 ⟨rfl, ho, hch⟩
      rw [HC2.out]
      have yc0 := chg_cell hch hg2 xc0
      have yf0 := chg_froz hch hg2 xc0 xf0
      have yc1 := chg_cell hch hg2 xc1
      have yf1 := chg_froz hch hg2 xc1 xf1
      have yc2 := chg_cell hch hg2 xc2
      have yf2 := chg_froz hch hg2 xc2 xf2
      have yc3 := chg_cell hch hg2 xc3
      have yf3 := chg_froz hch hg2 xc3 xf3
      have oq0 := gow_SignalS.frame _ _ _ _ _ (gow_SignalS.frame _ _ _ _ _ O0.out (fun b hb => ((Elem.refl g (o + i * 4) (o + i * 4 + 4) [] W2)).chg.block b (gow_SignalS.lt _ _ _ _ O0.out b hb) (fun h => hg0 (by simp at h; exact h ▸ hb)))) (fun b hb => hch.block b (gow_SignalS.lt _ _ _ _ (gow_SignalS.frame _ _ _ _ _ O0.out (fun b hb => ((Elem.refl g (o + i * 4) (o + i * 4 + 4) [] W2)).chg.block b (gow_SignalS.lt _ _ _ _ O0.out b hb) (fun h => hg0 (by simp at h; exact h ▸ hb)))) b hb) (hd02 b hb))
      have oq1 := gow_AssignS.frame _ _ _ _ _ (gow_AssignS.frame _ _ _ _ _ O1.out (fun b hb => ((Elem.refl g (o + i * 4) (o + i * 4 + 4) [] W2)).chg.block b (gow_AssignS.lt _ _ _ _ O1.out b hb) (fun h => hg1 (by simp at h; exact h ▸ hb)))) (fun b hb => hch.block b (gow_AssignS.lt _ _ _ _ (gow_AssignS.frame _ _ _ _ _ O1.out (fun b hb => ((Elem.refl g (o + i * 4) (o + i * 4 + 4) [] W2)).chg.block b (gow_AssignS.lt _ _ _ _ O1.out b hb) (fun h => hg1 (by simp at h; exact h ▸ hb)))) b hb) (hd12 b hb))
      have oq3 := gow_MemS.frame _ _ _ _ _ (gow_MemS.frame _ _ _ _ _ O3.out (fun b hb => ((Elem.refl g (o + i * 4) (o + i * 4 + 4) [] W2)).chg.block b (gow_MemS.lt _ _ _ _ O3.out b hb) (fun h => hg3 (by simp at h; exact h ▸ hb)))) (fun b hb => hch.block b (gow_MemS.lt _ _ _ _ (gow_MemS.frame _ _ _ _ _ O3.out (fun b hb => ((Elem.refl g (o + i * 4) (o + i * 4 + 4) [] W2)).chg.block b (gow_MemS.lt _ _ _ _ O3.out b hb) (fun h => hg3 (by simp at h; exact h ▸ hb)))) b hb) (hd32 b hb))
      have hE : Elem g (o + i * 4) (o + i * 4 + 4) ((b0 ++ (b1 ++ (b2 ++ b3)))) W W3 := Elem.sub HE2.out hch (fun b hb => by simp [hb]) hg2 hgl
      have HE3 := Lib.hid hE
      replace O2 := Lib.hid ho
      replace O0 := Lib.hid oq0
      replace O1 := Lib.hid oq1
      replace O3 := Lib.hid oq3
      clear hE ho hch oq0 oq1 oq3 xc0 xf0 xc1 xf1 xc2 xf2 xc3 xf3
      have xc0 := yc0
      have xf0 := yf0
      have xc1 := yc1
      have xf1 := yf1
      have xc2 := yc2
      have xf2 := yf2
      have xc3 := yc3
      have xf3 := yf3
      clear yc0 yf0 yc1 yf1 yc2 yf2 yc3 yf3
      go_wp2_with fail
      refine (markMemS_own (x.2.2.2) _ _ _ b3 _ _ (gow_MemS.frame _ _ _ _ _ O3.out (fun b hb => ((Elem.refl g (o + i * 4) (o + i * 4 + 4) [] W3)).chg.block b (gow_MemS.lt _ _ _ _ O3.out b hb) (fun h => hg3 (by simp at h; exact h ▸ hb)))) hn3 (by omega) (by rw [HC3.out]; omega)).mono ?_
      rintro e W4 ⟨rfl, ho, hch⟩
      rw [HC3.out]
      have yc0 := chg_cell hch hg3 xc0
      have yf0 := chg_froz hch hg3 xc0 xf0
      have yc1 := chg_cell hch hg3 xc1
      have yf1 := chg_froz hch hg3 xc1 xf1
      have yc2 := chg_cell hch hg3 xc2
      have yf2 := chg_froz hch hg3 xc2 xf2
      have yc3 := chg_cell hch hg3 xc3
      have yf3 := chg_froz hch hg3 xc3 xf3
      have oq0 := gow_SignalS.frame _ _ _ _ _ (gow_SignalS.frame _ _ _ _ _ O0.out (fun b hb => ((Elem.refl g (o + i * 4) (o + i * 4 + 4) [] W3)).chg.block b (gow_SignalS.lt _ _ _ _ O0.out b hb) (fun h => hg0 (by simp at h; exact h ▸ hb)))) (fun b hb => hch.block b (gow_SignalS.lt _ _ _ _ (gow_SignalS.frame _ _ _ _ _ O0.out (fun b hb => ((Elem.refl g (o + i * 4) (o + i * 4 + 4) [] W3)).chg.block b (gow_SignalS.lt _ _ _ _ O0.out b hb) (fun h => hg0 (by simp at h; exact h ▸ hb)))) b hb) (hd03 b hb))
      have oq1 := gow_AssignS.frame _ _ _ _ _ (gow_AssignS.frame _ _ _ _ _ O1.out (fun b hb => ((Elem.refl g (o + i * 4) (o + i * 4 + 4) [] W3)).chg.block b (gow_AssignS.lt _ _ _ _ O1.out b hb) (fun h => hg1 (by simp at h; exact h ▸ hb)))) (fun b hb => hch.block b (gow_AssignS.lt _ _ _ _ (gow_AssignS.frame _ _ _ _ _ O1.out (fun b hb => ((Elem.refl g (o + i * 4) (o + i * 4 + 4) [] W3)).chg.block b (gow_AssignS.lt _ _ _ _ O1.out b hb) (fun h => hg1 (by simp at h; exact h ▸ hb)))) b hb) (hd13 b hb))
      have oq2 := gow_InstS.frame _ _ _ _ _ (gow_InstS.frame _ _ _ _ _ O2.out (fun b hb => ((Elem.refl g (o + i * 4) (o + i * 4 + 4) [] W3)).chg.block b (gow_InstS.lt _ _ _ _ O2.out b hb) (fun h => hg2 (by simp at h; exact h ▸ hb)))) (fun b hb => hch.block b (gow_InstS.lt _ _ _ _ (gow_InstS.frame _ _ _ _ _ O2.out (fun b hb => ((Elem.refl g (o + i * 4) (o + i * 4 + 4) [] W3)).chg.block b (gow_InstS.lt _ _ _ _ O2.out b hb) (fun h => hg2 (by simp at h; exact h ▸ hb)))) b hb) (hd23 b hb))
      have hE : Elem g (o + i * 4) (o + i * 4 + 4) ((b0 ++ (b1 ++ (b2 ++ b3)))) W W4 := Elem.sub HE3.out hch (fun b hb => by simp [hb]) hg3 hgl
      have HE4 := Lib.hid hE
      replace O3 := Lib.hid ho
      replace O0 := Lib.hid oq0
      replace O1 := Lib.hid oq1
      replace O2 := Lib.hid oq2
      clear hE ho hch oq0 oq1 oq2 xc0 xf0 xc1 xf1 xc2 xf2 xc3 xf3
      have xc0 := yc0
      have xf0 := yf0
      have xc1 := yc1
      have xf1 := yf1
      have xc2 := yc2
      have xf2 := yf2
      have xc3 := yc3
      have xf3 := yf3
      clear yc0 yf0 yc1 yf1 yc2 yf2 yc3 yf3
      go_wp2
      go_roundw
      case rel =>
        refine ⟨i + 1, by omega, by go_num, by rw [HST.out]; exact int_eq (by omega), ?_, ?_⟩
        · rw [← HNS.out]
          exact HSET.out _ [_, _, _, _] _ (HE4.out) rfl (cells4 ⟨xc0, xf0⟩ ⟨xc1, xf1⟩ ⟨xc2, xf2⟩ ⟨xc3, xf3⟩) (by unfold numModule; (try rw [HC0.out]); (try rw [HC1.out]); (try rw [HC2.out]); (try rw [HC3.out]); exact ⟨b0, b1, b2, b3, _, _, _, _, rfl, rfl, O0.out, O1.out, O2.out, O3.out⟩)
        · refine HG.out.trans (ChgL.wider (bs := g :: ((b0 ++ (b1 ++ (b2 ++ b3))))) (Elem.chg (lo := o + i * 4) (hi := o + i * 4 + 4) (HE4.out)) fun b hb => ?_)
          rcases List.mem_cons.1 hb with rfl | hb
          · exact hgb
          · exact hbj b hb
      case measure => simp [intOf]; omega
    · obtain rfl : i = L.length := by omega
      have ho := HO.out
      rw [List.take_length, List.drop_length, List.append_nil] at ho
      have HF := Lib.hid ho
      rw [List.take_length]
      clear hle ho
      go_wp2
      go_ret
      exact ⟨rfl, HF.out, HG.out⟩

set_option maxHeartbeats 3200000 in
theorem heldModuleS_num (L : List DModule) (v : Value) {B T : Nat} (k : Int) (w : World) (h : rdModuleS B T w [v] (numModuleS k L)) (hT : T ≤ w.heap.size) (hk0 : 0 ≤ k) (hk : k + (cntModuleS L : Int) ≤ 4611686018427387904) :
    Calls Try.prog 87 #[v, .int .i64 k] w fun e w' => e = .returned (.int .i64 (k + (cntModuleS L : Int))) ∧ Below w.heap.size w w' := by
  obtain ⟨A, c, ea, hm, hA⟩ := h
  injection ea with ea
  rw [numModuleS_len] at ea hm
  subst ea
  unfold maxLen at hm
  have HA := Lib.hid hA
  clear hA
  go_enter Try.func87, Try.ntmps87
  go_wp2
  go_loopw [1, 5] (fun q v wr => ∃ i : Nat, i ≤ L.length ∧ v = .int .i64 i ∧ q = .int .i64 (k + (cntModuleS (L.take i) : Int)) ∧ Below w.heap.size w wr) (fun _ v _ => L.length - (intOf v).toNat)
  case atStart => exact ⟨0, Nat.zero_le _, rfl, by simp [cntModuleS], Below.refl _ _⟩
  case round =>
    obtain ⟨i, hi, rfl, rfl, hb⟩ := hrel
    obtain ⟨W, rfl⟩ : ∃ W, W = wr := ⟨_, rfl⟩
    have HB := Lib.hid hb
    have hle := cntModuleS_le L i
    clear hb
    by_cases hlt : i < L.length
    · obtain ⟨b, o, rfl, _, _, us, hul, hc, hx⟩ := HA.out i (by rw [numModuleS_len]; exact hlt)
      obtain ⟨x, hxx⟩ : ∃ x, L[i] = x := ⟨_, rfl⟩
      have hx? : L[i]? = some x := by rw [List.getElem?_eq_getElem hlt, hxx]
      have hst := cntModuleS_step L i x hx?
      have hle2 := cntModuleS_le L (i + 1)
      obtain ⟨cc, hcc⟩ : ∃ c : Int, (cntModuleS (L.take i) : Int) = c := ⟨_, rfl⟩
      have hng := numModuleS_get L i x k cc hx? hcc
      have hnx : (numModuleS k L)[i]'(by rw [numModuleS_len]; exact hlt) = numModule (k + cc) x := by rw [List.getElem?_eq_getElem (by rw [numModuleS_len]; exact hlt)] at hng; injection hng
      rw [hnx] at hx
      unfold numModule at hx
      clear hxx hx? hng hnx
      obtain ⟨u0, u1, u2, u3, rfl, h0, h1, h2, h3⟩ := hx
      obtain ⟨t0, ht0⟩ : ∃ c : Int, (cntSignalS (x.1) : Int) = c := ⟨_, rfl⟩
      obtain ⟨t1, ht1⟩ : ∃ c : Int, (cntAssignS (x.2.1) : Int) = c := ⟨_, rfl⟩
      obtain ⟨t2, ht2⟩ : ∃ c : Int, (cntInstS (x.2.2.1) : Int) = c := ⟨_, rfl⟩
      obtain ⟨t3, ht3⟩ : ∃ c : Int, (cntMemS (x.2.2.2) : Int) = c := ⟨_, rfl⟩
      (try simp only [ht0, ht1, ht2, ht3] at h0)
      have O0 := Lib.hid h0
      obtain ⟨xA0, xq0, e0, -⟩ := h0
      (try dsimp only at e0)
      rw [numSignalS_len] at e0
      injection e0 with e0
      subst e0
      (try simp only [ht0, ht1, ht2, ht3] at h1)
      have O1 := Lib.hid h1
      obtain ⟨xA1, xq1, e1, -⟩ := h1
      (try dsimp only at e1)
      rw [numAssignS_len] at e1
      injection e1 with e1
      subst e1
      (try simp only [ht0, ht1, ht2, ht3] at h2)
      have O2 := Lib.hid h2
      obtain ⟨xA2, xq2, e2, -⟩ := h2
      (try dsimp only at e2)
      rw [numInstS_len] at e2
      injection e2 with e2
      subst e2
      (try simp only [ht0, ht1, ht2, ht3] at h3)
      have O3 := Lib.hid h3
      obtain ⟨xA3, xq3, e3, -⟩ := h3
      (try dsimp only at e3)
      rw [numMemS_len] at e3
      injection e3 with e3
      subst e3
      have xc0 : W.cell? ⟨b, o + i * 4, none⟩ = some (.slice xA0 (x.1).length xq0) := keep HB.out (hc 0 _ rfl)
      have xc1 : W.cell? ⟨b, o + i * 4 + 1, none⟩ = some (.slice xA1 (x.2.1).length xq1) := keep HB.out (hc 1 _ rfl)
      have xc2 : W.cell? ⟨b, o + i * 4 + 2, none⟩ = some (.slice xA2 (x.2.2.1).length xq2) := keep HB.out (hc 2 _ rfl)
      have xc3 : W.cell? ⟨b, o + i * 4 + 3, none⟩ = some (.slice xA3 (x.2.2.2).length xq3) := keep HB.out (hc 3 _ rfl)
      have hst' : (cntModuleS (L.take (i + 1)) : Int) = cc + t0 + t1 + t2 + t3 := by unfold cntModule at hst; omega
      have hbnd : k + (cc + t0 + t1 + t2 + t3) ≤ 4611686018427387904 := by rw [← hst']; omega
      have hcc0 : 0 ≤ cc := by omega
      have hp0 : 0 ≤ t0 := by omega
      have HC0 := Lib.hid ht0
      have hp1 : 0 ≤ t1 := by omega
      have HC1 := Lib.hid ht1
      have hp2 : 0 ≤ t2 := by omega
      have HC2 := Lib.hid ht2
      have hp3 : 0 ≤ t3 := by omega
      have HC3 := Lib.hid ht3
      have HST := Lib.hid hst'
      rw [hcc]
      clear hst hle2 hst' hle hcc hc hul ht0 ht1 ht2 ht3
      go_wp2_with fail
      refine (heldSignalS_num (x.1) _ _ _ (by have h := good_SignalS.below O0.out hT HB.out; (first | exact h | (simpa [Int.add_assoc] using h))) (Nat.le_trans hT (HB.out).size) (by omega) (by rw [HC0.out]; omega)).mono ?_
      rintro e W1 ⟨rfl, hbb⟩
      rw [HC0.out]
      replace xc0 := keep hbb xc0
      replace xc1 := keep hbb xc1
      replace xc2 := keep hbb xc2
      replace xc3 := keep hbb xc3
      have HB1 := Lib.hid (bThen (HB.out) hbb)
      have tn1 : ¬ (k + cc + t0) < 0 := by omega
      clear hbb
      go_wp2_with fail
      refine (heldAssignS_num (x.2.1) _ _ _ (by have h := good_AssignS.below O1.out hT HB1.out; (first | exact h | (simpa [Int.add_assoc] using h))) (Nat.le_trans hT (HB1.out).size) (by omega) (by rw [HC1.out]; omega)).mono ?_
      rintro e W2 ⟨rfl, hbb⟩
      rw [HC1.out]
      replace xc0 := keep hbb xc0
      replace xc1 := keep hbb xc1
      replace xc2 := keep hbb xc2
      replace xc3 := keep hbb xc3
      have HB2 := Lib.hid (bThen (HB1.out) hbb)
      have tn2 : ¬ (k + cc + t0 + t1) < 0 := by omega
      clear hbb
      go_wp2_with fail
      refine (heldInstS_num (x.2.2.1) _ _ _ (by have h := good_InstS.below O2.out hT HB2.out; (first | exact h | (simpa [Int.add_assoc] using h))) (Nat.le_trans hT (HB2.out).size) (by omega) (by rw [HC2.out]; omega)).mono ?_
      rintro e W3 ⟨rfl, hbb⟩
      rw [HC2.out]
      replace xc0 := keep hbb xc0
      replace xc1 := keep hbb xc1
      replace xc2 := keep hbb xc2
      replace xc3 := keep hbb xc3
      have HB3 := Lib.hid (bThen (HB2.out) hbb)
      have tn3 : ¬ (k + cc + t0 + t1 + t2) < 0 := by omega
      clear hbb
      go_wp2_with fail
      refine (heldMemS_num (x.2.2.2) _ _ _ (by have h := good_MemS.below O3.out hT HB3.out; (first | exact h | (simpa [Int.add_assoc] using h))) (Nat.le_trans hT (HB3.out).size) (by omega) (by rw [HC3.out]; omega)).mono ?_
      rintro e W4 ⟨rfl, hbb⟩
      rw [HC3.out]
      replace xc0 := keep hbb xc0
      replace xc1 := keep hbb xc1
      replace xc2 := keep hbb xc2
      replace xc3 := keep hbb xc3
      have HB4 := Lib.hid (bThen (HB3.out) hbb)
      have tn4 : ¬ (k + cc + t0 + t1 + t2 + t3) < 0 := by omega
      clear hbb
      go_wp2
      go_roundw
      case rel => exact ⟨i + 1, by omega, by go_num, by rw [HST.out]; exact int_eq (by omega), HB4.out⟩
      case measure => simp [intOf]; omega
    · obtain rfl : i = L.length := by omega
      rw [List.take_length]
      clear hle
      go_wp2
      go_ret
      exact ⟨rfl, HB.out⟩
end Go.Proofs.Ytllddjkdjdohhaa
