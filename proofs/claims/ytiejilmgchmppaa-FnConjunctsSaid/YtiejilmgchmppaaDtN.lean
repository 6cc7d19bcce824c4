/-
  Rows4, Shape, DtInt, DtSeq, DtAnd, DtNet as one text.
-/
import Derived.Test.YtiejilmgchmppaaBaN
import Derived.Laws.MakeOwn
import Derived.Lib.QuietBelow
import Derived.Deep.RegionHeld3
import Derived.Test.YtiejilmgchmppaaDpN
/- Rows4: Rows of values, 1 to 4 cells an element; what make lays. -/
namespace Go.Proofs.Ytiejilmgchmppaa
open Go.RowKit
set_option linter.unusedVariables false
abbrev V1 : Type := Value
abbrev V2 : Type := Value × Value
abbrev V3 : Type := Value × Value × Value
abbrev V4 : Type := Value × Value × Value × Value
def fV1 (x : V1) : List Value := [x]
def fV2 (x : V2) : List Value := [x.1, x.2]
def fV3 (x : V3) : List Value := [x.1, x.2.1, x.2.2]
def fV4 (x : V4) : List Value := [x.1, x.2.1, x.2.2.1, x.2.2.2]
theorem fV1_len (x : V1) : (fV1 x).length = 1 := rfl
theorem fV2_len (x : V2) : (fV2 x).length = 2 := rfl
theorem fV3_len (x : V3) : (fV3 x).length = 3 := rfl
theorem fV4_len (x : V4) : (fV4 x).length = 4 := rfl
theorem made_rows {α : Type} (f : α → List Value) (k : Nat) (hf : ∀ x, (f x).length = k) (zr : α) (zc : Array Value) (hz : zc.toList = f zr) (hk : 0 < k) (n : Nat) : (madeCells zc (n * k)).toList = (List.replicate n zr).flatMap f := by
  have hs : zc.size = k := by rw [← hf zr, ← hz]; simp
  apply List.ext_getElem?
  intro j
  rw [Array.getElem?_toList]
  by_cases hj : j < n * k
  · have hmod := Nat.mod_lt j hk
    have hdiv : j / k < n := (Nat.div_lt_iff_lt_mul hk).2 hj
    have e : j = (j / k) * k + j % k := by rw [Nat.mul_comm]; exact (Nat.div_add_mod j k).symm
    have h2 := flat_at f k hf (List.replicate n zr) (j / k) (j % k) (by simpa using hdiv) hmod
    rw [← e] at h2
    rw [h2]
    simp only [List.getElem_replicate]
    rw [← hz, Array.getElem?_toList]
    simp only [madeCells, Array.getElem?_map, Array.getElem?_range, hs]
    rw [if_pos hj]
    simp only [Option.map_some]
    rw [getElem!_pos zc (j % k) (by omega), Array.getElem?_eq_getElem (by omega)]
  · rw [List.getElem?_eq_none (by rw [flat_len f k hf]; simp; omega)]
    simp [madeCells, hj]
/-- A reading stands behind stores elsewhere and a call. -/
theorem rd_step {α : Type} {P : Rd α} (g : P.Good) {B : Nat} {w1 w2 w3 : World} {vs : List Value} {x : α} (h : P B w1.heap.size w1 vs x) (hset : ∀ b, B ≤ b → w2.heap[b]? = w1.heap[b]?) (hsz : w2.heap.size = w1.heap.size)
    (hb : Below w2.heap.size w2 w3) : P B w3.heap.size w3 vs x :=
  g _ _ _ _ w1 w3 _ _ h (Nat.le_refl _) (by rw [← hsz]; exact hb.size) fun b h1 h2 => (hb.block b (by rw [hsz]; exact h2)).trans (hset b h1)
theorem rowB' {b : Nat} {w w' : World} {o : Obj} (h : Below w.heap.size w w') (hr : w.heap[b]? = some o) : w'.heap[b]? = some o :=
  (h.block b (Array.getElem?_eq_some_iff.1 hr).1).trans hr
end Go.Proofs.Ytiejilmgchmppaa
/- Shape: Data that is read and may be written: the cells of its slices are not frozen; a walk that puts ints in the place of ints. -/
namespace Go.Proofs.Ytiejilmgchmppaa
open Go.RowKit
set_option linter.unusedVariables false

/-- A slice whose elements are k cells each, none of them frozen. -/
def rwS {α : Type} (k : Nat) (P : Rd α) : Rd (List α) := fun B T w vs L => ∃ A c, vs = [.slice A L.length c] ∧ (L.length ≤ maxLen ∧ L.length ≤ c) ∧
  ∀ j (hj : j < L.length), ∃ b o, A = some ⟨b, o, none⟩ ∧ B ≤ b ∧ b < T ∧ ∃ us : List Value, us.length = k ∧ (∀ i u, us[i]? = some u → w.cell? ⟨b, o + j * k + i, none⟩ = some u ∧ w.frozen? ⟨b, o + j * k + i, none⟩ = false) ∧ P B T w us L[j]
theorem rwS_good {α : Type} (k : Nat) {P : Rd α} (g : P.Good) : (rwS k P).Good := by
  rintro B T B' T' w w' vs L ⟨A, c, e, hm, h⟩ hB hT hk
  refine ⟨A, c, e, hm, fun j hj => ?_⟩
  obtain ⟨b, o, hA, hb1, hb2, us, hl, hc, hp⟩ := h j hj
  refine ⟨b, o, hA, Nat.le_trans hB hb1, Nat.lt_of_lt_of_le hb2 hT, us, hl, fun i u hu => ⟨?_, ?_⟩, g B T B' T' w w' us _ hp hB hT hk⟩
  · exact (World.cell?_of_block (w := w) (w' := w') (a := ⟨b, o + j * k + i, none⟩) (hk b hb1 hb2)).trans (hc i u hu).1
  · exact (World.frozen?_of_block (w := w) (w' := w') (a := ⟨b, o + j * k + i, none⟩) (hk b hb1 hb2)).trans (hc i u hu).2
def Rd.Le {α : Type} (P Q : Rd α) : Prop := ∀ (B T : Nat) (w : World) (vs : List Value) (x : α), P B T w vs x → Q B T w vs x
section
variable {α β γ δ : Type}
theorem Rd.Le.refl (P : Rd α) : Rd.Le P P := fun _ _ _ _ _ h => h
theorem rwS_le (k : Nat) {P Q : Rd α} (g : Rd.Le P Q) : Rd.Le (rwS k P) (rdS k Q) := by
  rintro B T w vs L ⟨A, c, e, hm, h⟩
  refine ⟨A, c, e, hm, fun j hj => ?_⟩
  obtain ⟨b, o, hA, hb1, hb2, us, hl, hc, hp⟩ := h j hj
  exact ⟨b, o, hA, hb1, hb2, us, hl, fun i u hu => (hc i u hu).1, g _ _ _ _ _ hp⟩
theorem rd1_le {P P' : Rd α} (g : Rd.Le P P') : Rd.Le (rd1 P) (rd1 P') := by
  rintro B T w vs x ⟨u, e, h⟩; exact ⟨u, e, g _ _ _ _ _ h⟩
theorem rd2_le {P P' : Rd α} {Q Q' : Rd β} (g : Rd.Le P P') (k : Rd.Le Q Q') : Rd.Le (rd2 P Q) (rd2 P' Q') := by
  rintro B T w vs x ⟨u0, u1, e, h0, h1⟩; exact ⟨u0, u1, e, g _ _ _ _ _ h0, k _ _ _ _ _ h1⟩
theorem rd3_le {P P' : Rd α} {Q Q' : Rd β} {R R' : Rd γ} (g : Rd.Le P P') (k : Rd.Le Q Q') (m : Rd.Le R R') : Rd.Le (rd3 P Q R) (rd3 P' Q' R') := by
  rintro B T w vs x ⟨u0, u1, u2, e, h0, h1, h2⟩; exact ⟨u0, u1, u2, e, g _ _ _ _ _ h0, k _ _ _ _ _ h1, m _ _ _ _ _ h2⟩
theorem rd4_le {P P' : Rd α} {Q Q' : Rd β} {R R' : Rd γ} {S S' : Rd δ} (g : Rd.Le P P') (k : Rd.Le Q Q') (m : Rd.Le R R') (n : Rd.Le S S') : Rd.Le (rd4 P Q R S) (rd4 P' Q' R' S') := by
  rintro B T w vs x ⟨u0, u1, u2, u3, e, h0, h1, h2, h3⟩; exact ⟨u0, u1, u2, u3, e, g _ _ _ _ _ h0, k _ _ _ _ _ h1, m _ _ _ _ _ h2, n _ _ _ _ _ h3⟩
end

/-- An int stands where an int stood; else nothing has changed. -/
def Sim (u u' : Value) : Prop := u' = u ∨ ∃ x y : Int, u = .int .i64 x ∧ u' = .int .i64 y
theorem Sim.trans {a b c : Value} (h : Sim a b) (k : Sim b c) : Sim a c := by
  rcases h with rfl | ⟨x, y, rfl, rfl⟩
  · exact k
  · rcases k with rfl | ⟨x', y', _, rfl⟩
    · exact .inr ⟨x, y, rfl, rfl⟩
    · exact .inr ⟨x, y', rfl, rfl⟩
/-- From w to w' ints of the blocks B .. T - 1 have turned to ints, and new blocks have come. -/
structure Sims (B T : Nat) (w w' : World) : Prop where
  os : w'.os = w.os
  tape : w'.tape = w.tape
  output : w'.output = w.output
  size : w.heap.size ≤ w'.heap.size
  block : ∀ k, k < w.heap.size → (k < B ∨ T ≤ k) → w'.heap[k]? = w.heap[k]?
  cell : ∀ (b o : Nat) (u : Value), B ≤ b → b < T → w.cell? ⟨b, o, none⟩ = some u → ∃ u', w'.cell? ⟨b, o, none⟩ = some u' ∧ Sim u u'
  froz : ∀ (b o : Nat) (u : Value), B ≤ b → b < T → w.cell? ⟨b, o, none⟩ = some u → w.frozen? ⟨b, o, none⟩ = false → w'.frozen? ⟨b, o, none⟩ = false
theorem Sims.refl (B T : Nat) (w : World) : Sims B T w w := ⟨rfl, rfl, rfl, Nat.le_refl _, fun _ _ _ => rfl, fun _ _ u _ _ h => ⟨u, h, .inl rfl⟩, fun _ _ _ _ _ _ h => h⟩
theorem Sims.below {B T : Nat} {w w1 w2 : World} (h : Sims B T w w1) (hb : Below w1.heap.size w1 w2) : Sims B T w w2 :=
  ⟨hb.os.trans h.os, hb.tape.trans h.tape, hb.output.trans h.output, Nat.le_trans h.size hb.size, fun k hk hh => (hb.block k (Nat.lt_of_lt_of_le hk h.size)).trans (h.block k hk hh),
    fun b o u h1 h2 hc => by
      obtain ⟨u', hc', hs⟩ := h.cell b o u h1 h2 hc
      exact ⟨u', keep hb hc', hs⟩,
    fun b o u h1 h2 hc hf => by
      obtain ⟨u', hc', hs⟩ := h.cell b o u h1 h2 hc
      exact keepF hb hc' (h.froz b o u h1 h2 hc hf)⟩
theorem Sims.set {B T : Nat} {w w1 : World} (h : Sims B T w w1) {b o : Nat} {x : Int} (h1 : B ≤ b) (h2 : b < T) (hc : w1.cell? ⟨b, o, none⟩ = some (.int .i64 x)) (y : Int) : Sims B T w (w1.setCell ⟨b, o, none⟩ (.int .i64 y)) := by
  refine ⟨h.os, h.tape, h.output, by simpa [World.setCell] using h.size, fun k hk hh => ?_, fun b' o' u g1 g2 hc' => ?_, fun b' o' u g1 g2 hc' hf => ?_⟩
  · rw [heap_setCell_other w1 ⟨b, o, none⟩ k _ (by intro e; dsimp only at e; omega)]; exact h.block k hk hh
  · obtain ⟨u', hu, hs⟩ := h.cell b' o' u g1 g2 hc'
    by_cases e : (⟨b', o', none⟩ : Addr) = ⟨b, o, none⟩
    · rw [e] at hu ⊢
      rw [hc] at hu
      injection hu with hu
      subst hu
      exact ⟨.int .i64 y, World.cell?_setCell_same' w1 _ _ (by rw [hc]; rfl), hs.trans (.inr ⟨x, y, rfl, rfl⟩)⟩
    · rw [World.cell?_setCell_other w1 ⟨b, o, none⟩ ⟨b', o', none⟩ _ (fun e' => e e'.symm)]
      exact ⟨u', hu, hs⟩
  · rw [World.frozen?_setCell]
    exact h.froz b' o' u g1 g2 hc' hf
/-- What the walk needs of a cell. -/
theorem Sims.int {B T : Nat} {w w1 : World} (h : Sims B T w w1) {b o : Nat} {x : Int} (h1 : B ≤ b) (h2 : b < T) (hc : w.cell? ⟨b, o, none⟩ = some (.int .i64 x) ∧ w.frozen? ⟨b, o, none⟩ = false) :
    ∃ y : Int, w1.cell? ⟨b, o, none⟩ = some (.int .i64 y) ∧ w1.frozen? ⟨b, o, none⟩ = false := by
  obtain ⟨u', hu, hs⟩ := h.cell b o _ h1 h2 hc.1
  rcases hs with rfl | ⟨_, y, _, rfl⟩
  · exact ⟨x, hu, h.froz b o _ h1 h2 hc.1 hc.2⟩
  · exact ⟨y, hu, h.froz b o _ h1 h2 hc.1 hc.2⟩
theorem Sims.slice {B T : Nat} {w w1 : World} (h : Sims B T w w1) {b o : Nat} {A : Option Addr} {n c : Nat} (h1 : B ≤ b) (h2 : b < T) (hc : w.cell? ⟨b, o, none⟩ = some (.slice A n c) ∧ w.frozen? ⟨b, o, none⟩ = false) :
    w1.cell? ⟨b, o, none⟩ = some (.slice A n c) := by
  obtain ⟨u', hu, hs⟩ := h.cell b o _ h1 h2 hc.1
  rcases hs with rfl | ⟨_, y, e, _⟩
  · exact hu
  · cases e
end Go.Proofs.Ytiejilmgchmppaa
/- DtInt: The type Int as the exact laws' helpers see it. -/
namespace Go.Proofs.Ytiejilmgchmppaa
open Go.RowKit
set_option linter.unusedVariables false
set_option linter.unusedSimpArgs false

abbrev rwIntS : Rd (List Int) := rwS 1 rdInt
theorem goodw_IntS : Rd.Good rwIntS := rwS_good 1 rdInt_good
theorem le_IntS : Rd.Le rwIntS rdIntS := rwS_le 1 (Rd.Le.refl _)

def smIntS (L : List Int) : Prop := L.length ≤ 1048576

theorem info_Int : (Try.prog.info? 3).map (fun i => (i.zero, i.size, i.bytes)) = some (some (.int .i64 0), 1, 8) := by kernel_rfl
set_option maxHeartbeats 3200000 in
theorem toIntS_w (zs : List Int) (a : Option Addr) (len cap : Nat) {B T : Nat} (w : World) (h : rdIntS B T w [.slice a len cap] zs) (hT : T ≤ w.heap.size) (hs : smIntS zs) :
    Calls Try.prog 42 #[.slice a len cap] w fun e w' => ∃ v, e = .returned v ∧ rwIntS w.heap.size w'.heap.size w' [v] zs ∧ Below w.heap.size w w' := by
  obtain ⟨i0, hi, hz0, hz1, hz2⟩ := info_parts info_Int
  obtain ⟨A, c, ea, hm, hA⟩ := h
  injection ea with ea _
  injection ea with e1 e2 e3
  subst e1 e2 e3
  have hl : zs.length ≤ 1048576 := hs
  unfold maxLen at hm
  have HA := Lib.hid hA
  have HSM := Lib.hid hs
  clear hA hs
  go_enter Try.func42, Try.ntmps42
  go_wp2_with (at_make; refine wpList_make_full _ rfl _ _ 26 rfl w.heap.size 3 i0 (.int .i64 0) 1 Try.underlying26 hi hz0 hz1 .i64 .i64 (zs.length : Int) (zs.length : Int) zs.length rfl rfl rfl rfl (by rw [hz2]; omega) (by unfold maxLen; omega) (Nat.le_refl _) ?_; intro w1 hown1 hgrow1)
  have hown : OwnsR fV1 1 3 w1 w.heap.size (.slice (some ⟨w.heap.size, 0, none⟩) zs.length zs.length) (List.replicate zs.length ((.int .i64 0 : Value) : V1)) := by
    unfold OwnsR
    rw [List.length_replicate, ← made_rows fV1 1 fV1_len ((.int .i64 0 : Value) : V1) (.int .i64 0 : Value).cells rfl (by omega)]; exact hown1
  have hB1 : Below w.heap.size w w1 := (Below.refl _ _).grown hgrow1 (Nat.le_refl _) (by intro g hg; cases hg)
  have HO := Lib.hid hown
  have HB := Lib.hid hB1
  clear hown1 hgrow1 hown hB1
  go_loopw [4] (fun v wr => ∃ (i : Nat) (rows : List V1), i ≤ zs.length ∧ v = .int .i64 i ∧ rows.length = zs.length ∧ OwnsR fV1 1 3 wr w.heap.size (.slice (some ⟨w.heap.size, 0, none⟩) zs.length zs.length) rows ∧
      (∀ j x, j < i → zs[j]? = some x → ∃ r, rows[j]? = some r ∧ rdInt (w.heap.size + 1) wr.heap.size wr (fV1 r) x) ∧ Below w.heap.size w wr) (fun v _ => zs.length - (intOf v).toNat)
  case atStart => exact ⟨0, _, Nat.zero_le _, rfl, List.length_replicate, HO.out, fun j x hj => absurd hj (by omega), HB.out⟩
  case round =>
    obtain ⟨i, rows, hi', rfl, hrl, hown, hrd, hb⟩ := hrel
    clear HO HB
    have HO := Lib.hid hown
    have HB := Lib.hid hb
    have HD := Lib.hid hrd
    by_cases hlt : i < zs.length
    · obtain ⟨b, o, rfl, _, hbT, us, hul, hc, hr⟩ := HA.out i hlt
      obtain ⟨x, hx⟩ : ∃ x, zs[i] = x := ⟨_, rfl⟩
      have hxm : x ∈ zs := by rw [← hx]; exact List.getElem_mem hlt
      have hx? : zs[i]? = some x := by rw [List.getElem?_eq_getElem hlt, hx]
      rw [hx] at hr
      have hr0 := hr
      obtain ⟨e0, _⟩ := hr0
      subst e0
      have c0 := keep hb (hc 0 _ rfl)
      rw [Nat.add_zero, Nat.mul_one] at c0
      have hrs := rdInt_good.below hr hT hb
      have HR := Lib.hid hrs
      obtain ⟨A2, c2, hv, hsh⟩ := OwnsR.shape fV1_len hown
      obtain ⟨g, hg, _⟩ := hsh i (by omega)
      rw [hrl] at hv
      injection hv with hv1 hv2 hv3
      subst hv1 hv3
      injection hg with hg
      injection hg with hg
      subst hg
      have hgw : w.heap.size + 1 ≤ wr.heap.size := by
        obtain ⟨g, hg, hcc⟩ := hsh i (by omega)
        injection hg with hg
        injection hg with hg
        subst hg
        exact World.block_lt_of_cell? _ _ (hcc 0 _ rfl).1
      clear hr hown hb hrd hc hsh hbT hrs
      obtain ⟨w2, hw2⟩ : ∃ w2, w2 = wr := ⟨_, rfl⟩
      have hr2 : rdInt (w.heap.size + 1) w2.heap.size w2 [.int .i64 x] x := by rw [hw2]; exact ⟨rfl, HR.out.2⟩
      have hb2 : Below wr.heap.size wr w2 := by rw [hw2]; exact Below.refl _ _
      have hown2 := HO.out.below hb2
      have hB2 := bThen HB.out hb2
      have hw2s := hb2.size
      obtain ⟨A3, c3, hv, hsh⟩ := OwnsR.shape fV1_len hown2
      obtain ⟨g, hg, hcc⟩ := hsh i (by omega)
      rw [hrl] at hv
      injection hv with hv1 hv2 hv3
      subst hv1 hv3
      injection hg with hg
      injection hg with hg
      subst hg
      obtain ⟨r, hrow⟩ : ∃ r, rows[i]'(by omega) = r := ⟨_, rfl⟩
      rw [hrow] at hcc
      have y0 := (hcc 0 _ rfl).1
      have z0 := (hcc 0 _ rfl).2
      rw [Nat.add_zero, Nat.mul_one] at y0 z0
      have hown3 : OwnsR fV1 1 3 w2 w.heap.size (.slice (some ⟨w.heap.size, 0, none⟩) rows.length zs.length) rows := by rw [hrl]; exact hown2
      have hs0 := OwnsR.stored fV1_len (j := i) (i := 0) (u := (.int .i64 x)) (y := ((.int .i64 x) : V1)) hown3 (by first | omega | (simp only [List.length_set]; omega)) (by omega) (by rw [hrow]; rfl)
      rw [Nat.add_zero, Nat.mul_one] at hs0
      have ho := hs0.1
      (try simp only [List.set_set, List.length_set] at ho)
      rw [hrl] at ho
      obtain ⟨w3, hw3⟩ : ∃ w3, w3 = (w2.setCell ⟨w.heap.size, i, none⟩ (.int .i64 x)) := ⟨_, rfl⟩
      have hsame : ∀ b, w.heap.size + 1 ≤ b → w3.heap[b]? = w2.heap[b]? := fun b hb => by
        rw [hw3]
        rw [Below.heap_setCell _ _ _ b (by simp; omega)]
      have hsz : w3.heap.size = w2.heap.size := by rw [hw3]; simp
      have ho3 : OwnsR fV1 1 3 w3 w.heap.size (.slice (some ⟨w.heap.size, 0, none⟩) zs.length zs.length) (rows.set i ((.int .i64 x) : V1)) := by rw [hw3]; exact ho
      have hB3 : Below w.heap.size w w3 := by
        rw [hw3]
        exact bSet (hB2) (Nat.le_refl _) _
      have hrd3 : ∀ j y, j < i + 1 → zs[j]? = some y → ∃ r, (rows.set i ((.int .i64 x) : V1))[j]? = some r ∧ rdInt (w.heap.size + 1) w3.heap.size w3 (fV1 r) y := by
        intro j y hj hy
        by_cases hji : j = i
        · subst hji
          rw [hx?] at hy
          injection hy with hy
          subst hy
          refine ⟨((.int .i64 x) : V1), by rw [List.getElem?_set_self (by omega)], ?_⟩
          exact rdInt_good _ _ _ _ w2 w3 _ _ hr2 (by omega) (by omega) fun b hb1 _ => hsame b (by omega)
        · obtain ⟨r', hr', hp⟩ := HD.out j y (by omega) hy
          refine ⟨r', by rw [List.getElem?_set_ne (by omega)]; exact hr', ?_⟩
          exact rdInt_good _ _ _ _ wr w3 _ _ hp (Nat.le_refl _) (by omega) fun b hb1 hb2' => (hsame b hb1).trans (hb2.block b hb2')
      have R := Lib.hid (And.intro ho3 (And.intro hB3 (And.intro hrd3 hw3)))
      have hset : (rows.set i ((.int .i64 x) : V1)).length = zs.length := by rw [List.length_set]; exact hrl
      have HSET := Lib.hid hset
      clear hs0 hown3 ho hsame hsz ho3 hB3 hrd3 hB2 hown2 hsh hcc hset hr2 hrow HR
      subst hw2
      go_wp2
      go_roundw
      case rel =>
        have hw := R.out.2.2.2
        refine ⟨i + 1, _, by omega, by go_num, HSET.out, ?_, ?_, ?_⟩
        · first | exact hw ▸ R.out.1 | (have h := R.out.1; rw [hw] at h; exact h)
        · have h := R.out.2.2.1; rw [hw] at h; exact h
        · have h := R.out.2.1; rw [hw] at h; exact h
      case measure => simp [intOf]; omega
    · obtain rfl : i = zs.length := by omega
      have hwz := hb.size
      clear hown hrd hb
      go_wp2
      go_ret
      refine ⟨_, rfl, ⟨_, _, rfl, by unfold maxLen; omega, fun j hj => ?_⟩, HB.out⟩
      obtain ⟨A2, c2, hv, hsh⟩ := OwnsR.shape fV1_len HO.out
      obtain ⟨g, hg, hcc⟩ := hsh j (by omega)
      rw [hrl] at hv
      injection hv with hv1 hv2 hv3
      subst hv1
      injection hg with hg
      injection hg with hg
      subst hg
      obtain ⟨r, hr, hp⟩ := HD.out j zs[j] hj (List.getElem?_eq_getElem hj)
      have hr' : rows[j]'(by omega) = r := by rw [List.getElem?_eq_getElem (by omega)] at hr; injection hr
      rw [hr'] at hcc
      have hlt0 : w.heap.size < wr.heap.size := World.block_lt_of_cell? _ _ (hcc 0 _ rfl).1
      refine ⟨w.heap.size, 0, rfl, Nat.le_refl _, hlt0, fV1 r, fV1_len r, fun t u hu => ?_, rdInt_good.wider hp (by omega) (Nat.le_refl _)⟩
      rw [Nat.zero_add]
      exact hcc t u hu

theorem toIntS_any (zs : List Int) (a : Option Addr) (len cap : Nat) {B T : Nat} (w : World) (h : rdIntS B T w [.slice a len cap] zs) (hT : T ≤ w.heap.size) (hs : smIntS zs) :
    Calls Try.prog 42 #[.slice a len cap] w fun e w' => ∃ v, e = .returned v ∧ rdIntS w.heap.size w'.heap.size w' [v] zs ∧ Below w.heap.size w w' :=
  (toIntS_w zs a len cap w h hT hs).mono fun _ _ ⟨v, he, hr, hb⟩ => ⟨v, he, le_IntS _ _ _ _ _ hr, hb⟩
end Go.Proofs.Ytiejilmgchmppaa
/- DtSeq: The type Seq as the exact laws' helpers see it. -/
namespace Go.Proofs.Ytiejilmgchmppaa
open Go.RowKit
set_option linter.unusedVariables false
set_option linter.unusedSimpArgs false

abbrev rwSeq : Rd DSeq := rd3 rdInt rdInt rwIntS
theorem goodw_Seq : Rd.Good rwSeq := rd3_good rdInt_good rdInt_good goodw_IntS
theorem le_Seq : Rd.Le rwSeq rdSeq := rd3_le (Rd.Le.refl rdInt) (Rd.Le.refl rdInt) le_IntS
abbrev rwSeqS : Rd (List DSeq) := rwS 3 rwSeq
theorem goodw_SeqS : Rd.Good rwSeqS := rwS_good 3 goodw_Seq
theorem le_SeqS : Rd.Le rwSeqS rdSeqS := rwS_le 3 le_Seq

def smSeq (x : DSeq) : Prop := smIntS (x.2.2)
def smSeqS (L : List DSeq) : Prop := L.length ≤ 1048576 ∧ ∀ x ∈ L, smSeq x

set_option maxHeartbeats 3200000 in
theorem toSeq_w (x : DSeq) (us : List Value) {B T : Nat} (w : World) (h : rdSeq B T w us x) (hT : T ≤ w.heap.size) (hs : smSeq x) :
    Calls Try.prog 61 #[.agg us.toArray] w fun e w' => ∃ us', e = .returned (.agg us'.toArray) ∧ rwSeq w.heap.size w'.heap.size w' us' x ∧ Below w.heap.size w w' := by
  unfold smSeq at hs
  obtain ⟨u0, u1, u2, rfl, uh0, uh1, uh2⟩ := h
  obtain ⟨ue0, uf0⟩ := uh0
  injection ue0 with ue0
  subst ue0
  obtain ⟨ue1, uf1⟩ := uh1
  injection ue1 with ue1
  subst ue1
  have uq2 := uh2
  obtain ⟨u2A, u2c, ue2, -⟩ := uq2
  injection ue2 with ue2
  subst ue2
  have U2 := Lib.hid uh2
  clear uh2
  go_enter Try.func61, Try.ntmps61
  go_wp2_with fail
  refine (toIntS_w (x.2.2) u2A (x.2.2).length u2c _ (good_IntS.below U2.out hT (by (repeat' (first | assumption | exact Below.refl _ _ | refine bDrewN ?_ _ | refine Below.drew ?_ | refine bAlloc ?_ (Nat.le_refl _) _ | refine bSet ?_ (by first | exact Nat.le_refl _ | omega | (simp <;> omega)) _)))) (Nat.le_trans hT (by simp <;> omega)) hs).mono ?_
  rintro e w1 ⟨v2, rfl, hr2, hb⟩
  have g := box3 hb
  have HP : w1.heap[w.heap.size]? = some (.cells #[.int .i64 x.1, .int .i64 x.2.1, .slice u2A (x.2.2).length u2c] 87 (0, 0)) := g.1
  have HR : w1.heap[w.heap.size + 1]? = some (.cells #[.int .i64 0, .int .i64 0, .slice none 0 0] 56 (0, 0)) := g.2.1
  have HL : w1.heap[w.heap.size + 1 + 1]? = some (.cells #[.int .i64 x.1, .int .i64 x.2.1, .slice none 0 0] 56 (0, 0)) := g.2.2.1
  have hW : Below w.heap.size w w1 := g.2.2.2
  replace hr2 := goodw_IntS.wider (B' := w.heap.size + 1 + 1 + 1) hr2 (by simp) (Nat.le_refl _)
  have hlt : w.heap.size + 1 + 1 < w1.heap.size := (Array.getElem?_eq_some_iff.1 HL).1
  clear hb g
  have vq2 := hr2
  obtain ⟨v2A, v2c, ve2, -⟩ := vq2
  injection ve2 with ve2
  subst ve2
  replace hr2 := Lib.hid hr2
  have uc0 : w1.cell? ⟨w.heap.size, 0, none⟩ = some (.int .i64 x.1) := box_cell HP 0 _ rfl
  have lc0 : w1.cell? ⟨w.heap.size + 1 + 1, 0, none⟩ = some (.int .i64 x.1) := box_cell HL 0 _ rfl
  have lf0 : w1.frozen? ⟨w.heap.size + 1 + 1, 0, none⟩ = false := frozen_of_row _ _ 0 _ _ HL
  have rc0 : w1.cell? ⟨w.heap.size + 1, 0, none⟩ = some (.int .i64 0) := box_cell HR 0 _ rfl
  have rf0 : w1.frozen? ⟨w.heap.size + 1, 0, none⟩ = false := frozen_of_row _ _ 0 _ _ HR
  have uc1 : w1.cell? ⟨w.heap.size, 1, none⟩ = some (.int .i64 x.2.1) := box_cell HP 1 _ rfl
  have lc1 : w1.cell? ⟨w.heap.size + 1 + 1, 1, none⟩ = some (.int .i64 x.2.1) := box_cell HL 1 _ rfl
  have lf1 : w1.frozen? ⟨w.heap.size + 1 + 1, 1, none⟩ = false := frozen_of_row _ _ 1 _ _ HL
  have rc1 : w1.cell? ⟨w.heap.size + 1, 1, none⟩ = some (.int .i64 0) := box_cell HR 1 _ rfl
  have rf1 : w1.frozen? ⟨w.heap.size + 1, 1, none⟩ = false := frozen_of_row _ _ 1 _ _ HR
  have uc2 : w1.cell? ⟨w.heap.size, 2, none⟩ = some (.slice u2A (x.2.2).length u2c) := box_cell HP 2 _ rfl
  have lc2 : w1.cell? ⟨w.heap.size + 1 + 1, 2, none⟩ = some (.slice none 0 0) := box_cell HL 2 _ rfl
  have lf2 : w1.frozen? ⟨w.heap.size + 1 + 1, 2, none⟩ = false := frozen_of_row _ _ 2 _ _ HL
  have rc2 : w1.cell? ⟨w.heap.size + 1, 2, none⟩ = some (.slice none 0 0) := box_cell HR 2 _ rfl
  have rf2 : w1.frozen? ⟨w.heap.size + 1, 2, none⟩ = false := frozen_of_row _ _ 2 _ _ HR
  have hW' := Lib.hid hW
  clear HP HR HL hW
  go_wp2
  ((try simp only [Exit.inBlock, Exit.then]); refine bodyPost_ret (v := (.agg #[.int .i64 x.1, .int .i64 x.2.1, .slice v2A (x.2.2).length v2c])) (by rw [results_cell1 rfl]; go_simp) rfl ?_)
  have hB := hW'.out
  exact ⟨[.int .i64 x.1, .int .i64 x.2.1, .slice v2A (x.2.2).length v2c], rfl, ⟨_, _, _, rfl, ⟨rfl, uf0⟩, ⟨rfl, uf1⟩, goodw_IntS _ _ _ _ w1 _ _ _ hr2.out (by omega) (by simp) (fun b hb1 _ => by (repeat (rw [Below.heap_setCell _ _ _ b (by simp; omega)])))⟩, by (repeat' (first | assumption | exact Below.refl _ _ | refine bDrewN ?_ _ | refine Below.drew ?_ | refine bAlloc ?_ (Nat.le_refl _) _ | refine bSet ?_ (by first | exact Nat.le_refl _ | omega | (simp <;> omega)) _))⟩

theorem toSeq_any (x : DSeq) (us : List Value) {B T : Nat} (w : World) (h : rdSeq B T w us x) (hT : T ≤ w.heap.size) (hs : smSeq x) :
    Calls Try.prog 61 #[.agg us.toArray] w fun e w' => ∃ us', e = .returned (.agg us'.toArray) ∧ rdSeq w.heap.size w'.heap.size w' us' x ∧ Below w.heap.size w w' :=
  (toSeq_w x us w h hT hs).mono fun _ _ ⟨v, he, hr, hb⟩ => ⟨v, he, le_Seq _ _ _ _ _ hr, hb⟩

theorem info_Seq : (Try.prog.info? 56).map (fun i => (i.zero, i.size, i.bytes)) = some (some (.agg #[.int .i64 0, .int .i64 0, .slice none 0 0]), 3, 40) := by kernel_rfl
set_option maxHeartbeats 3200000 in
theorem toSeqS_w (zs : List DSeq) (a : Option Addr) (len cap : Nat) {B T : Nat} (w : World) (h : rdSeqS B T w [.slice a len cap] zs) (hT : T ≤ w.heap.size) (hs : smSeqS zs) :
    Calls Try.prog 40 #[.slice a len cap] w fun e w' => ∃ v, e = .returned v ∧ rwSeqS w.heap.size w'.heap.size w' [v] zs ∧ Below w.heap.size w w' := by
  obtain ⟨i0, hi, hz0, hz1, hz2⟩ := info_parts info_Seq
  obtain ⟨A, c, ea, hm, hA⟩ := h
  injection ea with ea _
  injection ea with e1 e2 e3
  subst e1 e2 e3
  have hl : zs.length ≤ 1048576 := hs.1
  unfold maxLen at hm
  have HA := Lib.hid hA
  have HSM := Lib.hid hs
  clear hA hs
  go_enter Try.func40, Try.ntmps40
  go_wp2_with (at_make; refine wpList_make_full _ rfl _ _ 24 rfl w.heap.size 56 i0 (.agg #[.int .i64 0, .int .i64 0, .slice none 0 0]) 3 Try.underlying24 hi hz0 hz1 .i64 .i64 (zs.length : Int) (zs.length : Int) zs.length rfl rfl rfl rfl (by rw [hz2]; omega) (by unfold maxLen; omega) (Nat.le_refl _) ?_; intro w1 hown1 hgrow1)
  have hown : OwnsR fV3 3 56 w1 w.heap.size (.slice (some ⟨w.heap.size, 0, none⟩) zs.length zs.length) (List.replicate zs.length (((.int .i64 0 : Value), (.int .i64 0 : Value), (.slice none 0 0 : Value)) : V3)) := by
    unfold OwnsR
    rw [List.length_replicate, ← made_rows fV3 3 fV3_len (((.int .i64 0 : Value), (.int .i64 0 : Value), (.slice none 0 0 : Value)) : V3) (.agg #[.int .i64 0, .int .i64 0, .slice none 0 0] : Value).cells rfl (by omega)]; exact hown1
  have hB1 : Below w.heap.size w w1 := (Below.refl _ _).grown hgrow1 (Nat.le_refl _) (by intro g hg; cases hg)
  have HO := Lib.hid hown
  have HB := Lib.hid hB1
  clear hown1 hgrow1 hown hB1
  go_loopw [4] (fun v wr => ∃ (i : Nat) (rows : List V3), i ≤ zs.length ∧ v = .int .i64 i ∧ rows.length = zs.length ∧ OwnsR fV3 3 56 wr w.heap.size (.slice (some ⟨w.heap.size, 0, none⟩) zs.length zs.length) rows ∧
      (∀ j x, j < i → zs[j]? = some x → ∃ r, rows[j]? = some r ∧ rwSeq (w.heap.size + 1) wr.heap.size wr (fV3 r) x) ∧ Below w.heap.size w wr) (fun v _ => zs.length - (intOf v).toNat)
  case atStart => exact ⟨0, _, Nat.zero_le _, rfl, List.length_replicate, HO.out, fun j x hj => absurd hj (by omega), HB.out⟩
  case round =>
    obtain ⟨i, rows, hi', rfl, hrl, hown, hrd, hb⟩ := hrel
    clear HO HB
    have HO := Lib.hid hown
    have HB := Lib.hid hb
    have HD := Lib.hid hrd
    by_cases hlt : i < zs.length
    · obtain ⟨b, o, rfl, _, hbT, us, hul, hc, hr⟩ := HA.out i hlt
      obtain ⟨x, hx⟩ : ∃ x, zs[i] = x := ⟨_, rfl⟩
      have hxm : x ∈ zs := by rw [← hx]; exact List.getElem_mem hlt
      have hx? : zs[i]? = some x := by rw [List.getElem?_eq_getElem hlt, hx]
      rw [hx] at hr
      have hr0 := hr
      obtain ⟨u0, u1, u2, rfl, _⟩ := hr0
      have c0 : wr.cell? ⟨b, o + i * 3, none⟩ = some u0 := keep hb (hc 0 _ rfl)
      have c1 : wr.cell? ⟨b, o + i * 3 + 1, none⟩ = some u1 := keep hb (hc 1 _ rfl)
      have c2 : wr.cell? ⟨b, o + i * 3 + 2, none⟩ = some u2 := keep hb (hc 2 _ rfl)
      have hrs := good_Seq.below hr hT hb
      have HR := Lib.hid hrs
      obtain ⟨A2, c2, hv, hsh⟩ := OwnsR.shape fV3_len hown
      obtain ⟨g, hg, _⟩ := hsh i (by omega)
      rw [hrl] at hv
      injection hv with hv1 hv2 hv3
      subst hv1 hv3
      injection hg with hg
      injection hg with hg
      subst hg
      have hgw : w.heap.size + 1 ≤ wr.heap.size := by
        obtain ⟨g, hg, hcc⟩ := hsh i (by omega)
        injection hg with hg
        injection hg with hg
        subst hg
        exact World.block_lt_of_cell? _ _ (hcc 0 _ rfl).1
      clear hr hown hb hrd hc hsh hbT hrs
      go_wp2_with fail
      refine (toSeq_w x [u0, u1, u2] _ HR.out (Nat.le_trans hT HB.out.size) (HSM.out.2 x hxm)).mono ?_
      rintro e w2 ⟨us', rfl, hr2, hb2⟩
      have hr3 := hr2
      obtain ⟨v0, v1, v2, rfl, vh0, vh1, vh2⟩ := hr3
      obtain ⟨ve0, vf0⟩ := vh0
      injection ve0 with ve0
      subst ve0
      obtain ⟨ve1, vf1⟩ := vh1
      injection ve1 with ve1
      subst ve1
      obtain ⟨v2A, v2c, ve2, -⟩ := vh2
      injection ve2 with ve2
      subst ve2
      have hown2 := HO.out.below hb2
      have hB2 := bThen HB.out hb2
      have hw2s := hb2.size
      obtain ⟨A3, c3, hv, hsh⟩ := OwnsR.shape fV3_len hown2
      obtain ⟨g, hg, hcc⟩ := hsh i (by omega)
      rw [hrl] at hv
      injection hv with hv1 hv2 hv3
      subst hv1 hv3
      injection hg with hg
      injection hg with hg
      subst hg
      obtain ⟨r, hrow⟩ : ∃ r, rows[i]'(by omega) = r := ⟨_, rfl⟩
      rw [hrow] at hcc
      have y0 : w2.cell? ⟨w.heap.size, i * 3, none⟩ = some r.1 := (hcc 0 _ rfl).1
      have z0 : w2.frozen? ⟨w.heap.size, i * 3, none⟩ = false := (hcc 0 _ rfl).2
      have y1 : w2.cell? ⟨w.heap.size, i * 3 + 1, none⟩ = some r.2.1 := (hcc 1 _ rfl).1
      have z1 : w2.frozen? ⟨w.heap.size, i * 3 + 1, none⟩ = false := (hcc 1 _ rfl).2
      have y2 : w2.cell? ⟨w.heap.size, i * 3 + 2, none⟩ = some r.2.2 := (hcc 2 _ rfl).1
      have z2 : w2.frozen? ⟨w.heap.size, i * 3 + 2, none⟩ = false := (hcc 2 _ rfl).2
      have hown3 : OwnsR fV3 3 56 w2 w.heap.size (.slice (some ⟨w.heap.size, 0, none⟩) rows.length zs.length) rows := by rw [hrl]; exact hown2
      have hs0 := OwnsR.stored fV3_len (j := i) (i := 0) (u := (.int .i64 x.1 : Value)) (y := (((.int .i64 x.1 : Value), r.2.1, r.2.2) : V3)) hown3 (by first | omega | (simp only [List.length_set]; omega)) (by omega) (by rw [hrow]; rfl)
      have hown4 := hs0.1
      rw [← (List.length_set : (rows.set i (((.int .i64 x.1 : Value), r.2.1, r.2.2) : V3)).length = rows.length)] at hown4
      have hs1 := OwnsR.stored fV3_len (j := i) (i := 1) (u := (.int .i64 x.2.1 : Value)) (y := (((.int .i64 x.1 : Value), (.int .i64 x.2.1 : Value), r.2.2) : V3)) hown4 (by first | omega | (simp only [List.length_set]; omega)) (by omega) (by rw [List.getElem_set_self]; rfl)
      have hown5 := hs1.1
      rw [← (List.length_set : ((rows.set i (((.int .i64 x.1 : Value), r.2.1, r.2.2) : V3)).set i (((.int .i64 x.1 : Value), (.int .i64 x.2.1 : Value), r.2.2) : V3)).length = (rows.set i (((.int .i64 x.1 : Value), r.2.1, r.2.2) : V3)).length)] at hown5
      have hs2 := OwnsR.stored fV3_len (j := i) (i := 2) (u := (.slice v2A (x.2.2).length v2c : Value)) (y := (((.int .i64 x.1 : Value), (.int .i64 x.2.1 : Value), (.slice v2A (x.2.2).length v2c : Value)) : V3)) hown5 (by first | omega | (simp only [List.length_set]; omega)) (by omega) (by rw [List.getElem_set_self]; rfl)
      have ho := hs2.1
      (try simp only [List.set_set, List.length_set] at ho)
      rw [hrl] at ho
      obtain ⟨w3, hw3⟩ : ∃ w3, w3 = (((w2.setCell ⟨w.heap.size, i * 3 + 0, none⟩ (.int .i64 x.1 : Value)).setCell ⟨w.heap.size, i * 3 + 1, none⟩ (.int .i64 x.2.1 : Value)).setCell ⟨w.heap.size, i * 3 + 2, none⟩ (.slice v2A (x.2.2).length v2c : Value)) := ⟨_, rfl⟩
      have hsame : ∀ b, w.heap.size + 1 ≤ b → w3.heap[b]? = w2.heap[b]? := fun b hb => by
        rw [hw3]
        rw [Below.heap_setCell _ _ _ b (by simp; omega)]; rw [Below.heap_setCell _ _ _ b (by simp; omega)]; rw [Below.heap_setCell _ _ _ b (by simp; omega)]
      have hsz : w3.heap.size = w2.heap.size := by rw [hw3]; simp
      have ho3 : OwnsR fV3 3 56 w3 w.heap.size (.slice (some ⟨w.heap.size, 0, none⟩) zs.length zs.length) (rows.set i (((.int .i64 x.1 : Value), (.int .i64 x.2.1 : Value), (.slice v2A (x.2.2).length v2c : Value)) : V3)) := by rw [hw3]; exact ho
      have hB3 : Below w.heap.size w w3 := by
        rw [hw3]
        exact bSet (bSet (bSet (hB2) (Nat.le_refl _) _) (Nat.le_refl _) _) (Nat.le_refl _) _
      have hrd3 : ∀ j y, j < i + 1 → zs[j]? = some y → ∃ r, (rows.set i (((.int .i64 x.1 : Value), (.int .i64 x.2.1 : Value), (.slice v2A (x.2.2).length v2c : Value)) : V3))[j]? = some r ∧ rwSeq (w.heap.size + 1) w3.heap.size w3 (fV3 r) y := by
        intro j y hj hy
        by_cases hji : j = i
        · subst hji
          rw [hx?] at hy
          injection hy with hy
          subst hy
          refine ⟨(((.int .i64 x.1 : Value), (.int .i64 x.2.1 : Value), (.slice v2A (x.2.2).length v2c : Value)) : V3), by rw [List.getElem?_set_self (by omega)], ?_⟩
          exact goodw_Seq _ _ _ _ w2 w3 _ _ hr2 (by omega) (by omega) fun b hb1 _ => hsame b (by omega)
        · obtain ⟨r', hr', hp⟩ := HD.out j y (by omega) hy
          refine ⟨r', by rw [List.getElem?_set_ne (by omega)]; exact hr', ?_⟩
          exact goodw_Seq _ _ _ _ wr w3 _ _ hp (Nat.le_refl _) (by omega) fun b hb1 hb2' => (hsame b hb1).trans (hb2.block b hb2')
      have R := Lib.hid (And.intro ho3 (And.intro hB3 (And.intro hrd3 hw3)))
      have hset : (rows.set i (((.int .i64 x.1 : Value), (.int .i64 x.2.1 : Value), (.slice v2A (x.2.2).length v2c : Value)) : V3)).length = zs.length := by rw [List.length_set]; exact hrl
      have HSET := Lib.hid hset
      clear hs0 hs1 hs2 hown3 hown4 hown5 ho hsame hsz ho3 hB3 hrd3 hB2 hown2 hsh hcc hset hr2 hrow HR
      skip
      go_wp2
      go_roundw
      case rel =>
        have hw := R.out.2.2.2
        refine ⟨i + 1, _, by omega, by go_num, HSET.out, ?_, ?_, ?_⟩
        · first | exact hw ▸ R.out.1 | (have h := R.out.1; rw [hw] at h; exact h)
        · have h := R.out.2.2.1; rw [hw] at h; exact h
        · have h := R.out.2.1; rw [hw] at h; exact h
      case measure => simp [intOf]; omega
    · obtain rfl : i = zs.length := by omega
      have hwz := hb.size
      clear hown hrd hb
      go_wp2
      go_ret
      refine ⟨_, rfl, ⟨_, _, rfl, by unfold maxLen; omega, fun j hj => ?_⟩, HB.out⟩
      obtain ⟨A2, c2, hv, hsh⟩ := OwnsR.shape fV3_len HO.out
      obtain ⟨g, hg, hcc⟩ := hsh j (by omega)
      rw [hrl] at hv
      injection hv with hv1 hv2 hv3
      subst hv1
      injection hg with hg
      injection hg with hg
      subst hg
      obtain ⟨r, hr, hp⟩ := HD.out j zs[j] hj (List.getElem?_eq_getElem hj)
      have hr' : rows[j]'(by omega) = r := by rw [List.getElem?_eq_getElem (by omega)] at hr; injection hr
      rw [hr'] at hcc
      have hlt0 : w.heap.size < wr.heap.size := World.block_lt_of_cell? _ _ (hcc 0 _ rfl).1
      refine ⟨w.heap.size, 0, rfl, Nat.le_refl _, hlt0, fV3 r, fV3_len r, fun t u hu => ?_, goodw_Seq.wider hp (by omega) (Nat.le_refl _)⟩
      rw [Nat.zero_add]
      exact hcc t u hu

theorem toSeqS_any (zs : List DSeq) (a : Option Addr) (len cap : Nat) {B T : Nat} (w : World) (h : rdSeqS B T w [.slice a len cap] zs) (hT : T ≤ w.heap.size) (hs : smSeqS zs) :
    Calls Try.prog 40 #[.slice a len cap] w fun e w' => ∃ v, e = .returned v ∧ rdSeqS w.heap.size w'.heap.size w' [v] zs ∧ Below w.heap.size w w' :=
  (toSeqS_w zs a len cap w h hT hs).mono fun _ _ ⟨v, he, hr, hb⟩ => ⟨v, he, le_SeqS _ _ _ _ _ hr, hb⟩
end Go.Proofs.Ytiejilmgchmppaa
/- DtAnd: The type And as the exact laws' helpers see it. -/
namespace Go.Proofs.Ytiejilmgchmppaa
open Go.RowKit
set_option linter.unusedVariables false
set_option linter.unusedSimpArgs false

abbrev rwAnd : Rd DAnd := rd2 rdInt rdInt
theorem goodw_And : Rd.Good rwAnd := rd2_good rdInt_good rdInt_good
theorem le_And : Rd.Le rwAnd rdAnd := rd2_le (Rd.Le.refl rdInt) (Rd.Le.refl rdInt)
abbrev rwAndS : Rd (List DAnd) := rwS 2 rwAnd
theorem goodw_AndS : Rd.Good rwAndS := rwS_good 2 goodw_And
theorem le_AndS : Rd.Le rwAndS rdAndS := rwS_le 2 le_And

def smAnd (x : DAnd) : Prop := True
def smAndS (L : List DAnd) : Prop := L.length ≤ 1048576 ∧ ∀ x ∈ L, smAnd x

theorem toAnd_w (x : DAnd) (us : List Value) {B T : Nat} (w : World) (h : rdAnd B T w us x) (hT : T ≤ w.heap.size) (hs : smAnd x) :
    Calls Try.prog 62 #[.agg us.toArray] w fun e w' => ∃ us', e = .returned (.agg us'.toArray) ∧ rwAnd w.heap.size w'.heap.size w' us' x ∧ Below w.heap.size w w' := by
  obtain ⟨u0, u1, rfl, uh0, uh1⟩ := h
  obtain ⟨ue0, uf0⟩ := uh0
  injection ue0 with ue0
  subst ue0
  obtain ⟨ue1, uf1⟩ := uh1
  injection ue1 with ue1
  subst ue1
  go_enter Try.func62, Try.ntmps62
  go_wp2
  ((try simp only [Exit.inBlock, Exit.then]); refine bodyPost_ret (v := (.agg #[.int .i64 x.1, .int .i64 x.2])) (by rw [results_cell1 rfl]; go_simp) rfl ?_)
  exact ⟨[.int .i64 x.1, .int .i64 x.2], rfl, ⟨_, _, rfl, ⟨rfl, uf0⟩, ⟨rfl, uf1⟩⟩, by (repeat' (first | assumption | exact Below.refl _ _ | refine bDrewN ?_ _ | refine Below.drew ?_ | refine bAlloc ?_ (Nat.le_refl _) _ | refine bSet ?_ (by first | exact Nat.le_refl _ | omega | (simp <;> omega)) _))⟩

theorem toAnd_any (x : DAnd) (us : List Value) {B T : Nat} (w : World) (h : rdAnd B T w us x) (hT : T ≤ w.heap.size) (hs : smAnd x) :
    Calls Try.prog 62 #[.agg us.toArray] w fun e w' => ∃ us', e = .returned (.agg us'.toArray) ∧ rdAnd w.heap.size w'.heap.size w' us' x ∧ Below w.heap.size w w' :=
  (toAnd_w x us w h hT hs).mono fun _ _ ⟨v, he, hr, hb⟩ => ⟨v, he, le_And _ _ _ _ _ hr, hb⟩

theorem info_And : (Try.prog.info? 53).map (fun i => (i.zero, i.size, i.bytes)) = some (some (.agg #[.int .i64 0, .int .i64 0]), 2, 16) := by kernel_rfl
set_option maxHeartbeats 3200000 in
theorem toAndS_w (zs : List DAnd) (a : Option Addr) (len cap : Nat) {B T : Nat} (w : World) (h : rdAndS B T w [.slice a len cap] zs) (hT : T ≤ w.heap.size) (hs : smAndS zs) :
    Calls Try.prog 41 #[.slice a len cap] w fun e w' => ∃ v, e = .returned v ∧ rwAndS w.heap.size w'.heap.size w' [v] zs ∧ Below w.heap.size w w' := by
  obtain ⟨i0, hi, hz0, hz1, hz2⟩ := info_parts info_And
  obtain ⟨A, c, ea, hm, hA⟩ := h
  injection ea with ea _
  injection ea with e1 e2 e3
  subst e1 e2 e3
  have hl : zs.length ≤ 1048576 := hs.1
  unfold maxLen at hm
  have HA := Lib.hid hA
  have HSM := Lib.hid hs
  clear hA hs
  go_enter Try.func41, Try.ntmps41
  go_wp2_with (at_make; refine wpList_make_full _ rfl _ _ 25 rfl w.heap.size 53 i0 (.agg #[.int .i64 0, .int .i64 0]) 2 Try.underlying25 hi hz0 hz1 .i64 .i64 (zs.length : Int) (zs.length : Int) zs.length rfl rfl rfl rfl (by rw [hz2]; omega) (by unfold maxLen; omega) (Nat.le_refl _) ?_; intro w1 hown1 hgrow1)
  have hown : OwnsR fV2 2 53 w1 w.heap.size (.slice (some ⟨w.heap.size, 0, none⟩) zs.length zs.length) (List.replicate zs.length (((.int .i64 0 : Value), (.int .i64 0 : Value)) : V2)) := by
    unfold OwnsR
    rw [List.length_replicate, ← made_rows fV2 2 fV2_len (((.int .i64 0 : Value), (.int .i64 0 : Value)) : V2) (.agg #[.int .i64 0, .int .i64 0] : Value).cells rfl (by omega)]; exact hown1
  have hB1 : Below w.heap.size w w1 := (Below.refl _ _).grown hgrow1 (Nat.le_refl _) (by intro g hg; cases hg)
  have HO := Lib.hid hown
  have HB := Lib.hid hB1
  clear hown1 hgrow1 hown hB1
  go_loopw [4] (fun v wr => ∃ (i : Nat) (rows : List V2), i ≤ zs.length ∧ v = .int .i64 i ∧ rows.length = zs.length ∧ OwnsR fV2 2 53 wr w.heap.size (.slice (some ⟨w.heap.size, 0, none⟩) zs.length zs.length) rows ∧
      (∀ j x, j < i → zs[j]? = some x → ∃ r, rows[j]? = some r ∧ rwAnd (w.heap.size + 1) wr.heap.size wr (fV2 r) x) ∧ Below w.heap.size w wr) (fun v _ => zs.length - (intOf v).toNat)
  case atStart => exact ⟨0, _, Nat.zero_le _, rfl, List.length_replicate, HO.out, fun j x hj => absurd hj (by omega), HB.out⟩
  case round =>
    obtain ⟨i, rows, hi', rfl, hrl, hown, hrd, hb⟩ := hrel
    clear HO HB
    have HO := Lib.hid hown
    have HB := Lib.hid hb
    have HD := Lib.hid hrd
    by_cases hlt : i < zs.length
    · obtain ⟨b, o, rfl, _, hbT, us, hul, hc, hr⟩ := HA.out i hlt
      obtain ⟨x, hx⟩ : ∃ x, zs[i] = x := ⟨_, rfl⟩
      have hxm : x ∈ zs := by rw [← hx]; exact List.getElem_mem hlt
      have hx? : zs[i]? = some x := by rw [List.getElem?_eq_getElem hlt, hx]
      rw [hx] at hr
      have hr0 := hr
      obtain ⟨u0, u1, rfl, _⟩ := hr0
      have c0 : wr.cell? ⟨b, o + i * 2, none⟩ = some u0 := keep hb (hc 0 _ rfl)
      have c1 : wr.cell? ⟨b, o + i * 2 + 1, none⟩ = some u1 := keep hb (hc 1 _ rfl)
      have hrs := good_And.below hr hT hb
      have HR := Lib.hid hrs
      obtain ⟨A2, c2, hv, hsh⟩ := OwnsR.shape fV2_len hown
      obtain ⟨g, hg, _⟩ := hsh i (by omega)
      rw [hrl] at hv
      injection hv with hv1 hv2 hv3
      subst hv1 hv3
      injection hg with hg
      injection hg with hg
      subst hg
      have hgw : w.heap.size + 1 ≤ wr.heap.size := by
        obtain ⟨g, hg, hcc⟩ := hsh i (by omega)
        injection hg with hg
        injection hg with hg
        subst hg
        exact World.block_lt_of_cell? _ _ (hcc 0 _ rfl).1
      clear hr hown hb hrd hc hsh hbT hrs
      go_wp2_with fail
      refine (toAnd_w x [u0, u1] _ HR.out (Nat.le_trans hT HB.out.size) (HSM.out.2 x hxm)).mono ?_
      rintro e w2 ⟨us', rfl, hr2, hb2⟩
      have hr3 := hr2
      obtain ⟨v0, v1, rfl, vh0, vh1⟩ := hr3
      obtain ⟨ve0, vf0⟩ := vh0
      injection ve0 with ve0
      subst ve0
      obtain ⟨ve1, vf1⟩ := vh1
      injection ve1 with ve1
      subst ve1
      have hown2 := HO.out.below hb2
      have hB2 := bThen HB.out hb2
      have hw2s := hb2.size
      obtain ⟨A3, c3, hv, hsh⟩ := OwnsR.shape fV2_len hown2
      obtain ⟨g, hg, hcc⟩ := hsh i (by omega)
      rw [hrl] at hv
      injection hv with hv1 hv2 hv3
      subst hv1 hv3
      injection hg with hg
      injection hg with hg
      subst hg
      obtain ⟨r, hrow⟩ : ∃ r, rows[i]'(by omega) = r := ⟨_, rfl⟩
      rw [hrow] at hcc
      have y0 : w2.cell? ⟨w.heap.size, i * 2, none⟩ = some r.1 := (hcc 0 _ rfl).1
      have z0 : w2.frozen? ⟨w.heap.size, i * 2, none⟩ = false := (hcc 0 _ rfl).2
      have y1 : w2.cell? ⟨w.heap.size, i * 2 + 1, none⟩ = some r.2 := (hcc 1 _ rfl).1
      have z1 : w2.frozen? ⟨w.heap.size, i * 2 + 1, none⟩ = false := (hcc 1 _ rfl).2
      have hown3 : OwnsR fV2 2 53 w2 w.heap.size (.slice (some ⟨w.heap.size, 0, none⟩) rows.length zs.length) rows := by rw [hrl]; exact hown2
      have hs0 := OwnsR.stored fV2_len (j := i) (i := 0) (u := (.int .i64 x.1 : Value)) (y := (((.int .i64 x.1 : Value), r.2) : V2)) hown3 (by first | omega | (simp only [List.length_set]; omega)) (by omega) (by rw [hrow]; rfl)
      have hown4 := hs0.1
      rw [← (List.length_set : (rows.set i (((.int .i64 x.1 : Value), r.2) : V2)).length = rows.length)] at hown4
      have hs1 := OwnsR.stored fV2_len (j := i) (i := 1) (u := (.int .i64 x.2 : Value)) (y := (((.int .i64 x.1 : Value), (.int .i64 x.2 : Value)) : V2)) hown4 (by first | omega | (simp only [List.length_set]; omega)) (by omega) (by rw [List.getElem_set_self]; rfl)
      have ho := hs1.1
      (try simp only [List.set_set, List.length_set] at ho)
      rw [hrl] at ho
      obtain ⟨w3, hw3⟩ : ∃ w3, w3 = ((w2.setCell ⟨w.heap.size, i * 2 + 0, none⟩ (.int .i64 x.1 : Value)).setCell ⟨w.heap.size, i * 2 + 1, none⟩ (.int .i64 x.2 : Value)) := ⟨_, rfl⟩
      have hsame : ∀ b, w.heap.size + 1 ≤ b → w3.heap[b]? = w2.heap[b]? := fun b hb => by
        rw [hw3]
        rw [Below.heap_setCell _ _ _ b (by simp; omega)]; rw [Below.heap_setCell _ _ _ b (by simp; omega)]
      have hsz : w3.heap.size = w2.heap.size := by rw [hw3]; simp
      have ho3 : OwnsR fV2 2 53 w3 w.heap.size (.slice (some ⟨w.heap.size, 0, none⟩) zs.length zs.length) (rows.set i (((.int .i64 x.1 : Value), (.int .i64 x.2 : Value)) : V2)) := by rw [hw3]; exact ho
      have hB3 : Below w.heap.size w w3 := by
        rw [hw3]
        exact bSet (bSet (hB2) (Nat.le_refl _) _) (Nat.le_refl _) _
      have hrd3 : ∀ j y, j < i + 1 → zs[j]? = some y → ∃ r, (rows.set i (((.int .i64 x.1 : Value), (.int .i64 x.2 : Value)) : V2))[j]? = some r ∧ rwAnd (w.heap.size + 1) w3.heap.size w3 (fV2 r) y := by
        intro j y hj hy
        by_cases hji : j = i
        · subst hji
          rw [hx?] at hy
          injection hy with hy
          subst hy
          refine ⟨(((.int .i64 x.1 : Value), (.int .i64 x.2 : Value)) : V2), by rw [List.getElem?_set_self (by omega)], ?_⟩
          exact goodw_And _ _ _ _ w2 w3 _ _ hr2 (by omega) (by omega) fun b hb1 _ => hsame b (by omega)
        · obtain ⟨r', hr', hp⟩ := HD.out j y (by omega) hy
          refine ⟨r', by rw [List.getElem?_set_ne (by omega)]; exact hr', ?_⟩
          exact goodw_And _ _ _ _ wr w3 _ _ hp (Nat.le_refl _) (by omega) fun b hb1 hb2' => (hsame b hb1).trans (hb2.block b hb2')
      have R := Lib.hid (And.intro ho3 (And.intro hB3 (And.intro hrd3 hw3)))
      have hset : (rows.set i (((.int .i64 x.1 : Value), (.int .i64 x.2 : Value)) : V2)).length = zs.length := by rw [List.length_set]; exact hrl
      have HSET := Lib.hid hset
      clear hs0 hs1 hown3 hown4 ho hsame hsz ho3 hB3 hrd3 hB2 hown2 hsh hcc hset hr2 hrow HR
      skip
      go_wp2
      go_roundw
      case rel =>
        have hw := R.out.2.2.2
        refine ⟨i + 1, _, by omega, by go_num, HSET.out, ?_, ?_, ?_⟩
        · first | exact hw ▸ R.out.1 | (have h := R.out.1; rw [hw] at h; exact h)
        · have h := R.out.2.2.1; rw [hw] at h; exact h
        · have h := R.out.2.1; rw [hw] at h; exact h
      case measure => simp [intOf]; omega
    · obtain rfl : i = zs.length := by omega
      have hwz := hb.size
      clear hown hrd hb
      go_wp2
      go_ret
      refine ⟨_, rfl, ⟨_, _, rfl, by unfold maxLen; omega, fun j hj => ?_⟩, HB.out⟩
      obtain ⟨A2, c2, hv, hsh⟩ := OwnsR.shape fV2_len HO.out
      obtain ⟨g, hg, hcc⟩ := hsh j (by omega)
      rw [hrl] at hv
      injection hv with hv1 hv2 hv3
      subst hv1
      injection hg with hg
      injection hg with hg
      subst hg
      obtain ⟨r, hr, hp⟩ := HD.out j zs[j] hj (List.getElem?_eq_getElem hj)
      have hr' : rows[j]'(by omega) = r := by rw [List.getElem?_eq_getElem (by omega)] at hr; injection hr
      rw [hr'] at hcc
      have hlt0 : w.heap.size < wr.heap.size := World.block_lt_of_cell? _ _ (hcc 0 _ rfl).1
      refine ⟨w.heap.size, 0, rfl, Nat.le_refl _, hlt0, fV2 r, fV2_len r, fun t u hu => ?_, goodw_And.wider hp (by omega) (Nat.le_refl _)⟩
      rw [Nat.zero_add]
      exact hcc t u hu

theorem toAndS_any (zs : List DAnd) (a : Option Addr) (len cap : Nat) {B T : Nat} (w : World) (h : rdAndS B T w [.slice a len cap] zs) (hT : T ≤ w.heap.size) (hs : smAndS zs) :
    Calls Try.prog 41 #[.slice a len cap] w fun e w' => ∃ v, e = .returned v ∧ rdAndS w.heap.size w'.heap.size w' [v] zs ∧ Below w.heap.size w w' :=
  (toAndS_w zs a len cap w h hT hs).mono fun _ _ ⟨v, he, hr, hb⟩ => ⟨v, he, le_AndS _ _ _ _ _ hr, hb⟩
end Go.Proofs.Ytiejilmgchmppaa
/- DtNet: The type Net as the exact laws' helpers see it. -/
namespace Go.Proofs.Ytiejilmgchmppaa
open Go.RowKit
set_option linter.unusedVariables false
set_option linter.unusedSimpArgs false

abbrev rwNet : Rd DNet := rd4 rdInt rwSeqS rwAndS rwIntS
theorem goodw_Net : Rd.Good rwNet := rd4_good rdInt_good goodw_SeqS goodw_AndS goodw_IntS
theorem le_Net : Rd.Le rwNet rdNet := rd4_le (Rd.Le.refl rdInt) le_SeqS le_AndS le_IntS
abbrev rwNetS : Rd (List DNet) := rwS 4 rwNet
theorem goodw_NetS : Rd.Good rwNetS := rwS_good 4 goodw_Net
theorem le_NetS : Rd.Le rwNetS rdNetS := rwS_le 4 le_Net

def smNet (x : DNet) : Prop := smSeqS (x.2.1) ∧ smAndS (x.2.2.1) ∧ smIntS (x.2.2.2)
def smNetS (L : List DNet) : Prop := L.length ≤ 1048576 ∧ ∀ x ∈ L, smNet x

set_option maxHeartbeats 3200000 in
theorem toNet_w (x : DNet) (us : List Value) {B T : Nat} (w : World) (h : rdNet B T w us x) (hT : T ≤ w.heap.size) (hs : smNet x) :
    Calls Try.prog 15 #[.agg us.toArray] w fun e w' => ∃ us', e = .returned (.agg us'.toArray) ∧ rwNet w.heap.size w'.heap.size w' us' x ∧ Below w.heap.size w w' := by
  unfold smNet at hs
  obtain ⟨u0, u1, u2, u3, rfl, uh0, uh1, uh2, uh3⟩ := h
  obtain ⟨ue0, uf0⟩ := uh0
  injection ue0 with ue0
  subst ue0
  have uq1 := uh1
  obtain ⟨u1A, u1c, ue1, -⟩ := uq1
  injection ue1 with ue1
  subst ue1
  have U1 := Lib.hid uh1
  clear uh1
  have uq2 := uh2
  obtain ⟨u2A, u2c, ue2, -⟩ := uq2
  injection ue2 with ue2
  subst ue2
  have U2 := Lib.hid uh2
  clear uh2
  have uq3 := uh3
  obtain ⟨u3A, u3c, ue3, -⟩ := uq3
  injection ue3 with ue3
  subst ue3
  have U3 := Lib.hid uh3
  clear uh3
  go_enter Try.func15, Try.ntmps15
  go_wp2_with fail
  refine (toSeqS_w (x.2.1) u1A (x.2.1).length u1c _ (good_SeqS.below U1.out hT (by (repeat' (first | assumption | exact Below.refl _ _ | refine bDrewN ?_ _ | refine Below.drew ?_ | refine bAlloc ?_ (Nat.le_refl _) _ | refine bSet ?_ (by first | exact Nat.le_refl _ | omega | (simp <;> omega)) _)))) (Nat.le_trans hT (by simp <;> omega)) hs.1).mono ?_
  rintro e w1 ⟨v1, rfl, hr1, hb⟩
  have g := box3 hb
  have HP : w1.heap[w.heap.size]? = some (.cells #[.int .i64 x.1, .slice u1A (x.2.1).length u1c, .slice u2A (x.2.2.1).length u2c, .slice u3A (x.2.2.2).length u3c] 39 (0, 0)) := g.1
  have HR : w1.heap[w.heap.size + 1]? = some (.cells #[.int .i64 0, .slice none 0 0, .slice none 0 0, .slice none 0 0] 28 (0, 0)) := g.2.1
  have HL : w1.heap[w.heap.size + 1 + 1]? = some (.cells #[.int .i64 x.1, .slice none 0 0, .slice none 0 0, .slice none 0 0] 28 (0, 0)) := g.2.2.1
  have hW : Below w.heap.size w w1 := g.2.2.2
  replace hr1 := goodw_SeqS.wider (B' := w.heap.size + 1 + 1 + 1) hr1 (by simp) (Nat.le_refl _)
  have hlt : w.heap.size + 1 + 1 < w1.heap.size := (Array.getElem?_eq_some_iff.1 HL).1
  clear hb g
  have vq1 := hr1
  obtain ⟨v1A, v1c, ve1, -⟩ := vq1
  injection ve1 with ve1
  subst ve1
  replace hr1 := Lib.hid hr1
  have uc0 : w1.cell? ⟨w.heap.size, 0, none⟩ = some (.int .i64 x.1) := box_cell HP 0 _ rfl
  have lc0 : w1.cell? ⟨w.heap.size + 1 + 1, 0, none⟩ = some (.int .i64 x.1) := box_cell HL 0 _ rfl
  have lf0 : w1.frozen? ⟨w.heap.size + 1 + 1, 0, none⟩ = false := frozen_of_row _ _ 0 _ _ HL
  have rc0 : w1.cell? ⟨w.heap.size + 1, 0, none⟩ = some (.int .i64 0) := box_cell HR 0 _ rfl
  have rf0 : w1.frozen? ⟨w.heap.size + 1, 0, none⟩ = false := frozen_of_row _ _ 0 _ _ HR
  have uc1 : w1.cell? ⟨w.heap.size, 1, none⟩ = some (.slice u1A (x.2.1).length u1c) := box_cell HP 1 _ rfl
  have lc1 : w1.cell? ⟨w.heap.size + 1 + 1, 1, none⟩ = some (.slice none 0 0) := box_cell HL 1 _ rfl
  have lf1 : w1.frozen? ⟨w.heap.size + 1 + 1, 1, none⟩ = false := frozen_of_row _ _ 1 _ _ HL
  have rc1 : w1.cell? ⟨w.heap.size + 1, 1, none⟩ = some (.slice none 0 0) := box_cell HR 1 _ rfl
  have rf1 : w1.frozen? ⟨w.heap.size + 1, 1, none⟩ = false := frozen_of_row _ _ 1 _ _ HR
  have uc2 : w1.cell? ⟨w.heap.size, 2, none⟩ = some (.slice u2A (x.2.2.1).length u2c) := box_cell HP 2 _ rfl
  have lc2 : w1.cell? ⟨w.heap.size + 1 + 1, 2, none⟩ = some (.slice none 0 0) := box_cell HL 2 _ rfl
  have lf2 : w1.frozen? ⟨w.heap.size + 1 + 1, 2, none⟩ = false := frozen_of_row _ _ 2 _ _ HL
  have rc2 : w1.cell? ⟨w.heap.size + 1, 2, none⟩ = some (.slice none 0 0) := box_cell HR 2 _ rfl
  have rf2 : w1.frozen? ⟨w.heap.size + 1, 2, none⟩ = false := frozen_of_row _ _ 2 _ _ HR
  have uc3 : w1.cell? ⟨w.heap.size, 3, none⟩ = some (.slice u3A (x.2.2.2).length u3c) := box_cell HP 3 _ rfl
  have lc3 : w1.cell? ⟨w.heap.size + 1 + 1, 3, none⟩ = some (.slice none 0 0) := box_cell HL 3 _ rfl
  have lf3 : w1.frozen? ⟨w.heap.size + 1 + 1, 3, none⟩ = false := frozen_of_row _ _ 3 _ _ HL
  have rc3 : w1.cell? ⟨w.heap.size + 1, 3, none⟩ = some (.slice none 0 0) := box_cell HR 3 _ rfl
  have rf3 : w1.frozen? ⟨w.heap.size + 1, 3, none⟩ = false := frozen_of_row _ _ 3 _ _ HR
  replace HP : (w1.setCell ⟨w.heap.size + 1 + 1, 1, none⟩ (.slice v1A (x.2.1).length v1c)).heap[w.heap.size]? = some (.cells #[.int .i64 x.1, .slice u1A (x.2.1).length u1c, .slice u2A (x.2.2.1).length u2c, .slice u3A (x.2.2.2).length u3c] 39 (0, 0)) := (Below.heap_setCell _ _ _ _ (by simp <;> omega)).trans HP
  replace HR : (w1.setCell ⟨w.heap.size + 1 + 1, 1, none⟩ (.slice v1A (x.2.1).length v1c)).heap[w.heap.size + 1]? = some (.cells #[.int .i64 0, .slice none 0 0, .slice none 0 0, .slice none 0 0] 28 (0, 0)) := (Below.heap_setCell _ _ _ _ (by simp <;> omega)).trans HR
  replace HL : (w1.setCell ⟨w.heap.size + 1 + 1, 1, none⟩ (.slice v1A (x.2.1).length v1c)).heap[w.heap.size + 1 + 1]? = some (.cells #[.int .i64 x.1, .slice v1A (x.2.1).length v1c, .slice none 0 0, .slice none 0 0] 28 (0, 0)) := heap_setCell_same _ _ 1 _ _ _ HL
  replace hW : Below w.heap.size w (w1.setCell ⟨w.heap.size + 1 + 1, 1, none⟩ (.slice v1A (x.2.1).length v1c)) := bSet hW (by simp <;> omega) _
  have HPh := Lib.hid HP
  have HRh := Lib.hid HR
  have HLh := Lib.hid HL
  have hWh := Lib.hid hW
  clear HP HR HL hW
  go_wp2_with fail
  refine (toAndS_w (x.2.2.1) u2A (x.2.2.1).length u2c _ (good_AndS.below U2.out hT hWh.out) (Nat.le_trans hT hWh.out.size) hs.2.1).mono ?_
  rintro e w2 ⟨v2, rfl, hr2, hb⟩
  have hszp : (w1.setCell ⟨w.heap.size + 1 + 1, 1, none⟩ (.slice v1A (x.2.1).length v1c)).heap.size = w1.heap.size := by simp
  have hsetp : ∀ b, w.heap.size + 1 + 1 + 1 ≤ b → (w1.setCell ⟨w.heap.size + 1 + 1, 1, none⟩ (.slice v1A (x.2.1).length v1c)).heap[b]? = w1.heap[b]? := fun b hb => by
    rw [Below.heap_setCell _ _ _ b (by simp; omega)]
  replace hr1 := rd_step goodw_SeqS hr1.out hsetp hszp hb
  replace hr2 := goodw_AndS.wider (B' := w.heap.size + 1 + 1 + 1) hr2 (by rw [hszp]; omega) (Nat.le_refl _)
  have HP : w2.heap[w.heap.size]? = some (.cells #[.int .i64 x.1, .slice u1A (x.2.1).length u1c, .slice u2A (x.2.2.1).length u2c, .slice u3A (x.2.2.2).length u3c] 39 (0, 0)) := rowB' hb HPh.out
  have HR : w2.heap[w.heap.size + 1]? = some (.cells #[.int .i64 0, .slice none 0 0, .slice none 0 0, .slice none 0 0] 28 (0, 0)) := rowB' hb HRh.out
  have HL : w2.heap[w.heap.size + 1 + 1]? = some (.cells #[.int .i64 x.1, .slice v1A (x.2.1).length v1c, .slice none 0 0, .slice none 0 0] 28 (0, 0)) := rowB' hb HLh.out
  have hW : Below w.heap.size w w2 := bThen hWh.out hb
  have hlt : w.heap.size + 1 + 1 < w2.heap.size := (Array.getElem?_eq_some_iff.1 HL).1
  clear hb hszp hsetp HPh HRh HLh hWh
  clear uc0 lc0 lf0 rc0 rf0
  clear uc1 lc1 lf1 rc1 rf1
  clear uc2 lc2 lf2 rc2 rf2
  clear uc3 lc3 lf3 rc3 rf3
  have vq2 := hr2
  obtain ⟨v2A, v2c, ve2, -⟩ := vq2
  injection ve2 with ve2
  subst ve2
  replace hr1 := Lib.hid hr1
  replace hr2 := Lib.hid hr2
  have uc0 : w2.cell? ⟨w.heap.size, 0, none⟩ = some (.int .i64 x.1) := box_cell HP 0 _ rfl
  have lc0 : w2.cell? ⟨w.heap.size + 1 + 1, 0, none⟩ = some (.int .i64 x.1) := box_cell HL 0 _ rfl
  have lf0 : w2.frozen? ⟨w.heap.size + 1 + 1, 0, none⟩ = false := frozen_of_row _ _ 0 _ _ HL
  have rc0 : w2.cell? ⟨w.heap.size + 1, 0, none⟩ = some (.int .i64 0) := box_cell HR 0 _ rfl
  have rf0 : w2.frozen? ⟨w.heap.size + 1, 0, none⟩ = false := frozen_of_row _ _ 0 _ _ HR
  have uc1 : w2.cell? ⟨w.heap.size, 1, none⟩ = some (.slice u1A (x.2.1).length u1c) := box_cell HP 1 _ rfl
  have lc1 : w2.cell? ⟨w.heap.size + 1 + 1, 1, none⟩ = some (.slice v1A (x.2.1).length v1c) := box_cell HL 1 _ rfl
  have lf1 : w2.frozen? ⟨w.heap.size + 1 + 1, 1, none⟩ = false := frozen_of_row _ _ 1 _ _ HL
  have rc1 : w2.cell? ⟨w.heap.size + 1, 1, none⟩ = some (.slice none 0 0) := box_cell HR 1 _ rfl
  have rf1 : w2.frozen? ⟨w.heap.size + 1, 1, none⟩ = false := frozen_of_row _ _ 1 _ _ HR
  have uc2 : w2.cell? ⟨w.heap.size, 2, none⟩ = some (.slice u2A (x.2.2.1).length u2c) := box_cell HP 2 _ rfl
  have lc2 : w2.cell? ⟨w.heap.size + 1 + 1, 2, none⟩ = some (.slice none 0 0) := box_cell HL 2 _ rfl
  have lf2 : w2.frozen? ⟨w.heap.size + 1 + 1, 2, none⟩ = false := frozen_of_row _ _ 2 _ _ HL
  have rc2 : w2.cell? ⟨w.heap.size + 1, 2, none⟩ = some (.slice none 0 0) := box_cell HR 2 _ rfl
  have rf2 : w2.frozen? ⟨w.heap.size + 1, 2, none⟩ = false := frozen_of_row _ _ 2 _ _ HR
  have uc3 : w2.cell? ⟨w.heap.size, 3, none⟩ = some (.slice u3A (x.2.2.2).length u3c) := box_cell HP 3 _ rfl
  have lc3 : w2.cell? ⟨w.heap.size + 1 + 1, 3, none⟩ = some (.slice none 0 0) := box_cell HL 3 _ rfl
  have lf3 : w2.frozen? ⟨w.heap.size + 1 + 1, 3, none⟩ = false := frozen_of_row _ _ 3 _ _ HL
  have rc3 : w2.cell? ⟨w.heap.size + 1, 3, none⟩ = some (.slice none 0 0) := box_cell HR 3 _ rfl
  have rf3 : w2.frozen? ⟨w.heap.size + 1, 3, none⟩ = false := frozen_of_row _ _ 3 _ _ HR
  replace HP : (w2.setCell ⟨w.heap.size + 1 + 1, 2, none⟩ (.slice v2A (x.2.2.1).length v2c)).heap[w.heap.size]? = some (.cells #[.int .i64 x.1, .slice u1A (x.2.1).length u1c, .slice u2A (x.2.2.1).length u2c, .slice u3A (x.2.2.2).length u3c] 39 (0, 0)) := (Below.heap_setCell _ _ _ _ (by simp <;> omega)).trans HP
  replace HR : (w2.setCell ⟨w.heap.size + 1 + 1, 2, none⟩ (.slice v2A (x.2.2.1).length v2c)).heap[w.heap.size + 1]? = some (.cells #[.int .i64 0, .slice none 0 0, .slice none 0 0, .slice none 0 0] 28 (0, 0)) := (Below.heap_setCell _ _ _ _ (by simp <;> omega)).trans HR
  replace HL : (w2.setCell ⟨w.heap.size + 1 + 1, 2, none⟩ (.slice v2A (x.2.2.1).length v2c)).heap[w.heap.size + 1 + 1]? = some (.cells #[.int .i64 x.1, .slice v1A (x.2.1).length v1c, .slice v2A (x.2.2.1).length v2c, .slice none 0 0] 28 (0, 0)) := heap_setCell_same _ _ 2 _ _ _ HL
  replace hW : Below w.heap.size w (w2.setCell ⟨w.heap.size + 1 + 1, 2, none⟩ (.slice v2A (x.2.2.1).length v2c)) := bSet hW (by simp <;> omega) _
  have HPh := Lib.hid HP
  have HRh := Lib.hid HR
  have HLh := Lib.hid HL
  have hWh := Lib.hid hW
  clear HP HR HL hW
  go_wp2_with fail
  refine (toIntS_w (x.2.2.2) u3A (x.2.2.2).length u3c _ (good_IntS.below U3.out hT hWh.out) (Nat.le_trans hT hWh.out.size) hs.2.2).mono ?_
  rintro e w3 ⟨v3, rfl, hr3, hb⟩
  have hszp : (w2.setCell ⟨w.heap.size + 1 + 1, 2, none⟩ (.slice v2A (x.2.2.1).length v2c)).heap.size = w2.heap.size := by simp
  have hsetp : ∀ b, w.heap.size + 1 + 1 + 1 ≤ b → (w2.setCell ⟨w.heap.size + 1 + 1, 2, none⟩ (.slice v2A (x.2.2.1).length v2c)).heap[b]? = w2.heap[b]? := fun b hb => by
    rw [Below.heap_setCell _ _ _ b (by simp; omega)]
  replace hr1 := rd_step goodw_SeqS hr1.out hsetp hszp hb
  replace hr2 := rd_step goodw_AndS hr2.out hsetp hszp hb
  replace hr3 := goodw_IntS.wider (B' := w.heap.size + 1 + 1 + 1) hr3 (by rw [hszp]; omega) (Nat.le_refl _)
  have HP : w3.heap[w.heap.size]? = some (.cells #[.int .i64 x.1, .slice u1A (x.2.1).length u1c, .slice u2A (x.2.2.1).length u2c, .slice u3A (x.2.2.2).length u3c] 39 (0, 0)) := rowB' hb HPh.out
  have HR : w3.heap[w.heap.size + 1]? = some (.cells #[.int .i64 0, .slice none 0 0, .slice none 0 0, .slice none 0 0] 28 (0, 0)) := rowB' hb HRh.out
  have HL : w3.heap[w.heap.size + 1 + 1]? = some (.cells #[.int .i64 x.1, .slice v1A (x.2.1).length v1c, .slice v2A (x.2.2.1).length v2c, .slice none 0 0] 28 (0, 0)) := rowB' hb HLh.out
  have hW : Below w.heap.size w w3 := bThen hWh.out hb
  have hlt : w.heap.size + 1 + 1 < w3.heap.size := (Array.getElem?_eq_some_iff.1 HL).1
  clear hb hszp hsetp HPh HRh HLh hWh
  clear uc0 lc0 lf0 rc0 rf0
  clear uc1 lc1 lf1 rc1 rf1
  clear uc2 lc2 lf2 rc2 rf2
  clear uc3 lc3 lf3 rc3 rf3
  have vq3 := hr3
  obtain ⟨v3A, v3c, ve3, -⟩ := vq3
  injection ve3 with ve3
  subst ve3
  replace hr1 := Lib.hid hr1
  replace hr2 := Lib.hid hr2
  replace hr3 := Lib.hid hr3
  have uc0 : w3.cell? ⟨w.heap.size, 0, none⟩ = some (.int .i64 x.1) := box_cell HP 0 _ rfl
  have lc0 : w3.cell? ⟨w.heap.size + 1 + 1, 0, none⟩ = some (.int .i64 x.1) := box_cell HL 0 _ rfl
  have lf0 : w3.frozen? ⟨w.heap.size + 1 + 1, 0, none⟩ = false := frozen_of_row _ _ 0 _ _ HL
  have rc0 : w3.cell? ⟨w.heap.size + 1, 0, none⟩ = some (.int .i64 0) := box_cell HR 0 _ rfl
  have rf0 : w3.frozen? ⟨w.heap.size + 1, 0, none⟩ = false := frozen_of_row _ _ 0 _ _ HR
  have uc1 : w3.cell? ⟨w.heap.size, 1, none⟩ = some (.slice u1A (x.2.1).length u1c) := box_cell HP 1 _ rfl
  have lc1 : w3.cell? ⟨w.heap.size + 1 + 1, 1, none⟩ = some (.slice v1A (x.2.1).length v1c) := box_cell HL 1 _ rfl
  have lf1 : w3.frozen? ⟨w.heap.size + 1 + 1, 1, none⟩ = false := frozen_of_row _ _ 1 _ _ HL
  have rc1 : w3.cell? ⟨w.heap.size + 1, 1, none⟩ = some (.slice none 0 0) := box_cell HR 1 _ rfl
  have rf1 : w3.frozen? ⟨w.heap.size + 1, 1, none⟩ = false := frozen_of_row _ _ 1 _ _ HR
  have uc2 : w3.cell? ⟨w.heap.size, 2, none⟩ = some (.slice u2A (x.2.2.1).length u2c) := box_cell HP 2 _ rfl
  have lc2 : w3.cell? ⟨w.heap.size + 1 + 1, 2, none⟩ = some (.slice v2A (x.2.2.1).length v2c) := box_cell HL 2 _ rfl
  have lf2 : w3.frozen? ⟨w.heap.size + 1 + 1, 2, none⟩ = false := frozen_of_row _ _ 2 _ _ HL
  have rc2 : w3.cell? ⟨w.heap.size + 1, 2, none⟩ = some (.slice none 0 0) := box_cell HR 2 _ rfl
  have rf2 : w3.frozen? ⟨w.heap.size + 1, 2, none⟩ = false := frozen_of_row _ _ 2 _ _ HR
  have uc3 : w3.cell? ⟨w.heap.size, 3, none⟩ = some (.slice u3A (x.2.2.2).length u3c) := box_cell HP 3 _ rfl
  have lc3 : w3.cell? ⟨w.heap.size + 1 + 1, 3, none⟩ = some (.slice none 0 0) := box_cell HL 3 _ rfl
  have lf3 : w3.frozen? ⟨w.heap.size + 1 + 1, 3, none⟩ = false := frozen_of_row _ _ 3 _ _ HL
  have rc3 : w3.cell? ⟨w.heap.size + 1, 3, none⟩ = some (.slice none 0 0) := box_cell HR 3 _ rfl
  have rf3 : w3.frozen? ⟨w.heap.size + 1, 3, none⟩ = false := frozen_of_row _ _ 3 _ _ HR
  have hW' := Lib.hid hW
  clear HP HR HL hW
  go_wp2
  ((try simp only [Exit.inBlock, Exit.then]); refine bodyPost_ret (v := (.agg #[.int .i64 x.1, .slice v1A (x.2.1).length v1c, .slice v2A (x.2.2.1).length v2c, .slice v3A (x.2.2.2).length v3c])) (by rw [results_cell1 rfl]; go_simp) rfl ?_)
  have hB := hW'.out
  exact ⟨[.int .i64 x.1, .slice v1A (x.2.1).length v1c, .slice v2A (x.2.2.1).length v2c, .slice v3A (x.2.2.2).length v3c], rfl, ⟨_, _, _, _, rfl, ⟨rfl, uf0⟩, goodw_SeqS _ _ _ _ w3 _ _ _ hr1.out (by omega) (by simp) (fun b hb1 _ => by (repeat (rw [Below.heap_setCell _ _ _ b (by simp; omega)]))), goodw_AndS _ _ _ _ w3 _ _ _ hr2.out (by omega) (by simp) (fun b hb1 _ => by (repeat (rw [Below.heap_setCell _ _ _ b (by simp; omega)]))), goodw_IntS _ _ _ _ w3 _ _ _ hr3.out (by omega) (by simp) (fun b hb1 _ => by (repeat (rw [Below.heap_setCell _ _ _ b (by simp; omega)])))⟩, by (repeat' (first | assumption | exact Below.refl _ _ | refine bDrewN ?_ _ | refine Below.drew ?_ | refine bAlloc ?_ (Nat.le_refl _) _ | refine bSet ?_ (by first | exact Nat.le_refl _ | omega | (simp <;> omega)) _))⟩

theorem toNet_any (x : DNet) (us : List Value) {B T : Nat} (w : World) (h : rdNet B T w us x) (hT : T ≤ w.heap.size) (hs : smNet x) :
    Calls Try.prog 15 #[.agg us.toArray] w fun e w' => ∃ us', e = .returned (.agg us'.toArray) ∧ rdNet w.heap.size w'.heap.size w' us' x ∧ Below w.heap.size w w' :=
  (toNet_w x us w h hT hs).mono fun _ _ ⟨v, he, hr, hb⟩ => ⟨v, he, le_Net _ _ _ _ _ hr, hb⟩
end Go.Proofs.Ytiejilmgchmppaa
