/-
  The walk of the exact law over SeqNext.
-/
import Derived.Test.YtaebiiopommhdaaNr1
import Derived.Test.YtaebiiopommhdaaRgN
import Derived.Deep.RegionHeld3
namespace Go.Proofs.Ytaebiiopommhdaa
open Go.RowKit
set_option linter.unusedVariables false
set_option linter.unusedSimpArgs false

set_option maxRecDepth 100000 in
set_option maxHeartbeats 25600000 in
theorem exactSeq_walk (kv : Int) (vv : Int) (xv : Int) (w : World) :
    Calls Try.prog 5 #[.int .i64 kv, .int .i64 vv, .int .i64 xv] w fun e w' => e = .returned (.bool true) ∧ Below w.heap.size w w' := by
  obtain ⟨r0, hr0⟩ : ∃ r0, seqI kv vv xv = r0 := ⟨_, rfl⟩
  have HR0 := Lib.hid hr0
  clear hr0
  have HW := Lib.hid (Below.refl w.heap.size w)
  go_enter Try.func5, Try.ntmps5
  go_wp2_with fail
  refine (specSeq_at kv vv xv _ HR0.out).mono ?_
  rintro e w1 ⟨rfl, hbN⟩
  replace HW := Lib.hid (bThen HW.out hbN)
  have s1 : w.heap.size ≤ w1.heap.size := (hbN).size
  clear hbN
  go_wp2_with fail
  refine (implSeq_at kv vv xv _ HR0.out).mono ?_
  rintro e w2 ⟨rfl, hbN⟩
  replace HW := Lib.hid (bThen HW.out hbN)
  have s2 : w1.heap.size ≤ w2.heap.size := (hbN).size
  clear hbN
  go_wp2
  go_ret
  exact ⟨rfl, HW.out⟩
end Go.Proofs.Ytaebiiopommhdaa
