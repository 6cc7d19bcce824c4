/-
  'string([]byte{b})': the text of one byte.
-/
import Derived.Test.YtikibabknlpnkaaDoorRows
import Derived.WalkKit
import Derived.Laws.IdiomStrings
namespace Go.Proofs.YtikibabknlpnkaaDoor
open Go.RowKit

/-- 'string([]byte{b})'. -/
theorem one_string (W : World) (b : UInt8) : (convert 22 9 (.slice (some ⟨W.heap.size, 0, none⟩) 1 1)).run Tryd.prog (W.alloc (.cells #[.int .u8 (b.toNat : Int)] 5)) =
    .ok (.string ⟨#[b]⟩) (W.alloc (.cells #[.int .u8 (b.toNat : Int)] 5)) :=
  run_convert_bytes_back (P := Tryd.prog) (W.alloc (.cells #[.int .u8 (b.toNat : Int)] 5)) 22 9 5 ⟨W.heap.size, 0, none⟩ 1 [b] Tryd.underlying22 Tryd.underlying5 Tryd.underlying9 (fun j hj => by
    obtain rfl : j = 0 := by simpa using hj
    rw [show (⟨W.heap.size, 0, none⟩ : Addr).add 0 = ⟨W.heap.size, 0, none⟩ from rfl, World.cell?_alloc_at _ _ _ _ rfl]
    rfl)
end Go.Proofs.YtikibabknlpnkaaDoor
