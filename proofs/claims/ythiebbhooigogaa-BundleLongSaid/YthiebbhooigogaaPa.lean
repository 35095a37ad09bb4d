/- LAYER 10: packetAlive. -/
import Derived.Test.YthiebbhooigogaaPc
namespace Go.Proofs.Ythiebbhooigogaa
open Go Go.RowKit

theorem ztokA : (tokV zeroK none 0).toArray = (#[Value.int .u64 0, .string { data := #[] }, .slice none 0 0, .bool false, .int .u8 0, .int .u8 0, .int .u8 0, .int .u8 0, .int .u8 0, .int .u8 0, .int .u8 0, .int .u8 0, .int .u8 0, .int .u8 0, .int .u8 0, .int .u8 0, .int .u8 0, .int .u8 0, .int .u8 0, .int .u8 0, .int .u8 0, .int .u8 0, .int .u8 0, .int .u8 0, .int .u8 0, .int .u8 0, .int .u8 0, .int .u8 0, .int .u8 0, .int .u8 0, .int .u8 0, .int .u8 0, .int .u8 0, .int .u8 0, .int .u8 0, .int .u8 0] : Array Value) := by kernel_rfl
theorem zero_fit : zeroK.Fit := ⟨by decide, by decide, by simp [zeroK]⟩
theorem zero_enc : encT zeroK = bytesT zeroK ∧ errT zeroK = 0 ∧ (bytesT zeroK).length = 42 := by
  have h : checkT zeroK = true := rfl
  refine ⟨if_pos h, if_pos h, by decide⟩
end Go.Proofs.Ythiebbhooigogaa
