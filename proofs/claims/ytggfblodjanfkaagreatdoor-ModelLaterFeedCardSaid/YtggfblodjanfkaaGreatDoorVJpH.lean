/- Packed from the texts JpH. -/
import Derived.Test.YtggfblodjanfkaaGreatDoorVJpG
section
namespace Go.Proofs.YtggfblodjanfkaaGreatDoor
open Go.RowKit
theorem jinfo_value : (Tryz.prog.info? 64).map (fun i => (i.zero, i.size, i.bytes)) = some (some (.agg #[.int .i64 0, .bool false, .int .i64 0, .string ⟨#[]⟩, .slice none 0 0, .slice none 0 0, .int .i64 0]), 7, 96) := by kernel_rfl
end Go.Proofs.YtggfblodjanfkaaGreatDoor
end
