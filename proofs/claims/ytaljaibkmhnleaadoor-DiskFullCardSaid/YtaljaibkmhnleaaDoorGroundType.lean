/-
  A world that meets the condition of a row that lists errors.errorType alone.
-/
import Derived.Test.YtaljaibkmhnleaaDoorGround
namespace Go.Proofs.YtaljaibkmhnleaaDoor
open Go.ChangeShapes Go.WideShapes Go.ChangeAt Go.RowKit

/-- A world that meets the condition. -/
noncomputable def typeWorld (os : Os) : World :=
  lay (World.holding Tryd.prog os ⟨#[], #[], []⟩) 0 #[.iface 69 (.agg #[.pointer (some ⟨1, 29, none⟩)])]
theorem typeWorld_met (os : Os) (args : Array Value) : laidMetH Tryd.prog [("errors.errorType", Rows.laid_errors_errorType)] ((typeWorld os).forCall (fun _ _ => 0) ⟨#[], args, []⟩).memory :=
  laidMetH_of_parts (laidMet_of_run' 8 (by kernel_rfl) (by kernel_rfl)) (by kernel_rfl)

end Go.Proofs.YtaljaibkmhnleaaDoor
