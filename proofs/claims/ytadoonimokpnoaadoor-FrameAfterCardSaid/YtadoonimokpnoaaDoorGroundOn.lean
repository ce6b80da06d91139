/-
  The listed variables of a row that lists errors.errorType and pack.errOn; a world that holds them.
-/
import Derived.Test.YtadoonimokpnoaaDoorGround
import Derived.Test.YtadoonimokpnoaaDoorSix
import Derived.Stop.LaidErr
import Derived.Stop.ErrReads
namespace Go.Proofs.YtadoonimokpnoaaDoor
open Go.ChangeShapes Go.WideShapes Go.ChangeAt Go.RowKit

theorem Tryd.onErr : Tryd.prog.globalNamed "estuary/pack.errOn" = some 1 := by kernel_rfl
theorem Tryd.onErrType : (Tryd.prog.globals[1]?).map (·.type) = some 34 := by kernel_rfl
theorem Tryd.starStr : "*" ++ "errors.errorString" = "*errors.errorString" := by decide
theorem Tryd.rowPtrStr (u : TypeId) (h : Tryd.prog.typeName? 3 u = some "*errors.errorString") : u = 93 :=
  typeName_ptr_named (nm := "errors.errorString") (by rw [Tryd.starStr]; kernel_rfl) (by kernel_rfl) (by decide) u (by rw [Tryd.starStr]; exact h)
theorem Tryd.cellsStr : Tryd.prog.cellsOf 114 = 1 := by kernel_rfl

/-- pack.errOn as the condition has it. -/
theorem onErr_one {W : World} {r : List (String × DataW Unit)} (h : laidMet Tryd.prog (("estuary/pack.errOn", Rows.laid_estuary_pack_errOn) :: r) W) : ∃ a, OnErr W a := by
  obtain ⟨a, s, hv, _, _, _⟩ := laid_sentinel h Tryd.onErr Tryd.onErrType Tryd.underlying34 Tryd.rowPtrStr Tryd.underlying93 Tryd.underlying114 rfl rfl Tryd.underlying9 Tryd.cellsStr Tryd.cells9
  refine ⟨a, ?_⟩
  show W.cell? ⟨1, 0, none⟩ = _
  simpa using World.var?_cell Tryd.onErr hv 0

/-- A world that meets the condition. -/
noncomputable def onWorld (os : Os) : World :=
  lay (lay ((World.holding Tryd.prog os ⟨#[], #[], []⟩).alloc (.cells #[.string ⟨#[116, 104, 101, 32, 110, 117, 109, 98, 101, 114, 32, 103, 111, 101, 115, 32, 111, 110]⟩] 114)) 0 #[.iface 72 (.agg #[.pointer (some ⟨2, 34, none⟩)])]) 1 #[.iface 93 (.pointer (some ⟨(World.holding Tryd.prog default ⟨#[], #[], []⟩).heap.size, 0, none⟩))]
theorem onWorld_met (os : Os) (args : Array Value) : laidMetH Tryd.prog [("errors.errorType", Rows.laid_errors_errorType), ("estuary/pack.errOn", Rows.laid_estuary_pack_errOn)] ((onWorld os).forCall (fun _ _ => 0) ⟨#[], args, []⟩).memory :=
  laidMetH_of_parts (laidMet_of_run' 8 (by kernel_rfl) (by kernel_rfl)) (by kernel_rfl)
theorem on_both {W : World} (h : laidMetH Tryd.prog [("errors.errorType", Rows.laid_errors_errorType), ("estuary/pack.errOn", Rows.laid_estuary_pack_errOn)] W) : Handle W ∧ ∃ a, OnErr W a := by
  have h1 := h.filter (fun x => x.1 == "errors.errorType")
  have e1 : ([("errors.errorType", Rows.laid_errors_errorType (H := Unit)), ("estuary/pack.errOn", Rows.laid_estuary_pack_errOn)].filter (fun x => x.1 == "errors.errorType")) = [("errors.errorType", Rows.laid_errors_errorType)] := by kernel_rfl
  rw [e1] at h1
  have h2 := h.filter (fun x => x.1 == "estuary/pack.errOn")
  have e2 : ([("errors.errorType", Rows.laid_errors_errorType (H := Unit)), ("estuary/pack.errOn", Rows.laid_estuary_pack_errOn)].filter (fun x => x.1 == "estuary/pack.errOn")) = [("estuary/pack.errOn", Rows.laid_estuary_pack_errOn)] := by kernel_rfl
  rw [e2] at h2
  have h3 : laidMet Tryd.prog [("estuary/pack.errOn", Rows.laid_estuary_pack_errOn)] W := h2
  exact ⟨handle_one h1, onErr_one h3⟩
end Go.Proofs.YtadoonimokpnoaaDoor
