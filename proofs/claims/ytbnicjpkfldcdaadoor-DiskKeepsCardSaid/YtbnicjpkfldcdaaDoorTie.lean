/-
  DERIVED. GIVEN WITH THE SEED: THE PROGRAM's TIES (one call each: nine closed facts by the kernel) AND EACH ROW's TIE, after the 31st guide's Derived/Test/Toyas{Tie, Card}.lean. No idea stands in it: it is a product of the set-up. Laid BY PROGRAM, IN A SANDBOX (cutbox-door.mjs). By AI agents, Wed Nov 11 2026. No macro, syntax, notation, axiom, sorry.
-/
import Derived.Test.YtbnicjpkfldcdaaDoorRows
import Derived.LaidByTextLater
import Derived.SevenTiedAt
import Derived.LaidSub
import Derived.LaidOnce
namespace Go.Proofs.YtbnicjpkfldcdaaDoor
open Go
set_option maxRecDepth 100000
theorem seatTie1 : Tryd.prog.laidByTextLater [("postbag/api.WhyName", Rows.laid_postbag_api_WhyName), ("postbag/api.WhyMissing", Rows.laid_postbag_api_WhyMissing), ("postbag/api.WhyQuota", Rows.laid_postbag_api_WhyQuota), ("postbag/api.WhyDown", Rows.laid_postbag_api_WhyDown), ("postbag/api.WhyRefused", Rows.laid_postbag_api_WhyRefused)] [.sentinel, .sentinel, .sentinel, .sentinel, .sentinel] true :=
  Program.laidByTextLater_by_one 104 8 2 (by kernel_rfl) (by kernel_rfl) (by kernel_rfl) (by kernel_rfl) (by kernel_rfl) (by kernel_rfl) (fun _ _ => by kernel_rfl)
theorem noOwnUnsafe : Tryd.pinned.checked.prog.headLifts.contains "ownunsafe" = false := by kernel_rfl
theorem tie : Tryd.prog.laidByTextLater [("postbag/api.WhyName", Rows.laid_postbag_api_WhyName), ("postbag/api.WhyMissing", Rows.laid_postbag_api_WhyMissing), ("postbag/api.WhyQuota", Rows.laid_postbag_api_WhyQuota), ("postbag/api.WhyDown", Rows.laid_postbag_api_WhyDown), ("postbag/api.WhyRefused", Rows.laid_postbag_api_WhyRefused)] [.sentinel, .sentinel, .sentinel, .sentinel, .sentinel] true :=
  Program.laidByTextLater.sub seatTie1 ["postbag/api.WhyName", "postbag/api.WhyMissing", "postbag/api.WhyQuota", "postbag/api.WhyDown", "postbag/api.WhyRefused"] (by kernel_rfl) (by kernel_rfl)
theorem diskKeeps_row_tie : Rows.diskKeepsRow.laidByTextAt .later Tryd.pinned [.sentinel, .sentinel, .sentinel, .sentinel, .sentinel] true :=
  OpenClaim.laidByTextAt_later rfl rfl tie noOwnUnsafe
theorem diskKeepsUpto_row_tie : Rows.diskKeepsUptoRow.laidByTextAt .later Tryd.pinned [.sentinel, .sentinel, .sentinel, .sentinel, .sentinel] true :=
  OpenClaim.laidByTextAt_later rfl rfl tie noOwnUnsafe
end Go.Proofs.YtbnicjpkfldcdaaDoor
