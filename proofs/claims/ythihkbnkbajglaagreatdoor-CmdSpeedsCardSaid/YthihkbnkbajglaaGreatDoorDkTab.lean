/- The table of places, as the card lays it. -/
import Derived.Test.YthihkbnkbajglaaGreatDoorDk4
namespace Go.Proofs.YthihkbnkbajglaaGreatDoor.DkTab
open Go Go.RowKit Kit Tz OfB

theorem tab_places : ∀ c, c ≤ 40 → placeN c < 64 ∧ ([0, 1, 56, 2, 57, 49, 28, 3, 61, 58, 42, 50, 38, 29, 17, 4, 62, 47, 59, 36, 45, 43, 51, 22, 53, 39, 33, 30, 24, 18, 12, 5, 63, 55, 48, 27, 60, 41, 37, 16, 46, 35, 44, 21, 52, 32, 23, 11, 54, 26, 40, 15, 34, 20, 31, 10, 25, 14, 19, 9, 13, 8, 7, 6] : List Int).getD (placeN c) 0 = (c : Int) := by decide
theorem tabZ {W : World} (h : Lib.TabIs Tryz.prog W "math/bits.deBruijn64tab" .u8 [0, 1, 56, 2, 57, 49, 28, 3, 61, 58, 42, 50, 38, 29, 17, 4, 62, 47, 59, 36, 45, 43, 51, 22, 53, 39, 33, 30, 24, 18, 12, 5, 63, 55, 48, 27, 60, 41, 37, 16, 46, 35, 44, 21, 52, 32, 23, 11, 54, 26, 40, 15, 34, 20, 31, 10, 25, 14, 19, 9, 13, 8, 7, 6]) : TabZ W := by
  intro c hc
  obtain ⟨h1, h2⟩ := tab_places c hc
  have := h.cell (show Tryz.prog.globalNamed "math/bits.deBruijn64tab" = some 1 by kernel_rfl) (placeN c) h1
  rw [h2] at this
  exact this
end Go.Proofs.YthihkbnkbajglaaGreatDoor.DkTab
