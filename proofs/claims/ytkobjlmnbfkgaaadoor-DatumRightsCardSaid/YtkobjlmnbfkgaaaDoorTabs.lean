/-
  The tables of unicode/utf8 stand where the listed variables read as the program's text lays them.
-/
import Derived.Test.YtkobjlmnbfkgaaaDoorValid
import Derived.Test.YtkobjlmnbfkgaaaDoorTie
import Derived.Test.YtkobjlmnbfkgaaaDoorCards
import Derived.Lib.LaidU8T
import Derived.PinnedBridge
namespace Go.Proofs.YtkobjlmnbfkgaaaDoor
open Go.RowKit

theorem tabs_of {w : World} (h3 : Lib.VarReads Tryd.prog w "unicode/utf8.first" Rows.laid_unicode_utf8_first) (h4 : Lib.VarReads Tryd.prog w "unicode/utf8.acceptRanges" Rows.laid_unicode_utf8_acceptRanges) : Tabs w := by
  have e3 : Rows.laid_unicode_utf8_first = Lib.firstData := Pinned.utf8First_eq
  have e4 : (Rows.laid_unicode_utf8_acceptRanges : DataW Unit) = Lib.acceptData := by kernel_rfl
  rw [e3] at h3
  rw [e4] at h4
  exact utf8Tabs_of_readsT (U8Types.of196 Tryd.laysValid) ⟨by kernel_rfl, by kernel_rfl, by kernel_rfl, by kernel_rfl, by kernel_rfl, by kernel_rfl, by kernel_rfl⟩ h3 h4

end Go.Proofs.YtkobjlmnbfkgaaaDoor
