/-
  octet.Wide by its contract: the number in bytes, or the refusal. Conditions: the number is a uint64, the size an int; the package-level errors lie where they lie.
-/
import Derived.Test.YtcdibcogboaikaaDoorErr2
import Derived.Test.YtcdibcogboaikaaDoorShelf
import Derived.Test.YtcdibcogboaikaaDoorPlain
import Derived.WalkLawsBesides
import Derived.WalkSpells
import Derived.BigQuiet
import Derived.Deep.QuietTactic
namespace Go.Proofs.YtcdibcogboaikaaDoor
open Go.RowKit

theorem infoByte : (Tryd.prog.info? 5).map (fun i => (i.zero, i.size, i.bytes)) = some (some (.int .u8 0), 1, 1) := by kernel_rfl
theorem addr0_add (b i : Nat) : (⟨b, 0, none⟩ : Addr).add i = ⟨b, i, none⟩ := by unfold Addr.add; split <;> simp_all

end Go.Proofs.YtcdibcogboaikaaDoor
