/- The first call of every law of the chapter gives true. -/
import Derived.Test.YtfnmnnbmhfbkbaaAw
import Derived.Test.YtfnmnnbmhfbkbaaBf
set_option linter.unusedVariables false
set_option linter.unusedSimpArgs false
namespace Go.Proofs.Ytfnmnnbmhfbkbaa
open Go.RowKit

theorem awake_holds : Awake := fun w => awake_any w

end Go.Proofs.Ytfnmnnbmhfbkbaa
