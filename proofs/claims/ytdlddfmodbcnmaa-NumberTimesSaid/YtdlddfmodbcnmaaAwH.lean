/- The first call of every law of the chapter gives true. -/
import Derived.Test.YtdlddfmodbcnmaaAw
import Derived.Test.YtdlddfmodbcnmaaBf
set_option linter.unusedVariables false
set_option linter.unusedSimpArgs false
namespace Go.Proofs.Ytdlddfmodbcnmaa
open Go.RowKit

theorem awake_holds : Awake := fun w => awake_any w

end Go.Proofs.Ytdlddfmodbcnmaa
