/- The first call of every law of the chapter gives true. -/
import Derived.Test.YtlkfkekglmjhhaaAw
import Derived.Test.YtlkfkekglmjhhaaBf
set_option linter.unusedVariables false
set_option linter.unusedSimpArgs false
namespace Go.Proofs.Ytlkfkekglmjhhaa
open Go.RowKit

theorem awake_holds : Awake := fun w => awake_any w

end Go.Proofs.Ytlkfkekglmjhhaa
