/- A car as a value, and its cells. -/
import Derived.Test.YtaknnkmdfimcbaaBox
import Derived.Test.YtaknnkmdfimcbaaCarP
namespace Go.Proofs.Ytaknnkmdfimcbaa.Car
open Go.RowKit Go.Proofs.Ytaknnkmdfimcbaa.CarP Go.Proofs.Ytaknnkmdfimcbaa.Box
set_option linter.unusedVariables false

/-- a car as a value -/
def val (c : K) : Value := .agg #[.int .i64 c.p, .int .i64 c.v, .int .i64 c.l]
/-- a car's cells -/
def arr (c : K) : Array Value := #[.int .i64 c.p, .int .i64 c.v, .int .i64 c.l]

end Go.Proofs.Ytaknnkmdfimcbaa.Car
