/-
  The texts of stage 8 together.
-/
import Derived.Test.YtdodigfojbijfaaRo
import Derived.Test.YtdodigfojbijfaaRp
namespace Go.Proofs.Ytdodigfojbijfaa.Rq
theorem together : True := trivial
end Go.Proofs.Ytdodigfojbijfaa.Rq
