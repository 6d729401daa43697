/-
  Contract of the reference of layer 4: Give.
-/
import Derived.Test.YtpbcpobbjoopnaaClear
import Derived.Test.YtpbcpobbjoopnaaRefTake
namespace Go.Proofs.Ytpbcpobbjoopnaa
open Go.RowKit
set_option maxRecDepth 100000
set_option linter.unusedVariables false

end Go.Proofs.Ytpbcpobbjoopnaa
