/-
  Package remset as it landed: the developers' functions, together with the reference's.
-/
import Derived.Test.YtkjmokaahpkahaaRIns
import Derived.Test.YtkjmokaahpkahaaRSame
import Derived.Test.YtkjmokaahpkahaaRDi
