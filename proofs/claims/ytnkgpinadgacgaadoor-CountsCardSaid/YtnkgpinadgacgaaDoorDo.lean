/- Lists of numbers that a call makes: a push tells where the new list lies and what else stays. -/
import Derived.Test.YtnkgpinadgacgaaDoorDz
import Derived.Test.YtnkgpinadgacgaaDoorDn
import Derived.Test.YtnkgpinadgacgaaDoorDb
namespace Go.Proofs.YtnkgpinadgacgaaDoor
open Go.RowKit M

end Go.Proofs.YtnkgpinadgacgaaDoor
