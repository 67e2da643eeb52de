/- How graphs, messages and numbers come in. No condition. -/
import Derived.Test.YtapcpmalgdhakaaGreatFAll
import Derived.Test.YtapcpmalgdhakaaGreatSOpen
import Derived.ProofKit
import Derived.OpenShut
import Derived.ShutString
import Derived.Lib.LaidTab
import Derived.ChangeOld
import Derived.ChangeSame
import Derived.Below
import Derived.Deep.Slices
namespace Go.Proofs.YtapcpmalgdhakaaGreat
open Go.ChangeShapes Go.WideShapes Go.ChangeAt Go.RowKit
set_option maxRecDepth 100000

end Go.Proofs.YtapcpmalgdhakaaGreat
