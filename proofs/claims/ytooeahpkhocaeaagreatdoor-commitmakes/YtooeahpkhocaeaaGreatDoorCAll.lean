/- Layer 12: what the program answers, all together. No condition. -/
import Derived.Test.YtooeahpkhocaeaaGreatDoorJ36
import Derived.Test.YtooeahpkhocaeaaGreatDoorCAwake
import Derived.Test.YtooeahpkhocaeaaGreatDoorCLawsM
import Derived.Test.YtooeahpkhocaeaaGreatDoorCRMake
namespace Go.Proofs.YtooeahpkhocaeaaGreatDoor
open Go.RowKit
set_option maxRecDepth 100000

theorem awk0 : CAwkC := cawake_c cput_c cget_c cmake_c ckeeps_c
end Go.Proofs.YtooeahpkhocaeaaGreatDoor
