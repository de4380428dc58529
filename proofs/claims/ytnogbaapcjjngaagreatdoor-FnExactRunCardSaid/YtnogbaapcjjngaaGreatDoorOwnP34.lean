import Derived.Test.YtnogbaapcjjngaaGreatDoorOwnP31
import Derived.Test.YtnogbaapcjjngaaGreatDoorOwnP26
import Derived.Lib.Join
set_option maxHeartbeats 6400000
set_option maxRecDepth 100000
namespace Go.Proofs.YtnogbaapcjjngaaGreatDoor
open Go.RowKit
theorem joinTail_append (sep : List UInt8) (a b : List (List UInt8)) : Lib.joinTail sep (a ++ b) = Lib.joinTail sep a ++ Lib.joinTail sep b := by simp [Lib.joinTail]
end Go.Proofs.YtnogbaapcjjngaaGreatDoor
