import Derived.Test.YtlpabmcebpppfaaGreatDoorOwnP20
import Derived.Test.YtlpabmcebpppfaaGreatDoorOwnP3
import Derived.Laws.OwnMore
import Derived.Deep.AppendLies
import Derived.Test.YtlpabmcebpppfaaGreatDoorOwnP19
namespace Go.Proofs.YtlpabmcebpppfaaGreatDoor
open Go.RowKit

end Go.Proofs.YtlpabmcebpppfaaGreatDoor

namespace Go.Proofs.YtlpabmcebpppfaaGreatDoor
open Go.RowKit

end Go.Proofs.YtlpabmcebpppfaaGreatDoor

namespace Go.Proofs.YtlpabmcebpppfaaGreatDoor
open Go.RowKit

end Go.Proofs.YtlpabmcebpppfaaGreatDoor
