import Derived.Test.YtlpabmcebpppfaaGreatDoorOwnP4
import Derived.Test.YtlpabmcebpppfaaGreatDoorOwnP3
import Derived.Maps.AppendAt
import Derived.Deep.AppendLies
namespace Go.Proofs.YtlpabmcebpppfaaGreatDoor
open Go.RowKit

end Go.Proofs.YtlpabmcebpppfaaGreatDoor
