import Derived.Test.YtlpabmcebpppfaaGreatDoorOwnP19
import Derived.Maps.AppendAt
import Derived.Deep.AppendLies
namespace Go.Proofs.YtlpabmcebpppfaaGreatDoor
open Go.RowKit

end Go.Proofs.YtlpabmcebpppfaaGreatDoor
