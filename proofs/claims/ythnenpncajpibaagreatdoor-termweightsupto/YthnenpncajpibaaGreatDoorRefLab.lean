/- Contracts of the document's own Label and NameOf. -/
import Derived.Test.YthnenpncajpibaaGreatDoorLabel
namespace Go.Proofs.YthnenpncajpibaaGreatDoor
open Go.RowKit
end Go.Proofs.YthnenpncajpibaaGreatDoor
