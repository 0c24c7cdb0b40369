/- Contracts of the document's own Label and NameOf. -/
import Derived.Test.YtoamnhhegneegaaDoorLabel
namespace Go.Proofs.YtoamnhhegneegaaDoor
open Go.RowKit
end Go.Proofs.YtoamnhhegneegaaDoor
