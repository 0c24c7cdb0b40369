/- Contracts of the document's own Label and NameOf. -/
import Derived.Test.YtbdpkgadalfkfaaDoorLabel
namespace Go.Proofs.YtbdpkgadalfkfaaDoor
open Go.RowKit
end Go.Proofs.YtbdpkgadalfkfaaDoor
