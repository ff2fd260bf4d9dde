/- What the frame leans on. -/
import Derived.Test.YthlkbijpphdblaaK7
import Derived.ProofKit
import Derived.OpenShut
import Derived.ShutString
import Derived.ChangeOld
namespace Go.Proofs.Ythlkbijpphdblaa
end Go.Proofs.Ythlkbijpphdblaa
