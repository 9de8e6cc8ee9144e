/- names.*: what one call answers, of all its functions. -/
import Derived.Test.YtlnhkdiecfccaaaDoorNParent
import Derived.Test.YtlnhkdiecfccaaaDoorNSorted
import Derived.Test.YtlnhkdiecfccaaaDoorNMatch
import Derived.Test.YtlnhkdiecfccaaaDoorRSorted
import Derived.Test.YtlnhkdiecfccaaaDoorRCode
namespace Go.Proofs.YtlnhkdiecfccaaaDoor
end Go.Proofs.YtlnhkdiecfccaaaDoor
