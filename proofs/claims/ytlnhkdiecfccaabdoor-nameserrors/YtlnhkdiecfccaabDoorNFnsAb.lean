/- names.*: what one call answers, of the functions that are here. -/
import Derived.Test.YtlnhkdiecfccaabDoorNJoin
import Derived.Test.YtlnhkdiecfccaabDoorNMatch
import Derived.Test.YtlnhkdiecfccaabDoorRCode
namespace Go.Proofs.YtlnhkdiecfccaabDoor
end Go.Proofs.YtlnhkdiecfccaabDoor
