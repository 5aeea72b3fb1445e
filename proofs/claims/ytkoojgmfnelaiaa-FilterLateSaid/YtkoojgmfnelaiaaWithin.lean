/- Contracts of common.Within (WithinN), beside the dice. -/
import Derived.Test.YtkoojgmfnelaiaaDice
import Derived.Test.YtkoojgmfnelaiaaWithinN
