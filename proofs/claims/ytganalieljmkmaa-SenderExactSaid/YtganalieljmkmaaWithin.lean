/- Contracts of common.Within (WithinN), beside the dice. -/
import Derived.Test.YtganalieljmkmaaDice
import Derived.Test.YtganalieljmkmaaWithinN
