/- Nothing of the library is wanted here. -/
import Derived.Test.YtkmlfkbpcgkpaaaGreatDoorProg
import Derived.Lib.ItoaNum
