/- Nothing of the library is wanted here. -/
import Derived.Test.YtefcbgnckgapgaaProg
import Derived.Lib.ItoaNum
