/- The ground for trees, in a seat that has the reader's texts: nothing of its own.
   No conditions. -/
import Derived.Test.YtcnjogkgfdbhfaaSame
