/- The program's contracts of chapter 7 that the laws on classes lean on. -/
import Derived.Test.YtcjeijmphgpecaaDoorSyCls
import Derived.Test.YtcjeijmphgpecaaDoorSyAlive
