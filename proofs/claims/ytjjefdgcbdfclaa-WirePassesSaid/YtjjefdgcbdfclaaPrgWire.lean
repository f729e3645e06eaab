/-
  The program's own calls of a net, by contracts. Conditions: none.
-/
import Derived.Test.YtjjefdgcbdfclaaPrgWireI
