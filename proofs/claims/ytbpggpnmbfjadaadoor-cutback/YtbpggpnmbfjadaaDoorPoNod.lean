/-
  CONTRACT of the poet's nodes, at any depth, for both truth values of dot.
-/
import Derived.Test.YtbpggpnmbfjadaaDoorPoNodF
import Derived.Test.YtbpggpnmbfjadaaDoorPoNodT
namespace Go.Proofs.YtbpggpnmbfjadaaDoor
theorem nodes_is (d : Int) (n : Nat) (hd : -10 ≤ d ∧ d ≤ 10) (hn : n ≤ 100000) (HQ : 0 < d → QueOk (d - 1) n) : NodOk d (n + 104) := by
  intro w0 w pb dt h
  cases dt
  · exact nodesF_is d n hd hn HQ h
  · exact nodesT_is d n hd hn HQ h
end Go.Proofs.YtbpggpnmbfjadaaDoor
