/-
  THE POET's QUERIES, one and two deep.
-/
import Derived.Test.YtbpggpnmbfjadaaDoorPoNod
import Derived.Test.YtbpggpnmbfjadaaDoorPoText
import Derived.Test.YtbpggpnmbfjadaaDoorPoNum
import Derived.Test.YtbpggpnmbfjadaaDoorPoNumD
import Derived.Test.YtbpggpnmbfjadaaDoorPoTru
import Derived.Test.YtbpggpnmbfjadaaDoorPoQue
set_option linter.unusedVariables false
namespace Go.Proofs.YtbpggpnmbfjadaaDoor
open Go.RowKit

theorem NodOk.more {d : Int} {n m : Nat} (H : NodOk d n) (h : n ≤ m) : NodOk d m := fun k => (H k).mono fun e w' ⟨s, k1, k2⟩ => ⟨s, k1.more h, k2⟩
theorem TextOk.more {d : Int} {n m : Nat} (H : TextOk d n) (h : n ≤ m) : TextOk d m := fun k => (H k).mono fun e w' ⟨s, k1, k2⟩ => ⟨s, k1.more h, k2⟩
theorem NumOk.more {d : Int} {n m : Nat} (H : NumOk d n) (h : n ≤ m) : NumOk d m := fun k => (H k).mono fun e w' ⟨s, k1, k2⟩ => ⟨s, k1.more h, k2⟩
theorem TruOk.more {d : Int} {n m : Nat} (H : TruOk d n) (h : n ≤ m) : TruOk d m := fun k => (H k).mono fun e w' ⟨s, k1, k2⟩ => ⟨s, k1.more h, k2⟩
theorem QueOk.more {d : Int} {n m : Nat} (H : QueOk d n) (h : n ≤ m) : QueOk d m := fun k => (H k).mono fun e w' ⟨s, k1, k2⟩ => ⟨s, k1.more h, k2⟩
theorem nod_m : NodOk (0 - 1) 104 := nodes_is (0 - 1) 0 (by omega) (by omega) (fun h => absurd h (by omega))
theorem nod_0 : NodOk (1 - 1) 104 := nodes_is (1 - 1) 0 (by omega) (by omega) (fun h => absurd h (by omega))
theorem txt_m : TextOk (0 - 1) 40 := text_is (0 - 1) 0 (by omega) (by omega) (fun h => absurd h (by omega))
theorem txt_0 : TextOk (1 - 1) 40 := text_is (1 - 1) 0 (by omega) (by omega) (fun h => absurd h (by omega))
theorem num_0 : NumOk (1 - 1) 144 := number0_is 0 104 (by omega) (by omega) nod_m (txt_m.more (by omega))
theorem tru_0 : TruOk (1 - 1) 11 := truth0_is (1 - 1) (by omega)
theorem que_0 : QueOk (1 - 1) 6 := query0_ok
theorem que_1 : QueOk 1 530 := query_is 1 150 (by omega) (by omega) (nod_0.more (by omega)) (txt_0.more (by omega)) (num_0.more (by omega)) (tru_0.more (by omega)) (que_0.more (by omega))
theorem nod_1 : NodOk (2 - 1) 110 := nodes_is 1 6 (by omega) (by omega) (fun _ => que_0)
theorem txt_1 : TextOk (2 - 1) 184 := text_is 1 144 (by omega) (by omega) (fun _ => num_0)
theorem num_1 : NumOk (2 - 1) 340 := number_is 1 150 (by omega) (by omega) (nod_0.more (by omega)) (txt_0.more (by omega)) (fun _ => num_0.more (by omega))
theorem tru_1 : TruOk (2 - 1) 360 := truth_is 1 150 (by omega) (by omega) (nod_0.more (by omega)) (txt_0.more (by omega)) (num_0.more (by omega)) (tru_0.more (by omega))
theorem que_2 : QueOk 2 1670 := query_is 2 530 (by omega) (by omega) (nod_1.more (by omega)) (txt_1.more (by omega)) (num_1.more (by omega)) (tru_1.more (by omega)) (show QueOk (2 - 1) 530 from que_1)
end Go.Proofs.YtbpggpnmbfjadaaDoor
