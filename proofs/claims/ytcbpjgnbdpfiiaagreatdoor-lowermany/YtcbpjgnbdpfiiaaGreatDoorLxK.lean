/-
  THE LAW LowerCalls.
-/
import Derived.Test.YtcbpjgnbdpfiiaaGreatDoorLxR
import Derived.Test.YtcbpjgnbdpfiiaaGreatDoorRgIn
import Derived.Test.YtcbpjgnbdpfiiaaGreatDoorShelf2
import Derived.Laws.Concat
set_option linter.unusedVariables false
namespace Go.Proofs.YtcbpjgnbdpfiiaaGreatDoor
set_option maxRecDepth 100000
open Go.RowKit Go.WideShapes

theorem pk_natL {n : Int} {m : Nat} (h : 0 < m) : ∃ i : Nat, pk n m = i ∧ i < m := by
  have := pk_range (n := n) (many := m) (by omega)
  exact ⟨(pk n m).toNat, by omega, by omega⟩
theorem ToksOwn.liesM {w : World} {base : Nat} {v : Value} {L : List Tok} (h : ToksOwn w base v L) (h0 : 0 < L.length) : ∃ b c, v = .slice (some ⟨b, 0, none⟩) L.length c ∧ b < w.heap.size ∧ ToksL w b L := by
  obtain ⟨b, c, rfl, h1, h2, _⟩ := h.at 0 h0
  refine ⟨b, c, rfl, h1, fun k hk => ?_⟩
  obtain ⟨b', c', he, _, _, h3⟩ := h.at k hk
  simp only [Value.slice.injEq, Option.some.injEq, Addr.mk.injEq, true_and, and_true] at he
  obtain ⟨rfl, rfl⟩ := he
  exact h3
/-- a later world -/
structure KB (W0 W : World) : Prop where
  b : Below W0.heap.size W0 W
theorem KB.drew {W0 W : World} (h : KB W0 W) : KB W0 W.drew := ⟨h.b.drew⟩
theorem KB.alloc {W0 W : World} (h : KB W0 W) (o : Obj) : KB W0 (W.alloc o) := ⟨h.b.alloc h.b.size o⟩
theorem KB.go {W0 W W' : World} (h : KB W0 W) (h' : Below W.heap.size W W') : KB W0 W' := ⟨h.b.trans (h'.mono h.b.size)⟩
theorem data_appC (t u : ByteArray) : (t ++ u).data.toList = t.data.toList ++ u.data.toList := by
  rw [ByteArray.data_append, Array.toList_append]
end Go.Proofs.YtcbpjgnbdpfiiaaGreatDoor
