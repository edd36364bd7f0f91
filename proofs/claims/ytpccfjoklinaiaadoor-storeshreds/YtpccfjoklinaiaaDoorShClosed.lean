/-
  CONTRACT of store.closed; and append to a row of one's own inside a region that draws its order.
-/
import Derived.Test.YtpccfjoklinaiaaDoorShPlain
import Derived.Test.YtpccfjoklinaiaaDoorNdCopied
import Derived.Deep.RegionLaw
import Derived.Laws.OwnMore
set_option linter.unusedVariables false
namespace Go.Proofs.YtpccfjoklinaiaaDoor
open Go.RowKit

/-- append to a row of one's own, as one step of a region that draws -/
theorem step_append_row {P : Program} {ops : Array Oper} {o : Oper} {a : Act} {w : World} {K : Act → World → Prop} {Q : Exit → Act → World → Prop} {X : Prop} (hg : o.guard = none) (s x : Operand) (t : TypeId)
    (ho : o.op = .call { callee := .builtin .append, args := #[s, x], argTypes := #[t, t] })
    (base : Nat) (e : TypeId) (i : TypeInfo) (z : Value) (size bytes : Nat) (ht : P.underlying t = some (.slice e)) (hi : P.info? e = some i) (hz : i.zero = some z)
    (hsize : i.size = size) (hby : i.bytes = bytes) (hzs : z.cells.size = size) (hsz : 0 < size)
    (v : Value) (n : Nat) (xs : List Value) (hs : a.eval s = v) (hown : w.ownsRow base e size v n xs)
    (ad : Addr) (m c : Nat) (news : List Value) (hx : a.eval x = .slice (some ad) m c) (hl : news.length = m * size) (hnews : ∀ j u, news[j]? = some u → w.cell? (ad.add j) = some u) (h1 : ∀ u ∈ news, u.oneCell' = true)
    (h63 : n + m ≤ maxLen) (hbytes : (n + m) * bytes ≤ 140737488355328) (hbase : base ≤ w.heap.size)
    (h : ∀ v' w', w'.ownsRow base e size v' (n + m) (xs ++ news) → w.grownBy w' v.ownBlock → (v' = .slice none 0 0 ↔ v = .slice none 0 0 ∧ m = 0) → K (a.put o.dst v') w') :
    if Region.wanted o (yielded ops a.tmps) = true then Oper.wp P o a w K Q else X := by
  have hw : Region.wanted o (yielded ops a.tmps) = true := by simp [Region.wanted, hg]
  rw [if_pos hw]
  exact wp_append_own w s x t ho base e i z size bytes ht hi hz hsize hby hzs hsz v n xs hs hown ad m c news hx hl hnews h1 h63 hbytes hbase h

set_option maxHeartbeats 800000 in
theorem closed_is (g cap c o base : Nat) (N : Nat → Nd) (w : World) (h : RowIs w base (.slice (some ⟨g, 0, none⟩) c cap) c N) (ho : o < c) (hc : c ≤ 100000) (hcap : c ≤ cap) :
    Calls Tryd.prog 22 #[.slice (some ⟨g, 0, none⟩) c cap, .int .i64 o] w fun e w' => e = .returned (.int .i64 (N o).parent) ∧ RowIs w' base (.slice (some ⟨g, 0, none⟩) c cap) c (upd N o (setSize (N o) ((c : Int) - 1 - (o : Int)))) ∧ Below base w w' := by
  obtain ⟨g', cap', hsl, q1, q2, q3, q4⟩ := h.place (by omega)
  simp only [Value.slice.injEq, Option.some.injEq, Addr.mk.injEq, and_true, true_and] at hsl
  obtain ⟨rfl, rfl⟩ := hsl
  obtain ⟨e1, e2, e3, e4, e5, e6⟩ := q4 o ho
  simp only [Nat.zero_add] at e1 e2 e3 e4 e5 e6
  have fr : w.frozen? ⟨g, o * 6 + 3, none⟩ = false := World.ownsRow.frozenAt h _
  have HST : Hid (RowIs (w.setCell ⟨g, o * 6 + 3, none⟩ (.int .i64 ((c : Int) - 1 - (o : Int)))) base (.slice (some ⟨g, 0, none⟩) c cap) c (upd N o (setSize (N o) ((c : Int) - 1 - (o : Int))))) := (h.stored o ho _).1
  have HBL : Hid (Below base w (w.setCell ⟨g, o * 6 + 3, none⟩ (.int .i64 ((c : Int) - 1 - (o : Int))))) := (Below.refl _ _).grown (h.stored o ho _).2 (by omega) (fun k hk => by simp at hk; omega)
  clear h q4
  go_enter Tryd.func22, Tryd.ntmps22
  go_wp2
  go_ret
  exact ⟨rfl, HST.out, HBL.out⟩

end Go.Proofs.YtpccfjoklinaiaaDoor
