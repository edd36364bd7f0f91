/-
  THE CLAUSES of LowerClauses.
-/
import Derived.Test.YtkhlfdnlpimojaaDoorLcO
set_option linter.unusedVariables false
namespace Go.Proofs.YtkhlfdnlpimojaaDoor
set_option maxRecDepth 100000
open Go.RowKit Go.WideShapes Go.Shelf
attribute [local go_sem] Oper.semAt_some

/-- the clauses of case 0 -/
def cll0 : Array Value := #[.int .i64 3, .string ⟨#[]⟩, .string ⟨#[]⟩, .bool false, .int .i64 1, .int .i64 2, .int .i64 1, .string ⟨#[]⟩, .string ⟨#[]⟩, .int .i64 0, .int .i64 0, .int .i64 0, .string ⟨#[]⟩, .slice none 0 0, .slice none 0 0, .int .i64 1, .string ⟨#[120]⟩, .string ⟨#[]⟩, .bool false, .int .i64 1, .int .i64 2, .int .i64 1, .string ⟨#[]⟩, .string ⟨#[]⟩, .int .i64 0, .int .i64 0, .int .i64 0, .string ⟨#[]⟩, .slice none 0 0, .slice none 0 0]
/-- the clauses of case 1 -/
def cll1 : Array Value := #[.int .i64 4, .string ⟨#[]⟩, .string ⟨#[]⟩, .bool false, .int .i64 1, .int .i64 2, .int .i64 1, .string ⟨#[]⟩, .string ⟨#[]⟩, .int .i64 0, .int .i64 0, .int .i64 0, .string ⟨#[]⟩, .slice none 0 0, .slice none 0 0]
/-- the clauses of case 2 -/
def cll2 : Array Value := #[.int .i64 1, .string ⟨#[120]⟩, .string ⟨#[]⟩, .bool false, .int .i64 1, .int .i64 2, .int .i64 1, .string ⟨#[]⟩, .string ⟨#[]⟩, .int .i64 0, .int .i64 0, .int .i64 0, .string ⟨#[]⟩, .slice none 0 0, .slice none 0 0, .int .i64 1, .string ⟨#[121]⟩, .string ⟨#[]⟩, .bool false, .int .i64 1, .int .i64 2, .int .i64 1, .string ⟨#[]⟩, .string ⟨#[]⟩, .int .i64 0, .int .i64 0, .int .i64 0, .string ⟨#[]⟩, .slice none 0 0, .slice none 0 0, .int .i64 4, .string ⟨#[]⟩, .string ⟨#[]⟩, .bool false, .int .i64 1, .int .i64 2, .int .i64 1, .string ⟨#[]⟩, .string ⟨#[]⟩, .int .i64 0, .int .i64 0, .int .i64 0, .string ⟨#[]⟩, .slice none 0 0, .slice none 0 0]
/-- the clauses of case 3 -/
def cll3 : Array Value := #[.int .i64 4, .string ⟨#[]⟩, .string ⟨#[]⟩, .bool false, .int .i64 1, .int .i64 2, .int .i64 1, .string ⟨#[]⟩, .string ⟨#[]⟩, .int .i64 0, .int .i64 0, .int .i64 0, .string ⟨#[]⟩, .slice none 0 0, .slice none 0 0, .int .i64 1, .string ⟨#[120]⟩, .string ⟨#[]⟩, .bool false, .int .i64 1, .int .i64 2, .int .i64 1, .string ⟨#[]⟩, .string ⟨#[]⟩, .int .i64 0, .int .i64 0, .int .i64 0, .string ⟨#[]⟩, .slice none 0 0, .slice none 0 0]
/-- the clauses of case 4 -/
def cll4 : Array Value := #[.int .i64 1, .string ⟨#[120]⟩, .string ⟨#[]⟩, .bool false, .int .i64 1, .int .i64 2, .int .i64 1, .string ⟨#[]⟩, .string ⟨#[]⟩, .int .i64 0, .int .i64 0, .int .i64 0, .string ⟨#[]⟩, .slice none 0 0, .slice none 0 0, .int .i64 4, .string ⟨#[]⟩, .string ⟨#[]⟩, .bool false, .int .i64 1, .int .i64 2, .int .i64 1, .string ⟨#[]⟩, .string ⟨#[]⟩, .int .i64 0, .int .i64 0, .int .i64 0, .string ⟨#[]⟩, .slice none 0 0, .slice none 0 0, .int .i64 3, .string ⟨#[]⟩, .string ⟨#[]⟩, .bool false, .int .i64 1, .int .i64 2, .int .i64 1, .string ⟨#[]⟩, .string ⟨#[]⟩, .int .i64 0, .int .i64 0, .int .i64 0, .string ⟨#[]⟩, .slice none 0 0, .slice none 0 0]
/-- the clauses of case 5 -/
def cll5 : Array Value := #[.int .i64 5, .string ⟨#[120]⟩, .string ⟨#[]⟩, .bool false, .int .i64 1, .int .i64 2, .int .i64 1, .string ⟨#[]⟩, .string ⟨#[]⟩, .int .i64 0, .int .i64 0, .int .i64 0, .string ⟨#[]⟩, .slice none 0 0, .slice none 0 0]
/-- the clauses of case 6 -/
def cll6 : Array Value := #[.int .i64 1, .string ⟨#[]⟩, .string ⟨#[]⟩, .bool false, .int .i64 1, .int .i64 2, .int .i64 1, .string ⟨#[]⟩, .string ⟨#[]⟩, .int .i64 0, .int .i64 0, .int .i64 0, .string ⟨#[]⟩, .slice none 0 0, .slice none 0 0]
/-- the clauses of case 7 -/
def cll7 : Array Value := #[.int .i64 1, .string ⟨#[120]⟩, .string ⟨#[120]⟩, .bool false, .int .i64 1, .int .i64 2, .int .i64 1, .string ⟨#[]⟩, .string ⟨#[]⟩, .int .i64 0, .int .i64 0, .int .i64 0, .string ⟨#[]⟩, .slice none 0 0, .slice none 0 0]
/-- the clauses of case 8 -/
def cll8 : Array Value := #[.int .i64 1, .string ⟨#[120]⟩, .string ⟨#[]⟩, .bool false, .int .i64 1, .int .i64 2, .int .i64 1, .string ⟨#[]⟩, .string ⟨#[]⟩, .int .i64 0, .int .i64 0, .int .i64 0, .string ⟨#[]⟩, .slice none 0 0, .slice none 0 0, .int .i64 3, .string ⟨#[]⟩, .string ⟨#[]⟩, .bool false, .int .i64 1, .int .i64 2, .int .i64 1, .string ⟨#[]⟩, .string ⟨#[]⟩, .int .i64 0, .int .i64 0, .int .i64 0, .string ⟨#[]⟩, .slice none 0 0, .slice none 0 0, .int .i64 4, .string ⟨#[]⟩, .string ⟨#[]⟩, .bool false, .int .i64 1, .int .i64 2, .int .i64 1, .string ⟨#[]⟩, .string ⟨#[]⟩, .int .i64 0, .int .i64 0, .int .i64 0, .string ⟨#[]⟩, .slice none 0 0, .slice none 0 0]
theorem blK {w w' : World} {b : Nat} {o : Obj} (hb : Below w.heap.size w w') (h : w.heap[b]? = some o) : w'.heap[b]? = some o := blC hb (Array.getElem?_eq_some_iff.1 h).1 h
theorem blk_ne {w : World} {b c : Nat} {cs ds : Array Value} {T U : TypeId} (hb : w.heap[b]? = some (.cells cs T)) (hc : w.heap[c]? = some (.cells ds U)) (h : U ≠ T) : c ≠ b := by
  rintro rfl
  rw [hb] at hc
  cases hc
  exact h rfl
theorem clAt_of {w : World} {b : Nat} {cs : Array Value} {T : TypeId} (h : w.heap[b]? = some (.cells cs T)) {off : Nat} {k : Int} {nm a : ByteArray} (h0 : cs[off]? = some (.int .i64 k)) (h1 : cs[off + 1]? = some (.string nm)) (h2 : cs[off + 2]? = some (.string a)) (s1 : nm.size ≤ maxLen) (s2 : a.size ≤ maxLen) : ClAt w b off k nm a :=
  ⟨(Lib.cell_of_heap h off).trans h0, (Lib.cell_of_heap h _).trans h1, (Lib.cell_of_heap h _).trans h2, s1, s2⟩
theorem phOf {w : World} {b : Nat} {cs : Array Value} {T : TypeId} (h : w.heap[b]? = some (.cells cs T)) {off : Nat} {k : Int} {it : It} {nm : ByteArray} {n ax tk : Int} {tn : ByteArray} {av cv : Value} (h0 : cs[off]? = some (.int .i64 k)) (h1 : cs[off + 1]? = some (.int .i64 it.kind)) (h2 : cs[off + 2]? = some (.int .i64 it.n)) (h3 : cs[off + 3]? = some (.string it.s)) (h4 : cs[off + 4]? = some (.string nm)) (h5 : cs[off + 5]? = some (.int .i64 n)) (h6 : cs[off + 6]? = some (.int .i64 ax)) (h7 : cs[off + 7]? = some (.int .i64 tk)) (h8 : cs[off + 8]? = some (.string tn)) (h9 : cs[off + 9]? = some av) (h10 : cs[off + 10]? = some cv) : PhAt w b off k it nm n ax tk tn av cv :=
  ⟨(Lib.cell_of_heap h _).trans h0, (Lib.cell_of_heap h _).trans h1, (Lib.cell_of_heap h _).trans h2, (Lib.cell_of_heap h _).trans h3, (Lib.cell_of_heap h _).trans h4, (Lib.cell_of_heap h _).trans h5, (Lib.cell_of_heap h _).trans h6, (Lib.cell_of_heap h _).trans h7, (Lib.cell_of_heap h _).trans h8, (Lib.cell_of_heap h _).trans h9, (Lib.cell_of_heap h _).trans h10⟩
end Go.Proofs.YtkhlfdnlpimojaaDoor
