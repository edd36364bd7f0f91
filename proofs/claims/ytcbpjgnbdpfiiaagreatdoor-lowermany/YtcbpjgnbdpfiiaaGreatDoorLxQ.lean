/-
  THE CONSTRUCTORS of LowerMany: what Lower answers.
-/
import Derived.Test.YtcbpjgnbdpfiiaaGreatDoorLxM
import Derived.Test.YtcbpjgnbdpfiiaaGreatDoorLxN
import Derived.Test.YtcbpjgnbdpfiiaaGreatDoorLxE
set_option linter.unusedVariables false
namespace Go.Proofs.YtcbpjgnbdpfiiaaGreatDoor
set_option maxRecDepth 100000
open Go.RowKit Go.WideShapes

/-- so many text constructors, one within the other -/
def textE : Nat → Ex
  | 0 => exN 1 ⟨2, 2, ⟨#[]⟩⟩ ⟨#[]⟩ ⟨#[]⟩ 0 0 (fun _ => .no)
  | k + 1 => exN 10 ⟨0, 0, ⟨#[]⟩⟩ ⟨#[]⟩ ⟨#[]⟩ 3 1 (fun _ => textE k)
theorem e_make {ph : Ph} {X : Ex} {N : ByteArray → Nat} {p q : Nat} (h : RunE ph N p q X) (hq : q + 1 ≤ 700) : RunE (phN 10 ⟨0, 0, ⟨#[]⟩⟩ ⟨#[]⟩ 3 0 0 ⟨#[]⟩ 1 (fun _ => ph)) N p (q + 1) (exN 10 ⟨0, 0, ⟨#[]⟩⟩ ⟨#[]⟩ ⟨#[]⟩ 3 1 (fun _ => X)) := by
  refine expr_make ?_ (withParts_make h hq)
  intro W lb tb ob sb S pb po u hB hX hP
  obtain ⟨aa, ac, a10, c10, hu, _⟩ := hP.v
  exact alone_make lb pb po ⟨0, 0, ⟨#[]⟩⟩ ⟨#[]⟩ 0 0 ⟨#[]⟩ aa ac _ W (phAt_c (hu ▸ hP.c)) (hP.h pb hP.s).1
theorem e_text : ∀ (k : Nat), k ≤ 600 → RunE (textP k) (fun _ => 0) 0 (k + 1) (textE k)
  | 0, _ => e_lit ⟨2, 2, ⟨#[]⟩⟩ _ 0 (by omega) (by decide) (by decide +kernel) ⟨#[]⟩ 0 0 0 ⟨#[]⟩
  | k + 1, h => e_make (e_text k (by omega)) (by omega)
/-- how many may be -/
def manyC (k : Nat) : Int := if k ≤ 6 then 0 else 1
theorem text_core (k : Nat) (h1 : 1 ≤ k) (h2 : k ≤ 9) : coreF (textE k) = manyC k ∧ nodesX (textE k) ≤ 1048576 := by
  match k, h1, h2 with
  | 1, _, _ => exact ⟨by decide +kernel, by decide +kernel⟩
  | 2, _, _ => exact ⟨by decide +kernel, by decide +kernel⟩
  | 3, _, _ => exact ⟨by decide +kernel, by decide +kernel⟩
  | 4, _, _ => exact ⟨by decide +kernel, by decide +kernel⟩
  | 5, _, _ => exact ⟨by decide +kernel, by decide +kernel⟩
  | 6, _, _ => exact ⟨by decide +kernel, by decide +kernel⟩
  | 7, _, _ => exact ⟨by decide +kernel, by decide +kernel⟩
  | 8, _, _ => exact ⟨by decide +kernel, by decide +kernel⟩
  | 9, _, _ => exact ⟨by decide +kernel, by decide +kernel⟩
theorem text_low (k : Nat) (h1 : 1 ≤ k) (h2 : k ≤ 9) (v : List Value) (w : World) (lo : Nat) (hv : Tre w lo (textP k) v) (hT : Tabs w) :
    Calls Tryz.prog 10 #[.agg v.toArray] w fun e w' => ∃ x, ExV x ∧ e = .returned (.tuple #[x, .int .i64 (manyC k)]) ∧ Below w.heap.size w w' :=
  lower_ok (textP k) v w (Ph.V.keep (fun b q => q.2) (fun _ _ => rfl) hv) hT (e_text k (by omega)) (by omega) (text_core k h1 h2).2 _ (text_core k h1 h2).1
/-- so many loops, one within the other -/
def loopE : Nat → Ex
  | 0 => exN 1 ⟨2, 2, ⟨#[]⟩⟩ ⟨#[]⟩ ⟨#[]⟩ 0 0 (fun _ => .no)
  | k + 1 => exN 5 ⟨0, 0, ⟨#[]⟩⟩ ⟨#[120]⟩ ⟨#[]⟩ 0 2 (fun j => if j = 0 then exN 1 ⟨2, 1, ⟨#[]⟩⟩ ⟨#[]⟩ ⟨#[]⟩ 0 0 (fun _ => .no) else loopE k)
theorem loop_core (k : Nat) (h1 : 1 ≤ k) (h2 : k ≤ 9) : coreF (loopE k) = manyC k ∧ nodesX (loopE k) ≤ 1048576 := by
  match k, h1, h2 with
  | 1, _, _ => exact ⟨by decide +kernel, by decide +kernel⟩
  | 2, _, _ => exact ⟨by decide +kernel, by decide +kernel⟩
  | 3, _, _ => exact ⟨by decide +kernel, by decide +kernel⟩
  | 4, _, _ => exact ⟨by decide +kernel, by decide +kernel⟩
  | 5, _, _ => exact ⟨by decide +kernel, by decide +kernel⟩
  | 6, _, _ => exact ⟨by decide +kernel, by decide +kernel⟩
  | 7, _, _ => exact ⟨by decide +kernel, by decide +kernel⟩
  | 8, _, _ => exact ⟨by decide +kernel, by decide +kernel⟩
  | 9, _, _ => exact ⟨by decide +kernel, by decide +kernel⟩
end Go.Proofs.YtcbpjgnbdpfiiaaGreatDoor
