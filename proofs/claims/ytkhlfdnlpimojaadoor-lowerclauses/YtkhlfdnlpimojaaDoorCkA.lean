/-
  CONTRACT: what is refused of an expression alone (core.checking's checkAlone): whatever it is.
-/
import Derived.Test.YtkhlfdnlpimojaaDoorCkA1
import Derived.Test.YtkhlfdnlpimojaaDoorCkA4
import Derived.Test.YtkhlfdnlpimojaaDoorCkA8
import Derived.Test.YtkhlfdnlpimojaaDoorCkA9
import Derived.Deep.QuietTactic
import Derived.BigQuiet
import Derived.Deep.RegionLaw
set_option linter.unusedVariables false
namespace Go.Proofs.YtkhlfdnlpimojaaDoor
set_option maxRecDepth 100000
open Go.RowKit Go.WideShapes

theorem checkAlone_is (cb tb sb : Nat) (N : ByteArray → Nat) (l mk p : Nat) (b off : Nat) (k : Int) (it : It) (nm a : ByteArray) (n ax tk : Int) (tn : ByteArray) (sl : Option Addr) (m cap : Nat) (S : List ByteArray) (w : World) (h : CkS w cb tb sb N l mk p) (hN : ∀ x, N x = cntS S x) (hT : Tabs w) (hb : b < w.heap.size)
    (hh : HeadAt w b off k it nm a n ax tk tn (.slice sl m cap)) :
    Calls Tryd.prog 51 #[.pointer (some ⟨cb, 0, none⟩), .pointer (some ⟨b, off, none⟩)] w fun e w' => e = .returned (.int .i64 (aloneF S k it nm a n ax tk m)) ∧ Below w.heap.size w w' := by
  by_cases hc : cntF k m = 0
  · by_cases h1 : k = 1
    · subst h1; exact checkAlone_1 cb tb sb N l mk p b off it nm a n ax tk tn sl m cap S w h hN hT hb hh hc
    by_cases h2 : k = 2
    · subst h2; exact checkAlone_2 cb tb sb N l mk p b off it nm a n ax tk tn sl m cap S w h hN hT hb hh hc
    by_cases h4 : k = 4
    · subst h4; exact checkAlone_4 cb tb sb N l mk p b off it nm a n ax tk tn sl m cap S w h hN hT hb hh hc
    by_cases h5 : k = 5
    · subst h5; exact checkAlone_5 cb tb sb N l mk p b off it nm a n ax tk tn sl m cap S w h hN hT hb hh hc
    by_cases h6 : k = 6
    · subst h6; exact checkAlone_6 cb tb sb N l mk p b off it nm a n ax tk tn sl m cap S w h hN hT hb hh hc
    by_cases h8 : k = 8
    · subst h8; exact checkAlone_8 cb tb sb N l mk p b off it nm a n ax tk tn sl m cap S w h hN hT hb hh hc
    by_cases h9 : k = 9
    · subst h9; exact checkAlone_9 cb tb sb N l mk p b off it nm a n ax tk tn sl m cap S w h hN hT hb hh hc
    by_cases h10 : k = 10
    · subst h10; exact checkAlone_10 cb tb sb N l mk p b off it nm a n ax tk tn sl m cap S w h hN hT hb hh hc
    by_cases h3 : k = 3
    · subst h3; exact checkAlone_3 cb tb sb N l mk p b off it nm a n ax tk tn sl m cap S w h hN hT hb hh hc
    by_cases h7 : k = 7
    · subst h7; exact checkAlone_7 cb tb sb N l mk p b off it nm a n ax tk tn sl m cap S w h hN hT hb hh hc
    by_cases h11 : k = 11
    · subst h11; exact checkAlone_11 cb tb sb N l mk p b off it nm a n ax tk tn sl m cap S w h hN hT hb hh hc
    exfalso
    unfold cntF at hc
    rw [if_neg (by omega), if_neg (by omega), if_neg (by omega), if_neg (by omega), if_neg (by omega)] at hc
    omega
  · exact checkAlone_bad cb tb sb N l mk p b off k it nm a n ax tk tn sl m cap S w h hN hT hb hh hc
end Go.Proofs.YtkhlfdnlpimojaaDoor
