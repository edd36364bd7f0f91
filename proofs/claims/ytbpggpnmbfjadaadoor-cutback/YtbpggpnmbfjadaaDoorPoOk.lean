/-
  WHAT THE POET's TEXTS ARE PUT TOGETHER OF, PLAINLY: each piece is cut into whole tokens.
-/
import Derived.Test.YtbpggpnmbfjadaaDoorPoEat
import Derived.Lib.ValidLaws
set_option linter.unusedVariables false
namespace Go.Proofs.YtbpggpnmbfjadaaDoor
set_option maxRecDepth 100000
open Go.RowKit

/-- what may stand behind a text of the poet's: a blank, a parenthesis, a comma, a bracket, a slash -/
def Fol (c : UInt8) : Prop := c = 32 ∨ c = 41 ∨ c = 44 ∨ c = 93 ∨ c = 47
/-- a piece that is cut whole, whatever follows -/
def Pc (X : List UInt8) : Prop := ∀ R, Eats X R X.length
/-- a text that is cut whole if one of the five follows -/
def Mid (X : List UInt8) : Prop := ∀ c R, Fol c → Eats X (c :: R) X.length
theorem Pc.mid {X : List UInt8} (h : Pc X) : Mid X := fun c R _ => h (c :: R)
theorem Pc.app {X Y : List UInt8} (h : Pc X) (h' : Pc Y) : Pc (X ++ Y) := fun R => by
  rw [List.length_append]
  exact (h (Y ++ R)).append (h' R)
theorem Pc.on {X Y : List UInt8} (h : Pc X) (h' : Mid Y) : Mid (X ++ Y) := fun c R hc => by
  rw [List.length_append]
  exact (h (Y ++ c :: R)).append (h' c R hc)
/-- what begins with one of the five -/
def Beg (X : List UInt8) : Prop := ∃ c S, X = c :: S ∧ Fol c
theorem Mid.app {X Y : List UInt8} (h : Mid X) (hb : Beg Y) (h' : Pc Y) : Pc (X ++ Y) := fun R => by
  obtain ⟨c, S, rfl, hc⟩ := hb
  rw [List.length_append]
  exact (h c (S ++ R) hc).append (h' R)
theorem Mid.on {X Y : List UInt8} (h : Mid X) (hb : Beg Y) (h' : Mid Y) : Mid (X ++ Y) := fun c R hc => by
  obtain ⟨d, S, rfl, hd⟩ := hb
  rw [List.length_append]
  exact (h d (S ++ c :: R) hd).append (h' c R hc)
theorem Beg.app {X : List UInt8} (h : Beg X) (Y : List UInt8) : Beg (X ++ Y) := by
  obtain ⟨c, S, rfl, hc⟩ := h
  exact ⟨c, S ++ Y, rfl, hc⟩
/-- count( -/
theorem pc0 : Pc [99, 111, 117, 110, 116, 40] := fun R => Eat.eats (m := 2) ⟨60, by kernel_rfl⟩ (by decide)
/-- ) -/
theorem pc1 : Pc [41] := fun R => Eat.eats (m := 1) ⟨60, by kernel_rfl⟩ (by decide)
theorem beg1 : Beg [41] := ⟨41, _, rfl, by unfold Fol; decide⟩
/-- string-length( -/
theorem pc2 : Pc [115, 116, 114, 105, 110, 103, 45, 108, 101, 110, 103, 116, 104, 40] := fun R => Eat.eats (m := 2) ⟨60, by kernel_rfl⟩ (by decide)
/-- ( -/
theorem pc3 : Pc [40] := fun R => Eat.eats (m := 1) ⟨60, by kernel_rfl⟩ (by decide)
/-- sum(( -/
theorem pc4 : Pc [115, 117, 109, 40, 40] := fun R => Eat.eats (m := 3) ⟨60, by kernel_rfl⟩ (by decide)
/-- ,  -/
theorem pc5 : Pc [44, 32] := fun R => Eat.eats (m := 1) ⟨60, by kernel_rfl⟩ (by decide)
theorem beg5 : Beg [44, 32] := ⟨44, _, rfl, by unfold Fol; decide⟩
/-- )) -/
theorem pc6 : Pc [41, 41] := fun R => Eat.eats (m := 2) ⟨60, by kernel_rfl⟩ (by decide)
theorem beg6 : Beg [41, 41] := ⟨41, _, rfl, by unfold Fol; decide⟩
/-- concat(string(/r),  -/
theorem pc7 : Pc [99, 111, 110, 99, 97, 116, 40, 115, 116, 114, 105, 110, 103, 40, 47, 114, 41, 44, 32] := fun R => Eat.eats (m := 8) ⟨60, by kernel_rfl⟩ (by decide)
/-- name(.) -/
theorem pc8 : Pc [110, 97, 109, 101, 40, 46, 41] := fun R => Eat.eats (m := 4) ⟨60, by kernel_rfl⟩ (by decide)
/-- substring( -/
theorem pc9 : Pc [115, 117, 98, 115, 116, 114, 105, 110, 103, 40] := fun R => Eat.eats (m := 2) ⟨60, by kernel_rfl⟩ (by decide)
/-- string( -/
theorem pc10 : Pc [115, 116, 114, 105, 110, 103, 40] := fun R => Eat.eats (m := 2) ⟨60, by kernel_rfl⟩ (by decide)
/-- true() -/
theorem pc11 : Pc [116, 114, 117, 101, 40, 41] := fun R => Eat.eats (m := 3) ⟨60, by kernel_rfl⟩ (by decide)
/-- false() -/
theorem pc12 : Pc [102, 97, 108, 115, 101, 40, 41] := fun R => Eat.eats (m := 3) ⟨60, by kernel_rfl⟩ (by decide)
/-- exists(//a) -/
theorem pc13 : Pc [101, 120, 105, 115, 116, 115, 40, 47, 47, 97, 41] := fun R => Eat.eats (m := 5) ⟨60, by kernel_rfl⟩ (by decide)
/--  =  -/
theorem pc14 : Pc [32, 61, 32] := fun R => Eat.eats (m := 1) ⟨60, by kernel_rfl⟩ (by decide)
theorem beg14 : Beg [32, 61, 32] := ⟨32, _, rfl, by unfold Fol; decide⟩
/-- empty( -/
theorem pc15 : Pc [101, 109, 112, 116, 121, 40] := fun R => Eat.eats (m := 2) ⟨60, by kernel_rfl⟩ (by decide)
/-- not( -/
theorem pc16 : Pc [110, 111, 116, 40] := fun R => Eat.eats (m := 2) ⟨60, by kernel_rfl⟩ (by decide)
/-- ) and  -/
theorem pc17 : Pc [41, 32, 97, 110, 100, 32] := fun R => Eat.eats (m := 2) ⟨60, by kernel_rfl⟩ (by decide)
theorem beg17 : Beg [41, 32, 97, 110, 100, 32] := ⟨41, _, rfl, by unfold Fol; decide⟩
/-- (some $q in  -/
theorem pc18 : Pc [40, 115, 111, 109, 101, 32, 36, 113, 32, 105, 110, 32] := fun R => Eat.eats (m := 4) ⟨60, by kernel_rfl⟩ (by decide)
/--  satisfies $q =  -/
theorem pc19 : Pc [32, 115, 97, 116, 105, 115, 102, 105, 101, 115, 32, 36, 113, 32, 61, 32] := fun R => Eat.eats (m := 3) ⟨60, by kernel_rfl⟩ (by decide)
theorem beg19 : Beg [32, 115, 97, 116, 105, 115, 102, 105, 101, 115, 32, 36, 113, 32, 61, 32] := ⟨32, _, rfl, by unfold Fol; decide⟩
/-- contains( -/
theorem pc20 : Pc [99, 111, 110, 116, 97, 105, 110, 115, 40] := fun R => Eat.eats (m := 2) ⟨60, by kernel_rfl⟩ (by decide)
/-- ) or  -/
theorem pc21 : Pc [41, 32, 111, 114, 32] := fun R => Eat.eats (m := 2) ⟨60, by kernel_rfl⟩ (by decide)
theorem beg21 : Beg [41, 32, 111, 114, 32] := ⟨41, _, rfl, by unfold Fol; decide⟩
/-- (every $q in  -/
theorem pc22 : Pc [40, 101, 118, 101, 114, 121, 32, 36, 113, 32, 105, 110, 32] := fun R => Eat.eats (m := 4) ⟨60, by kernel_rfl⟩ (by decide)
/--  satisfies exists($q/..)) -/
theorem pc23 : Pc [32, 115, 97, 116, 105, 115, 102, 105, 101, 115, 32, 101, 120, 105, 115, 116, 115, 40, 36, 113, 47, 46, 46, 41, 41] := fun R => Eat.eats (m := 8) ⟨60, by kernel_rfl⟩ (by decide)
theorem beg23 : Beg [32, 115, 97, 116, 105, 115, 102, 105, 101, 115, 32, 101, 120, 105, 115, 116, 115, 40, 36, 113, 47, 46, 46, 41, 41] := ⟨32, _, rfl, by unfold Fol; decide⟩
/-- () -/
theorem pc24 : Pc [40, 41] := fun R => Eat.eats (m := 2) ⟨60, by kernel_rfl⟩ (by decide)
/-- "x" -/
theorem pc25 : Pc [34, 120, 34] := fun R => Eat.eats (m := 1) ⟨60, by kernel_rfl⟩ (by decide)
/-- (if ( -/
theorem pc26 : Pc [40, 105, 102, 32, 40] := fun R => Eat.eats (m := 3) ⟨60, by kernel_rfl⟩ (by decide)
/-- ) then  -/
theorem pc27 : Pc [41, 32, 116, 104, 101, 110, 32] := fun R => Eat.eats (m := 2) ⟨60, by kernel_rfl⟩ (by decide)
theorem beg27 : Beg [41, 32, 116, 104, 101, 110, 32] := ⟨41, _, rfl, by unfold Fol; decide⟩
/--  else  -/
theorem pc28 : Pc [32, 101, 108, 115, 101, 32] := fun R => Eat.eats (m := 1) ⟨60, by kernel_rfl⟩ (by decide)
theorem beg28 : Beg [32, 101, 108, 115, 101, 32] := ⟨32, _, rfl, by unfold Fol; decide⟩
/-- (for $v in  -/
theorem pc29 : Pc [40, 102, 111, 114, 32, 36, 118, 32, 105, 110, 32] := fun R => Eat.eats (m := 4) ⟨60, by kernel_rfl⟩ (by decide)
/--  return ($v,  -/
theorem pc30 : Pc [32, 114, 101, 116, 117, 114, 110, 32, 40, 36, 118, 44, 32] := fun R => Eat.eats (m := 4) ⟨60, by kernel_rfl⟩ (by decide)
theorem beg30 : Beg [32, 114, 101, 116, 117, 114, 110, 32, 40, 36, 118, 44, 32] := ⟨32, _, rfl, by unfold Fol; decide⟩
/-- (for $v at $i in  -/
theorem pc31 : Pc [40, 102, 111, 114, 32, 36, 118, 32, 97, 116, 32, 36, 105, 32, 105, 110, 32] := fun R => Eat.eats (m := 6) ⟨60, by kernel_rfl⟩ (by decide)
/--  where $i < 3 order by $i return ($i, $v)) -/
theorem pc32 : Pc [32, 119, 104, 101, 114, 101, 32, 36, 105, 32, 60, 32, 51, 32, 111, 114, 100, 101, 114, 32, 98, 121, 32, 36, 105, 32, 114, 101, 116, 117, 114, 110, 32, 40, 36, 105, 44, 32, 36, 118, 41, 41] := fun R => Eat.eats (m := 14) ⟨60, by kernel_rfl⟩ (by decide)
theorem beg32 : Beg [32, 119, 104, 101, 114, 101, 32, 36, 105, 32, 60, 32, 51, 32, 111, 114, 100, 101, 114, 32, 98, 121, 32, 36, 105, 32, 114, 101, 116, 117, 114, 110, 32, 40, 36, 105, 44, 32, 36, 118, 41, 41] := ⟨32, _, rfl, by unfold Fol; decide⟩
/--  where $i < 3 order by $i descending return ($i, $v)) -/
theorem pc33 : Pc [32, 119, 104, 101, 114, 101, 32, 36, 105, 32, 60, 32, 51, 32, 111, 114, 100, 101, 114, 32, 98, 121, 32, 36, 105, 32, 100, 101, 115, 99, 101, 110, 100, 105, 110, 103, 32, 114, 101, 116, 117, 114, 110, 32, 40, 36, 105, 44, 32, 36, 118, 41, 41] := fun R => Eat.eats (m := 15) ⟨60, by kernel_rfl⟩ (by decide)
theorem beg33 : Beg [32, 119, 104, 101, 114, 101, 32, 36, 105, 32, 60, 32, 51, 32, 111, 114, 100, 101, 114, 32, 98, 121, 32, 36, 105, 32, 100, 101, 115, 99, 101, 110, 100, 105, 110, 103, 32, 114, 101, 116, 117, 114, 110, 32, 40, 36, 105, 44, 32, 36, 118, 41, 41] := ⟨32, _, rfl, by unfold Fol; decide⟩
/-- (let $w :=  -/
theorem pc34 : Pc [40, 108, 101, 116, 32, 36, 119, 32, 58, 61, 32] := fun R => Eat.eats (m := 4) ⟨60, by kernel_rfl⟩ (by decide)
/--  return (count($w), $w)) -/
theorem pc35 : Pc [32, 114, 101, 116, 117, 114, 110, 32, 40, 99, 111, 117, 110, 116, 40, 36, 119, 41, 44, 32, 36, 119, 41, 41] := fun R => Eat.eats (m := 10) ⟨60, by kernel_rfl⟩ (by decide)
theorem beg35 : Beg [32, 114, 101, 116, 117, 114, 110, 32, 40, 99, 111, 117, 110, 116, 40, 36, 119, 41, 44, 32, 36, 119, 41, 41] := ⟨32, _, rfl, by unfold Fol; decide⟩
/-- element e { attribute k {  -/
theorem pc36 : Pc [101, 108, 101, 109, 101, 110, 116, 32, 101, 32, 123, 32, 97, 116, 116, 114, 105, 98, 117, 116, 101, 32, 107, 32, 123, 32] := fun R => Eat.eats (m := 6) ⟨60, by kernel_rfl⟩ (by decide)
/--  },  -/
theorem pc37 : Pc [32, 125, 44, 32] := fun R => Eat.eats (m := 2) ⟨60, by kernel_rfl⟩ (by decide)
theorem beg37 : Beg [32, 125, 44, 32] := ⟨32, _, rfl, by unfold Fol; decide⟩
/--  } -/
theorem pc38 : Pc [32, 125] := fun R => Eat.eats (m := 1) ⟨60, by kernel_rfl⟩ (by decide)
theorem beg38 : Beg [32, 125] := ⟨32, _, rfl, by unfold Fol; decide⟩
/-- reverse(( -/
theorem pc39 : Pc [114, 101, 118, 101, 114, 115, 101, 40, 40] := fun R => Eat.eats (m := 3) ⟨60, by kernel_rfl⟩ (by decide)
/-- distinct-values(( -/
theorem pc40 : Pc [100, 105, 115, 116, 105, 110, 99, 116, 45, 118, 97, 108, 117, 101, 115, 40, 40] := fun R => Eat.eats (m := 3) ⟨60, by kernel_rfl⟩ (by decide)
/-- data(( -/
theorem pc41 : Pc [100, 97, 116, 97, 40, 40] := fun R => Eat.eats (m := 3) ⟨60, by kernel_rfl⟩ (by decide)
/-- , 1 to  -/
theorem pc42 : Pc [44, 32, 49, 32, 116, 111, 32] := fun R => Eat.eats (m := 3) ⟨60, by kernel_rfl⟩ (by decide)
theorem beg42 : Beg [44, 32, 49, 32, 116, 111, 32] := ⟨44, _, rfl, by unfold Fol; decide⟩
/-- text {  -/
theorem pc43 : Pc [116, 101, 120, 116, 32, 123, 32] := fun R => Eat.eats (m := 2) ⟨60, by kernel_rfl⟩ (by decide)
/--  }/.. -/
theorem pc44 : Pc [32, 125, 47, 46, 46] := fun R => Eat.eats (m := 3) ⟨60, by kernel_rfl⟩ (by decide)
theorem beg44 : Beg [32, 125, 47, 46, 46] := ⟨32, _, rfl, by unfold Fol; decide⟩
/-- )[ -/
theorem pc45 : Pc [41, 91] := fun R => Eat.eats (m := 2) ⟨60, by kernel_rfl⟩ (by decide)
theorem beg45 : Beg [41, 91] := ⟨41, _, rfl, by unfold Fol; decide⟩
/-- ] -/
theorem pc46 : Pc [93] := fun R => Eat.eats (m := 1) ⟨60, by kernel_rfl⟩ (by decide)
theorem beg46 : Beg [93] := ⟨93, _, rfl, by unfold Fol; decide⟩
/--  +  -/
theorem pc47 : Pc [32, 43, 32] := fun R => Eat.eats (m := 1) ⟨60, by kernel_rfl⟩ (by decide)
theorem beg47 : Beg [32, 43, 32] := ⟨32, _, rfl, by unfold Fol; decide⟩
/--  -  -/
theorem pc48 : Pc [32, 45, 32] := fun R => Eat.eats (m := 1) ⟨60, by kernel_rfl⟩ (by decide)
theorem beg48 : Beg [32, 45, 32] := ⟨32, _, rfl, by unfold Fol; decide⟩
/--  *  -/
theorem pc49 : Pc [32, 42, 32] := fun R => Eat.eats (m := 1) ⟨60, by kernel_rfl⟩ (by decide)
theorem beg49 : Beg [32, 42, 32] := ⟨32, _, rfl, by unfold Fol; decide⟩
/--  div  -/
theorem pc50 : Pc [32, 100, 105, 118, 32] := fun R => Eat.eats (m := 1) ⟨60, by kernel_rfl⟩ (by decide)
theorem beg50 : Beg [32, 100, 105, 118, 32] := ⟨32, _, rfl, by unfold Fol; decide⟩
/--  mod  -/
theorem pc51 : Pc [32, 109, 111, 100, 32] := fun R => Eat.eats (m := 1) ⟨60, by kernel_rfl⟩ (by decide)
theorem beg51 : Beg [32, 109, 111, 100, 32] := ⟨32, _, rfl, by unfold Fol; decide⟩
/--  <  -/
theorem pc52 : Pc [32, 60, 32] := fun R => Eat.eats (m := 1) ⟨60, by kernel_rfl⟩ (by decide)
theorem beg52 : Beg [32, 60, 32] := ⟨32, _, rfl, by unfold Fol; decide⟩
/--  <=  -/
theorem pc53 : Pc [32, 60, 61, 32] := fun R => Eat.eats (m := 1) ⟨60, by kernel_rfl⟩ (by decide)
theorem beg53 : Beg [32, 60, 61, 32] := ⟨32, _, rfl, by unfold Fol; decide⟩
/--  >  -/
theorem pc54 : Pc [32, 62, 32] := fun R => Eat.eats (m := 1) ⟨60, by kernel_rfl⟩ (by decide)
theorem beg54 : Beg [32, 62, 32] := ⟨32, _, rfl, by unfold Fol; decide⟩
/--  >=  -/
theorem pc55 : Pc [32, 62, 61, 32] := fun R => Eat.eats (m := 1) ⟨60, by kernel_rfl⟩ (by decide)
theorem beg55 : Beg [32, 62, 61, 32] := ⟨32, _, rfl, by unfold Fol; decide⟩
/--  !=  -/
theorem pc56 : Pc [32, 33, 61, 32] := fun R => Eat.eats (m := 1) ⟨60, by kernel_rfl⟩ (by decide)
theorem beg56 : Beg [32, 33, 61, 32] := ⟨32, _, rfl, by unfold Fol; decide⟩
/-- position() -/
theorem pc57 : Pc [112, 111, 115, 105, 116, 105, 111, 110, 40, 41] := fun R => Eat.eats (m := 3) ⟨60, by kernel_rfl⟩ (by decide)
/-- last() -/
theorem pc58 : Pc [108, 97, 115, 116, 40, 41] := fun R => Eat.eats (m := 3) ⟨60, by kernel_rfl⟩ (by decide)
/--  union //*) -/
theorem pc59 : Pc [32, 117, 110, 105, 111, 110, 32, 47, 47, 42, 41] := fun R => Eat.eats (m := 4) ⟨60, by kernel_rfl⟩ (by decide)
theorem beg59 : Beg [32, 117, 110, 105, 111, 110, 32, 47, 47, 42, 41] := ⟨32, _, rfl, by unfold Fol; decide⟩
/--  intersect //*) -/
theorem pc60 : Pc [32, 105, 110, 116, 101, 114, 115, 101, 99, 116, 32, 47, 47, 42, 41] := fun R => Eat.eats (m := 4) ⟨60, by kernel_rfl⟩ (by decide)
theorem beg60 : Beg [32, 105, 110, 116, 101, 114, 115, 101, 99, 116, 32, 47, 47, 42, 41] := ⟨32, _, rfl, by unfold Fol; decide⟩
/--  except //*) -/
theorem pc61 : Pc [32, 101, 120, 99, 101, 112, 116, 32, 47, 47, 42, 41] := fun R => Eat.eats (m := 4) ⟨60, by kernel_rfl⟩ (by decide)
theorem beg61 : Beg [32, 101, 120, 99, 101, 112, 116, 32, 47, 47, 42, 41] := ⟨32, _, rfl, by unfold Fol; decide⟩
/-- 1 -/
theorem mid0 : Mid [49] := fun c R hc => by
  rcases hc with rfl | rfl | rfl | rfl | rfl <;> exact Eat.eats (m := 1) ⟨60, by kernel_rfl⟩ (by decide)
/-- //a -/
theorem mid1 : Mid [47, 47, 97] := fun c R hc => by
  rcases hc with rfl | rfl | rfl | rfl | rfl <;> exact Eat.eats (m := 2) ⟨60, by kernel_rfl⟩ (by decide)
/-- -3 -/
theorem mid2 : Mid [45, 51] := fun c R hc => by
  rcases hc with rfl | rfl | rfl | rfl | rfl <;> exact Eat.eats (m := 2) ⟨60, by kernel_rfl⟩ (by decide)
/-- 1 < 2 -/
theorem mid3 : Mid [49, 32, 60, 32, 50] := fun c R hc => by
  rcases hc with rfl | rfl | rfl | rfl | rfl <;> exact Eat.eats (m := 3) ⟨60, by kernel_rfl⟩ (by decide)
/-- . -/
theorem mid4 : Mid [46] := fun c R hc => by
  rcases hc with rfl | rfl | rfl | rfl | rfl <;> exact Eat.eats (m := 1) ⟨60, by kernel_rfl⟩ (by decide)
/-- /r -/
theorem mid5 : Mid [47, 114] := fun c R hc => by
  rcases hc with rfl | rfl | rfl | rfl | rfl <;> exact Eat.eats (m := 2) ⟨60, by kernel_rfl⟩ (by decide)
/-- //* -/
theorem mid6 : Mid [47, 47, 42] := fun c R hc => by
  rcases hc with rfl | rfl | rfl | rfl | rfl <;> exact Eat.eats (m := 2) ⟨60, by kernel_rfl⟩ (by decide)
/-- /r/* -/
theorem mid7 : Mid [47, 114, 47, 42] := fun c R hc => by
  rcases hc with rfl | rfl | rfl | rfl | rfl <;> exact Eat.eats (m := 4) ⟨60, by kernel_rfl⟩ (by decide)
/-- //@k -/
theorem mid8 : Mid [47, 47, 64, 107] := fun c R hc => by
  rcases hc with rfl | rfl | rfl | rfl | rfl <;> exact Eat.eats (m := 3) ⟨60, by kernel_rfl⟩ (by decide)
/-- //text() -/
theorem mid9 : Mid [47, 47, 116, 101, 120, 116, 40, 41] := fun c R hc => by
  rcases hc with rfl | rfl | rfl | rfl | rfl <;> exact Eat.eats (m := 4) ⟨60, by kernel_rfl⟩ (by decide)
theorem stp0 : Mid [97] := fun c R hc => by
  rcases hc with rfl | rfl | rfl | rfl | rfl <;> exact Eat.eats (m := 1) ⟨60, by kernel_rfl⟩ (by decide)
theorem stp1 : Mid [98] := fun c R hc => by
  rcases hc with rfl | rfl | rfl | rfl | rfl <;> exact Eat.eats (m := 1) ⟨60, by kernel_rfl⟩ (by decide)
theorem stp2 : Mid [42] := fun c R hc => by
  rcases hc with rfl | rfl | rfl | rfl | rfl <;> exact Eat.eats (m := 1) ⟨60, by kernel_rfl⟩ (by decide)
theorem stp3 : Mid [64, 107] := fun c R hc => by
  rcases hc with rfl | rfl | rfl | rfl | rfl <;> exact Eat.eats (m := 2) ⟨60, by kernel_rfl⟩ (by decide)
theorem stp4 : Mid [64, 109] := fun c R hc => by
  rcases hc with rfl | rfl | rfl | rfl | rfl <;> exact Eat.eats (m := 2) ⟨60, by kernel_rfl⟩ (by decide)
theorem stp5 : Mid [46, 46] := fun c R hc => by
  rcases hc with rfl | rfl | rfl | rfl | rfl <;> exact Eat.eats (m := 1) ⟨60, by kernel_rfl⟩ (by decide)
theorem stp6 : Mid [116, 101, 120, 116, 40, 41] := fun c R hc => by
  rcases hc with rfl | rfl | rfl | rfl | rfl <;> exact Eat.eats (m := 3) ⟨60, by kernel_rfl⟩ (by decide)
theorem stp7 : Mid [110, 111, 100, 101, 40, 41] := fun c R hc => by
  rcases hc with rfl | rfl | rfl | rfl | rfl <;> exact Eat.eats (m := 3) ⟨60, by kernel_rfl⟩ (by decide)
theorem stp8 : Mid [100, 101, 115, 99, 101, 110, 100, 97, 110, 116, 58, 58, 97] := fun c R hc => by
  rcases hc with rfl | rfl | rfl | rfl | rfl <;> exact Eat.eats (m := 3) ⟨60, by kernel_rfl⟩ (by decide)
theorem stp9 : Mid [97, 110, 99, 101, 115, 116, 111, 114, 58, 58, 42] := fun c R hc => by
  rcases hc with rfl | rfl | rfl | rfl | rfl <;> exact Eat.eats (m := 3) ⟨60, by kernel_rfl⟩ (by decide)
theorem stp10 : Mid [102, 111, 108, 108, 111, 119, 105, 110, 103, 58, 58, 98] := fun c R hc => by
  rcases hc with rfl | rfl | rfl | rfl | rfl <;> exact Eat.eats (m := 3) ⟨60, by kernel_rfl⟩ (by decide)
theorem stp11 : Mid [112, 114, 101, 99, 101, 100, 105, 110, 103, 58, 58, 42] := fun c R hc => by
  rcases hc with rfl | rfl | rfl | rfl | rfl <;> exact Eat.eats (m := 3) ⟨60, by kernel_rfl⟩ (by decide)
theorem stp12 : Mid [102, 111, 108, 108, 111, 119, 105, 110, 103, 45, 115, 105, 98, 108, 105, 110, 103, 58, 58, 42] := fun c R hc => by
  rcases hc with rfl | rfl | rfl | rfl | rfl <;> exact Eat.eats (m := 3) ⟨60, by kernel_rfl⟩ (by decide)
theorem stp13 : Mid [112, 114, 101, 99, 101, 100, 105, 110, 103, 45, 115, 105, 98, 108, 105, 110, 103, 58, 58, 110, 111, 100, 101, 40, 41] := fun c R hc => by
  rcases hc with rfl | rfl | rfl | rfl | rfl <;> exact Eat.eats (m := 5) ⟨60, by kernel_rfl⟩ (by decide)
theorem stp14 : Mid [115, 101, 108, 102, 58, 58, 99] := fun c R hc => by
  rcases hc with rfl | rfl | rfl | rfl | rfl <;> exact Eat.eats (m := 3) ⟨60, by kernel_rfl⟩ (by decide)
theorem stp15 : Mid [100, 101, 115, 99, 101, 110, 100, 97, 110, 116, 45, 111, 114, 45, 115, 101, 108, 102, 58, 58, 110, 111, 100, 101, 40, 41] := fun c R hc => by
  rcases hc with rfl | rfl | rfl | rfl | rfl <;> exact Eat.eats (m := 5) ⟨60, by kernel_rfl⟩ (by decide)
theorem stp16 : Mid [99, 111, 109, 109, 101, 110, 116, 40, 41] := fun c R hc => by
  rcases hc with rfl | rfl | rfl | rfl | rfl <;> exact Eat.eats (m := 3) ⟨60, by kernel_rfl⟩ (by decide)
theorem stp17 : Mid [99] := fun c R hc => by
  rcases hc with rfl | rfl | rfl | rfl | rfl <;> exact Eat.eats (m := 1) ⟨60, by kernel_rfl⟩ (by decide)
theorem mid_step {i : Nat} (hi : i < 18) : Mid (stepL.getD i []) := by
  have h : i = 0 ∨ i = 1 ∨ i = 2 ∨ i = 3 ∨ i = 4 ∨ i = 5 ∨ i = 6 ∨ i = 7 ∨ i = 8 ∨ i = 9 ∨ i = 10 ∨ i = 11 ∨ i = 12 ∨ i = 13 ∨ i = 14 ∨ i = 15 ∨ i = 16 ∨ i = 17 := by omega
  rcases h with rfl | rfl | rfl | rfl | rfl | rfl | rfl | rfl | rfl | rfl | rfl | rfl | rfl | rfl | rfl | rfl | rfl | rfl
  · exact stp0
  · exact stp1
  · exact stp2
  · exact stp3
  · exact stp4
  · exact stp5
  · exact stp6
  · exact stp7
  · exact stp8
  · exact stp9
  · exact stp10
  · exact stp11
  · exact stp12
  · exact stp13
  · exact stp14
  · exact stp15
  · exact stp16
  · exact stp17
theorem mid_base {i : Nat} (hi : i < 6) : Mid (baseL.getD i []) := by
  have h : i = 0 ∨ i = 1 ∨ i = 2 ∨ i = 3 ∨ i = 4 ∨ i = 5 := by omega
  rcases h with rfl | rfl | rfl | rfl | rfl | rfl
  · exact mid5
  · exact mid1
  · exact mid6
  · exact mid7
  · exact mid8
  · exact mid9
theorem mid_q0 {i : Nat} (hi : i < 5) : Mid (q0L.getD i []) := by
  have h : i = 0 ∨ i = 1 ∨ i = 2 ∨ i = 3 ∨ i = 4 := by omega
  rcases h with rfl | rfl | rfl | rfl | rfl
  · exact mid0
  · exact mid1
  · exact pc25.mid
  · exact pc11.mid
  · exact pc24.mid
def numL : List (List UInt8) := [[48], [49], [50], [51], [52], [53], [54], [55], [56], [57], [49, 48], [49, 49], [49, 50], [49, 51], [49, 52], [49, 53], [49, 54], [49, 55], [49, 56], [49, 57]]
theorem mid_num {i : Nat} (hi : i < 20) : Mid (numL.getD i []) := by
  have h : i = 0 ∨ i = 1 ∨ i = 2 ∨ i = 3 ∨ i = 4 ∨ i = 5 ∨ i = 6 ∨ i = 7 ∨ i = 8 ∨ i = 9 ∨ i = 10 ∨ i = 11 ∨ i = 12 ∨ i = 13 ∨ i = 14 ∨ i = 15 ∨ i = 16 ∨ i = 17 ∨ i = 18 ∨ i = 19 := by omega
  intro c R hc
  rcases hc with rfl | rfl | rfl | rfl | rfl <;> rcases h with rfl | rfl | rfl | rfl | rfl | rfl | rfl | rfl | rfl | rfl | rfl | rfl | rfl | rfl | rfl | rfl | rfl | rfl | rfl | rfl <;> exact Eat.eats (m := 1) ⟨60, by kernel_rfl⟩ (by decide)
/-- between two steps stands what is followed by a step -/
theorem sep_step {X : List UInt8} {i j : Nat} (h : Mid X) (hj : j < 2) (hi : i < 18) : Mid (X ++ (sepL.getD j [] ++ stepL.getD i [])) := by
  refine h.on ?_ ?_
  · obtain ⟨S, hS⟩ := sep_first hj
    rw [hS]
    exact ⟨47, _, rfl, by unfold Fol; decide⟩
  · intro c R hc
    rw [List.length_append]
    refine Eats.append ?_ (mid_step hi c R hc)
    exact (sep_eat (c :: R) j hj i hi _ rfl).eats (by have : j = 0 ∨ j = 1 := by omega
                                                      rcases this with rfl | rfl <;> decide)
/-- letters of a plain text -/
def Let (X : List UInt8) : Prop := ∀ b ∈ X, 97 ≤ b.toNat ∧ b.toNat ≤ 101
theorem let_ql : ∀ (X R : List UInt8), Let X → ql (X ++ 34 :: R) = X.length
  | [], R, _ => by simp [ql]
  | b :: X, R, h => by
    have h1 := h b (by simp)
    have hne : ¬ b = 34 := by rintro rfl; simp at h1
    rw [List.cons_append, ql, if_neg hne, let_ql X R (fun c hc => h c (by simp [hc]))]
    simp
theorem let_valid : ∀ X : List UInt8, Let X → Lib.validD X = true
  | [], _ => rfl
  | b :: X, h => by
    have h1 := h b (by simp)
    rw [Lib.validD_cons b X (by omega)]
    exact let_valid X (fun c hc => h c (by simp [hc]))
theorem let_text {X : List UInt8} (h : Let X) (hl : X.length ≤ 100) : textF (bs X) = 0 := by
  refine textF_ok (by rw [bs_size]; omega) (by rw [bs_list]; exact let_valid X h) ?_
  unfold ctlTo
  rw [List.all_eq_true]
  intro j hj
  rw [List.mem_range, bs_size] at hj
  unfold ctl
  refine decide_eq_true (.inl ?_)
  have hb := h (X[j]) (List.getElem_mem hj)
  have e : byteAt (bs X) j = ((X[j]).toNat : Int) := by
    unfold byteAt bs
    simp [hj]
  rw [e]
  omega
/-- a plain text in quotes -/
theorem pc_quoted {X : List UInt8} (h : Let X) (hl : X.length ≤ 100) : Pc (34 :: X ++ [34]) := by
  intro R
  refine Eat.eats (m := 1) ⟨2, ?_⟩ (by simp)
  have e0 : (34 :: X ++ [34] : List UInt8) ++ R = 34 :: (X ++ 34 :: R) := by simp
  have hq : ql ((34 :: (X ++ 34 :: R)).drop 1) = X.length := let_ql X R h
  have hlt : ql ((34 :: (X ++ 34 :: R)).drop 1) < ((34 :: (X ++ 34 :: R)).drop 1).length := by rw [hq]; simp
  have ht : textF (bs (((34 :: (X ++ 34 :: R)).drop 1).take (ql ((34 :: (X ++ 34 :: R)).drop 1)))) = 0 := by
    rw [hq]
    simpa using let_text h hl
  have hk : tk (34 :: (X ++ 34 :: R)) = (0, ⟨3, bs (((34 :: (X ++ 34 :: R)).drop 1).take (ql ((34 :: (X ++ 34 :: R)).drop 1))), 0⟩, ql ((34 :: (X ++ 34 :: R)).drop 1) + 2) := by
    unfold tk
    rw [bAt_zero]
    rw [if_neg (by decide), if_neg (by decide), if_neg (by decide), if_pos (by decide), if_pos hlt, if_pos ht]
  rw [e0, show (34 :: X ++ [34] : List UInt8).length = (X.length + 1) + 1 by simp, eats, bAt_zero, if_neg (by decide), hk]
  simp only [if_pos]
  rw [hq, if_pos (by omega), show X.length + 1 + 1 - (X.length + 2) = 0 by omega]
  simp [eats]
end Go.Proofs.YtbpggpnmbfjadaaDoor
