package lift_test

import "testing"

// P8.3: an iteration for each item, in their order, within each iteration that there was.
func TestFor(t *testing.T) {
	means(t, abc,
		`for $x in (3, 1, 2) return $x`, `3 1 2`,
		`for $x in (3, 1, 2) return ($x, $x * 2)`, `3 6 1 2 2 4`,
		`for $x in () return 1`, ``,
		`for $x in (1, 2) return ()`, ``,
		`for $x in //a return name($x)`, `"a" "a"`,
		`for $x at $i in ("b", "a") return ($i, $x)`, `1 "b" 2 "a"`,
		`for $x at $i in reverse(//a) return ($i, $x)`, `1 #7 2 #3`,
		`for $x at $i in distinct-values((5, 5, 6)) return $i`, `1 2`,
		`for $x in (1, 2) return for $y at $i in (10, 20) return ($i, $x + $y)`, `1 11 2 21 1 12 2 22`,
		`for $x at $i in (5, 6) return for $y at $j in ($x, $i) return ($i * 10 + $j)`, `11 12 21 22`,
		`for $x in (1, 2, 3) return for $y in 1 to $x return $y`, `1 1 2 1 2 3`,
		`for $x in (2, 0, 1) return count(for $y in 1 to $x return $y)`, `2 0 1`,
		`for $x in (1, 2) return for $x in ($x, 5) return $x`, `1 5 2 5`,
		`for $x in (1, 2) return ((for $x at $y in (7, 8) return $y), $x)`, `1 2 1 1 2 2`,
		`for $x at $y in (7, 8) return let $y := ($y, 9) return $y`, `1 9 2 9`,
	)
}

// P8.3: variables of iterations around are what they were there.
func TestVariablesInLoops(t *testing.T) {
	means(t, abc,
		`let $z := (8, 9) return for $x in (1, 2) return ($x, $z)`, `1 8 9 2 8 9`,
		`let $z := () return for $x in (1, 2) return ($x, $z)`, `1 2`,
		`for $x in (1, 2) return let $z := ($x, $x + 5) return for $y in (3, 4) return ($y, $z)`, `3 1 6 4 1 6 3 2 7 4 2 7`,
		`for $x in (1, 2) return for $y in (3, 4) return for $z in (5, 6) return $x * 100 + $y * 10 + $z`, `135 136 145 146 235 236 245 246`,
		`let $a := 1 return let $b := ($a, 2) return for $c in $b return let $d := ($b, $c) return for $e in $d return ($a, count($d), $e + $c)`,
		`1 3 2 1 3 3 1 3 2 1 3 3 1 3 4 1 3 4`,
		`for $x in (1, 2, 3, 4) return if ($x mod 2 = 0) then for $y in (10, 20) return $x + $y else $x`, `1 12 22 3 14 24`,
		`for $x in (4, 3) return if ($x = 3) then let $y := $x return for $z in (1, 2) return if ($z = 2) then $y * 2 else $y else 0`, `0 3 6`,
	)
}

// P8.3: a Sorted puts the iterations in order by their keys, within each iteration that there was.
func TestSorted(t *testing.T) {
	means(t, abc,
		`for $x in (3, 1, 2) order by $x return $x`, `1 2 3`,
		`for $x in (3, 1, 2) order by $x descending return $x`, `3 2 1`,
		`for $x at $i in (3, 1, 2) order by $x return ($x, $i)`, `1 2 2 3 3 1`,
		`for $x at $i in (3, 1, 3, 1) order by $x return ($x, $i)`, `1 2 1 4 3 1 3 3`,
		`for $x at $i in (3, 1, 3, 1) order by $x descending return ($x, $i)`, `3 1 3 3 1 2 1 4`,
		`for $x at $i in (3, 1, 2) order by $i descending return $x`, `2 1 3`,
		`for $x in (10, 9, 100) order by string($x) return $x`, `10 100 9`,
		`for $x in ("b", 2, true(), "a", 1, false()) order by $x return $x`, `1 2 "a" "b" false true`,
		`for $x in ("b", 2, true(), "a", 1, false()) order by $x descending return $x`, `true false "b" "a" 2 1`,
		`for $x in //a order by $x descending return $x`, `#7 #3`,
		`for $x in //@k order by $x return $x`, `#6 #2`,
		`for $x in (3, 1, 2) order by 1 return ($x, $x)`, `3 3 1 1 2 2`,
		`for $x in (3, 1, 2) order by $x return ()`, ``,
		`for $x in () order by $x return 1`, ``,
		`for $x in (1, 2) return for $y in (6, 5, 7) order by $y * $x return $x * 10 + $y`, `15 16 17 25 26 27`,
		`for $x in (1, 0 - 1) return for $y in (6, 5, 7) order by $y * $x return $y`, `5 6 7 7 6 5`,
		`let $z := (4, 5) return for $x in (2, 1) let $y := ($x, $z) order by count($y) - $x descending return $y`, `1 4 5 2 4 5`,
		`for $x in (5, 3, 4) where $x > 3 order by $x return $x`, `4 5`,
	)
}

// P8.3: iterations without a key come first, or, the other way round, last; a key is one item at most.
func TestKeys(t *testing.T) {
	means(t, abc,
		`for $x in (3, 1, 2) order by (if ($x = 2) then () else $x) return $x`, `2 1 3`,
		`for $x in (3, 1, 2) order by (if ($x = 2) then () else $x) descending return $x`, `3 1 2`,
		`for $x at $i in (1, 2, 1, 2) order by (if ($x = 2) then () else $x) descending return $i`, `1 3 2 4`,
		`for $x in (3, 1, 0 - 2) order by (if ($x = 3) then () else $x) return $x`, `3 -2 1`,
		`for $x in (3, 1, 2) order by () return $x`, `3 1 2`,
		`for $x in (3, 1, 2) order by () descending return $x`, `3 1 2`,
		`for $x in (3, 1) order by ($x, $x) return $x`, `!12`,
		`for $x in (3, 1) order by (if ($x = 3) then ($x, $x) else $x) return ()`, `!12`,
		`for $x in (3, 1) order by 1 div ($x - 1) return ()`, `!12`,
		`for $x in () order by ($x, $x) return $x`, ``,
		`for $x in //node() order by $x return $x`, `#3 #4 #1 #5 #7 #8 #9`,
	)
	for _, down := range []int{0, -1, 2, 7} {
		exprMeans(t, abc, "N is not 1", sorted("x", "", down, seq(n(2), n(1)), v("x"), v("x")), "1 2")
	}
	exprMeans(t, abc, "the At in a key", sorted("x", "y", 1, seq(n(2), n(1), n(3)), v("y"), v("x")), "3 1 2")
	exprMeans(t, abc, "a key with a loop of its own", sorted("x", "", 0, seq(n(2), n(1)), call("sum", loop("y", "", seq(n(1), n(2)), call("*", v("x"), v("y")))), v("x")), "1 2")
}
