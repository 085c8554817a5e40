package point

import (
	"math"
	"testing"

	"apostille/api"
)

// compared fails if a doesn't stand ahead of b, or one of them isn't alike to itself.
func compared(t *testing.T, a, b api.Point) {
	t.Helper()
	if got, back := Compare(a, b), Compare(b, a); got != -1 || back != 1 {
		t.Errorf("%v, %v: %d, and back %d", a, b, got, back)
	}
	if Compare(a, a) != 0 || Compare(b, b) != 0 {
		t.Errorf("%v, %v: unlike themselves", a, b)
	}
}

// TestCompare has points that differ by N, by Part, by I alone, and in several ways.
func TestCompare(t *testing.T) {
	compared(t, self(0), self(1))
	compared(t, self(9), self(10))
	compared(t, self(1), namespace(1, 0))
	compared(t, self(1), mark(1, 0))
	compared(t, namespace(1, 0), mark(1, 0))
	compared(t, namespace(1, 0), namespace(1, 1))
	compared(t, mark(1, 2), mark(1, 10))
	// N counts ahead of Part, and Part ahead of I.
	compared(t, mark(1, 5), self(2))
	compared(t, namespace(1, 5), self(2))
	compared(t, mark(1, 5), namespace(2, 0))
	compared(t, namespace(1, 5), mark(1, 0))
	compared(t, selfAt(1, 5), namespace(1, 0))
	compared(t, namespace(0, 7), mark(1, 3))
}

// TestCompareAny has points that are none of any document, with the least numbers and the greatest.
func TestCompareAny(t *testing.T) {
	rising := []int{math.MinInt, math.MinInt + 1, math.MinInt32 - 1, math.MinInt32, -64, -2, -1, 0, 1, 2, 3, 64, math.MaxInt32, math.MaxInt32 + 1, math.MaxInt - 1, math.MaxInt}
	for x := range rising {
		for y := range rising {
			for _, a := range []int{0, 7, 15} {
				for _, b := range []int{0, 7, 15} {
					checkRising(t, rising, [3]int{x, a, b}, [3]int{y, a, b}, x-y)
					checkRising(t, rising, [3]int{a, x, b}, [3]int{a, y, b}, x-y)
					checkRising(t, rising, [3]int{a, b, x}, [3]int{a, b, y}, x-y)
					if x != y {
						checkRising(t, rising, [3]int{x, a, b}, [3]int{y, b, a}, x-y)
						checkRising(t, rising, [3]int{x, y, a}, [3]int{y, x, b}, x-y)
						checkRising(t, rising, [3]int{a, x, y}, [3]int{a, y, x}, x-y)
					}
				}
			}
		}
	}
}

// checkRising holds Compare of two points, made of the numbers at a and b, against how far apart they stand.
func checkRising(t *testing.T, l []int, a, b [3]int, apart int) {
	t.Helper()
	p, q := api.Point{N: l[a[0]], Part: l[a[1]], I: l[a[2]]}, api.Point{N: l[b[0]], Part: l[b[1]], I: l[b[2]]}
	if got := Compare(p, q); got != min(max(apart, -1), 1) {
		t.Errorf("%v, %v: %d", p, q, got)
	}
}
