package share_test

import (
	"math"
	"testing"

	"beltway/api"
	"beltway/share"
)

// farNumbers are outside of every range; conversions and sums of some of them would come back into one.
var farNumbers = []int{math.MinInt, math.MinInt + 1, -1 << 60, -1 << 41, -1 << 40, -1 << 32, 1 << 41, 1 << 53, 1 << 60, math.MaxInt - 1, math.MaxInt}

// leastNormal is the least number with a leading bit; the numbers below are subnormal.
const leastNormal = 0x1p-1022

var negativeZero = math.Copysign(0, -1)

// unordered are values that are not a number: with both signs, quiet and signalling, with the least and the greatest payload.
var unordered = []float64{
	math.NaN(),
	math.Float64frombits(0x7ff0000000000001),
	math.Float64frombits(0x7ff8000000000000),
	math.Float64frombits(0x7fffffffffffffff),
	math.Float64frombits(0xfff0000000000001),
	math.Float64frombits(0xfff8000000000000),
	math.Float64frombits(0xfff8000000000001),
	math.Float64frombits(0xffffffffffffffff),
}

// ascending are numbers in the order of P6.5.
var ascending = []float64{
	math.Inf(-1),
	-math.MaxFloat64,
	math.Nextafter(-math.MaxFloat64, 0),
	-64,
	math.Nextafter(-1, -2),
	-1,
	math.Nextafter(-1, 0),
	-0.5,
	-leastNormal,
	math.Nextafter(-leastNormal, 0),
	-2 * math.SmallestNonzeroFloat64,
	-math.SmallestNonzeroFloat64,
	negativeZero,
	0,
	math.SmallestNonzeroFloat64,
	2 * math.SmallestNonzeroFloat64,
	math.Nextafter(leastNormal, 0),
	leastNormal,
	math.Nextafter(leastNormal, 1),
	0.01,
	0.5,
	math.Nextafter(1, 0),
	1,
	math.Nextafter(1, 2),
	64,
	math.Nextafter(math.MaxFloat64, 0),
	math.MaxFloat64,
	math.Inf(1),
}

// notShares are not valid; 1 is the greatest share, and 0 the least.
func notShares() []float64 {
	list := append([]float64{math.Nextafter(1, 2), 1.5, 2, 64, 100, math.MaxFloat64, math.Inf(1)}, unordered...)
	for _, x := range ascending {
		if math.Signbit(x) {
			list = append(list, x)
		}
	}
	return list
}

// sharesNear returns the shares that are at most steps floats away from x.
func sharesNear(x float64, steps int) []float64 {
	var list []float64
	for y, k := x, 0; k <= steps && y <= 1; y, k = math.Nextafter(y, 2), k+1 {
		list = append(list, y)
	}
	for y, k := math.Nextafter(x, -1), 1; k <= steps && y > 0; y, k = math.Nextafter(y, -1), k+1 {
		list = append(list, y)
	}
	return list
}

func isSame(x, y float64) bool {
	return math.Float64bits(x) == math.Float64bits(y)
}

// P6.1

func TestValidSharesAreZeroAndUpToOne(t *testing.T) {
	for _, x := range ascending {
		want := !math.Signbit(x) && x <= 1
		if share.Valid(x) != want {
			t.Errorf("Valid(%v) is not %t", x, want)
		}
	}
	for _, x := range notShares() {
		if share.Valid(x) {
			t.Errorf("Valid(%v), with the bits %x", x, math.Float64bits(x))
		}
	}
	if !share.Valid(0) || share.Valid(negativeZero) {
		t.Error("Valid does not tell 0 from -0")
	}
}

func TestValidAtEveryExponentAndSign(t *testing.T) {
	for exponent := uint64(0); exponent < 1<<11; exponent++ {
		for _, fraction := range []uint64{0, 1, 1 << 51, 1<<52 - 1} {
			positive := math.Float64frombits(exponent<<52 | fraction)
			// 1 has the exponent 1023 and no fraction.
			want := exponent < 1023 || exponent == 1023 && fraction == 0
			if share.Valid(positive) != want || share.Valid(math.Copysign(positive, -1)) {
				t.Errorf("Valid(%v) is not %t, or its negative number is valid", positive, want)
			}
		}
	}
}

// P6.2

// checkFrames compares Frames of a share greater than 0 with the promise. The fused product and difference is rounded once, so its sign is exact.
func checkFrames(t *testing.T, x float64, n int) {
	t.Helper()
	k, err := share.Frames(x, n)
	if err != api.OK {
		t.Errorf("Frames(%v, %d): error %d", x, n, err)
		return
	}
	reaches := func(k int) bool { return math.FMA(x, float64(n), -float64(k)) >= 0 }
	if k < 1 || reaches(k+1) || k > 1 && !reaches(k) {
		t.Errorf("Frames(%v, %d) = %d", x, n, k)
	}
}

func TestFramesAroundAllWholeProducts(t *testing.T) {
	for n := 1; n <= api.MaxFrames; n++ {
		for k := 0; k <= n; k++ {
			for _, x := range sharesNear(float64(k)/float64(n), 4) {
				if x > 0 {
					checkFrames(t, x, n)
				}
			}
		}
	}
}

func TestFramesOfAllPercents(t *testing.T) {
	for n := 1; n <= api.MaxFrames; n++ {
		for p := 1; p <= 100; p++ {
			x, _ := share.Percent(p)
			for _, y := range sharesNear(x, 2) {
				checkFrames(t, y, n)
			}
		}
	}
}

func TestFramesOfEveryExponent(t *testing.T) {
	for exponent := uint64(0); exponent < 1023; exponent++ {
		for _, fraction := range []uint64{1, 1 << 51, 1<<52 - 1, 0x5555555555555, 0xaaaaaaaaaaaaa} {
			x := math.Float64frombits(exponent<<52 | fraction)
			for n := 1; n <= api.MaxFrames; n++ {
				checkFrames(t, x, n)
			}
		}
	}
}

func TestFramesOfZeroAndAllPercents(t *testing.T) {
	for n := 1; n <= api.MaxFrames; n++ {
		if k, err := share.Frames(0, n); k != 0 || err != api.OK {
			t.Errorf("Frames(0, %d) = %d, %d", n, k, err)
		}
		whole, _ := share.Percent(100)
		if k, err := share.Frames(whole, n); k != n || err != api.OK {
			t.Errorf("Frames(Percent(100), %d) = %d, %d", n, k, err)
		}
	}
}

func TestFramesWithWrittenOutResults(t *testing.T) {
	below := func(x float64) float64 { return math.Nextafter(x, 0) }
	above := func(x float64) float64 { return math.Nextafter(x, 1) }
	// Roundings: 1.0/3 is less than a third, and 0.1, 0.2 and 0.05 are more than what they stand for; 0.29, 0.57 and 0.58 are less.
	cases := []struct {
		x    float64
		n, k int
	}{
		{0.25, 10, 2}, {0.01, 10, 1}, // the document's examples
		{1, 1, 1}, {1, 64, 64}, {below(1), 1, 1}, {below(1), 2, 1}, {below(1), 63, 62}, {below(1), 64, 63},
		{0.5, 1, 1}, {0.5, 2, 1}, {0.5, 3, 1}, {0.5, 4, 2}, {below(0.5), 4, 1}, {below(0.5), 64, 31}, {above(0.5), 64, 32},
		{1.0 / 3, 3, 1}, {1.0 / 3, 6, 1}, {1.0 / 3, 12, 3}, {1.0 / 3, 63, 20}, {above(1.0 / 3), 6, 2}, {above(1.0 / 3), 63, 21},
		{0.1, 20, 2}, {0.2, 10, 2}, {below(0.2), 10, 1}, {0.05, 40, 2}, {0.05, 60, 3},
		{0.7, 10, 6}, {0.7, 20, 13}, {above(0.7), 10, 7}, {0.3, 10, 2}, {0.3, 20, 5}, {0.6, 5, 2}, {0.6, 10, 5},
		{leastNormal, 64, 1}, {below(leastNormal), 64, 1}, {math.SmallestNonzeroFloat64, 1, 1}, {math.SmallestNonzeroFloat64, 64, 1},
	}
	for _, c := range cases {
		if k, err := share.Frames(c.x, c.n); k != c.k || err != api.OK {
			t.Errorf("Frames(%v, %d) = %d, %d, want %d", c.x, c.n, k, err, c.k)
		}
	}
}

func TestFramesErrors(t *testing.T) {
	outside := append([]int{-2, -1, 0, api.MaxFrames + 1, 100, -64}, farNumbers...)
	inside := []int{1, 2, 63, api.MaxFrames}
	for _, x := range notShares() {
		for _, n := range append(inside, outside...) {
			if k, err := share.Frames(x, n); k != 0 || err != api.ErrShare {
				t.Errorf("Frames(%v, %d) = %d, %d, want ErrShare", x, n, k, err)
			}
		}
	}
	for _, x := range []float64{0, math.SmallestNonzeroFloat64, 0.5, 1} {
		for _, n := range outside {
			if k, err := share.Frames(x, n); k != 0 || err != api.ErrArg {
				t.Errorf("Frames(%v, %d) = %d, %d, want ErrArg", x, n, k, err)
			}
		}
	}
}

// P6.3

func TestPercentIsTheQuotient(t *testing.T) {
	for p := 0; p <= 100; p++ {
		x, err := share.Percent(p)
		if err != api.OK || !isSame(x, float64(p)/float64(100)) {
			t.Errorf("Percent(%d) = %v, %d", p, x, err)
		}
	}
}

func TestPercentIsNearest(t *testing.T) {
	written := []struct {
		p int
		x float64
	}{{0, 0}, {1, 0.01}, {7, 0.07}, {14, 0.14}, {25, 0.25}, {28, 0.28}, {29, 0.29}, {33, 0.33}, {50, 0.5}, {55, 0.55}, {56, 0.56}, {57, 0.57}, {58, 0.58}, {69, 0.69}, {75, 0.75}, {99, 0.99}, {100, 1}}
	for _, c := range written {
		if x, err := share.Percent(c.p); err != api.OK || !isSame(x, c.x) {
			t.Errorf("Percent(%d) = %v, %d", c.p, x, err)
		}
	}
}

func TestPercentErrors(t *testing.T) {
	for _, p := range append([]int{-100, -2, -1, 101, 102, 200}, farNumbers...) {
		if x, err := share.Percent(p); !isSame(x, 0) || err != api.ErrArg {
			t.Errorf("Percent(%d) = %v, %d, want ErrArg", p, x, err)
		}
	}
}

func TestToPercentFindsAllPercents(t *testing.T) {
	for p := 0; p <= 100; p++ {
		x, _ := share.Percent(p)
		if found, ok := share.ToPercent(x); found != p || !ok {
			t.Errorf("ToPercent(%v) = %d, %t, want %d", x, found, ok, p)
		}
	}
}

func TestToPercentRefusesAllOthers(t *testing.T) {
	var others []float64
	for p := 0; p <= 100; p++ {
		x, _ := share.Percent(p)
		others = append(others, math.Copysign(x, -1), math.Nextafter(x, -1), math.Nextafter(x, 2), x+0.005, float64(p)+1.01)
	}
	others = append(others, notShares()...)
	others = append(others, leastNormal, math.Nextafter(leastNormal, 0), math.SmallestNonzeroFloat64)
	for _, x := range others {
		if p, ok := share.ToPercent(x); p != 0 || ok {
			t.Errorf("ToPercent(%v) = %d, %t, want false", x, p, ok)
		}
	}
}

// P6.4

// greatestTerm is the greatest argument of which Ratio takes a quotient.
const greatestTerm = 1 << 40

var terms = []int{0, 1, 2, 3, 4, 5, 7, 10, 63, 64, 100, 1<<31 - 1, 1 << 31, 1<<32 + 1, 1<<39 + 1, greatestTerm - 1, greatestTerm}

func TestRatioIsTheQuotient(t *testing.T) {
	for _, a := range terms {
		for _, b := range terms {
			x := share.Ratio(a, b)
			switch {
			case a == 0 && b == 0:
				if !math.IsNaN(x) {
					t.Errorf("Ratio(0, 0) = %v", x)
				}
			case b == 0:
				if !math.IsInf(x, 1) {
					t.Errorf("Ratio(%d, 0) = %v", a, x)
				}
			default:
				if !isSame(x, float64(a)/float64(b)) {
					t.Errorf("Ratio(%d, %d) = %v", a, b, x)
				}
			}
		}
	}
}

func TestRatioWithWrittenOutResults(t *testing.T) {
	cases := []struct {
		a, b int
		x    float64
	}{{0, 1, 0}, {0, greatestTerm, 0}, {1, 1, 1}, {3, 4, 0.75}, {4, 3, 1.3333333333333333}, {1, 3, 0.3333333333333333}, {7, 100, 0.07}, {greatestTerm, 1, 0x1p40}, {1, greatestTerm, 0x1p-40}, {greatestTerm, greatestTerm, 1}, {greatestTerm - 1, greatestTerm, 0x1.fffffffffep-1}}
	for _, c := range cases {
		if x := share.Ratio(c.a, c.b); !isSame(x, c.x) {
			t.Errorf("Ratio(%d, %d) = %v, want %v", c.a, c.b, x, c.x)
		}
	}
}

func TestRatioOfOtherArguments(t *testing.T) {
	outside := append([]int{-1, -2, -100, greatestTerm + 1, greatestTerm + 2}, farNumbers...)
	for _, a := range outside {
		for _, b := range append(terms, outside...) {
			if x, y := share.Ratio(a, b), share.Ratio(b, a); x != -1 || y != -1 {
				t.Errorf("Ratio(%d, %d) = %v, and the other way round %v, want -1", a, b, x, y)
			}
		}
	}
}

// P6.5

func TestOrderOfAllNumbers(t *testing.T) {
	for i, x := range ascending {
		for k, y := range ascending {
			want := 0
			if i < k {
				want = -1
			} else if i > k {
				want = 1
			}
			if c := share.Order(x, y); c != want {
				t.Errorf("Order(%v, %v) = %d, want %d", x, y, c, want)
			}
		}
	}
}

func TestOrderOfWhatIsNotANumber(t *testing.T) {
	for _, x := range unordered {
		for _, y := range unordered {
			if c := share.Order(x, y); c != 0 {
				t.Errorf("Order of the bits %x and %x is %d, want 0", math.Float64bits(x), math.Float64bits(y), c)
			}
		}
		for _, y := range ascending {
			if c, d := share.Order(x, y), share.Order(y, x); c != 1 || d != -1 {
				t.Errorf("Order of the bits %x and %v is %d, and the other way round %d, want 1 and -1", math.Float64bits(x), y, c, d)
			}
		}
	}
}

func TestOrderOfNeighbours(t *testing.T) {
	for exponent := uint64(0); exponent < 1<<11-1; exponent++ {
		for _, fraction := range []uint64{0, 1, 1<<52 - 1} {
			x := math.Float64frombits(exponent<<52 | fraction)
			y := math.Nextafter(x, math.Inf(1))
			if share.Order(x, x) != 0 || share.Order(x, y) != -1 || share.Order(y, x) != 1 {
				t.Errorf("Order of %v and the next number", x)
			}
			if share.Order(-x, -x) != 0 || share.Order(-x, -y) != 1 || share.Order(-y, -x) != -1 {
				t.Errorf("Order of %v and the number before", -x)
			}
			if share.Order(x, -y) != 1 || share.Order(-y, x) != -1 {
				t.Errorf("Order of %v and %v", x, -y)
			}
		}
	}
}

// Order is a total order: this is checked for all triples, whose order is not taken from anywhere else.
func TestOrderIsTotal(t *testing.T) {
	all := append(append([]float64{}, ascending...), unordered...)
	for _, x := range all {
		for _, y := range all {
			if share.Order(x, y) != -share.Order(y, x) {
				t.Errorf("Order(%v, %v) is not the opposite of Order(%v, %v)", x, y, y, x)
			}
			for _, z := range all {
				if share.Order(x, y) <= 0 && share.Order(y, z) <= 0 && share.Order(x, z) > 0 {
					t.Errorf("Order: %v, %v, %v", x, y, z)
				}
			}
		}
	}
}
