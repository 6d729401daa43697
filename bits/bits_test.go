package bits_test

import (
	"math"
	"testing"

	"beltway/api"
	"beltway/bits"
)

const allBits = math.MaxUint64

// sampleWords have long runs, alternating bits, and bits without a pattern.
var sampleWords = []uint64{
	0, 1, 255, 1 << 63, allBits, allBits - 1, allBits >> 1,
	0x5555555555555555, 0xaaaaaaaaaaaaaaaa, 0x0123456789abcdef, 0x9e3779b97f4a7c15,
}

// invalidFields break each condition on at and width alone and together; some of the sums wrap around to a number from 0 to 64.
var invalidFields = [][2]int{
	{-1, 0}, {-1, 1}, {-1, 64}, {-64, 128}, {math.MinInt, 0}, {math.MinInt, math.MaxInt},
	{0, -1}, {1, -1}, {64, -1}, {64, -64}, {0, math.MinInt}, {math.MaxInt, math.MinInt},
	{-1, -1}, {-1, math.MaxInt}, {math.MinInt, math.MinInt},
	{0, 65}, {1, 64}, {32, 33}, {60, 5}, {63, 2}, {64, 1}, {65, 0}, {65, 1},
	{0, math.MaxInt}, {1, math.MaxInt}, {64, math.MaxInt}, {math.MaxInt, 0}, {math.MaxInt, 1},
	{math.MaxInt, math.MaxInt}, {1 << 62, 1 << 62}, {1 << 32, 0}, {0, 1 << 32}, {256, 8}, {8, 256},
}

func hasBit(w uint64, i int) bool { return w>>i&1 == 1 }

func wordWith(set func(i int) bool) uint64 {
	w := uint64(0)
	for i := range 64 {
		if set(i) {
			w |= 1 << i
		}
	}
	return w
}

func eachValidField(visit func(at, width int)) {
	for at := 0; at <= 64; at++ {
		for width := 0; at+width <= 64; width++ {
			visit(at, width)
		}
	}
}

// P1.1

func TestMaskSetsExactlyTheLowestBits(t *testing.T) {
	for width := 0; width <= 64; width++ {
		want := wordWith(func(i int) bool { return i < width })
		if got := bits.Mask(width); got != want {
			t.Errorf("Mask(%d) = %#x, want %#x", width, got, want)
		}
	}
}

func TestMaskOfWidthsBeyondAWord(t *testing.T) {
	for _, width := range []int{-1, -2, -63, -64, -65, -256, math.MinInt32, -1 << 32, math.MinInt + 8, math.MinInt} {
		if got := bits.Mask(width); got != 0 {
			t.Errorf("Mask(%d) = %#x, want 0", width, got)
		}
	}
	for _, width := range []int{65, 66, 127, 128, 256, 264, 1 << 16, 1 << 32, 1<<32 + 8, math.MaxInt} {
		if got := bits.Mask(width); got != allBits {
			t.Errorf("Mask(%d) = %#x, want all bits", width, got)
		}
	}
}

func TestFitsLooksAtEveryBit(t *testing.T) {
	for width := -3; width <= 67; width++ {
		for i := range 64 {
			bit := wordWith(func(j int) bool { return j == i })
			if got := bits.Fits(bit, width); got != (i < width) {
				t.Errorf("Fits(%#x, %d) = %v", bit, width, got)
			}
		}
	}
}

func TestFitsAtTheEndsOfEachWidth(t *testing.T) {
	for width := range 64 {
		least := wordWith(func(i int) bool { return i == width })
		if !bits.Fits(least-1, width) {
			t.Errorf("Fits(%#x, %d) is false", least-1, width)
		}
		for _, v := range []uint64{least, least + 1, allBits} {
			if bits.Fits(v, width) {
				t.Errorf("Fits(%#x, %d) is true", v, width)
			}
		}
	}
}

func TestFitsOfWidthsBeyondAWord(t *testing.T) {
	for _, width := range []int{-1, -64, math.MinInt} {
		if !bits.Fits(0, width) || bits.Fits(1, width) || bits.Fits(allBits, width) {
			t.Errorf("only 0 fits into %d bits", width)
		}
	}
	for _, width := range []int{64, 65, 128, 1 << 32, math.MaxInt} {
		if !bits.Fits(0, width) || !bits.Fits(1, width) || !bits.Fits(allBits, width) {
			t.Errorf("every word fits into %d bits", width)
		}
	}
}

// P1.2

func TestGetReturnsTheFieldAsANumber(t *testing.T) {
	eachValidField(func(at, width int) {
		for _, w := range sampleWords {
			want := wordWith(func(i int) bool { return i < width && hasBit(w, at+i) })
			got, err := bits.Get(w, at, width)
			if err != api.OK || got != want {
				t.Fatalf("Get(%#x, %d, %d) = %#x, %d, want %#x", w, at, width, got, err, want)
			}
		}
	})
}

func TestPutReplacesTheFieldAndNothingElse(t *testing.T) {
	eachValidField(func(at, width int) {
		for _, w := range sampleWords {
			for _, sample := range sampleWords {
				v := sample & bits.Mask(width)
				want := wordWith(func(i int) bool {
					if at <= i && i < at+width {
						return hasBit(v, i-at)
					}
					return hasBit(w, i)
				})
				got, err := bits.Put(w, at, width, v)
				if err != api.OK || got != want {
					t.Fatalf("Put(%#x, %d, %d, %#x) = %#x, %d, want %#x", w, at, width, v, got, err, want)
				}
				if back, err := bits.Get(got, at, width); err != api.OK || back != v {
					t.Fatalf("Get(%#x, %d, %d) = %#x, %d, want %#x", got, at, width, back, err, v)
				}
			}
		}
	})
}

func TestPutOfTheDocumentsExample(t *testing.T) {
	if w, err := bits.Put(255, 4, 8, 0); err != api.OK || w != 15 {
		t.Errorf("Put(255, 4, 8, 0) = %d, %d", w, err)
	}
}

func TestFieldsWithoutBitsAreValidUpToTheEnd(t *testing.T) {
	for at := 0; at <= 64; at++ {
		if v, err := bits.Get(allBits, at, 0); err != api.OK || v != 0 {
			t.Errorf("Get(all, %d, 0) = %#x, %d", at, v, err)
		}
		if w, err := bits.Put(0x9e3779b97f4a7c15, at, 0, 0); err != api.OK || w != 0x9e3779b97f4a7c15 {
			t.Errorf("Put at %d without bits = %#x, %d", at, w, err)
		}
		if w, err := bits.Put(allBits, at, 0, 1); err != api.ErrField || w != 0 {
			t.Errorf("Put of 1 at %d without bits = %#x, %d", at, w, err)
		}
	}
}

func TestGetRejectsFieldsThatAreNotValid(t *testing.T) {
	for _, field := range invalidFields {
		for _, w := range sampleWords {
			if v, err := bits.Get(w, field[0], field[1]); err != api.ErrArg || v != 0 {
				t.Errorf("Get(%#x, %d, %d) = %#x, %d", w, field[0], field[1], v, err)
			}
		}
	}
}

func TestPutRejectsTheFieldBeforeTheValue(t *testing.T) {
	for _, field := range invalidFields {
		for _, v := range []uint64{0, 1, 1 << 63, allBits} {
			if w, err := bits.Put(allBits, field[0], field[1], v); err != api.ErrArg || w != 0 {
				t.Errorf("Put(all, %d, %d, %#x) = %#x, %d", field[0], field[1], v, w, err)
			}
		}
	}
}

func TestPutRejectsValuesThatDoNotFit(t *testing.T) {
	eachValidField(func(at, width int) {
		for _, v := range sampleWords {
			for beyond := width; beyond < 64; beyond++ {
				tooLarge := v&bits.Mask(width) | 1<<beyond
				if w, err := bits.Put(v, at, width, tooLarge); err != api.ErrField || w != 0 {
					t.Fatalf("Put(%#x, %d, %d, %#x) = %#x, %d", v, at, width, tooLarge, w, err)
				}
			}
		}
	})
}

func TestFieldsAtTheEdgeOfAllSums(t *testing.T) {
	for at := -3; at <= 67; at++ {
		for width := -3; width <= 67; width++ {
			want := api.ErrArg
			if at >= 0 && width >= 0 && at+width <= 64 {
				want = api.OK
			}
			if _, err := bits.Get(allBits, at, width); err != want {
				t.Errorf("Get(all, %d, %d): %d, want %d", at, width, err, want)
			}
			if _, err := bits.Put(allBits, at, width, 0); err != want {
				t.Errorf("Put(all, %d, %d, 0): %d, want %d", at, width, err, want)
			}
		}
	}
}

// P1.3

func TestLogOfAllPowers(t *testing.T) {
	for k := 0; k <= 62; k++ {
		if got, ok := bits.Log(1 << k); !ok || got != k {
			t.Errorf("Log(2^%d) = %d, %v", k, got, ok)
		}
	}
}

func TestLogOfNumbersBesidePowers(t *testing.T) {
	for k := 2; k <= 62; k++ {
		power := 1 << k
		for _, n := range []int{power - 1, power + 1, power + power/2, -power, -power - 1, -power + 1} {
			if got, ok := bits.Log(n); ok || got != 0 {
				t.Errorf("Log(%d) = %d, %v, want 0, false", n, got, ok)
			}
		}
	}
}

func TestLogOfSmallNumbers(t *testing.T) {
	exponents := map[int]int{1: 0, 2: 1, 4: 2, 8: 3, 16: 4, 32: 5, 64: 6, 128: 7, 256: 8}
	for n := -300; n <= 300; n++ {
		want, power := exponents[n]
		if got, ok := bits.Log(n); ok != power || got != want {
			t.Errorf("Log(%d) = %d, %v, want %d, %v", n, got, ok, want, power)
		}
	}
}

func TestLogAtTheEndsOfInt(t *testing.T) {
	for _, n := range []int{math.MinInt, math.MinInt + 1, -1, 0, math.MaxInt - 1, math.MaxInt} {
		if got, ok := bits.Log(n); ok || got != 0 {
			t.Errorf("Log(%d) = %d, %v, want 0, false", n, got, ok)
		}
	}
}

func TestCeilIsTheLeastNumberOfPiecesThatHoldsN(t *testing.T) {
	for shift := 0; shift <= 20; shift++ {
		size := 1 << shift
		for _, n := range ceilNumbers(size) {
			got := bits.Ceil(n, shift)
			if got*size < n || n > 0 && (got-1)*size >= n || n == 0 && got != 0 {
				t.Errorf("Ceil(%d, %d) = %d", n, shift, got)
			}
		}
	}
}

// ceilNumbers are numbers of the range of Ceil: small ones, its end, and the neighbours of multiples of size.
func ceilNumbers(size int) []int {
	var numbers []int
	for n := range 600 {
		numbers = append(numbers, n)
	}
	for _, pieces := range []int{1, 2, 3, 64, 1000, 1<<40/size - 1} {
		numbers = append(numbers, pieces*size-1, pieces*size, pieces*size+1)
	}
	numbers = append(numbers, 1<<40-size, 1<<40-1, 1<<40)
	var inRange []int
	for _, n := range numbers {
		if 0 <= n && n <= 1<<40 {
			inRange = append(inRange, n)
		}
	}
	return inRange
}

func TestCeilOfKnownNumbers(t *testing.T) {
	for _, x := range []struct{ n, shift, want int }{
		{17, 3, 3}, {16, 3, 2}, {0, 0, 0}, {0, 20, 0}, {1, 0, 1}, {1, 20, 1}, {1 << 20, 20, 1}, {1<<20 + 1, 20, 2},
		{1 << 40, 0, 1 << 40}, {1 << 40, 20, 1 << 20}, {1<<40 - 1, 0, 1<<40 - 1}, {1<<40 - 1, 20, 1 << 20},
	} {
		if got := bits.Ceil(x.n, x.shift); got != x.want {
			t.Errorf("Ceil(%d, %d) = %d, want %d", x.n, x.shift, got, x.want)
		}
	}
}

func TestCeilOfOtherArgumentsIsZero(t *testing.T) {
	otherNumbers := []int{math.MinInt, -1 << 40, -9, -8, -1, 1<<40 + 1, 1<<40 + 1<<20, 1 << 62, math.MaxInt}
	otherShifts := []int{math.MinInt, -64, -20, -1, 21, 40, 63, 64, 65, 1 << 32, math.MaxInt}
	check := func(n, shift int) {
		if got := bits.Ceil(n, shift); got != 0 {
			t.Errorf("Ceil(%d, %d) = %d, want 0", n, shift, got)
		}
	}
	for _, n := range otherNumbers {
		for shift := 0; shift <= 20; shift++ {
			check(n, shift)
		}
		for _, shift := range otherShifts {
			check(n, shift)
		}
	}
	for _, shift := range otherShifts {
		for _, n := range []int{0, 1, 5, 17, 1 << 30, 1 << 40} {
			check(n, shift)
		}
	}
}

func TestCeilOfASum(t *testing.T) {
	for _, shift := range []int{0, 1, 3, 8, 20} {
		for _, a := range []int{0, 1, 7, 8, 9, 255, 256, 257, 1 << 20, 1<<20 + 1, 1 << 39} {
			for _, b := range []int{0, 1, 7, 8, 9, 255, 256, 257, 1 << 20, 1<<20 + 1, 1 << 39} {
				parts, sum := bits.Ceil(a, shift)+bits.Ceil(b, shift), bits.Ceil(a+b, shift)
				if sum > parts || sum < parts-1 {
					t.Errorf("Ceil(%d + %d, %d) = %d, parts %d", a, b, shift, sum, parts)
				}
			}
		}
	}
}
