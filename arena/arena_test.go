package arena_test

import (
	"math"
	"slices"
	"testing"

	"beltway/api"
	"beltway/arena"
)

const maxWords = api.MaxFrames << api.MaxShift

// farAddresses are far outside of every array; sums with small numbers of words wrap around.
var farAddresses = []int{math.MinInt, math.MinInt + 1, -1 << 32, 1 << 32, 1 << 62, math.MaxInt - 1, math.MaxInt}

// numbered returns the words 1 to n as a part of a longer array, so that an access beyond its length finds memory that it could use.
func numbered(n int) []uint64 {
	longer := make([]uint64, n+8)
	for i := range longer {
		longer[i] = uint64(i + 1)
	}
	return longer[:n]
}

func isNumbered(w []uint64) bool {
	for i, v := range w[:cap(w)] {
		if v != uint64(i+1) {
			return false
		}
	}
	return true
}

// exists reports whether each of the n words from a on is a word of an array of the given length.
func exists(length, a, n int) bool {
	if n == 0 {
		return 0 <= a && a <= length
	}
	for i := range n {
		if a+i < 0 || a+i >= length {
			return false
		}
	}
	return true
}

// addressesAround returns the addresses of an array of the given length and some on both sides, with the far ones.
func addressesAround(length int) []int {
	addresses := slices.Clone(farAddresses)
	for a := -3; a <= length+3; a++ {
		addresses = append(addresses, a)
	}
	return addresses
}

func checkUnchanged(t *testing.T, call string, w []uint64) {
	t.Helper()
	if !isNumbered(w) {
		t.Errorf("%s has changed its argument to %v", call, w[:cap(w)])
	}
}

// checkNewMemory writes to the result: neither the argument nor the memory behind it may change.
func checkNewMemory(t *testing.T, call string, w, result []uint64) {
	t.Helper()
	whole := result[:cap(result)]
	for i := range whole {
		whole[i] = 1 << 40
	}
	checkUnchanged(t, "the result of "+call, w)
}

// P2.1

func TestMakeReturnsZeroWords(t *testing.T) {
	for _, n := range []int{0, 1, 2, 7, 8, 64, 1000, maxWords - 1, maxWords} {
		w, err := arena.Make(n)
		if err != api.OK || len(w) != n {
			t.Errorf("Make(%d) has %d words, error %d", n, len(w), err)
		}
		for a, v := range w {
			if v != 0 {
				t.Fatalf("Make(%d) has %d as word %d", n, v, a)
			}
		}
	}
}

func TestMakeReturnsNewMemory(t *testing.T) {
	first, _ := arena.Make(4)
	first[2] = 9
	if second, _ := arena.Make(4); second[2] != 0 {
		t.Error("two results of Make share their words")
	}
}

func TestMakeOfInvalidNumbers(t *testing.T) {
	for _, n := range []int{-1, -2, -maxWords, math.MinInt, maxWords + 1, 2 * maxWords, 1 << 32, math.MaxInt} {
		if w, err := arena.Make(n); len(w) != 0 || err != api.ErrArg {
			t.Errorf("Make(%d) has %d words, error %d, want ErrArg", n, len(w), err)
		}
	}
}

func TestReadReturnsTheWord(t *testing.T) {
	for _, length := range []int{1, 2, 3, 8, 100} {
		w := numbered(length)
		for a := range length {
			if v, err := arena.Read(w, a); v != uint64(a+1) || err != api.OK {
				t.Errorf("Read of %d words at %d = %d, %d", length, a, v, err)
			}
		}
		checkUnchanged(t, "Read", w)
	}
	if v, err := arena.Read([]uint64{math.MaxUint64}, 0); v != math.MaxUint64 || err != api.OK {
		t.Errorf("Read of a full word = %#x, %d", v, err)
	}
}

func TestReadOutside(t *testing.T) {
	for _, length := range []int{0, 1, 2, 5} {
		w := numbered(length)
		for _, a := range addressesAround(length) {
			if exists(length, a, 1) {
				continue
			}
			if v, err := arena.Read(w, a); v != 0 || err != api.ErrRange {
				t.Errorf("Read of %d words at %d = %d, %d, want ErrRange", length, a, v, err)
			}
		}
	}
	if v, err := arena.Read(nil, 0); v != 0 || err != api.ErrRange {
		t.Errorf("Read(nil, 0) = %d, %d, want ErrRange", v, err)
	}
}

func TestWriteSetsOneWord(t *testing.T) {
	for _, length := range []int{1, 2, 3, 8} {
		for a := range length {
			for _, v := range []uint64{0, 1, 77, math.MaxUint64} {
				w := numbered(length)
				got, err := arena.Write(w, a, v)
				want := numbered(length)
				want[a] = v
				if err != api.OK || !slices.Equal(got, want) {
					t.Errorf("Write of %d words at %d = %v, %d, want %v", length, a, got, err, want)
				}
				checkUnchanged(t, "Write", w)
				checkNewMemory(t, "Write", w, got)
			}
		}
	}
}

func TestWriteOutside(t *testing.T) {
	for _, length := range []int{0, 1, 2, 5} {
		for _, a := range addressesAround(length) {
			if exists(length, a, 1) {
				continue
			}
			w := numbered(length)
			if got, err := arena.Write(w, a, 7); len(got) != 0 || err != api.ErrRange {
				t.Errorf("Write of %d words at %d = %v, %d, want ErrRange", length, a, got, err)
			}
			checkUnchanged(t, "Write", w)
		}
	}
	if got, err := arena.Write(nil, 0, 7); len(got) != 0 || err != api.ErrRange {
		t.Errorf("Write(nil, 0, 7) = %v, %d, want ErrRange", got, err)
	}
}

// P2.2

// copied is the oracle of Copy: all words are read into another array before the first one is written.
func copied(length, from, to, n int) ([]uint64, api.Errno) {
	if n < 0 {
		return nil, api.ErrArg
	}
	if !exists(length, from, n) || !exists(length, to, n) {
		return nil, api.ErrRange
	}
	out := slices.Clone(numbered(length))
	for i := range n {
		out[to+i] = uint64(from + i + 1)
	}
	return out, api.OK
}

// filled is the oracle of Fill.
func filled(length, a, n int, v uint64) ([]uint64, api.Errno) {
	if n < 0 {
		return nil, api.ErrArg
	}
	if !exists(length, a, n) {
		return nil, api.ErrRange
	}
	out := slices.Clone(numbered(length))
	for i := range n {
		out[a+i] = v
	}
	return out, api.OK
}

func TestCopyOfAllRangesOfSmallArrays(t *testing.T) {
	for length := 0; length <= 6; length++ {
		for _, from := range addressesAround(length) {
			for _, to := range addressesAround(length) {
				for n := -2; n <= length+2; n++ {
					w := numbered(length)
					want, wantErr := copied(length, from, to, n)
					got, err := arena.Copy(w, from, to, n)
					if err != wantErr || !slices.Equal(got, want) {
						t.Errorf("Copy of %d words from %d to %d, %d words = %v, %d, want %v, %d", length, from, to, n, got, err, want, wantErr)
					}
					checkUnchanged(t, "Copy", w)
					checkNewMemory(t, "Copy", w, got)
				}
			}
		}
	}
}

func TestCopyOfOverlappingRanges(t *testing.T) {
	for _, x := range []struct {
		from, to, n int
		want        []uint64
	}{
		{0, 1, 3, []uint64{1, 1, 2, 3}},
		{1, 0, 3, []uint64{2, 3, 4, 4}},
		{0, 2, 2, []uint64{1, 2, 1, 2}},
		{0, 0, 4, []uint64{1, 2, 3, 4}},
	} {
		got, err := arena.Copy([]uint64{1, 2, 3, 4}, x.from, x.to, x.n)
		if err != api.OK || !slices.Equal(got, x.want) {
			t.Errorf("Copy from %d to %d, %d words = %v, %d, want %v", x.from, x.to, x.n, got, err, x.want)
		}
	}
}

func TestCopyAndFillOfLongArrays(t *testing.T) {
	w := numbered(maxWords)
	got, err := arena.Copy(w, 1, 0, maxWords-1)
	if err != api.OK || len(got) != maxWords || got[0] != 2 || got[maxWords-2] != maxWords || got[maxWords-1] != maxWords {
		t.Errorf("Copy down by one word has %d words, error %d", len(got), err)
	}
	got, err = arena.Copy(w, 0, maxWords/2, maxWords/2)
	if err != api.OK || len(got) != maxWords || got[maxWords/2-1] != maxWords/2 || got[maxWords/2] != 1 || got[maxWords-1] != maxWords/2 {
		t.Errorf("Copy to the second half has %d words, error %d", len(got), err)
	}
	got, err = arena.Fill(w, 0, maxWords, 3)
	if err != api.OK || len(got) != maxWords || slices.ContainsFunc(got, func(v uint64) bool { return v != 3 }) {
		t.Errorf("Fill of all words has %d words, error %d", len(got), err)
	}
	checkUnchanged(t, "Copy or Fill", w)
}

func TestCopyChecksTheNumberBeforeTheRanges(t *testing.T) {
	for _, n := range []int{-1, -2, -4, math.MinInt, math.MinInt + 1} {
		for _, a := range []int{-1, 0, 2, 4, 5, math.MinInt, math.MaxInt} {
			if got, err := arena.Copy(numbered(4), a, a, n); len(got) != 0 || err != api.ErrArg {
				t.Errorf("Copy from %d to %d, %d words = %v, %d, want ErrArg", a, a, n, got, err)
			}
			if got, err := arena.Copy(nil, a, 0, n); len(got) != 0 || err != api.ErrArg {
				t.Errorf("Copy of nil from %d to 0, %d words = %v, %d, want ErrArg", a, n, got, err)
			}
		}
	}
}

func TestCopyAndFillOfTooManyWords(t *testing.T) {
	for _, n := range []int{5, 1 << 32, 1 << 62, math.MaxInt - 1, math.MaxInt} {
		for _, a := range []int{0, 1, 2, 4, 5, -1, 1 - n, math.MinInt, math.MaxInt} {
			w := numbered(4)
			if got, err := arena.Copy(w, a, 0, n); len(got) != 0 || err != api.ErrRange {
				t.Errorf("Copy from %d to 0, %d words = %v, %d, want ErrRange", a, n, got, err)
			}
			if got, err := arena.Copy(w, 0, a, n); len(got) != 0 || err != api.ErrRange {
				t.Errorf("Copy from 0 to %d, %d words = %v, %d, want ErrRange", a, n, got, err)
			}
			if got, err := arena.Fill(w, a, n, 7); len(got) != 0 || err != api.ErrRange {
				t.Errorf("Fill from %d on, %d words = %v, %d, want ErrRange", a, n, got, err)
			}
			checkUnchanged(t, "Copy or Fill", w)
		}
	}
}

func TestFillOfAllRangesOfSmallArrays(t *testing.T) {
	for length := 0; length <= 8; length++ {
		for _, a := range addressesAround(length) {
			for n := -3; n <= length+3; n++ {
				for _, v := range []uint64{0, 77, math.MaxUint64} {
					w := numbered(length)
					want, wantErr := filled(length, a, n, v)
					got, err := arena.Fill(w, a, n, v)
					if err != wantErr || !slices.Equal(got, want) {
						t.Errorf("Fill of %d words from %d on, %d words = %v, %d, want %v, %d", length, a, n, got, err, want, wantErr)
					}
					checkUnchanged(t, "Fill", w)
					checkNewMemory(t, "Fill", w, got)
				}
			}
		}
	}
}

func TestFillChecksTheNumberBeforeTheRange(t *testing.T) {
	for _, n := range []int{-1, -4, math.MinInt} {
		for _, a := range []int{-1, 0, 4, 5, math.MinInt, math.MaxInt} {
			if got, err := arena.Fill(numbered(4), a, n, 7); len(got) != 0 || err != api.ErrArg {
				t.Errorf("Fill from %d on, %d words = %v, %d, want ErrArg", a, n, got, err)
			}
		}
	}
}

func TestNilAndEmptyArraysAreEquivalent(t *testing.T) {
	for _, w := range [][]uint64{nil, {}} {
		if got, err := arena.Copy(w, 0, 0, 0); len(got) != 0 || err != api.OK {
			t.Errorf("Copy of no words = %v, %d", got, err)
		}
		if got, err := arena.Fill(w, 0, 0, 7); len(got) != 0 || err != api.OK {
			t.Errorf("Fill of no words = %v, %d", got, err)
		}
		if _, err := arena.Copy(w, 0, 0, 1); err != api.ErrRange {
			t.Errorf("Copy of one word of an empty array: error %d, want ErrRange", err)
		}
		if _, err := arena.Fill(w, 1, 0, 7); err != api.ErrRange {
			t.Errorf("Fill beyond an empty array: error %d, want ErrRange", err)
		}
	}
}
