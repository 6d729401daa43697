package frame_test

import (
	"math"
	"slices"
	"testing"

	"beltway/api"
	"beltway/frame"
)

// free is the entry of a free frame.
var free = api.Frame{Owner: -1, Stamp: -1, Next: -1}

// farNumbers are outside of every range; sums and shifts of some of them wrap around to small numbers.
var farNumbers = []int{math.MinInt, math.MinInt + 1, -1 << 60, -1 << 56, -1 << 32, 1 << 32, 1 << 56, 1 << 60, 1 << 62, math.MaxInt - 1, math.MaxInt}

// badShifts are not permitted; in part, their low bits are.
var badShifts = append([]int{-64, -61, -4, -1, 0, 1, 2, 9, 10, 11, 61, 63, 64, 67, 72, 256 + 3}, farNumbers...)

// badSizes are no numbers of frames that New permits.
var badSizes = append([]int{-64, -2, -1, 0, 1, 65, 66, 128, 256 + 8}, farNumbers...)

func owned(seq, belt, next int) api.Frame {
	return api.Frame{Owner: seq, Stamp: belt*api.BeltStamp + seq, Next: next}
}

// spaceOf returns a space with a copy of the frames, and as many zero words as they need.
func spaceOf(shift int, frames []api.Frame) api.Space {
	return api.Space{Shift: shift, Words: make([]uint64, len(frames)*(1<<shift)), Frames: slices.Clone(frames)}
}

// chainOf returns the entries of n frames, each of which is followed by the next one, the last one by none.
func chainOf(n int) []api.Frame {
	frames := make([]api.Frame, n)
	for f := range frames {
		frames[f] = owned(7, 2, f+1)
	}
	frames[n-1].Next = -1
	return frames
}

// table returns a space that has only what numbers its addresses and pairs: its shift, and n entries, which are not valid.
func table(shift, n int) api.Space {
	return api.Space{Shift: shift, Frames: make([]api.Frame, n)}
}

func eachShift(visit func(shift int)) {
	for shift := 3; shift <= 8; shift++ {
		visit(shift)
	}
}

func checkValid(t *testing.T, what string, s api.Space, want bool) {
	t.Helper()
	if got := frame.Valid(s); got != want {
		t.Errorf("%s: Valid is %v, frames %v", what, got, s.Frames)
	}
}

// P3.1: New and Size

func TestNewReturnsFreeFrames(t *testing.T) {
	eachShift(func(shift int) {
		for n := 2; n <= 64; n++ {
			s, err := frame.New(shift, n)
			if err != api.OK || s.Shift != shift || len(s.Frames) != n || len(s.Words) != n*(1<<shift) {
				t.Fatalf("New(%d, %d): shift %d, %d frames, %d words, error %d", shift, n, s.Shift, len(s.Frames), len(s.Words), err)
			}
			for f, entry := range s.Frames {
				if entry != free {
					t.Fatalf("New(%d, %d): frame %d is %v", shift, n, f, entry)
				}
			}
			if slices.ContainsFunc(s.Words, func(w uint64) bool { return w != 0 }) {
				t.Fatalf("New(%d, %d): a word is not 0", shift, n)
			}
			checkValid(t, "New", s, true)
		}
	})
}

func TestNewReturnsNewMemory(t *testing.T) {
	first, _ := frame.New(3, 2)
	first.Words[9], first.Frames[1] = 9, owned(1, 0, -1)
	if second, _ := frame.New(3, 2); second.Words[9] != 0 || second.Frames[1] != free {
		t.Error("two results of New share their memory")
	}
}

func TestNewOfSizesThatAreNotPermitted(t *testing.T) {
	check := func(shift, n int) {
		s, err := frame.New(shift, n)
		if err != api.ErrArg || s.Shift != 0 || len(s.Words) != 0 || len(s.Frames) != 0 {
			t.Errorf("New(%d, %d): shift %d, %d words, %d frames, error %d, want ErrArg", shift, n, s.Shift, len(s.Words), len(s.Frames), err)
		}
	}
	for _, shift := range badShifts {
		for _, n := range append([]int{2, 3, 8, 64}, badSizes...) {
			check(shift, n)
		}
	}
	for _, n := range badSizes {
		eachShift(func(shift int) { check(shift, n) })
	}
}

func TestSizeIsTheNumberOfWordsOfAFrame(t *testing.T) {
	sizes := map[int]int{3: 8, 4: 16, 5: 32, 6: 64, 7: 128, 8: 256}
	for shift := -300; shift <= 300; shift++ {
		if got := frame.Size(api.Space{Shift: shift}); got != sizes[shift] {
			t.Errorf("Size of shift %d = %d, want %d", shift, got, sizes[shift])
		}
	}
	for _, shift := range badShifts {
		if got := frame.Size(table(shift, 2)); got != 0 {
			t.Errorf("Size of shift %d = %d, want 0", shift, got)
		}
	}
}

// P3.1: Valid

func TestValidOfSizes(t *testing.T) {
	eachShift(func(shift int) {
		for n := 0; n <= 70; n++ {
			ok := n >= 2 && n <= 64
			checkValid(t, "free frames", spaceOf(shift, slices.Repeat([]api.Frame{free}, n)), ok)
			checkValid(t, "frames with an owner", spaceOf(shift, slices.Repeat([]api.Frame{owned(3, 1, -1)}, n)), ok)
		}
	})
	for _, shift := range []int{0, 1, 2, 9, 10} {
		checkValid(t, "a shift that is not permitted", spaceOf(shift, []api.Frame{free, free, free}), false)
		checkValid(t, "a shift that is not permitted", spaceOf(shift, chainOf(3)), false)
	}
	for _, shift := range badShifts {
		for _, words := range []int{0, 3, 8, 24} {
			s := api.Space{Shift: shift, Words: make([]uint64, words), Frames: chainOf(3)}
			checkValid(t, "a shift that is not permitted", s, false)
		}
	}
	checkValid(t, "the zero space", api.Space{}, false)
	checkValid(t, "a space without frames", api.Space{Shift: 3, Words: []uint64{}, Frames: []api.Frame{}}, false)
}

func TestValidOfNumbersOfWords(t *testing.T) {
	for _, frames := range [][]api.Frame{{free, free, free}, chainOf(3)} {
		for words := range 100 {
			s := api.Space{Shift: 4, Words: make([]uint64, words), Frames: frames}
			checkValid(t, "three frames of 16 words", s, words == 48)
		}
		// Words that stand behind the length do not count.
		s := spaceOf(4, frames)
		s.Words = s.Words[:47]
		checkValid(t, "47 of 48 words", s, false)
		s.Words = nil
		checkValid(t, "no words", s, false)
	}
}

func TestValidLooksAtEveryWordOfFreeFrames(t *testing.T) {
	eachShift(func(shift int) {
		size := 1 << shift
		for _, bit := range []uint64{1, 1 << 31, 1 << 32, 1 << 63} {
			for a := range 3 * size {
				s := spaceOf(shift, []api.Frame{free, owned(4, 0, -1), free})
				s.Words[a] = bit
				checkValid(t, "one word that is not 0", s, a >= size && a < 2*size)
			}
		}
	})
}

func TestValidOfFreeFramesWithOtherFields(t *testing.T) {
	others := append([]int{-3, -2, 0, 1, 2, 5, api.BeltStamp - 1, api.BeltStamp + 5}, farNumbers...)
	for _, v := range others {
		for _, frames := range [][]api.Frame{
			{{Owner: v, Stamp: -1, Next: -1}, free, free},
			{free, {Owner: -1, Stamp: v, Next: -1}, free},
			{free, free, {Owner: -1, Stamp: -1, Next: v}},
			{{Owner: v, Stamp: -1, Next: v}, free, free},
			{free, {Owner: -1, Stamp: v, Next: v}, free},
		} {
			checkValid(t, "half of a free frame", spaceOf(3, frames), false)
		}
	}
	// -1 is also the sum of an owner and belts, if the owner need not be a sequence number.
	for b := 1; b < 4; b++ {
		checkValid(t, "a negative owner", spaceOf(3, []api.Frame{{Owner: -1 - b*api.BeltStamp, Stamp: -1, Next: -1}, free}), false)
	}
}

func TestValidOfOwnersAndStamps(t *testing.T) {
	owners := append([]int{-5, -1, 0, 1, 5, 1 << 31, api.MaxSeq - 1, api.MaxSeq, api.MaxSeq + 1, api.MaxSeq + 6}, farNumbers...)
	for _, owner := range owners {
		for b := -4; b <= 7; b++ {
			for off := -2; off <= 2; off++ {
				stamp := owner + b*api.BeltStamp + off
				if owner == -1 && stamp == -1 {
					continue
				}
				ok := owner >= 0 && owner <= api.MaxSeq && b >= 0 && b < 4 && off == 0
				entry := api.Frame{Owner: owner, Stamp: stamp, Next: -1}
				checkValid(t, "an owner and its stamp", spaceOf(3, []api.Frame{entry, free}), ok)
				checkValid(t, "an owner and its stamp", spaceOf(3, []api.Frame{owned(2, 0, -1), entry}), ok)
			}
		}
		for _, stamp := range farNumbers {
			ok := owner >= 0 && owner <= api.MaxSeq && owner == stamp-api.BeltStamp
			checkValid(t, "a stamp far away", spaceOf(3, []api.Frame{{Owner: owner, Stamp: stamp, Next: -1}, free}), ok)
		}
	}
}

// leadsBack follows the links from a frame for as many steps as there are frames.
func leadsBack(frames []api.Frame, from int) bool {
	f := from
	for range frames {
		f = frames[f].Next
		if f == -1 {
			return false
		}
		if f == from {
			return true
		}
	}
	return false
}

// linked is the definition of what Next may be, word for word, for frames that are free or have an owner and its stamp.
func linked(frames []api.Frame) bool {
	for f, entry := range frames {
		if entry.Next == -1 {
			continue
		}
		if entry.Owner == -1 || entry.Next < 0 || entry.Next >= len(frames) || entry.Next == f {
			return false
		}
		next := frames[entry.Next]
		if next.Owner != entry.Owner || next.Stamp != entry.Stamp {
			return false
		}
	}
	for f, a := range frames {
		for g, b := range frames {
			if f != g && a.Next == b.Next && a.Next != -1 {
				return false
			}
		}
	}
	for f := range frames {
		if leadsBack(frames, f) {
			return false
		}
	}
	return true
}

// eachTable visits all tables of n entries of the palette; the argument of visit is used again.
func eachTable(palette []api.Frame, n int, visit func(frames []api.Frame)) {
	frames := make([]api.Frame, n)
	var fill func(f int)
	fill = func(f int) {
		if f == n {
			visit(frames)
			return
		}
		for _, entry := range palette {
			frames[f] = entry
			fill(f + 1)
		}
	}
	fill(0)
}

func TestValidOfAllLinksWithinAnOwner(t *testing.T) {
	for n := 2; n <= 5; n++ {
		var palette []api.Frame
		for next := -2; next <= n; next++ {
			palette = append(palette, owned(6, 1, next))
		}
		valid := 0
		eachTable(palette, n, func(frames []api.Frame) {
			want := linked(frames)
			if want {
				valid++
			}
			checkValid(t, "links of one owner", spaceOf(3, frames), want)
		})
		// As many sets of chains as n frames make: known numbers, so that linked is not trusted alone.
		if want := map[int]int{2: 3, 3: 13, 4: 73, 5: 501}[n]; valid != want {
			t.Errorf("%d tables of %d frames are valid, want %d", valid, n, want)
		}
	}
}

func TestValidOfAllLinksBetweenOwners(t *testing.T) {
	for n := 2; n <= 3; n++ {
		var palette []api.Frame
		for next := -1; next < n; next++ {
			palette = append(palette, api.Frame{Owner: -1, Stamp: -1, Next: next}, owned(6, 1, next), owned(6, 2, next), owned(7, 1, next))
		}
		eachTable(palette, n, func(frames []api.Frame) {
			checkValid(t, "links between owners", spaceOf(3, frames), linked(frames))
		})
	}
}

func TestValidOfLinksThatLeadOutside(t *testing.T) {
	for _, n := range []int{2, 5, 64} {
		for _, next := range append([]int{-65, -3, -2, n, n + 1, 63 + n, 64 + n, 256}, farNumbers...) {
			for _, f := range []int{0, n / 2, n - 1} {
				frames := slices.Repeat([]api.Frame{owned(6, 3, -1)}, n)
				frames[f].Next = next
				checkValid(t, "a link that leads outside", spaceOf(3, frames), false)
			}
		}
	}
}

func TestValidOfLongChains(t *testing.T) {
	for _, n := range []int{2, 3, 32, 63, 64} {
		checkValid(t, "one chain of all frames", spaceOf(8, chainOf(n)), true)
		backward := make([]api.Frame, n)
		for f := range backward {
			backward[f] = owned(api.MaxSeq, 3, f-1)
		}
		checkValid(t, "one chain from the last frame down", spaceOf(3, backward), true)
		for to := range n {
			ring := chainOf(n)
			ring[n-1].Next = to
			checkValid(t, "a chain whose end leads back", spaceOf(3, ring), false)
		}
	}
	ringBesideChain := chainOf(64)
	ringBesideChain[31].Next, ringBesideChain[63].Next = -1, 32
	checkValid(t, "a chain, and a ring that nothing leads to", spaceOf(3, ringBesideChain), false)
	ringBesideChain[63].Next = -1
	checkValid(t, "two chains of one owner", spaceOf(3, ringBesideChain), true)
}

func TestValidChangesNothing(t *testing.T) {
	for _, frames := range [][]api.Frame{{free, free, free}, chainOf(3), {owned(1, 0, 2), free, owned(1, 0, 0)}} {
		s := spaceOf(3, frames)
		s.Words[0] = 5
		frame.Valid(s)
		if !slices.Equal(s.Frames, frames) || s.Words[0] != 5 || slices.ContainsFunc(s.Words[1:], func(w uint64) bool { return w != 0 }) {
			t.Errorf("Valid has changed %v to %v, %v", frames, s.Frames, s.Words)
		}
	}
}

// P3.2

// someSizes are numbers of frames; addresses and pairs are numbered also below the least one of a valid space.
var someSizes = []int{1, 2, 3, 5, 8, 31, 32, 33, 63, 64}

func TestOfAndBaseOfAllAddresses(t *testing.T) {
	eachShift(func(shift int) {
		for _, n := range someSizes {
			s := table(shift, n)
			a := 0
			for f := range n {
				if base, err := frame.Base(s, f); err != api.OK || base != a {
					t.Fatalf("shift %d, %d frames: Base of %d = %d, %d, want %d", shift, n, f, base, err, a)
				}
				for offset := range frame.Size(s) {
					gotFrame, gotOffset, err := frame.Of(s, a)
					if err != api.OK || gotFrame != f || gotOffset != offset {
						t.Fatalf("shift %d, %d frames: Of %d = %d, %d, %d, want %d, %d", shift, n, a, gotFrame, gotOffset, err, f, offset)
					}
					a++
				}
			}
		}
	})
}

func TestOfTheDocumentsExample(t *testing.T) {
	s, _ := frame.New(4, 3)
	if f, offset, err := frame.Of(s, 37); err != api.OK || f != 2 || offset != 5 {
		t.Errorf("Of 37 = %d, %d, %d, want 2, 5", f, offset, err)
	}
}

func TestOfAndBaseOutside(t *testing.T) {
	eachShift(func(shift int) {
		for _, n := range append([]int{0}, someSizes...) {
			s, words := table(shift, n), n*(1<<shift)
			for _, a := range append([]int{-words, -256, -2, -1, words, words + 1, 2 * words, 16384, 16385}, farNumbers...) {
				if a >= 0 && a < words {
					continue
				}
				if f, offset, err := frame.Of(s, a); err != api.ErrRange || f != 0 || offset != 0 {
					t.Errorf("shift %d, %d frames: Of %d = %d, %d, %d, want ErrRange", shift, n, a, f, offset, err)
				}
			}
			for _, f := range append([]int{-64, -2, -1, n, n + 1, n + 64, 256}, farNumbers...) {
				if base, err := frame.Base(s, f); err != api.ErrRange || base != 0 {
					t.Errorf("shift %d, %d frames: Base of %d = %d, %d, want ErrRange", shift, n, f, base, err)
				}
			}
		}
	})
}

// P3.3

func TestPairAndUnpairNumberAllPairs(t *testing.T) {
	for n := 1; n <= 64; n++ {
		s := table(3+n%6, n)
		p := 0
		for f := range n {
			for g := range n {
				if got, err := frame.Pair(s, f, g); err != api.OK || got != p {
					t.Fatalf("%d frames: Pair of %d, %d = %d, %d, want %d", n, f, g, got, err, p)
				}
				if x, y, err := frame.Unpair(s, p); err != api.OK || x != f || y != g {
					t.Fatalf("%d frames: Unpair of %d = %d, %d, %d, want %d, %d", n, p, x, y, err, f, g)
				}
				p++
			}
		}
	}
}

func TestPairAndUnpairOutside(t *testing.T) {
	for n := 0; n <= 64; n++ {
		s := table(8-n%6, n)
		for _, out := range append([]int{-n * n, -n, -2, -1, n, n + 1, 64, 128}, farNumbers...) {
			if out >= 0 && out < n {
				continue
			}
			for _, other := range []int{0, 1, n - 1, n, -1, out, -out} {
				for _, pair := range [][2]int{{out, other}, {other, out}} {
					if p, err := frame.Pair(s, pair[0], pair[1]); err != api.ErrRange || p != 0 {
						t.Errorf("%d frames: Pair of %v = %d, %d, want ErrRange", n, pair, p, err)
					}
				}
			}
		}
		for _, p := range append([]int{-n * n, -n, -2, -1, n * n, n*n + 1, n*n + n, 4096, 8192}, farNumbers...) {
			if p >= 0 && p < n*n {
				continue
			}
			if f, g, err := frame.Unpair(s, p); err != api.ErrRange || f != 0 || g != 0 {
				t.Errorf("%d frames: Unpair of %d = %d, %d, %d, want ErrRange", n, p, f, g, err)
			}
		}
	}
}

// P3.2 and P3.3

// checkNotPermitted asks for numbers inside and outside: the space is rejected before them.
func checkNotPermitted(t *testing.T, s api.Space) {
	t.Helper()
	n := len(s.Frames)
	for _, i := range append([]int{-1, 0, 1, n - 1, n, n * n, 16384}, farNumbers...) {
		if f, offset, err := frame.Of(s, i); err != api.ErrArg || f != 0 || offset != 0 {
			t.Errorf("shift %d, %d frames: Of %d = %d, %d, %d, want ErrArg", s.Shift, n, i, f, offset, err)
		}
		if base, err := frame.Base(s, i); err != api.ErrArg || base != 0 {
			t.Errorf("shift %d, %d frames: Base of %d = %d, %d, want ErrArg", s.Shift, n, i, base, err)
		}
		for _, j := range []int{-1, 0, n} {
			for _, pair := range [][2]int{{i, j}, {j, i}} {
				if p, err := frame.Pair(s, pair[0], pair[1]); err != api.ErrArg || p != 0 {
					t.Errorf("shift %d, %d frames: Pair of %v = %d, %d, want ErrArg", s.Shift, n, pair, p, err)
				}
			}
		}
		if f, g, err := frame.Unpair(s, i); err != api.ErrArg || f != 0 || g != 0 {
			t.Errorf("shift %d, %d frames: Unpair of %d = %d, %d, %d, want ErrArg", s.Shift, n, i, f, g, err)
		}
	}
}

func TestNumbersOfSpacesThatAreNotPermitted(t *testing.T) {
	for _, shift := range badShifts {
		for _, n := range []int{0, 1, 2, 64, 65} {
			checkNotPermitted(t, table(shift, n))
		}
		checkNotPermitted(t, api.Space{Shift: shift, Words: make([]uint64, 24), Frames: chainOf(3)})
	}
	eachShift(func(shift int) {
		for _, n := range []int{65, 66, 128, 1000} {
			checkNotPermitted(t, table(shift, n))
		}
	})
}

// Only Shift and the number of frames count: whether the frames and the words are valid does not matter.
func TestNumbersDoNotDependOnWhatASpaceContains(t *testing.T) {
	valid, _ := frame.New(4, 3)
	withoutWords := api.Space{Shift: 4, Frames: valid.Frames}
	tooManyWords := api.Space{Shift: 4, Words: make([]uint64, 1000), Frames: valid.Frames}
	ring := spaceOf(4, []api.Frame{owned(1, 9, 1), owned(2, 0, 0), {Owner: -7, Stamp: 3, Next: 99}})
	for _, s := range []api.Space{valid, withoutWords, tooManyWords, ring} {
		entries := slices.Clone(s.Frames)
		f, offset, err := frame.Of(s, 47)
		if err != api.OK || f != 2 || offset != 15 {
			t.Errorf("Of 47 = %d, %d, %d, want 2, 15", f, offset, err)
		}
		if _, _, err := frame.Of(s, 48); err != api.ErrRange {
			t.Errorf("Of 48: error %d, want ErrRange", err)
		}
		if base, err := frame.Base(s, 2); err != api.OK || base != 32 {
			t.Errorf("Base of 2 = %d, %d, want 32", base, err)
		}
		if p, err := frame.Pair(s, 2, 1); err != api.OK || p != 7 {
			t.Errorf("Pair of 2, 1 = %d, %d, want 7", p, err)
		}
		if f, g, err := frame.Unpair(s, 7); err != api.OK || f != 2 || g != 1 {
			t.Errorf("Unpair of 7 = %d, %d, %d, want 2, 1", f, g, err)
		}
		if !slices.Equal(s.Frames, entries) {
			t.Errorf("the frames %v have changed to %v", entries, s.Frames)
		}
	}
}
