package chain_test

import (
	"math"
	"slices"
	"testing"

	"beltway/api"
	"beltway/chain"
	"beltway/frame"
	"beltway/pool"
)

// free is the entry of a free frame.
var free = api.Frame{Owner: -1, Stamp: -1, Next: -1}

// farNumbers are outside of every range; sums and shifts of some of them wrap around to small numbers.
var farNumbers = []int{math.MinInt, math.MinInt + 1, -1 << 60, -1 << 56, -1 << 32, 1 << 32, 1 << 56, 1 << 60, 1 << 62, math.MaxInt - 7, math.MaxInt - 1, math.MaxInt}

func owned(seq, belt, next int) api.Frame {
	return api.Frame{Owner: seq, Stamp: belt*api.BeltStamp + seq, Next: next}
}

// spaceOf returns a space with a copy of the frames; every word of a frame with an owner has an own number, those of free frames are 0.
func spaceOf(shift int, frames ...api.Frame) api.Space {
	s := api.Space{Shift: shift, Words: make([]uint64, len(frames)<<shift), Frames: slices.Clone(frames)}
	for a := range s.Words {
		if frames[a>>shift] != free {
			s.Words[a] = uint64(a + 1)
		}
	}
	return s
}

func clone(s api.Space) api.Space {
	return api.Space{Shift: s.Shift, Words: slices.Clone(s.Words), Frames: slices.Clone(s.Frames)}
}

func isEqual(a, b api.Space) bool {
	return a.Shift == b.Shift && slices.Equal(a.Words, b.Words) && slices.Equal(a.Frames, b.Frames)
}

func isZero(s api.Space) bool {
	return s.Shift == 0 && len(s.Words) == 0 && len(s.Frames) == 0
}

// scribble writes to all memory of a space, also behind its lengths.
func scribble(s api.Space) {
	words, frames := s.Words[:cap(s.Words)], s.Frames[:cap(s.Frames)]
	for a := range words {
		words[a] = 1 << 40
	}
	for f := range frames {
		frames[f] = api.Frame{Owner: 9, Stamp: 99, Next: 999}
	}
}

// checkLink checks what Link answers, and that its argument stays and its results are new memory.
func checkLink(t *testing.T, s api.Space, last, f int, wantErr api.Errno) {
	t.Helper()
	before := clone(s)
	out, err := chain.Link(s, last, f)
	result := clone(out)
	again, _ := chain.Link(s, last, f)
	scribble(again)
	if !isEqual(s, before) || !isEqual(out, result) {
		t.Errorf("Link(%d, %d) of %v: its argument or its result has changed", last, f, before.Frames)
	}
	if err != wantErr {
		t.Errorf("Link(%d, %d) of %v: error %d, want %d", last, f, s.Frames, err, wantErr)
		return
	}
	if err != api.OK {
		if !isZero(out) {
			t.Errorf("Link(%d, %d) of %v: %v together with error %d", last, f, s.Frames, out, err)
		}
		return
	}
	want := before
	want.Frames[last].Next = f
	if !isEqual(out, want) || !frame.Valid(out) {
		t.Errorf("Link(%d, %d) of %v: %v, want %v, or words have changed", last, f, s.Frames, out.Frames, want.Frames)
	}
}

// checkList checks what List answers, and the same.
func checkList(t *testing.T, s api.Space, first int, wantErr api.Errno, want ...int) {
	t.Helper()
	before := clone(s)
	got, err := chain.List(s, first)
	result := slices.Clone(got)
	again, _ := chain.List(s, first)
	for i := range again[:cap(again)] {
		again[:cap(again)][i] = 77
	}
	if !isEqual(s, before) || !slices.Equal(got, result) {
		t.Errorf("List(%d) of %v: its argument or its result has changed", first, before.Frames)
	}
	if err != wantErr || !slices.Equal(got, want) {
		t.Errorf("List(%d) of %v = %v, error %d, want %v, error %d", first, s.Frames, got, err, want, wantErr)
	}
}

func checkStep(t *testing.T, s api.Space, a, k, want int, wantErr api.Errno) {
	t.Helper()
	if got, err := chain.Step(s, a, k); got != want || err != wantErr {
		t.Errorf("Step(%d, %d) of %v = %d, error %d, want %d, error %d", a, k, s.Frames, got, err, want, wantErr)
	}
}

func checkIndex(t *testing.T, s api.Space, first, a, want int, wantErr api.Errno) {
	t.Helper()
	if got, err := chain.Index(s, first, a); got != want || err != wantErr {
		t.Errorf("Index(%d, %d) of %v = %d, error %d, want %d, error %d", first, a, s.Frames, got, err, want, wantErr)
	}
}

// invalidSpaces returns spaces of each kind that is not valid; most of them have a free frame 0, and frames of the owner 7 on belt 1 behind it.
func invalidSpaces() []api.Space {
	word := spaceOf(3, free, owned(7, 1, -1), owned(7, 1, -1))
	word.Words[7] = 1 << 63
	short := spaceOf(3, free, owned(7, 1, -1), owned(7, 1, -1))
	short.Words = short.Words[:23]
	long := spaceOf(3, free, owned(7, 1, -1), owned(7, 1, -1))
	long.Words = append(long.Words, 0)
	withoutWords := api.Space{Shift: 3, Frames: []api.Frame{free, owned(7, 1, -1), owned(7, 1, -1)}}
	spaces := []api.Space{
		{},
		{Shift: 3, Words: []uint64{}, Frames: []api.Frame{}},
		word, short, long, withoutWords,
		spaceOf(3, owned(7, 1, -1)),
		spaceOf(3, free),
		spaceOf(2, free, owned(7, 1, -1), owned(7, 1, -1)),
		spaceOf(9, free, owned(7, 1, -1), owned(7, 1, -1)),
		spaceOf(3, free, owned(7, 4, -1), owned(7, 4, -1)),
		spaceOf(3, free, owned(7, -1, -1), owned(7, -1, -1)),
		spaceOf(3, free, api.Frame{Owner: 7, Stamp: -1, Next: -1}),
		spaceOf(3, owned(7, 1, -1), api.Frame{Owner: -1, Stamp: 7, Next: -1}),
		spaceOf(3, free, owned(-2, 1, -1), owned(7, 1, -1)),
		spaceOf(3, free, owned(7, 1, 0)),
		spaceOf(3, free, owned(7, 1, 1), owned(7, 1, -1)),
		spaceOf(3, free, owned(7, 1, 2), owned(7, 1, 1)),
		spaceOf(3, free, owned(7, 1, 2), owned(7, 1, 3), owned(7, 1, 1)),
		spaceOf(3, free, owned(7, 1, 3), owned(7, 1, -1)),
		spaceOf(3, free, owned(7, 1, -2), owned(7, 1, -1)),
		spaceOf(3, free, owned(7, 1, math.MaxInt), owned(7, 1, math.MinInt)),
		spaceOf(3, free, owned(7, 1, 2), owned(7, 2, -1)),
		spaceOf(3, free, owned(7, 1, 3), owned(7, 1, 3), owned(7, 1, -1)),
		spaceOf(3, append(slices.Repeat([]api.Frame{owned(7, 1, -1)}, 64), free)...),
		spaceOf(3, append(slices.Repeat([]api.Frame{free}, 64), owned(7, 1, -1))...),
		{Shift: 3, Frames: make([]api.Frame, 1000)},
	}
	for _, shift := range []int{math.MinInt, -3, -1, 0, 63, 64, 67, 1 << 32, math.MaxInt} {
		spaces = append(spaces, api.Space{Shift: shift, Words: make([]uint64, 24), Frames: []api.Frame{free, owned(7, 1, -1), owned(7, 1, -1)}})
	}
	return spaces
}

// numbersAround returns the numbers from -3 to n + 3, and the far ones.
func numbersAround(n int) []int {
	numbers := slices.Clone(farNumbers)
	for i := -3; i <= n+3; i++ {
		numbers = append(numbers, i)
	}
	return numbers
}

// eachSmallSpace visits all valid spaces of 2 to 4 frames that are free, or belong to one of three stamps, two of which have the same owner.
func eachSmallSpace(visit func(s api.Space)) {
	for n := 2; n <= 4; n++ {
		entries := []api.Frame{free}
		for next := -1; next < n; next++ {
			entries = append(entries, owned(5, 1, next), owned(5, 2, next), owned(6, 1, next))
		}
		eachTable(make([]api.Frame, 0, n), entries, func(frames []api.Frame) {
			if s := spaceOf(3, frames...); frame.Valid(s) {
				visit(s)
			}
		})
	}
}

// eachTable visits all tables that begin with the given entries and fill their capacity.
func eachTable(begin, entries []api.Frame, visit func(frames []api.Frame)) {
	if len(begin) == cap(begin) {
		visit(begin)
		return
	}
	for _, entry := range entries {
		eachTable(append(begin, entry), entries, visit)
	}
}

// eachChainOrder visits all spaces of n frames that make one chain.
func eachChainOrder(shift, n int, visit func(s api.Space, order []int)) {
	var extend func(order []int)
	extend = func(order []int) {
		if len(order) == n {
			visit(chained(shift, n, order), order)
			return
		}
		for f := range n {
			if !slices.Contains(order, f) {
				extend(append(slices.Clone(order), f))
			}
		}
	}
	extend(nil)
}

// chained returns a space of n frames of which those of the order make a chain; the others are free.
func chained(shift, n int, order []int) api.Space {
	frames := slices.Repeat([]api.Frame{free}, n)
	for i, f := range order {
		frames[f] = owned(7, 2, -1)
		if i+1 < len(order) {
			frames[f].Next = order[i+1]
		}
	}
	return spaceOf(shift, frames...)
}

// wordsOf returns the addresses of a chain as one array: those of its first frame, then those of the next one, and so on.
func wordsOf(s api.Space, first int) []int {
	var addresses []int
	for f := first; f != -1; f = s.Frames[f].Next {
		for i := range 1 << s.Shift {
			addresses = append(addresses, f*(1<<s.Shift)+i)
		}
	}
	return addresses
}

// leads reports whether f is last or leads to last.
func leads(s api.Space, f, last int) bool {
	return f == last || f != -1 && leads(s, s.Frames[f].Next, last)
}

// wantedLink says what Link answers for a valid space.
func wantedLink(s api.Space, last, f int) api.Errno {
	n := len(s.Frames)
	if last < 0 || last >= n || f < 0 || f >= n {
		return api.ErrRange
	}
	if s.Frames[last] == free || s.Frames[f] == free || s.Frames[last].Stamp != s.Frames[f].Stamp || s.Frames[last].Next != -1 {
		return api.ErrState
	}
	for g := range n {
		if s.Frames[g].Next == f {
			return api.ErrState
		}
	}
	if leads(s, f, last) {
		return api.ErrState
	}
	return api.OK
}

// wantedStep says what Step answers for a valid space.
func wantedStep(s api.Space, a, k int) (int, api.Errno) {
	if a < 0 || a >= len(s.Words) || k < 0 {
		return 0, api.ErrRange
	}
	f := a / (1 << s.Shift)
	if s.Frames[f] == free {
		return 0, api.ErrState
	}
	rest := wordsOf(s, f)[a%(1<<s.Shift):]
	if k >= len(rest) {
		return 0, api.ErrRange
	}
	return rest[k], api.OK
}

// wantedIndex says what Index answers for a valid space.
func wantedIndex(s api.Space, first, a int) (int, api.Errno) {
	if first < 0 || first >= len(s.Frames) || a < 0 || a >= len(s.Words) {
		return 0, api.ErrRange
	}
	if s.Frames[first] == free {
		return 0, api.ErrState
	}
	k := slices.Index(wordsOf(s, first), a)
	if k < 0 {
		return 0, api.ErrRange
	}
	return k, api.OK
}

// P5.1

func TestLinkOfAllFramesOfSmallSpaces(t *testing.T) {
	spaces, links := 0, 0
	eachSmallSpace(func(s api.Space) {
		spaces++
		for last := -1; last <= len(s.Frames); last++ {
			for f := -1; f <= len(s.Frames); f++ {
				want := wantedLink(s, last, f)
				checkLink(t, s, last, f, want)
				if want == api.OK {
					links++
				}
			}
		}
	})
	if spaces == 0 || links == 0 {
		t.Errorf("%d links were made in %d spaces", links, spaces)
	}
}

func TestLinkPutsTheFramesOfTheLargestSpaceInAnyOrder(t *testing.T) {
	for shift := api.MinShift; shift <= api.MaxShift; shift++ {
		for _, factor := range []int{1, 5, 37, 63} {
			frames := slices.Repeat([]api.Frame{owned(api.MaxSeq, 3, -1)}, api.MaxFrames)
			s := spaceOf(shift, frames...)
			// An odd factor reaches each of the 64 frames once.
			order := []int{0}
			for i := 1; i < api.MaxFrames; i++ {
				last, f := order[i-1], i*factor%api.MaxFrames
				checkLink(t, s, last, f, api.OK)
				s, _ = chain.Link(s, last, f)
				order = append(order, f)
			}
			checkLink(t, s, order[63], order[0], api.ErrState)
			checkList(t, s, order[0], api.OK, order...)
		}
	}
}

func TestLinkJoinsChains(t *testing.T) {
	s := spaceOf(3, owned(4, 0, 2), owned(4, 0, 3), owned(4, 0, -1), owned(4, 0, -1), owned(4, 0, -1))
	checkLink(t, s, 2, 1, api.OK)
	checkLink(t, s, 3, 0, api.OK)
	checkLink(t, s, 4, 0, api.OK)
	checkLink(t, s, 2, 4, api.OK)
	joined, _ := chain.Link(s, 2, 1)
	checkList(t, joined, 0, api.OK, 0, 2, 1, 3)
	checkLink(t, joined, 3, 4, api.OK)
	checkLink(t, joined, 4, 0, api.OK)
	checkLink(t, joined, 3, 0, api.ErrState)
}

func TestLinkOfFramesThatCannotBeLinked(t *testing.T) {
	s := spaceOf(3, free, owned(7, 1, 2), owned(7, 1, -1), owned(7, 1, -1), owned(7, 2, -1), owned(8, 1, -1), free)
	for _, x := range []struct {
		why     string
		last, f int
	}{
		{"last is free", 0, 3}, {"f is free", 3, 0}, {"both are free", 0, 6}, {"one free frame twice", 0, 0},
		{"their belts differ", 3, 4}, {"their belts differ", 4, 3}, {"their owners differ", 3, 5}, {"their owners differ", 5, 3},
		{"last has a next frame", 1, 3}, {"they are linked so already", 1, 2}, {"f follows another frame", 3, 2},
		{"f is last", 3, 3}, {"f is last, which follows another frame", 2, 2}, {"f leads to last", 2, 1},
	} {
		if _, err := chain.Link(s, x.last, x.f); err != api.ErrState {
			t.Errorf("%s: error %d, want ErrState", x.why, err)
		}
		checkLink(t, s, x.last, x.f, api.ErrState)
	}
	checkLink(t, s, 2, 3, api.OK)
	checkLink(t, s, 3, 1, api.OK)
}

// The stamps of an owner on two belts, and of two owners on one belt, differ even where their halves are equal.
func TestLinkOfStampsThatAreClose(t *testing.T) {
	for _, x := range [][2]api.Frame{
		{owned(0, 0, -1), owned(0, 1, -1)},
		{owned(api.MaxSeq, 0, -1), owned(0, 1, -1)},
		{owned(api.MaxSeq, 2, -1), owned(api.MaxSeq, 3, -1)},
		{owned(1, 0, -1), owned(0, 1, -1)},
	} {
		s := spaceOf(3, x[0], x[1], x[0], x[1])
		checkLink(t, s, 0, 1, api.ErrState)
		checkLink(t, s, 1, 0, api.ErrState)
		checkLink(t, s, 0, 2, api.OK)
		checkLink(t, s, 3, 1, api.OK)
	}
}

func TestLinkOutside(t *testing.T) {
	spaces := []api.Space{
		spaceOf(3, free, free),
		spaceOf(3, owned(7, 1, 1), owned(7, 1, -1), free),
		spaceOf(3, slices.Repeat([]api.Frame{owned(7, 1, -1)}, api.MaxFrames)...),
	}
	for _, s := range spaces {
		for _, outside := range append([]int{-64, -2, -1, len(s.Frames), len(s.Frames) + 1, 128}, farNumbers...) {
			// Whatever the state of the other frame is, the index is checked first.
			for f := range s.Frames {
				checkLink(t, s, outside, f, api.ErrRange)
				checkLink(t, s, f, outside, api.ErrRange)
			}
			checkLink(t, s, outside, outside, api.ErrRange)
			checkLink(t, s, outside, -1, api.ErrRange)
		}
	}
}

func TestLinkOfSpacesThatAreNotValid(t *testing.T) {
	for i, s := range invalidSpaces() {
		for _, x := range [][2]int{{1, 2}, {2, 1}, {0, 1}, {1, 1}, {-1, 0}, {0, 64}, {1, math.MaxInt}, {math.MinInt, -1}} {
			if out, err := chain.Link(s, x[0], x[1]); err != api.ErrArg || !isZero(out) {
				t.Errorf("space %d: Link of %v: %v, error %d, want ErrArg", i, x, out.Frames, err)
			}
		}
	}
}

// P5.2

func TestListOfAllFramesOfSmallSpaces(t *testing.T) {
	eachSmallSpace(func(s api.Space) {
		for first, entry := range s.Frames {
			if entry == free {
				checkList(t, s, first, api.ErrState)
				continue
			}
			var want []int
			for _, a := range wordsOf(s, first) {
				if a%8 == 0 {
					want = append(want, a/8)
				}
			}
			checkList(t, s, first, api.OK, want...)
		}
		for _, first := range []int{-2, -1, len(s.Frames), len(s.Frames) + 1} {
			checkList(t, s, first, api.ErrRange)
		}
	})
}

func TestListOfAllOrders(t *testing.T) {
	for n := 2; n <= 6; n++ {
		eachChainOrder(3, n, func(s api.Space, order []int) {
			for i, first := range order {
				checkList(t, s, first, api.OK, order[i:]...)
			}
		})
	}
}

func TestListOutside(t *testing.T) {
	for _, s := range []api.Space{spaceOf(3, free, owned(7, 1, -1)), chained(8, api.MaxFrames, []int{63, 0, 5})} {
		for _, first := range append([]int{-64, -2, -1, len(s.Frames), len(s.Frames) + 1, 128}, farNumbers...) {
			checkList(t, s, first, api.ErrRange)
		}
	}
}

func TestListOfSpacesThatAreNotValid(t *testing.T) {
	for i, s := range invalidSpaces() {
		for _, first := range []int{0, 1, 2, 3, 64, -1, math.MinInt, math.MaxInt} {
			if list, err := chain.List(s, first); err != api.ErrArg || len(list) != 0 {
				t.Errorf("space %d: List of %d: %v, error %d, want ErrArg", i, first, list, err)
			}
		}
	}
}

// P5.3

func TestStepFromAllWordsOfSmallSpaces(t *testing.T) {
	eachSmallSpace(func(s api.Space) {
		before := clone(s)
		for a := -1; a <= len(s.Words); a++ {
			for k := -1; k <= len(s.Words); k++ {
				want, err := wantedStep(s, a, k)
				checkStep(t, s, a, k, want, err)
			}
		}
		if !isEqual(s, before) {
			t.Errorf("Step has changed %v to %v", before.Frames, s.Frames)
		}
	})
}

func TestStepInAllOrders(t *testing.T) {
	for n := 2; n <= 4; n++ {
		for _, shift := range []int{3, 4} {
			eachChainOrder(shift, n, func(s api.Space, order []int) {
				words := wordsOf(s, order[0])
				for i, a := range words {
					for j, b := range words[i:] {
						checkStep(t, s, a, j, b, api.OK)
					}
					checkStep(t, s, a, len(words)-i, 0, api.ErrRange)
				}
			})
		}
	}
}

func TestStepOfFarNumbers(t *testing.T) {
	for _, s := range []api.Space{chained(3, 3, []int{2, 0}), chained(3, 64, []int{0, 63, 1})} {
		for _, a := range numbersAround(len(s.Words)) {
			for _, k := range append([]int{-1, 0, 1, len(s.Words), len(s.Words) + 1}, farNumbers...) {
				want, err := wantedStep(s, a, k)
				checkStep(t, s, a, k, want, err)
			}
		}
	}
}

func TestStepThroughTheLargestSpace(t *testing.T) {
	order := make([]int, api.MaxFrames)
	for i := range order {
		order[i] = i * 37 % api.MaxFrames
	}
	s := chained(api.MaxShift, api.MaxFrames, order)
	words := wordsOf(s, order[0])
	for k, a := range words {
		checkStep(t, s, words[0], k, a, api.OK)
		checkStep(t, s, a, len(words)-1-k, words[len(words)-1], api.OK)
		checkStep(t, s, a, len(words)-k, 0, api.ErrRange)
	}
}

func TestStepChecksTheNumbersBeforeTheFrame(t *testing.T) {
	s := spaceOf(3, free, owned(7, 1, -1), free)
	for a := range 8 {
		checkStep(t, s, a, 0, 0, api.ErrState)
		checkStep(t, s, a, -1, 0, api.ErrRange)
		checkStep(t, s, a, math.MinInt, 0, api.ErrRange)
		// A free frame is one before the chain could end.
		checkStep(t, s, a, 8, 0, api.ErrState)
		checkStep(t, s, a, math.MaxInt, 0, api.ErrState)
	}
	checkStep(t, s, 7, 1, 0, api.ErrState)
	checkStep(t, s, 15, 0, 15, api.OK)
	checkStep(t, s, 15, 1, 0, api.ErrRange)
	checkStep(t, s, 16, 0, 0, api.ErrState)
	checkStep(t, s, 24, 0, 0, api.ErrRange)
	checkStep(t, s, -1, 9, 0, api.ErrRange)
}

func TestStepOfSpacesThatAreNotValid(t *testing.T) {
	for i, s := range invalidSpaces() {
		for _, a := range []int{0, 8, 15, 16, 24, -1, math.MinInt, math.MaxInt} {
			for _, k := range []int{0, 1, 8, -1, math.MinInt, math.MaxInt} {
				if got, err := chain.Step(s, a, k); err != api.ErrArg || got != 0 {
					t.Errorf("space %d: Step(%d, %d) = %d, error %d, want ErrArg", i, a, k, got, err)
				}
			}
		}
	}
}

// P5.4

func TestIndexOfAllWordsOfSmallSpaces(t *testing.T) {
	eachSmallSpace(func(s api.Space) {
		before := clone(s)
		for first := -1; first <= len(s.Frames); first++ {
			for a := -1; a <= len(s.Words); a++ {
				want, err := wantedIndex(s, first, a)
				checkIndex(t, s, first, a, want, err)
			}
		}
		if !isEqual(s, before) {
			t.Errorf("Index has changed %v to %v", before.Frames, s.Frames)
		}
	})
}

func TestIndexInTheLargestSpace(t *testing.T) {
	order := make([]int, api.MaxFrames)
	for i := range order {
		order[i] = i * 37 % api.MaxFrames
	}
	s := chained(api.MaxShift, api.MaxFrames, order)
	for k, a := range wordsOf(s, order[0]) {
		checkIndex(t, s, order[0], a, k, api.OK)
	}
	for k, a := range wordsOf(s, order[63]) {
		checkIndex(t, s, order[63], a, k, api.OK)
		checkIndex(t, s, order[62], a, k+256, api.OK)
	}
	checkIndex(t, s, order[1], order[0]*256, 0, api.ErrRange)
}

func TestIndexOfFarNumbers(t *testing.T) {
	for _, s := range []api.Space{chained(3, 3, []int{2, 0}), chained(3, 64, []int{0, 63, 1})} {
		for _, a := range numbersAround(len(s.Words)) {
			for _, first := range append([]int{-1, 0, 1, 2, len(s.Frames) - 1, len(s.Frames)}, farNumbers...) {
				want, err := wantedIndex(s, first, a)
				checkIndex(t, s, first, a, want, err)
			}
		}
	}
}

func TestIndexChecksTheNumbersBeforeTheFrames(t *testing.T) {
	s := spaceOf(3, free, owned(7, 1, -1), owned(7, 1, 1), owned(8, 1, -1))
	// A free first frame comes after all numbers, and before the search for a's frame.
	checkIndex(t, s, 0, -1, 0, api.ErrRange)
	checkIndex(t, s, 0, 32, 0, api.ErrRange)
	checkIndex(t, s, 0, 0, 0, api.ErrState)
	checkIndex(t, s, 0, 8, 0, api.ErrState)
	checkIndex(t, s, 4, 0, 0, api.ErrRange)
	checkIndex(t, s, -1, 8, 0, api.ErrRange)
	// a's frame may be free, before first, of another chain of the same owner, or of another owner.
	checkIndex(t, s, 2, 0, 0, api.ErrRange)
	checkIndex(t, s, 1, 16, 0, api.ErrRange)
	checkIndex(t, s, 2, 24, 0, api.ErrRange)
	checkIndex(t, s, 3, 8, 0, api.ErrRange)
	checkIndex(t, s, 2, 8, 8, api.OK)
	apart := spaceOf(3, owned(7, 1, -1), owned(7, 1, -1))
	checkIndex(t, apart, 0, 8, 0, api.ErrRange)
	checkIndex(t, apart, 1, 7, 0, api.ErrRange)
}

func TestIndexOfSpacesThatAreNotValid(t *testing.T) {
	for i, s := range invalidSpaces() {
		for _, first := range []int{0, 1, 2, 3, 64, -1, math.MinInt, math.MaxInt} {
			for _, a := range []int{0, 8, 15, 16, 24, -1, math.MinInt, math.MaxInt} {
				if got, err := chain.Index(s, first, a); err != api.ErrArg || got != 0 {
					t.Errorf("space %d: Index(%d, %d) = %d, error %d, want ErrArg", i, first, a, got, err)
				}
			}
		}
	}
}

// P5.1 to P5.4 together

func TestTheDocumentsExample(t *testing.T) {
	s, _ := frame.New(3, 3)
	for _, owner := range []int{5, 6, 5} {
		s, _, _ = pool.Take(s, owner, 0)
	}
	s, err := chain.Link(s, 2, 0)
	if err != api.OK {
		t.Fatalf("Link(2, 0): error %d", err)
	}
	checkList(t, s, 2, api.OK, 2, 0)
	checkStep(t, s, 23, 1, 0, api.OK)
	checkIndex(t, s, 2, 3, 11, api.OK)
}

// The chapter's Consequences.

func TestStepAndIndexAreInverse(t *testing.T) {
	eachChainOrder(3, 4, func(s api.Space, order []int) {
		for i, first := range order {
			base, _ := frame.Base(s, first)
			for k, b := range wordsOf(s, order[i]) {
				got, err := chain.Index(s, first, b)
				if got != k || err != api.OK {
					t.Errorf("Index(%d, %d) of %v = %d, error %d, want %d", first, b, s.Frames, got, err, k)
				}
				checkStep(t, s, base, got, b, api.OK)
			}
		}
	})
}

func TestTwoStepsAreOne(t *testing.T) {
	s := chained(3, 5, []int{3, 0, 4})
	for a := range s.Words {
		for j := 0; j <= 26; j++ {
			middle, err := chain.Step(s, a, j)
			if err != api.OK {
				continue
			}
			for k := 0; k <= 26; k++ {
				want, wantErr := wantedStep(s, a, j+k)
				checkStep(t, s, middle, k, want, wantErr)
				checkStep(t, s, a, j+k, want, wantErr)
			}
		}
	}
}
