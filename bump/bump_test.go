package bump_test

import (
	"math"
	"slices"
	"testing"

	"beltway/api"
	"beltway/bits"
	"beltway/bump"
	"beltway/chain"
	"beltway/frame"
	"beltway/pool"
)

// free is the entry of a free frame.
var free = api.Frame{Owner: -1, Stamp: -1, Next: -1}

// farNumbers are outside of every range; the sums and stamps of some of them wrap around to small numbers.
var farNumbers = []int{math.MinInt, math.MinInt + 1, math.MinInt + 8, -1 << 62, -1 << 33, -1 << 32, -2, 65, 1 << 33, 1<<32 + 1, 1 << 40, 1<<40 + 1, 1 << 62, math.MaxInt - 8, math.MaxInt - 1, math.MaxInt}

// badCounts are numbers of words that Alloc does not append.
var badCounts = append([]int{-48, -8, -1, 0, 49, 50, 56, 64, 256}, farNumbers...)

func owned(seq, belt, next int) api.Frame {
	return api.Frame{Owner: seq, Stamp: belt*api.BeltStamp + seq, Next: next}
}

// spaceOf returns a space with a copy of the frames; every word of a frame with an owner has an own number, those of free frames are 0.
func spaceOf(shift int, frames ...api.Frame) api.Space {
	s := api.Space{Shift: shift, Words: make([]uint64, len(frames)<<shift), Frames: slices.Clone(frames)}
	for a := range s.Words {
		if frames[a>>shift] != free {
			s.Words[a] = uint64(a+1) << 40
		}
	}
	return s
}

// link makes the frames of the order the chain of an owner.
func link(frames []api.Frame, seq, belt int, order ...int) {
	for k, f := range order {
		frames[f] = owned(seq, belt, -1)
		if k+1 < len(order) {
			frames[f].Next = order[k+1]
		}
	}
}

// chained returns a space of n frames of which those of the order are the chain of the increment 5 of belt 1; the others are free.
func chained(shift, n int, order ...int) api.Space {
	frames := slices.Repeat([]api.Frame{free}, n)
	link(frames, 5, 1, order...)
	return spaceOf(shift, frames...)
}

// crowded returns such a space in which only so many of the other frames are free, those with the greatest indices.
func crowded(shift, n, left int, order ...int) api.Space {
	s := chained(shift, n, order...)
	for f := range s.Frames {
		if s.Frames[f] == free && len(framesOf(s, -1)) > left {
			s.Frames[f] = owned(9+f, f%4, -1)
		}
	}
	return spaceOf(shift, s.Frames...)
}

// filled returns the increment 5 of belt 1 with its chain and so many words.
func filled(words int, order ...int) api.Increment {
	if len(order) == 0 {
		return empty(5, 1)
	}
	return api.Increment{Seq: 5, Belt: 1, First: order[0], Last: order[len(order)-1], Words: words}
}

// empty returns an increment without words.
func empty(seq, belt int) api.Increment {
	return api.Increment{Seq: seq, Belt: belt, First: -1, Last: -1}
}

// orders are chains in spaces of nine frames: without a frame, of one, in ascending order, and in others.
func orders() [][]int {
	return [][]int{{}, {0}, {4}, {8}, {0, 1}, {1, 0}, {6, 2}, {0, 1, 2}, {3, 7, 1}, {8, 5, 2, 0}}
}

// scattered returns all frames of the largest space, not ascending.
func scattered() []int {
	order := make([]int, api.MaxFrames)
	for k := range order {
		order[k] = k * 37 % api.MaxFrames
	}
	return order
}

// invalidSpaces returns spaces that are not valid; most of them have a free frame 0, and a frame 1 that would be the chain of the increment 5 of belt 1.
func invalidSpaces() []api.Space {
	word := chained(3, 3, 1)
	word.Words[7] = 1 << 63
	short := chained(3, 3, 1)
	short.Words = short.Words[:23]
	long := chained(3, 3, 1)
	long.Words = append(long.Words, 0)
	spaces := []api.Space{
		{},
		{Shift: 3, Words: []uint64{}, Frames: []api.Frame{}},
		word, short, long,
		{Shift: 3, Frames: []api.Frame{free, owned(5, 1, -1)}},
		{Shift: 3, Frames: make([]api.Frame, 1000)},
		spaceOf(3, owned(5, 1, -1)),
		spaceOf(3, free),
		chained(2, 3, 1),
		chained(9, 3, 1),
		spaceOf(3, free, owned(5, 1, -1), owned(8, 4, -1)),
		spaceOf(3, free, owned(5, 1, -1), owned(-2, 1, -1)),
		spaceOf(3, free, owned(5, 1, -1), owned(8, 1, 0)),
		spaceOf(3, free, owned(5, 1, 1)),
		spaceOf(3, free, owned(5, 1, 2), owned(5, 1, 1)),
		spaceOf(3, free, owned(5, 1, 3)),
		spaceOf(3, free, owned(5, 1, math.MaxInt), owned(5, 1, math.MinInt)),
		spaceOf(3, free, owned(5, 1, 2), owned(6, 1, -1)),
		spaceOf(3, append(slices.Repeat([]api.Frame{free}, api.MaxFrames), owned(5, 1, -1))...),
	}
	for _, shift := range []int{math.MinInt, -3, 0, 64, 67, math.MaxInt} {
		spaces = append(spaces, api.Space{Shift: shift, Words: make([]uint64, 16), Frames: []api.Frame{free, owned(5, 1, -1)}})
	}
	return spaces
}

// eachSpace visits all valid spaces of n frames that are free or have one of the owners, which are numbers and belts.
func eachSpace(n int, owners [][2]int, visit func(s api.Space)) {
	entries := []api.Frame{free}
	for _, x := range owners {
		for next := -1; next < n; next++ {
			entries = append(entries, owned(x[0], x[1], next))
		}
	}
	total := 1
	for range n {
		total *= len(entries)
	}
	for number := range total {
		frames := make([]api.Frame, n)
		for f, rest := 0, number; f < n; f, rest = f+1, rest/len(entries) {
			frames[f] = entries[rest%len(entries)]
		}
		if s := spaceOf(3, frames...); frame.Valid(s) {
			visit(s)
		}
	}
}

// eachSmallSpace visits all valid spaces of two and three frames with some stamps, and all of four frames with two.
func eachSmallSpace(visit func(s api.Space)) {
	eachSpace(2, [][2]int{{5, 1}, {5, 2}, {6, 1}}, visit)
	eachSpace(3, [][2]int{{5, 1}, {5, 2}, {6, 1}}, visit)
	eachSpace(4, [][2]int{{5, 1}, {6, 1}}, visit)
}

// eachIncrement visits increments with all first and last frames, and numbers of words at the ends of frames, valid or not.
func eachIncrement(s api.Space, visit func(i api.Increment)) {
	n := len(s.Frames)
	for _, x := range [][2]int{{5, 1}, {5, 2}, {6, 1}, {7, 1}} {
		for first := -1; first <= n; first++ {
			for last := -1; last <= n; last++ {
				for _, words := range []int{-1, 0, 1, 7, 8, 9, 15, 16, 17, 24, 25, 32, 33} {
					visit(api.Increment{Seq: x[0], Belt: x[1], First: first, Last: last, Words: words})
				}
			}
		}
	}
}

func clone(s api.Space) api.Space {
	return api.Space{Shift: s.Shift, Words: slices.Clone(s.Words), Frames: slices.Clone(s.Frames)}
}

func isEqual(a, b api.Space) bool {
	return a.Shift == b.Shift && slices.Equal(a.Words, b.Words) && slices.Equal(a.Frames, b.Frames)
}

func isZero(s api.Space) bool {
	return s.Shift == 0 && len(s.Words) == 0 && len(s.Frames) == 0
}

// scribble writes to all memory of a space, also behind its lengths.
func scribble(s api.Space) {
	words, frames := s.Words[:cap(s.Words)], s.Frames[:cap(s.Frames)]
	for a := range words {
		words[a] = 77
	}
	for f := range frames {
		frames[f] = api.Frame{Owner: 9, Stamp: 99, Next: 999}
	}
}

// framesOf returns the frames of an owner, ascending; those without one are free.
func framesOf(s api.Space, owner int) []int {
	var frames []int
	for f, entry := range s.Frames {
		if entry.Owner == owner {
			frames = append(frames, f)
		}
	}
	return frames
}

// framesFrom returns first and the frames that follow; none if it is -1.
func framesFrom(s api.Space, first int) []int {
	var frames []int
	for f := first; f != -1; f = s.Frames[f].Next {
		frames = append(frames, f)
	}
	return frames
}

// wantedFrames says how many frames so many words need, which are not many.
func wantedFrames(s api.Space, words int) int {
	n := 0
	for n*(1<<s.Shift) < words {
		n++
	}
	return n
}

// wantedValid says whether an increment with few words is valid in a valid space.
func wantedValid(s api.Space, i api.Increment) bool {
	if i.Seq < 0 || i.Seq > 4294967295 || i.Belt < 0 || i.Belt > 3 || i.Words < 0 {
		return false
	}
	if i.Words == 0 {
		return i.First == -1 && i.Last == -1
	}
	if i.First < 0 || i.First >= len(s.Frames) || s.Frames[i.First].Owner != i.Seq || s.Frames[i.First].Stamp != i.Belt*4294967296+i.Seq {
		return false
	}
	list := framesFrom(s, i.First)
	if i.Last != list[len(list)-1] || len(list) != wantedFrames(s, i.Words) {
		return false
	}
	slices.Sort(list)
	return slices.Equal(list, framesOf(s, i.Seq))
}

// wantedAlloc says what Alloc answers for a valid space and an increment with few words.
func wantedAlloc(s api.Space, i api.Increment, n int) (api.Space, api.Increment, int, api.Errno) {
	if !wantedValid(s, i) || n < 1 || n > 48 {
		return api.Space{}, api.Increment{}, 0, api.ErrArg
	}
	if i.Words == 0 && len(framesOf(s, i.Seq)) > 0 {
		return api.Space{}, api.Increment{}, 0, api.ErrState
	}
	size, left, order := 1<<s.Shift, framesOf(s, -1), framesFrom(s, i.First)
	for len(order)*size < i.Words+n {
		if len(left) == 0 {
			return api.Space{}, api.Increment{}, 0, api.ErrFull
		}
		order, left = append(order, left[0]), left[1:]
	}
	out := clone(s)
	link(out.Frames, i.Seq, i.Belt, order...)
	grown := api.Increment{Seq: i.Seq, Belt: i.Belt, First: order[0], Last: order[len(order)-1], Words: i.Words + n}
	return out, grown, order[i.Words/size]*size + i.Words%size, api.OK
}

// wantedDrop says what Drop answers for a valid space and an increment with few words.
func wantedDrop(s api.Space, i api.Increment) (api.Space, api.Errno) {
	if !wantedValid(s, i) {
		return api.Space{}, api.ErrArg
	}
	if i.First == -1 {
		return api.Space{}, api.ErrState
	}
	out := clone(s)
	for _, f := range framesFrom(s, i.First) {
		out.Frames[f] = free
		clear(out.Words[f<<s.Shift : (f+1)<<s.Shift])
	}
	return out, api.OK
}

// checkAlloc compares Alloc with what is wanted of a valid space, and checks that its argument stays, its results are new memory, and both are valid.
func checkAlloc(t *testing.T, s api.Space, i api.Increment, n int) (api.Space, api.Increment, int, api.Errno) {
	t.Helper()
	before := clone(s)
	out, grown, a, err := bump.Alloc(s, i, n)
	result := clone(out)
	again, _, _, _ := bump.Alloc(s, i, n)
	scribble(again)
	if !isEqual(s, before) || !isEqual(out, result) {
		t.Errorf("Alloc(%v, %d) in %v: its argument or its result has changed", i, n, before.Frames)
	}
	want, wantGrown, wantA, wantErr := wantedAlloc(before, i, n)
	if err != wantErr || grown != wantGrown || a != wantA || !slices.Equal(out.Frames, want.Frames) {
		t.Errorf("Alloc(%v, %d) in %v: %v, %v, address %d, error %d, want %v, %v, address %d, error %d", i, n, s.Frames, out.Frames, grown, a, err, want.Frames, wantGrown, wantA, wantErr)
	}
	if out.Shift != want.Shift || !slices.Equal(out.Words, want.Words) {
		t.Errorf("Alloc(%v, %d) in %v: shift %d, want %d, or the words have changed", i, n, s.Frames, out.Shift, want.Shift)
	}
	if err == api.OK && (!frame.Valid(out) || !bump.Valid(out, grown)) {
		t.Errorf("Alloc(%v, %d) in %v: %v or %v is not valid", i, n, s.Frames, out.Frames, grown)
	}
	return out, grown, a, err
}

// checkDrop compares Drop with what is wanted of a valid space, and checks the same.
func checkDrop(t *testing.T, s api.Space, i api.Increment) (api.Space, api.Errno) {
	t.Helper()
	before := clone(s)
	out, err := bump.Drop(s, i)
	result := clone(out)
	again, _ := bump.Drop(s, i)
	scribble(again)
	if !isEqual(s, before) || !isEqual(out, result) {
		t.Errorf("Drop(%v) in %v: its argument or its result has changed", i, before.Frames)
	}
	want, wantErr := wantedDrop(before, i)
	if err != wantErr || !isEqual(out, want) {
		t.Errorf("Drop(%v) in %v: %v, error %d, want %v, error %d, or other words are 0", i, s.Frames, out.Frames, err, want.Frames, wantErr)
	}
	if err == api.OK && (!frame.Valid(out) || bump.Valid(out, i)) {
		t.Errorf("Drop(%v) in %v: the space %v is not valid, or the increment still is", i, s.Frames, out.Frames)
	}
	return out, err
}

// checkNotValid checks that Valid is false, and that Alloc and Drop answer ErrArg with zero values, also for numbers of words that are not permitted.
func checkNotValid(t *testing.T, why string, s api.Space, i api.Increment) {
	t.Helper()
	before := clone(s)
	if bump.Valid(s, i) {
		t.Errorf("%s: Valid(%v) is true in %v", why, i, s.Frames)
	}
	for _, n := range append([]int{1, 8, 48}, badCounts...) {
		if out, grown, a, err := bump.Alloc(s, i, n); !isZero(out) || grown != (api.Increment{}) || a != 0 || err != api.ErrArg {
			t.Errorf("%s: Alloc(%v, %d): %v, %v, address %d, error %d, want ErrArg", why, i, n, out.Frames, grown, a, err)
		}
	}
	if out, err := bump.Drop(s, i); !isZero(out) || err != api.ErrArg {
		t.Errorf("%s: Drop(%v): %v, error %d, want ErrArg", why, i, out.Frames, err)
	}
	if !isEqual(s, before) {
		t.Errorf("%s: %v has changed to %v, or its words have", why, before.Frames, s.Frames)
	}
}

// P9.1: Valid

func TestValidOfAllIncrementsInSmallSpaces(t *testing.T) {
	eachSmallSpace(func(s api.Space) {
		before := clone(s)
		eachIncrement(s, func(i api.Increment) {
			if got, want := bump.Valid(s, i), wantedValid(before, i); got != want {
				t.Errorf("Valid(%v) in %v is %t, want %t", i, s.Frames, got, want)
			}
		})
		if !isEqual(s, before) {
			t.Errorf("Valid has changed %v to %v, or its words", before.Frames, s.Frames)
		}
	})
}

func TestValidOfAllNumbersOfWords(t *testing.T) {
	for shift := api.MinShift; shift <= api.MaxShift; shift++ {
		for _, order := range orders() {
			s, size := chained(shift, 9, order...), 1<<shift
			i := filled(0, order...)
			for i.Words = -1; i.Words <= 9*size+1; i.Words++ {
				want := i.Words == 0
				if len(order) > 0 {
					want = i.Words > (len(order)-1)*size && i.Words <= len(order)*size
				}
				if got := bump.Valid(s, i); got != want {
					t.Errorf("Valid of %d words in the chain %v of frames of %d words is %t", i.Words, order, size, got)
				}
			}
			for _, i.Words = range []int{math.MinInt, math.MinInt + 1, -1 << 40, -size, 1 << 20, 1<<40 - 1, 1 << 40, 1<<40 + 1, 1 << 62, math.MaxInt - 8, math.MaxInt} {
				checkNotValid(t, "far too many words, or too few", s, i)
			}
		}
	}
}

func TestValidOfPermittedNumbersAndBelts(t *testing.T) {
	for _, seq := range []int{0, 1, 5, 1 << 31, api.MaxSeq - 1, api.MaxSeq} {
		for belt := range api.MaxBelts {
			frames := []api.Frame{free, free, free}
			link(frames, seq, belt, 2, 1)
			for _, i := range []api.Increment{empty(seq, belt), {Seq: seq, Belt: belt, First: 2, Last: 1, Words: 9}} {
				if !bump.Valid(spaceOf(3, frames...), i) {
					t.Errorf("%v is not valid", i)
				}
			}
			if !bump.Valid(chained(3, 2), empty(seq, belt)) {
				t.Errorf("the increment %d of belt %d is not valid without words and frames", seq, belt)
			}
		}
	}
}

// Whether its owner has frames, and which, says nothing about an increment without words.
func TestValidOfIncrementsWithoutWords(t *testing.T) {
	for _, s := range []api.Space{chained(3, 3), chained(3, 3, 1), chained(3, 3, 2, 0, 1), spaceOf(3, owned(5, 2, -1), owned(5, 1, -1))} {
		if !bump.Valid(s, empty(5, 1)) {
			t.Errorf("an increment without words is not valid in %v", s.Frames)
		}
		for _, x := range [][2]int{{0, -1}, {-1, 0}, {0, 0}, {1, 1}, {2, 1}, {-2, -1}, {-1, -2}, {-2, -2}, {-1, math.MaxInt}, {math.MinInt, -1}} {
			checkNotValid(t, "a frame without words", s, api.Increment{Seq: 5, Belt: 1, First: x[0], Last: x[1]})
		}
	}
}

func TestEachLimbOfValidityBrokenAlone(t *testing.T) {
	s := chained(3, 5, 3, 0, 2)
	s.Frames[1] = owned(6, 1, -1)
	good := filled(20, 3, 0, 2)
	if !bump.Valid(s, good) {
		t.Fatalf("%v is not valid in %v", good, s.Frames)
	}
	change := func(why string, alter func(i *api.Increment)) {
		i := good
		alter(&i)
		checkNotValid(t, why, s, i)
	}
	change("another owner", func(i *api.Increment) { i.Seq = 6 })
	change("an owner without frames", func(i *api.Increment) { i.Seq = 7 })
	change("the owner of free frames", func(i *api.Increment) { i.Seq = -1 })
	change("an owner beyond the last with the same stamp", func(i *api.Increment) { i.Seq, i.Belt = 5+api.BeltStamp, 0 })
	change("an owner below 0 with the same stamp", func(i *api.Increment) { i.Seq, i.Belt = 5-api.BeltStamp, 2 })
	for _, belt := range []int{0, 2, 3, 4, -1, 1<<32 + 1, 1 - 1<<32} {
		change("another belt", func(i *api.Increment) { i.Belt = belt })
	}
	for _, f := range append([]int{-1, 0, 1, 2, 4, 5}, farNumbers...) {
		change("another first frame", func(i *api.Increment) { i.First = f })
	}
	for _, f := range append([]int{-1, 0, 1, 3, 4, 5}, farNumbers...) {
		change("another last frame", func(i *api.Increment) { i.Last = f })
	}
	for _, words := range append([]int{-1, 0, 1, 8, 9, 16, 25, 32, 33}, farNumbers...) {
		change("another number of words", func(i *api.Increment) { i.Words = words })
	}
	for _, x := range farNumbers {
		change("a far number", func(i *api.Increment) { i.Seq = x })
		change("a far belt", func(i *api.Increment) { i.Belt = x })
	}
}

func TestNumbersThatAreNotPermittedWithoutWords(t *testing.T) {
	s := chained(3, 3, 1)
	for _, seq := range []int{-1, -2, math.MinInt, api.MaxSeq + 1, 5 + api.BeltStamp, math.MaxInt} {
		checkNotValid(t, "the number", s, empty(seq, 0))
	}
	for _, belt := range []int{-1, -2, 4, 5, 1 << 32, 1<<32 + 1, math.MinInt, math.MaxInt} {
		checkNotValid(t, "the belt", s, empty(5, belt))
		checkNotValid(t, "the belt", s, empty(7, belt))
	}
	for _, words := range []int{-1, -8, math.MinInt} {
		checkNotValid(t, "the words", s, api.Increment{Seq: 7, First: -1, Last: -1, Words: words})
	}
}

func TestOtherFramesOfTheOwner(t *testing.T) {
	for _, x := range []struct {
		why string
		s   api.Space
		i   api.Increment
	}{
		{"a frame before the first one", chained(3, 4, 2, 1, 0), filled(16, 1, 0)},
		{"only the last frame", chained(3, 4, 2, 1, 0), filled(8, 0)},
		{"a frame without a link", spaceOf(3, owned(5, 1, -1), owned(5, 1, -1)), filled(8, 0)},
		{"a frame without a link before it", spaceOf(3, owned(5, 1, -1), owned(5, 1, -1)), filled(8, 1)},
		{"a frame with another stamp", spaceOf(3, owned(5, 1, -1), free, owned(5, 2, -1)), filled(8, 0)},
		{"another chain with another stamp", spaceOf(3, owned(5, 0, 1), owned(5, 0, -1), owned(5, 1, 3), owned(5, 1, -1)), filled(16, 2, 3)},
	} {
		checkNotValid(t, x.why, x.s, x.i)
	}
	// Other owners of the same belt have frames of their own.
	s := spaceOf(3, owned(5, 1, 2), owned(6, 1, -1), owned(5, 1, -1), owned(4, 1, -1))
	if !bump.Valid(s, filled(16, 0, 2)) || !bump.Valid(s, api.Increment{Seq: 6, Belt: 1, First: 1, Last: 1, Words: 3}) {
		t.Errorf("increments beside each other are not valid in %v", s.Frames)
	}
}

func TestSpacesThatAreNotValid(t *testing.T) {
	for _, s := range invalidSpaces() {
		for _, i := range []api.Increment{filled(8, 1), filled(16, 1, 2), filled(8, 0), empty(5, 1), empty(7, 0), empty(-1, 0), {}, {Seq: -1, Belt: 4, First: math.MaxInt, Last: math.MinInt, Words: -1}} {
			checkNotValid(t, "the space", s, i)
		}
	}
}

// P9.1: Frames and Extra

func TestFramesOfAllNumbersOfWords(t *testing.T) {
	for shift := api.MinShift; shift <= api.MaxShift; shift++ {
		s, size := api.Space{Shift: shift}, 1<<shift
		for words := range api.MaxFrames*size + 1 {
			want := words / size
			if words%size > 0 {
				want++
			}
			if got := bump.Frames(s, api.Increment{Words: words}); got != want {
				t.Errorf("Frames of %d words is %d, want %d of %d words", words, got, want, size)
			}
		}
	}
}

// Frames looks at Shift and Words only, and at any of them.
func TestFramesIsCeilForAllArguments(t *testing.T) {
	for _, shift := range append([]int{-1, 0, 1, 2, 3, 8, 9, 20, 21, 63, 64}, farNumbers...) {
		for _, words := range append([]int{-9, -1, 0, 1, 17, 1 << 20}, farNumbers...) {
			want := bits.Ceil(words, shift)
			if got := bump.Frames(api.Space{Shift: shift}, api.Increment{Seq: -1, Belt: 9, Words: words}); got != want {
				t.Errorf("Frames of %d words with the shift %d is %d, want %d", words, shift, got, want)
			}
		}
	}
}

func TestExtraOfAllNumbersOfWords(t *testing.T) {
	for shift := api.MinShift; shift <= api.MaxShift; shift++ {
		size := 1 << shift
		for _, order := range orders() {
			s := chained(shift, 9, order...)
			for unused := range size {
				i := filled(len(order)*size-unused, order...)
				for n, want := 0, 0; n <= 4*size; n++ {
					if n > unused+want*size && len(order) > 0 || n > want*size && len(order) == 0 {
						want++
					}
					if got := bump.Extra(s, i, n); got != want {
						t.Errorf("Extra(%v, %d) in frames of %d words is %d, want %d", i, n, size, got, want)
					}
				}
			}
		}
	}
}

func TestExtraUpToTheGreatestNumber(t *testing.T) {
	for _, shift := range []int{api.MinShift, 5, api.MaxShift} {
		for _, order := range [][]int{{}, {4}, {6, 2}} {
			s, size := chained(shift, 9, order...), 1<<shift
			for _, unused := range []int{0, 1, size - 1} {
				i := filled(len(order)*size-unused, order...)
				for n := range 1<<20 + 1 {
					want := (i.Words+n+size-1)/size - len(order)
					if got := bump.Extra(s, i, n); got != want {
						t.Fatalf("Extra(%v, %d) in frames of %d words is %d, want %d", i, n, size, got, want)
					}
				}
			}
		}
	}
}

func TestExtraOfTheLargestIncrement(t *testing.T) {
	s, i := chained(api.MaxShift, api.MaxFrames, scattered()...), filled(1<<14, scattered()...)
	if !bump.Valid(s, i) || bump.Frames(s, i) != 64 {
		t.Fatalf("%v is not valid, or has not all 64 frames", i)
	}
	for n, want := range map[int]int{0: 0, 1: 1, 256: 1, 257: 2, 1<<20 - 1: 1 << 12, 1 << 20: 1 << 12} {
		if got := bump.Extra(s, i, n); got != want {
			t.Errorf("Extra(%v, %d) is %d, want %d", i, n, got, want)
		}
	}
}

// Nothing is promised for other numbers of words, and for spaces and increments that are not valid, but that the result is the same again and nothing changes.
func TestFramesAndExtraOfOtherArguments(t *testing.T) {
	for _, s := range append(invalidSpaces(), chained(3, 3, 1)) {
		before := clone(s)
		for _, i := range []api.Increment{filled(8, 1), empty(5, 1), {}, {Seq: -1, Words: -1}, {Words: math.MaxInt}, {Words: math.MinInt}} {
			for _, n := range append([]int{-1, 0, 1, 1<<20 + 1}, farNumbers...) {
				if bump.Extra(s, i, n) != bump.Extra(clone(s), i, n) || bump.Frames(s, i) != bump.Frames(clone(s), i) {
					t.Errorf("Extra(%v, %d) or Frames returns something else when called again", i, n)
				}
			}
		}
		if !isEqual(s, before) {
			t.Errorf("Extra or Frames has changed %v to %v, or its words", before.Frames, s.Frames)
		}
	}
}

// P9.2

func TestAllocInSmallSpaces(t *testing.T) {
	eachSmallSpace(func(s api.Space) {
		eachIncrement(s, func(i api.Increment) {
			if !wantedValid(s, i) {
				return
			}
			for _, n := range []int{math.MinInt, -1, 0, 1, 2, 7, 8, 9, 16, 17, 24, 25, 32, 33, 48, 49, math.MaxInt} {
				checkAlloc(t, s, i, n)
			}
		})
	})
}

func TestAllocOfAllNumbersOfWords(t *testing.T) {
	for _, order := range orders() {
		s := chained(3, 9, order...)
		for unused := range 8 {
			for n := -2; n <= api.MaxObject+2; n++ {
				checkAlloc(t, s, filled(len(order)*8-unused, order...), n)
			}
		}
	}
}

func TestAllocInFramesOfAllSizes(t *testing.T) {
	for shift := api.MinShift; shift <= api.MaxShift; shift++ {
		size := 1 << shift
		for _, order := range orders() {
			s := chained(shift, 9, order...)
			for _, unused := range []int{0, 1, 2, size / 2, size - 2, size - 1} {
				for _, n := range []int{1, 2, unused - 1, unused, unused + 1, unused + size, unused + size + 1, api.MaxObject - 1, api.MaxObject} {
					checkAlloc(t, s, filled(len(order)*size-unused, order...), n)
				}
			}
		}
	}
}

func TestKnownAllocs(t *testing.T) {
	frames := slices.Repeat([]api.Frame{free}, 10)
	link(frames, 5, 1, 7, 2)
	link(frames, 8, 0, 0, 4)
	s := spaceOf(3, frames...)
	for _, x := range []struct {
		why            string
		words, n, a    int
		last           int
		chain          []int
		emptyIncrement bool
	}{
		{"words that do not fill the last frame", 11, 4, 19, 2, []int{7, 2}, false},
		{"words that fill the last frame", 11, 5, 19, 2, []int{7, 2}, false},
		{"one word in the last frame", 15, 1, 23, 2, []int{7, 2}, false},
		{"words that go on in a new frame", 11, 6, 19, 1, []int{7, 2, 1}, false},
		{"words that begin a new frame", 16, 8, 8, 1, []int{7, 2, 1}, false},
		{"one word that begins a new frame", 16, 1, 8, 1, []int{7, 2, 1}, false},
		{"words in several new frames", 12, 29, 20, 6, []int{7, 2, 1, 3, 5, 6}, false},
		{"as many words as are permitted", 16, 48, 8, 9, []int{7, 2, 1, 3, 5, 6, 8, 9}, false},
		{"one word in the first frame", 0, 1, 8, 1, []int{1}, true},
		{"words in several first frames", 0, 20, 8, 5, []int{1, 3, 5}, true},
		{"as many words as are permitted, in first frames", 0, 48, 8, 9, []int{1, 3, 5, 6, 8, 9}, true},
	} {
		i := api.Increment{Seq: 5, Belt: 1, First: 7, Last: 2, Words: x.words}
		if x.emptyIncrement {
			i = empty(6, 3)
		}
		out, grown, a, err := checkAlloc(t, s, i, x.n)
		want := clone(s)
		link(want.Frames, i.Seq, i.Belt, x.chain...)
		if err != api.OK || a != x.a || grown.Last != x.last || grown.First != x.chain[0] || grown.Words != x.words+x.n || !isEqual(out, want) {
			t.Errorf("%s: %v, %v, address %d, error %d, want %v, address %d", x.why, out.Frames, grown, a, err, want.Frames, x.a)
		}
	}
}

// So many frames are enough, one fewer is not, and those that other owners have do not count.
func TestAllocWithJustEnoughFreeFrames(t *testing.T) {
	for _, order := range orders() {
		for unused := range 8 {
			i := filled(len(order)*8-unused, order...)
			for n := 1; n <= api.MaxObject; n++ {
				needed := wantedFrames(api.Space{Shift: 3}, i.Words+n) - len(order)
				if _, _, _, err := checkAlloc(t, crowded(3, 16, needed, order...), i, n); err != api.OK {
					t.Errorf("Alloc(%v, %d): error %d with %d free frames", i, n, err, needed)
				}
				if needed == 0 {
					continue
				}
				if _, _, _, err := checkAlloc(t, crowded(3, 16, needed-1, order...), i, n); err != api.ErrFull {
					t.Errorf("Alloc(%v, %d): error %d with %d free frames, want ErrFull", i, n, err, needed-1)
				}
			}
		}
	}
}

func TestAllocOfPermittedNumbersAndBelts(t *testing.T) {
	for _, seq := range []int{0, 1, 1 << 31, api.MaxSeq - 1, api.MaxSeq} {
		for belt := range api.MaxBelts {
			frames := []api.Frame{owned(9, 0, -1), free, free, free, owned(10, 3, -1)}
			s, i, _, _ := checkAlloc(t, spaceOf(3, frames...), empty(seq, belt), 8)
			s, i, _, err := checkAlloc(t, s, i, 9)
			if err != api.OK || s.Frames[1] != owned(seq, belt, 2) || s.Frames[3] != owned(seq, belt, -1) || i.Belt != belt || i.Seq != seq {
				t.Errorf("the increment %d of belt %d: %v, %v, error %d", seq, belt, i, s.Frames, err)
			}
		}
	}
}

func TestNumbersOfWordsThatAreNotPermitted(t *testing.T) {
	for _, s := range []api.Space{chained(3, 9, 6, 2), crowded(3, 9, 0, 6, 2)} {
		// The second increment's owner has frames too, which is looked at later.
		for _, i := range []api.Increment{filled(11, 6, 2), empty(5, 1), empty(7, 1)} {
			for _, n := range badCounts {
				if _, _, _, err := checkAlloc(t, s, i, n); err != api.ErrArg {
					t.Errorf("Alloc(%v, %d) in %v: error %d, want ErrArg", i, n, s.Frames, err)
				}
			}
		}
	}
}

// Frames of the owner are refused whatever their belt is, and before too few free frames are.
func TestAllocWithoutWordsOfOwnersWithFrames(t *testing.T) {
	for _, s := range []api.Space{
		chained(3, 9, 4), chained(3, 9, 6, 2), crowded(3, 9, 0, 6, 2), crowded(3, 9, 1, 0),
		spaceOf(3, free, free, owned(5, 2, -1)), spaceOf(3, owned(5, 3, -1), owned(5, 0, -1)),
	} {
		for belt := range api.MaxBelts {
			for _, n := range []int{1, 8, 9, api.MaxObject} {
				if _, _, _, err := checkAlloc(t, s, empty(5, belt), n); err != api.ErrState {
					t.Errorf("Alloc of the increment 5 of belt %d in %v: error %d, want ErrState", belt, s.Frames, err)
				}
			}
		}
	}
	for _, n := range []int{1, 48} {
		if _, _, _, err := checkAlloc(t, crowded(3, 9, 0, 6, 2), empty(7, 1), n); err != api.ErrFull {
			t.Errorf("Alloc of %d words for an owner without frames: error %d, want ErrFull", n, err)
		}
	}
}

// Frames that were freed are taken again, so the chain does not ascend; the words in it stay.
func TestAllocIntoFramesThatWereFreed(t *testing.T) {
	s, _ := frame.New(3, 5)
	increments := []api.Increment{empty(5, 1), empty(6, 1), empty(7, 2)}
	for _, k := range []int{1, 0, 2, 0} {
		s, increments[k], _, _ = checkAlloc(t, s, increments[k], 8)
	}
	for a := range s.Words[:32] {
		s.Words[a] = uint64(a) + 1<<50
	}
	s, _ = checkDrop(t, s, increments[1])
	s, _ = checkDrop(t, s, increments[2])
	s, i, a, err := checkAlloc(t, s, increments[0], 20)
	if want := []int{1, 3, 0, 2, 4}; err != api.OK || a != 0 || !slices.Equal(framesFrom(s, i.First), want) {
		t.Errorf("the chain is %v, address %d, error %d, want %v", framesFrom(s, i.First), a, err, want)
	}
}

func TestAllocFillsTheLargestSpace(t *testing.T) {
	s, _ := frame.New(api.MaxShift, api.MaxFrames)
	i, objects, err := empty(5, 1), 0, api.OK
	for {
		next, grown, a, e := bump.Alloc(s, i, api.MaxObject)
		if err = e; err != api.OK {
			break
		}
		if a != objects*48 {
			t.Errorf("object %d begins at %d", objects, a)
		}
		s, i, objects = next, grown, objects+1
	}
	if err != api.ErrFull || objects != 341 || i.Words != 341*48 || pool.Used(s) != 64 {
		t.Errorf("%d objects in %v, error %d", objects, i, err)
	}
	checkAlloc(t, s, i, 17)
	s, i, _, err = checkAlloc(t, s, i, 16)
	if err != api.OK || i.Words != 1<<14 || bump.Frames(s, i) != 64 {
		t.Errorf("the last 16 words: %v, error %d", i, err)
	}
	checkAlloc(t, s, i, 1)
}

// P9.3

func TestDropInSmallSpaces(t *testing.T) {
	eachSmallSpace(func(s api.Space) {
		eachIncrement(s, func(i api.Increment) {
			if wantedValid(s, i) {
				checkDrop(t, s, i)
			}
		})
	})
}

func TestDropFreesTheFramesOfOneIncrement(t *testing.T) {
	for shift := api.MinShift; shift <= api.MaxShift; shift++ {
		frames := slices.Repeat([]api.Frame{free}, 9)
		link(frames, 5, 1, 7, 2, 4)
		link(frames, 6, 1, 0, 3)
		link(frames, api.MaxSeq, 3, 8)
		link(frames, 0, 0, 6)
		s, size := spaceOf(shift, frames...), 1<<shift
		for _, x := range []struct {
			i     api.Increment
			freed []int
		}{
			{api.Increment{Seq: 5, Belt: 1, First: 7, Last: 4, Words: 2*size + 1}, []int{2, 4, 7}},
			{api.Increment{Seq: 5, Belt: 1, First: 7, Last: 4, Words: 3 * size}, []int{2, 4, 7}},
			{api.Increment{Seq: 6, Belt: 1, First: 0, Last: 3, Words: 2*size - 1}, []int{0, 3}},
			{api.Increment{Seq: api.MaxSeq, Belt: 3, First: 8, Last: 8, Words: 1}, []int{8}},
			{api.Increment{Seq: 0, Belt: 0, First: 6, Last: 6, Words: size}, []int{6}},
		} {
			out, err := checkDrop(t, s, x.i)
			want := clone(s)
			for _, f := range x.freed {
				want.Frames[f] = free
				clear(want.Words[f*size : f*size+size])
			}
			if err != api.OK || !isEqual(out, want) {
				t.Errorf("Drop(%v): %v, error %d, want %v, or other words are 0", x.i, out.Frames, err, want.Frames)
			}
			checkNotValid(t, "dropped", out, x.i)
		}
	}
}

func TestDropInTheLargestSpace(t *testing.T) {
	s := chained(api.MaxShift, api.MaxFrames, scattered()...)
	out, err := checkDrop(t, s, filled(1<<14-255, scattered()...))
	if fresh, _ := frame.New(api.MaxShift, api.MaxFrames); err != api.OK || !isEqual(out, fresh) {
		t.Errorf("Drop of the only increment: error %d, or the space is not like a new one", err)
	}
}

// An increment without words has no frame; those that its owner has stay.
func TestDropOfIncrementsWithoutFrames(t *testing.T) {
	for _, s := range []api.Space{chained(3, 2), chained(3, 3, 1), chained(3, 9, 6, 2), crowded(3, 9, 0, 6), spaceOf(3, owned(5, 0, -1), owned(5, 2, -1))} {
		for _, i := range []api.Increment{empty(5, 1), empty(7, 1), empty(0, 0), empty(api.MaxSeq, 3)} {
			if _, err := checkDrop(t, s, i); err != api.ErrState {
				t.Errorf("Drop(%v) in %v: error %d, want ErrState", i, s.Frames, err)
			}
		}
	}
}

// P9.1, P9.2 and P9.3 together

func TestTheDocumentsExample(t *testing.T) {
	s, _ := frame.New(3, 4)
	s, i, a, err := checkAlloc(t, s, empty(0, 0), 5)
	if err != api.OK || a != 0 || bump.Frames(s, i) != 1 {
		t.Errorf("5 words: %v, address %d, error %d", i, a, err)
	}
	s, i, a, err = checkAlloc(t, s, i, 6)
	f, offset, _ := frame.Of(s, a)
	if err != api.OK || f != i.First || offset != 5 || bump.Frames(s, i) != 2 || pool.Used(s) != 2 {
		t.Errorf("6 words: %v, frame %d, offset %d, error %d", i, f, offset, err)
	}
}

// checkConsequences checks that an increment wastes fewer words than a frame has, and that its objects stand one directly behind the other.
func checkConsequences(t *testing.T, s api.Space, i api.Increment, objects [][2]int) {
	t.Helper()
	if wasted := bump.Frames(s, i)<<s.Shift - i.Words; wasted < 0 || wasted >= 1<<s.Shift {
		t.Errorf("%v wastes %d words in %v", i, wasted, s.Frames)
	}
	before := 0
	for _, x := range objects {
		if index, err := chain.Index(s, i.First, x[0]); index != before || err != api.OK {
			t.Errorf("the object at %d stands %d words behind the beginning of %v, error %d, want %d", x[0], index, i, err, before)
		}
		before += x[1]
	}
	if before != i.Words {
		t.Errorf("%v has objects of %d words", i, before)
	}
}

// checkSequences checks all sequences of so many calls that let two increments grow, or drop one; the words that were written stay.
func checkSequences(t *testing.T, s api.Space, increments [2]api.Increment, objects [2][][2]int, calls int) {
	for k, i := range increments {
		if !bump.Valid(s, i) {
			t.Errorf("%v is not valid in %v", i, s.Frames)
		}
		checkConsequences(t, s, i, objects[k])
	}
	if calls == 0 {
		return
	}
	for k, i := range increments {
		for _, n := range []int{1, 7, 8, 17} {
			out, grown, a, err := checkAlloc(t, s, i, n)
			if err != api.OK {
				continue
			}
			out.Words[a] = uint64(calls) << 33
			nextIncrements, nextObjects := increments, objects
			nextIncrements[k] = grown
			nextObjects[k] = append(slices.Clone(objects[k]), [2]int{a, n})
			checkSequences(t, out, nextIncrements, nextObjects, calls-1)
		}
		if out, err := checkDrop(t, s, i); err == api.OK {
			nextIncrements, nextObjects := increments, objects
			nextIncrements[k] = empty(i.Seq, i.Belt)
			nextObjects[k] = nil
			checkSequences(t, out, nextIncrements, nextObjects, calls-1)
		}
	}
}

func TestAllSequencesOfCalls(t *testing.T) {
	for _, n := range []int{2, 5} {
		s, _ := frame.New(3, n)
		checkSequences(t, s, [2]api.Increment{empty(5, 1), empty(api.MaxSeq, 0)}, [2][][2]int{}, 5)
	}
}
