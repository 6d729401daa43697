package pool_test

import (
	"math"
	"slices"
	"testing"

	"beltway/api"
	"beltway/frame"
	"beltway/pool"
)

// free is the entry of a free frame.
var free = api.Frame{Owner: -1, Stamp: -1, Next: -1}

// badOwners are no sequence numbers; -1 stands in the entries of free frames.
var badOwners = []int{math.MinInt, math.MinInt + 1, -1 << 60, -1 << 33, -1 << 32, -2, -1, api.MaxSeq + 1, api.MaxSeq + 2, 1 << 33, 1 << 60, math.MaxInt - 1, math.MaxInt}

// badBelts are no belts; the stamps of some of them wrap around to those of belts.
var badBelts = []int{math.MinInt, -1 << 32, -5, -4, -2, -1, 4, 5, 8, 64, 1 << 32, 1<<32 + 1, 1<<62 + 1, math.MaxInt}

func owned(seq, belt, next int) api.Frame {
	return api.Frame{Owner: seq, Stamp: belt*api.BeltStamp + seq, Next: next}
}

// spaceOf returns a space with a copy of the frames; every word of a frame with an owner has an own number, those of free frames are 0.
func spaceOf(shift int, frames ...api.Frame) api.Space {
	s := api.Space{Shift: shift, Words: make([]uint64, len(frames)<<shift), Frames: slices.Clone(frames)}
	for a := range s.Words {
		if frames[a>>shift] != free {
			s.Words[a] = uint64(a + 1)
		}
	}
	return s
}

func clone(s api.Space) api.Space {
	return api.Space{Shift: s.Shift, Words: slices.Clone(s.Words), Frames: slices.Clone(s.Frames)}
}

func isEqual(a, b api.Space) bool {
	return a.Shift == b.Shift && slices.Equal(a.Words, b.Words) && slices.Equal(a.Frames, b.Frames)
}

func isZero(s api.Space) bool {
	return s.Shift == 0 && len(s.Words) == 0 && len(s.Frames) == 0
}

// scribble writes to all memory of a space, also behind its lengths.
func scribble(s api.Space) {
	words, frames := s.Words[:cap(s.Words)], s.Frames[:cap(s.Frames)]
	for a := range words {
		words[a] = 1 << 40
	}
	for f := range frames {
		frames[f] = api.Frame{Owner: 9, Stamp: 99, Next: 999}
	}
}

// take calls Take and checks what holds for every call: the argument stays, results are new memory, and an error leaves nothing else.
func take(t *testing.T, s api.Space, owner, belt int) (api.Space, int, api.Errno) {
	t.Helper()
	before := clone(s)
	out, f, err := pool.Take(s, owner, belt)
	result := clone(out)
	again, _, _ := pool.Take(s, owner, belt)
	scribble(again)
	if !isEqual(s, before) || !isEqual(out, result) {
		t.Errorf("Take(%d, %d) of %v: its argument or its result has changed", owner, belt, before.Frames)
	}
	if err != api.OK && (!isZero(out) || f != 0) {
		t.Errorf("Take(%d, %d) = %v, %d together with error %d", owner, belt, out, f, err)
	}
	return out, f, err
}

// give calls Give and checks the same.
func give(t *testing.T, s api.Space, owner int) (api.Space, int, api.Errno) {
	t.Helper()
	before := clone(s)
	out, n, err := pool.Give(s, owner)
	result := clone(out)
	again, _, _ := pool.Give(s, owner)
	scribble(again)
	if !isEqual(s, before) || !isEqual(out, result) {
		t.Errorf("Give(%d) of %v: its argument or its result has changed", owner, before.Frames)
	}
	if err != api.OK && (!isZero(out) || n != 0) {
		t.Errorf("Give(%d) = %v, %d together with error %d", owner, out, n, err)
	}
	return out, n, err
}

// checkPool checks Free and Used, and that both leave the space as it is.
func checkPool(t *testing.T, s api.Space, want ...int) {
	t.Helper()
	before := clone(s)
	if first := pool.Free(s); len(first) > 0 {
		first[0] = 77
	}
	if got := pool.Free(s); !slices.Equal(got, want) {
		t.Errorf("Free = %v, want %v, frames %v", got, want, s.Frames)
	}
	if got := pool.Used(s); got != len(s.Frames)-len(want) {
		t.Errorf("Used = %d, want %d, frames %v", got, len(s.Frames)-len(want), s.Frames)
	}
	if !isEqual(s, before) {
		t.Errorf("Free or Used have changed %v to %v", before.Frames, s.Frames)
	}
}

func checkTake(t *testing.T, s api.Space, owner, belt, wantFrame int, wantErr api.Errno) {
	t.Helper()
	out, f, err := take(t, s, owner, belt)
	if f != wantFrame || err != wantErr {
		t.Errorf("Take(%d, %d) of %v: frame %d, error %d, want frame %d, error %d", owner, belt, s.Frames, f, err, wantFrame, wantErr)
		return
	}
	if err != api.OK {
		return
	}
	want := clone(s)
	want.Frames[wantFrame] = owned(owner, belt, -1)
	if !isEqual(out, want) || !frame.Valid(out) {
		t.Errorf("Take(%d, %d) of %v: %v, want %v, or words have changed", owner, belt, s.Frames, out.Frames, want.Frames)
	}
}

func checkGive(t *testing.T, s api.Space, owner int, wantErr api.Errno, wantFrames ...int) {
	t.Helper()
	out, n, err := give(t, s, owner)
	if n != len(wantFrames) || err != wantErr {
		t.Errorf("Give(%d) of %v: %d frames, error %d, want %d frames, error %d", owner, s.Frames, n, err, len(wantFrames), wantErr)
		return
	}
	if err != api.OK {
		return
	}
	want := clone(s)
	for _, f := range wantFrames {
		want.Frames[f] = free
		for a := f << s.Shift; a < (f+1)<<s.Shift; a++ {
			want.Words[a] = 0
		}
	}
	if !isEqual(out, want) || !frame.Valid(out) {
		t.Errorf("Give(%d) of %v: %v, want %v, or other words are 0", owner, s.Frames, out.Frames, want.Frames)
	}
}

// invalidSpaces returns spaces of each kind that is not valid; most of them have a free frame, and frames of the owner 7 on belt 1.
func invalidSpaces() []api.Space {
	word := spaceOf(3, free, owned(7, 1, -1), free)
	word.Words[23] = 1 << 63
	short := spaceOf(3, free, owned(7, 1, -1), free)
	short.Words = short.Words[:23]
	long := spaceOf(3, free, owned(7, 1, -1))
	long.Words = append(long.Words, 0)
	withoutWords := api.Space{Shift: 3, Frames: []api.Frame{free, owned(7, 1, -1)}}
	spaces := []api.Space{
		{},
		{Shift: 3, Words: []uint64{}, Frames: []api.Frame{}},
		word, short, long, withoutWords,
		spaceOf(3, owned(7, 1, -1)),
		spaceOf(3, free),
		spaceOf(2, free, owned(7, 1, -1)),
		spaceOf(9, free, owned(7, 1, -1)),
		spaceOf(3, free, owned(7, 4, -1)),
		spaceOf(3, free, owned(7, -1, -1)),
		spaceOf(3, free, api.Frame{Owner: 7, Stamp: -1, Next: -1}),
		spaceOf(3, owned(7, 1, -1), api.Frame{Owner: -1, Stamp: 7, Next: -1}),
		spaceOf(3, free, owned(-2, 1, -1), owned(7, 1, -1)),
		spaceOf(3, free, owned(7, 1, 0)),
		spaceOf(3, free, owned(7, 1, 1)),
		spaceOf(3, free, owned(7, 1, 2), owned(7, 1, 1)),
		spaceOf(3, free, owned(7, 1, 3)),
		spaceOf(3, free, owned(7, 1, 2), owned(7, 2, -1)),
		spaceOf(3, free, owned(7, 1, 3), owned(7, 1, 3), owned(7, 1, -1)),
		spaceOf(3, append(slices.Repeat([]api.Frame{owned(7, 1, -1)}, 64), free)...),
		spaceOf(3, append(slices.Repeat([]api.Frame{free}, 64), owned(7, 1, -1))...),
		spaceOf(3, slices.Repeat([]api.Frame{free}, 200)...),
		{Shift: 3, Frames: make([]api.Frame, 1000)},
	}
	for _, shift := range []int{math.MinInt, -3, -1, 0, 63, 64, 67, 1 << 32, math.MaxInt} {
		spaces = append(spaces, api.Space{Shift: shift, Words: make([]uint64, 16), Frames: []api.Frame{free, owned(7, 1, -1)}})
	}
	return spaces
}

// P4.1

func TestFreeAndUsedOfNewSpaces(t *testing.T) {
	for shift := api.MinShift; shift <= api.MaxShift; shift++ {
		for n := api.MinFrames; n <= api.MaxFrames; n++ {
			s, _ := frame.New(shift, n)
			all := make([]int, n)
			for f := range all {
				all[f] = f
			}
			checkPool(t, s, all...)
		}
	}
}

func TestFreeAndUsedOfAllSetsOfFreeFrames(t *testing.T) {
	for n := 2; n <= 10; n++ {
		for set := range 1 << n {
			frames := make([]api.Frame, n)
			var want []int
			for f := range frames {
				frames[f] = owned(f/2, f%4, -1)
				if set>>f&1 == 1 {
					frames[f] = free
					want = append(want, f)
				}
			}
			checkPool(t, spaceOf(3, frames...), want...)
		}
	}
}

func TestFreeAndUsedOfLargestSpaces(t *testing.T) {
	for _, entry := range []api.Frame{owned(0, 0, -1), owned(1, 3, -1), owned(api.MaxSeq, 2, -1)} {
		used := slices.Repeat([]api.Frame{entry}, api.MaxFrames)
		checkPool(t, spaceOf(8, used...))
		for f := range used {
			oneFree := slices.Clone(used)
			oneFree[f] = free
			checkPool(t, spaceOf(3, oneFree...), f)

			oneUsed := slices.Repeat([]api.Frame{free}, api.MaxFrames)
			oneUsed[f] = entry
			var others []int
			for g := range oneUsed {
				if g != f {
					others = append(others, g)
				}
			}
			checkPool(t, spaceOf(3, oneUsed...), others...)
		}
	}
}

// A frame with an owner is used, whether its words are 0 or not and whatever it is linked to.
func TestFreeAndUsedLookAtOwnersOnly(t *testing.T) {
	s := spaceOf(3, owned(0, 0, 3), free, owned(4, 0, -1), owned(0, 0, -1), free, owned(0, 0, 0))
	checkPool(t, s, 1, 4)
	clear(s.Words)
	checkPool(t, s, 1, 4)
}

// Nothing is promised for other spaces but that both functions return the same again and change nothing.
func TestFreeAndUsedOfSpacesThatAreNotValid(t *testing.T) {
	for i, s := range invalidSpaces() {
		before := clone(s)
		first, used := pool.Free(s), pool.Used(s)
		if !slices.Equal(first, pool.Free(s)) || used != pool.Used(s) {
			t.Errorf("space %d: Free or Used return something else when called again", i)
		}
		if !isEqual(s, before) {
			t.Errorf("space %d: Free or Used have changed it", i)
		}
	}
}

// P4.2

func TestTakeGivesTheLeastFreeFrame(t *testing.T) {
	for n := 2; n <= 8; n++ {
		for set := range 1 << n {
			frames := make([]api.Frame, n)
			least, err := 0, api.ErrFull
			for f := n - 1; f >= 0; f-- {
				frames[f] = owned(3+f, f%4, -1)
				if set>>f&1 == 1 {
					frames[f] = free
					least, err = f, api.OK
				}
			}
			checkTake(t, spaceOf(3, frames...), 2, 1, least, err)
		}
	}
}

func TestTakeOfAllOwnersAndBelts(t *testing.T) {
	for shift := api.MinShift; shift <= api.MaxShift; shift++ {
		for _, owner := range []int{0, 1, 7, 1 << 31, api.MaxSeq - 1, api.MaxSeq} {
			for belt := range 4 {
				checkTake(t, spaceOf(shift, owned(5, 0, -1), free, free), owner, belt, 1, api.OK)
				checkTake(t, spaceOf(shift, owned(owner, belt, -1), free), owner, belt, 1, api.OK)
			}
		}
	}
	s := spaceOf(3, free, free)
	got, _, _ := take(t, s, 7, 3)
	if want := (api.Frame{Owner: 7, Stamp: 3*4294967296 + 7, Next: -1}); got.Frames[0] != want {
		t.Errorf("Take(7, 3) gives %v, want %v", got.Frames[0], want)
	}
}

func TestTakeLinksNothing(t *testing.T) {
	s := spaceOf(3, owned(6, 2, 3), owned(1, 0, -1), free, owned(6, 2, -1), free)
	checkTake(t, s, 6, 2, 2, api.OK)
	checkTake(t, s, 1, 0, 2, api.OK)
	checkTake(t, s, 8, 0, 2, api.OK)
}

func TestTakeFillsTheLargestSpace(t *testing.T) {
	for _, n := range []int{2, 63, 64} {
		s, _ := frame.New(3, n)
		for f := range n {
			checkTake(t, s, f/3, f/3%4, f, api.OK)
			s, _, _ = pool.Take(s, f/3, f/3%4)
		}
		checkTake(t, s, 0, 0, 0, api.ErrFull)
		checkTake(t, s, 99, 0, 0, api.ErrFull)
		s, _, _ = pool.Give(s, (n-1)/3)
		checkTake(t, s, 99, 0, (n-1)/3*3, api.OK)
	}
}

func TestTakeOfOwnersWithAnotherStamp(t *testing.T) {
	for belt := range 4 {
		for other := range 4 {
			if other == belt {
				continue
			}
			last := spaceOf(3, free, owned(2, other, -1), owned(5, belt, -1))
			checkTake(t, last, 5, other, 0, api.ErrState)
			checkTake(t, last, 5, belt, 0, api.OK)
			first := spaceOf(3, owned(5, belt, -1), free)
			checkTake(t, first, 5, other, 0, api.ErrState)
			// A valid space may have an owner with two stamps: whichever is asked for, the other one is there.
			both := spaceOf(3, owned(5, belt, -1), owned(5, other, -1), free)
			for asked := range 4 {
				checkTake(t, both, 5, asked, 0, api.ErrState)
			}
			checkTake(t, both, 6, belt, 2, api.OK)
		}
	}
	checkTake(t, spaceOf(3, owned(api.MaxSeq, 0, -1), free), 0, 1, 1, api.OK)
	checkTake(t, spaceOf(3, owned(0, 0, -1), free), 0, 1, 0, api.ErrState)
}

func TestTakeOfOwnersAndBeltsThatAreNotPermitted(t *testing.T) {
	spaces := []api.Space{
		spaceOf(3, free, free),
		spaceOf(3, owned(0, 0, -1), free),
		spaceOf(3, owned(0, 1, -1), owned(7, 0, -1)),
	}
	for _, s := range spaces {
		for _, owner := range badOwners {
			for _, belt := range append([]int{0, 1, 3}, badBelts...) {
				checkTake(t, s, owner, belt, 0, api.ErrArg)
			}
		}
		for _, belt := range badBelts {
			for _, owner := range []int{0, 1, 7, api.MaxSeq} {
				checkTake(t, s, owner, belt, 0, api.ErrArg)
			}
		}
	}
	// On a belt that is not permitted, these owners would have the stamp that is there.
	for b := 1; b < 4; b++ {
		s := spaceOf(3, owned(7, b, -1), free)
		checkTake(t, s, 7+b*api.BeltStamp, 0, 0, api.ErrArg)
		checkTake(t, s, 7-api.BeltStamp, b+1, 0, api.ErrArg)
	}
}

func TestTakeOfSpacesThatAreNotValid(t *testing.T) {
	for i, s := range invalidSpaces() {
		for _, x := range [][2]int{{7, 1}, {7, 2}, {8, 0}, {0, 0}, {-1, 0}, {0, 4}} {
			if _, _, err := take(t, s, x[0], x[1]); err != api.ErrArg {
				t.Errorf("space %d: Take of %v: error %d, want ErrArg", i, x, err)
			}
		}
	}
}

func TestTakeChecksTheStampBeforeTheRoom(t *testing.T) {
	full := spaceOf(3, owned(5, 1, -1), owned(6, 2, -1))
	checkTake(t, full, 5, 2, 0, api.ErrState)
	checkTake(t, full, 6, 1, 0, api.ErrState)
	checkTake(t, full, 5, 1, 0, api.ErrFull)
	checkTake(t, full, 7, 1, 0, api.ErrFull)
}

// P4.3

func TestGiveFreesAllFramesOfAnOwner(t *testing.T) {
	for shift := api.MinShift; shift <= api.MaxShift; shift++ {
		s := spaceOf(shift, owned(4, 1, 3), owned(0, 0, -1), free, owned(4, 1, -1), owned(api.MaxSeq, 3, -1), owned(4, 1, 0), owned(4, 1, -1))
		checkGive(t, s, 4, api.OK, 0, 3, 5, 6)
		checkGive(t, s, 0, api.OK, 1)
		checkGive(t, s, api.MaxSeq, api.OK, 4)
	}
}

// A valid space may have an owner with two stamps: all of its frames are freed.
func TestGiveFreesFramesOfAllStamps(t *testing.T) {
	s := spaceOf(3, owned(4, 0, 2), owned(5, 3, -1), owned(4, 0, -1), owned(4, 3, -1), owned(4, 1, -1))
	checkGive(t, s, 4, api.OK, 0, 2, 3, 4)
	checkGive(t, s, 5, api.OK, 1)
}

func TestGiveOfAllSetsOfFrames(t *testing.T) {
	for n := 2; n <= 8; n++ {
		for set := range 1 << n {
			frames := make([]api.Frame, n)
			var want []int
			for f := range frames {
				frames[f] = owned(f%3, 0, -1)
				if set>>f&1 == 1 {
					frames[f] = owned(9, 2, -1)
					want = append(want, f)
				}
			}
			err := api.OK
			if set == 0 {
				err = api.ErrState
			}
			checkGive(t, spaceOf(3, frames...), 9, err, want...)
		}
	}
}

func TestGiveFreesTheLargestSpace(t *testing.T) {
	frames := make([]api.Frame, api.MaxFrames)
	all := make([]int, api.MaxFrames)
	for f := range frames {
		frames[f] = owned(2, 1, f-1)
		all[f] = f
	}
	s := spaceOf(8, frames...)
	checkGive(t, s, 2, api.OK, all...)
	fresh, _ := frame.New(8, api.MaxFrames)
	if got, _, _ := pool.Give(s, 2); !isEqual(got, fresh) {
		t.Error("a space whose only owner gives its frames is not like a new one")
	}
}

func TestGiveOfOwnersWithoutFrames(t *testing.T) {
	for _, owner := range []int{0, 1, 3, 5, 1 << 31, api.MaxSeq - 1, api.MaxSeq} {
		checkGive(t, spaceOf(3, free, free), owner, api.ErrState)
		checkGive(t, spaceOf(3, owned(4, 1, -1), free, owned(2, 0, -1)), owner, api.ErrState)
		checkGive(t, spaceOf(3, owned(4, 1, 1), owned(4, 1, -1)), owner, api.ErrState)
	}
}

func TestGiveOfOwnersThatAreNotPermitted(t *testing.T) {
	for _, owner := range append([]int{4 + api.BeltStamp, 4 - api.BeltStamp}, badOwners...) {
		checkGive(t, spaceOf(3, free, free), owner, api.ErrArg)
		checkGive(t, spaceOf(3, owned(4, 1, -1), free), owner, api.ErrArg)
		checkGive(t, spaceOf(3, owned(4, 1, 1), owned(4, 1, -1)), owner, api.ErrArg)
	}
}

func TestGiveOfSpacesThatAreNotValid(t *testing.T) {
	for i, s := range invalidSpaces() {
		for _, owner := range []int{7, 8, 0, -1} {
			if _, _, err := give(t, s, owner); err != api.ErrArg {
				t.Errorf("space %d: Give of %d: error %d, want ErrArg", i, owner, err)
			}
		}
	}
}

// P4.1, P4.2 and P4.3 together

func TestTheDocumentsExample(t *testing.T) {
	s, _ := frame.New(3, 3)
	var got []int
	for _, owner := range []int{1, 2} {
		next, f, _ := pool.Take(s, owner, 0)
		s, got = next, append(got, f)
	}
	s, _, _ = pool.Give(s, 1)
	_, f, _ := pool.Take(s, 3, 0)
	if got = append(got, f); !slices.Equal(got, []int{0, 1, 0}) {
		t.Errorf("the frames are %v, want 0, 1, 0", got)
	}
}

// wantedTake says what Take answers for a valid space whose owners have one stamp each, and an owner and a belt that are permitted.
func wantedTake(s api.Space, owner, belt int) (int, api.Errno) {
	for _, entry := range s.Frames {
		if entry.Owner == owner && entry.Stamp != belt*api.BeltStamp+owner {
			return 0, api.ErrState
		}
	}
	f := slices.Index(s.Frames, free)
	if f < 0 {
		return 0, api.ErrFull
	}
	return f, api.OK
}

// wantedGive says which frames Give frees in a valid space.
func wantedGive(s api.Space, owner int) ([]int, api.Errno) {
	var frames []int
	for f, entry := range s.Frames {
		if entry.Owner == owner {
			frames = append(frames, f)
		}
	}
	if frames == nil {
		return nil, api.ErrState
	}
	return frames, api.OK
}

// checkSequences checks all sequences of so many calls of Take and Give; after each call the space is valid, and Free and Used add up to its frames.
func checkSequences(t *testing.T, s api.Space, calls int) {
	if !frame.Valid(s) || len(pool.Free(s))+pool.Used(s) != len(s.Frames) {
		t.Errorf("after some calls the frames are %v, of which %v are free", s.Frames, pool.Free(s))
	}
	if calls == 0 {
		return
	}
	for _, x := range [][2]int{{0, 0}, {0, 1}, {api.MaxSeq, 0}, {api.MaxSeq, 3}} {
		f, err := wantedTake(s, x[0], x[1])
		checkTake(t, s, x[0], x[1], f, err)
		if next, _, err := pool.Take(s, x[0], x[1]); err == api.OK {
			next.Words[f<<3], next.Words[f<<3+7] = 5, 1<<63
			checkSequences(t, next, calls-1)
		}
	}
	for _, owner := range []int{0, api.MaxSeq} {
		frames, err := wantedGive(s, owner)
		checkGive(t, s, owner, err, frames...)
		if next, _, err := pool.Give(s, owner); err == api.OK {
			checkSequences(t, next, calls-1)
		}
	}
}

func TestAllSequencesOfCalls(t *testing.T) {
	for n := 2; n <= 4; n++ {
		s, _ := frame.New(3, n)
		checkSequences(t, s, 6)
	}
}
