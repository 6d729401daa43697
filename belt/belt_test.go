package belt_test

import (
	"math"
	"slices"
	"testing"

	"beltway/api"
	"beltway/belt"
	"beltway/bump"
	"beltway/frame"
	"beltway/pool"
)

// free is the entry of a free frame.
var free = api.Frame{Owner: -1, Stamp: -1, Next: -1}

// farNumbers are outside of every range; the sums and stamps of some of them wrap around to small numbers.
var farNumbers = []int{math.MinInt, math.MinInt + 1, math.MinInt + 8, -1 << 62, -1 << 33, -1 << 32, -65, -2, -1, 1 << 14, 1 << 32, 1<<32 + 1, 1 << 40, 1 << 62, math.MaxInt - 8, math.MaxInt - 1, math.MaxInt}

// belts are queues of increments.
type belts = [][]api.Increment

func owned(seq, b, next int) api.Frame {
	return api.Frame{Owner: seq, Stamp: b*api.BeltStamp + seq, Next: next}
}

// spaceOf returns a space with a copy of the frames; every word of a frame with an owner has an own number, those of free frames are 0.
func spaceOf(shift int, frames ...api.Frame) api.Space {
	s := api.Space{Shift: shift, Words: make([]uint64, len(frames)<<shift), Frames: slices.Clone(frames)}
	for a := range s.Words {
		if frames[a>>shift] != free {
			s.Words[a] = uint64(a+1) << 40
		}
	}
	return s
}

// freeSpace returns a space of free frames.
func freeSpace(shift, n int) api.Space {
	return spaceOf(shift, slices.Repeat([]api.Frame{free}, n)...)
}

// number returns an increment that only its numbers tell from others.
func number(seq, b, words int) api.Increment {
	return api.Increment{Seq: seq, Belt: b, First: -1, Last: -1, Words: words}
}

// whole returns a space of eight frames of 8 words, and belts that are valid in it: two increments of belt 0, none of belt 1, and two of belt 2. One frame is free.
func whole() (api.Space, belts) {
	s := spaceOf(3, owned(3, 0, -1), owned(7, 0, 5), owned(4, 2, -1), owned(9, 2, 6), free, owned(7, 0, -1), owned(9, 2, 7), owned(9, 2, -1))
	return s, belts{
		{{Seq: 3, Belt: 0, First: 0, Last: 0, Words: 1}, {Seq: 7, Belt: 0, First: 1, Last: 5, Words: 16}},
		{},
		{{Seq: 4, Belt: 2, First: 2, Last: 2, Words: 8}, {Seq: 9, Belt: 2, First: 3, Last: 7, Words: 17}},
	}
}

func cloneSpace(s api.Space) api.Space {
	return api.Space{Shift: s.Shift, Words: slices.Clone(s.Words), Frames: slices.Clone(s.Frames)}
}

func cloneBelts(l belts) belts {
	var out belts
	for _, queue := range l {
		out = append(out, slices.Clone(queue))
	}
	return out
}

func isEqualSpace(a, b api.Space) bool {
	return a.Shift == b.Shift && slices.Equal(a.Words, b.Words) && slices.Equal(a.Frames, b.Frames)
}

func isEqualBelts(a, b belts) bool {
	return slices.EqualFunc(a, b, slices.Equal)
}

// flat returns all increments, belt by belt.
func flat(l belts) []api.Increment {
	return slices.Concat(l...)
}

// within returns belts of which every slice has memory behind its end, in which l and its queues stand one directly behind the other: what is written behind an end changes another queue, or the guard at the end.
func within(l belts) (belts, []api.Increment, belts) {
	guard := number(-99, -99, -99)
	memory := append(flat(l), guard)
	queues, at := belts{}, 0
	for _, queue := range l {
		queues = append(queues, memory[at:at+len(queue)])
		at += len(queue)
	}
	queues = append(queues, []api.Increment{guard})
	return queues[:len(l)], memory, queues
}

// scribble writes to all memory of belts, also behind their lengths.
func scribble(l belts) {
	for _, queue := range l[:cap(l)] {
		for k := range queue[:cap(queue)] {
			queue[:cap(queue)][k] = number(-77, -77, -77)
		}
	}
	for b := range l[:cap(l)] {
		l[:cap(l)][b] = nil
	}
}

// sharesMemory reports whether two queues of l have memory in common.
func sharesMemory(l belts) bool {
	for b, queue := range l {
		before := cloneBelts(l)
		before[b] = nil
		full := queue[:cap(queue)]
		kept := slices.Clone(full)
		for k := range full {
			full[k] = number(-55, -55, -55)
		}
		after := cloneBelts(l)
		after[b] = nil
		copy(full, kept)
		if !isEqualBelts(before, after) {
			return true
		}
	}
	return false
}

// wantedValid says what Valid reports, as the promise lists it.
func wantedValid(s api.Space, l belts) bool {
	if !frame.Valid(s) || len(l) == 0 || len(l) > 4 {
		return false
	}
	seqs := map[int]bool{}
	for b, queue := range l {
		last := math.MinInt
		for _, i := range queue {
			if i.Belt != b || i.Words < 1 || i.Seq <= last || seqs[i.Seq] || !bump.Valid(s, i) {
				return false
			}
			seqs[i.Seq], last = true, i.Seq
		}
	}
	for _, entry := range s.Frames {
		if entry != free && !seqs[entry.Owner] {
			return false
		}
	}
	return true
}

// wantedAdd says what Add answers.
func wantedAdd(l belts, i api.Increment) (belts, api.Errno) {
	if i.Belt < 0 || i.Belt >= len(l) {
		return nil, api.ErrArg
	}
	if n := len(l[i.Belt]); n > 0 && l[i.Belt][n-1].Seq >= i.Seq {
		return nil, api.ErrState
	}
	out := cloneBelts(l)
	out[i.Belt] = append(out[i.Belt], i)
	return out, api.OK
}

// wantedReplace says what Replace answers.
func wantedReplace(l belts, i api.Increment) (belts, api.Errno) {
	if i.Belt < 0 || i.Belt >= len(l) {
		return nil, api.ErrArg
	}
	out := cloneBelts(l)
	for k := range out[i.Belt] {
		if out[i.Belt][k].Seq == i.Seq {
			out[i.Belt][k] = i
			return out, api.OK
		}
	}
	return nil, api.ErrState
}

// wantedRemove says what Remove answers.
func wantedRemove(l belts, seq int) (belts, api.Errno) {
	var out belts
	removed := false
	for _, queue := range l {
		var rest []api.Increment
		for _, i := range queue {
			if i.Seq == seq && !removed {
				removed = true
			} else {
				rest = append(rest, i)
			}
		}
		out = append(out, rest)
	}
	if !removed {
		return nil, api.ErrState
	}
	return out, api.OK
}

// checkValid compares Valid with want, and checks that its arguments stay.
func checkValid(t *testing.T, why string, s api.Space, l belts, want bool) {
	t.Helper()
	spaceBefore, before := cloneSpace(s), cloneBelts(l)
	inside, memory, outer := within(l)
	memoryBefore, outerBefore := slices.Clone(memory), cloneBelts(outer)
	if got := belt.Valid(s, inside); got != want {
		t.Errorf("%s: Valid(%v) in %v is %t, want %t", why, l, s.Frames, got, want)
	}
	if got := belt.Valid(s, l); got != want {
		t.Errorf("%s: Valid(%v) in %v is %t when called again", why, l, s.Frames, got)
	}
	if !isEqualSpace(s, spaceBefore) || !isEqualBelts(l, before) || !slices.Equal(memory, memoryBefore) || !isEqualBelts(outer, outerBefore) {
		t.Errorf("%s: Valid(%v) in %v has changed its arguments", why, before, spaceBefore.Frames)
	}
}

// checkResult checks that what change answers for belts is what is wanted, that its argument stays with the memory behind it, and that its result is new memory.
func checkResult(t *testing.T, why string, l belts, change func(l belts) (belts, api.Errno), want belts, wantErr api.Errno) {
	t.Helper()
	inside, memory, outer := within(l)
	memoryBefore, outerBefore := slices.Clone(memory), cloneBelts(outer)
	out, err := change(inside)
	if err != wantErr || !isEqualBelts(out, want) {
		t.Errorf("%s of %v: %v, error %d, want %v, error %d", why, l, out, err, want, wantErr)
	}
	again, _ := change(inside)
	if sharesMemory(again) {
		t.Errorf("%s of %v: two belts of the result share memory", why, l)
	}
	scribble(again)
	if !isEqualBelts(out, want) || !slices.Equal(memory, memoryBefore) || !isEqualBelts(outer, outerBefore) {
		t.Errorf("%s of %v: its argument has changed to %v, or its result to %v", why, outerBefore[:len(l)], inside, out)
	}
}

func checkAdd(t *testing.T, l belts, i api.Increment) {
	t.Helper()
	want, wantErr := wantedAdd(l, i)
	checkResult(t, "Add", l, func(l belts) (belts, api.Errno) { return belt.Add(l, i) }, want, wantErr)
}

func checkReplace(t *testing.T, l belts, i api.Increment) {
	t.Helper()
	want, wantErr := wantedReplace(l, i)
	checkResult(t, "Replace", l, func(l belts) (belts, api.Errno) { return belt.Replace(l, i) }, want, wantErr)
}

func checkRemove(t *testing.T, l belts, seq int) {
	t.Helper()
	want, wantErr := wantedRemove(l, seq)
	checkResult(t, "Remove", l, func(l belts) (belts, api.Errno) { return belt.Remove(l, seq) }, want, wantErr)
}

// eachBelts visits belts, up to most of them, with all sequences of up to so many of the increments, divided in all ways.
func eachBelts(increments []api.Increment, most, length int, visit func(l belts)) {
	var extend func(l belts, left int)
	extend = func(l belts, left int) {
		visit(l)
		if len(l) < most {
			extend(append(cloneBelts(l), nil), left)
		}
		if len(l) == 0 || left == 0 {
			return
		}
		for _, i := range increments {
			next := cloneBelts(l)
			next[len(l)-1] = append(next[len(l)-1], i)
			extend(next, left-1)
		}
	}
	extend(nil, length)
}

// someBelts visits belts of up to four increments, valid or not: Seqs more than once, in one belt or in several, not ascending, and in belts that are not their own.
func someBelts(visit func(l belts)) {
	var increments []api.Increment
	for k, x := range [][2]int{{3, 0}, {5, 1}, {5, 0}, {math.MinInt, 2}} {
		increments = append(increments, api.Increment{Seq: x[0], Belt: x[1], First: k, Last: k + 1, Words: 10 * k})
	}
	eachBelts(increments, 3, 4, visit)
	eachBelts([]api.Increment{number(0, 0, 0), number(8, 4, 1)}, 5, 2, visit)
}

// P11.1

// eachSmallSpace visits all valid spaces of two and three frames that are free or have one of three stamps, two of them with the same owner.
func eachSmallSpace(visit func(s api.Space)) {
	for n := 2; n <= 3; n++ {
		entries := []api.Frame{free}
		for _, x := range [][2]int{{5, 0}, {5, 1}, {6, 0}} {
			for next := -1; next < n; next++ {
				entries = append(entries, owned(x[0], x[1], next))
			}
		}
		var extend func(frames []api.Frame)
		extend = func(frames []api.Frame) {
			if len(frames) < n {
				for _, entry := range entries {
					extend(append(slices.Clone(frames), entry))
				}
			} else if s := spaceOf(3, frames...); frame.Valid(s) {
				visit(s)
			}
		}
		extend(nil)
	}
}

// candidates returns an increment for each frame whose owner begins there, with as many words as its chain has and with one too many, and two that are never in a belt.
func candidates(s api.Space) []api.Increment {
	all := []api.Increment{number(7, 0, 0), {Seq: 6, Belt: 1, First: 0, Last: 0, Words: 8}}
	for f, entry := range s.Frames {
		if entry == free {
			continue
		}
		i := api.Increment{Seq: entry.Owner, Belt: entry.Stamp >> 32, First: f, Last: f, Words: 8}
		for ; s.Frames[i.Last].Next != -1; i.Last = s.Frames[i.Last].Next {
			i.Words += 8
		}
		if bump.Valid(s, i) {
			all = append(all, i)
		}
		i.Words++
		all = append(all, i)
	}
	return all
}

func TestValidInSmallSpaces(t *testing.T) {
	valid := 0
	eachSmallSpace(func(s api.Space) {
		eachBelts(candidates(s), 3, 3, func(l belts) {
			want := wantedValid(s, l)
			if got := belt.Valid(s, l); got != want {
				t.Errorf("Valid(%v) in %v is %t, want %t", l, s.Frames, got, want)
			}
			if want {
				valid++
			}
		})
	})
	if valid < 100 {
		t.Errorf("only %d belts were valid", valid)
	}
}

func TestEachLimbOfValidityBrokenAlone(t *testing.T) {
	s, l := whole()
	checkValid(t, "whole", s, l, true)
	change := func(why string, alter func(s *api.Space, l *belts)) {
		s, l := whole()
		alter(&s, &l)
		checkValid(t, why, s, l, false)
	}
	change("a space that is not valid", func(s *api.Space, l *belts) { s.Words = s.Words[:63] })
	change("a free frame with a word", func(s *api.Space, l *belts) { s.Words[39] = 1 })
	change("no belts", func(s *api.Space, l *belts) { *l = nil })
	change("too many belts", func(s *api.Space, l *belts) { *l = append(*l, nil, nil) })
	change("no increments", func(s *api.Space, l *belts) { *l = belts{nil, nil, nil} })
	change("a belt too few", func(s *api.Space, l *belts) { *l = (*l)[:2] })
	change("other belts", func(s *api.Space, l *belts) { (*l)[0], (*l)[2] = (*l)[2], (*l)[0] })
	change("one belt later", func(s *api.Space, l *belts) { (*l)[1], (*l)[2] = (*l)[2], (*l)[1] })
	change("an increment in a belt that is not its own", func(s *api.Space, l *belts) { (*l)[1], (*l)[0] = (*l)[0][1:], (*l)[0][:1] })
	change("an increment at the end of a belt that is not its own", func(s *api.Space, l *belts) { (*l)[0], (*l)[2] = append((*l)[0], (*l)[2][1]), (*l)[2][:1] })
	change("Seqs that descend", func(s *api.Space, l *belts) { slices.Reverse((*l)[0]) })
	change("Seqs that descend in the last belt", func(s *api.Space, l *belts) { slices.Reverse((*l)[2]) })
	change("the same increment again", func(s *api.Space, l *belts) { (*l)[0] = append((*l)[0], (*l)[0][1]) })
	change("the same increment again, not beside", func(s *api.Space, l *belts) { (*l)[0] = append((*l)[0], (*l)[0][0]) })
	change("the same increment again, in the last belt", func(s *api.Space, l *belts) { (*l)[2] = append((*l)[2], (*l)[2][1]) })
	for _, x := range [][2]int{{0, 0}, {0, 1}, {2, 0}, {2, 1}} {
		change("an increment is missing", func(s *api.Space, l *belts) { (*l)[x[0]] = slices.Delete((*l)[x[0]], x[1], x[1]+1) })
		change("an increment without words", func(s *api.Space, l *belts) { (*l)[x[0]][x[1]].Words = 0 })
		change("an increment without words and frames", func(s *api.Space, l *belts) { (*l)[x[0]][x[1]] = number((*l)[x[0]][x[1]].Seq, x[0], 0) })
		for _, words := range append([]int{32}, farNumbers...) {
			change("too many or too few words", func(s *api.Space, l *belts) { (*l)[x[0]][x[1]].Words = words })
		}
		for _, n := range append([]int{5, 8, 10}, farNumbers...) {
			change("another Seq", func(s *api.Space, l *belts) { (*l)[x[0]][x[1]].Seq = n })
		}
		for _, n := range append([]int{1, 3, 4}, farNumbers...) {
			change("another Belt", func(s *api.Space, l *belts) { (*l)[x[0]][x[1]].Belt = n })
		}
		for _, n := range append([]int{4, 8}, farNumbers...) {
			change("another first frame", func(s *api.Space, l *belts) { (*l)[x[0]][x[1]].First = n })
			change("another last frame", func(s *api.Space, l *belts) { (*l)[x[0]][x[1]].Last = n })
		}
	}
}

// No two increments have the same Seq, whether their stamps or their frames are the same or not.
func TestTheSameSeqTwice(t *testing.T) {
	one := func(b, f, words int) api.Increment {
		return api.Increment{Seq: 5, Belt: b, First: f, Last: f, Words: words}
	}
	twoStamps := spaceOf(3, owned(5, 0, -1), owned(5, 1, -1))
	checkValid(t, "in two belts", twoStamps, belts{{one(0, 0, 8)}, {one(1, 1, 8)}}, false)
	checkValid(t, "in one of two belts", twoStamps, belts{{one(0, 0, 8)}, {}}, false)
	checkValid(t, "in the other one", twoStamps, belts{{}, {one(1, 1, 8)}}, false)
	oneStamp := spaceOf(3, owned(5, 0, -1), owned(5, 0, -1))
	checkValid(t, "in one belt", oneStamp, belts{{one(0, 0, 8), one(0, 1, 8)}}, false)
	checkValid(t, "in one belt, only once", oneStamp, belts{{one(0, 0, 8)}}, false)
	single := spaceOf(3, owned(5, 0, -1), free)
	checkValid(t, "only once", single, belts{{one(0, 0, 8)}, {}}, true)
	checkValid(t, "the same frame in one belt", single, belts{{one(0, 0, 8), one(0, 0, 8)}, {}}, false)
	checkValid(t, "the same frame with other words", single, belts{{one(0, 0, 7), one(0, 0, 8)}, {}}, false)
	checkValid(t, "the same frame in two belts", single, belts{{one(0, 0, 8)}, {one(0, 0, 8)}}, false)
	checkValid(t, "the same frame in two belts, with two numbers", single, belts{{one(0, 0, 8)}, {one(1, 0, 8)}}, false)
	checkValid(t, "without words", single, belts{{one(0, 0, 8)}, {number(5, 1, 0)}}, false)
}

func TestNumbersOfBelts(t *testing.T) {
	for _, s := range []api.Space{freeSpace(3, 2), freeSpace(8, 64)} {
		for n := range 7 {
			checkValid(t, "empty belts", s, make(belts, n), n >= 1 && n <= 4)
		}
		checkValid(t, "no belts", s, nil, false)
		checkValid(t, "2^20 belts", s, make(belts, 1<<20), false)
		checkValid(t, "an increment without words", s, belts{{number(0, 0, 0)}}, false)
	}
	// The increment stands in each of the belts alone, with empty ones below and above.
	for b := range 5 {
		s := spaceOf(3, free, free, owned(5, b%4, -1))
		for n := b + 1; n <= 5; n++ {
			l := make(belts, n)
			l[b] = []api.Increment{{Seq: 5, Belt: b, First: 2, Last: 2, Words: 3}}
			checkValid(t, "one increment", s, l, n <= 4)
		}
	}
}

func TestFramesWithoutAnIncrement(t *testing.T) {
	for f := range 8 {
		for _, seq := range []int{0, 5, 8, api.MaxSeq} {
			s, l := whole()
			if s.Frames[f] != free {
				continue
			}
			s.Frames[f] = owned(seq, 1, -1)
			checkValid(t, "a frame whose owner no increment has", s, l, false)
			l[1] = []api.Increment{{Seq: seq, Belt: 1, First: f, Last: f, Words: 2}}
			checkValid(t, "a frame whose owner one has", s, l, true)
		}
	}
	full := spaceOf(3, owned(0, 0, -1), owned(1, 0, -1))
	l := belts{{{Seq: 0, First: 0, Last: 0, Words: 8}, {Seq: 1, First: 1, Last: 1, Words: 1}}, nil}
	checkValid(t, "no frame is free", full, l, true)
	checkValid(t, "the last frame has no increment", full, belts{l[0][:1], nil}, false)
	checkValid(t, "the first frame has no increment", full, belts{l[0][1:], nil}, false)
	checkValid(t, "no frame has an increment", full, make(belts, 2), false)
}

// Each of the 64 frames is an increment of one word, and one increment has all of them.
func TestTheLargestBelts(t *testing.T) {
	for shift := api.MinShift; shift <= api.MaxShift; shift++ {
		s, l, order := freeSpace(shift, 64), make(belts, 4), make(belts, 1)
		for f := range s.Frames {
			seq := api.MaxSeq - 63 + f*37%64
			s.Frames[f] = owned(seq, seq%4, -1)
			l[seq%4] = append(l[seq%4], api.Increment{Seq: seq, Belt: seq % 4, First: f, Last: f, Words: 1})
		}
		for b := range l {
			slices.SortFunc(l[b], func(i, j api.Increment) int { return i.Seq - j.Seq })
		}
		checkValid(t, "increments of one word", s, l, true)
		if belt.Words(l) != 64 || belt.Largest(s, l) != 1 {
			t.Errorf("64 increments of one word have %d words, the largest %d frames", belt.Words(l), belt.Largest(s, l))
		}
		l[3] = l[3][:15]
		checkValid(t, "the last one is missing", s, l, false)
		for f := range s.Frames {
			s.Frames[f] = owned(0, 0, f-1)
		}
		order[0] = []api.Increment{{Seq: 0, Belt: 0, First: 63, Last: 0, Words: 64 << shift}}
		checkValid(t, "one increment", s, order, true)
		if belt.Words(order) != 64<<shift || belt.Largest(s, order) != 64 {
			t.Errorf("one increment has %d words in %d frames", belt.Words(order), belt.Largest(s, order))
		}
	}
}

func TestSpacesThatAreNotValid(t *testing.T) {
	i := api.Increment{Seq: 5, Belt: 0, First: 1, Last: 1, Words: 8}
	for _, s := range []api.Space{
		{},
		spaceOf(3, owned(5, 0, -1)),
		spaceOf(3, free),
		spaceOf(2, free, owned(5, 0, -1)),
		spaceOf(9, free, owned(5, 0, -1)),
		spaceOf(3, free, owned(5, 0, 1)),
		spaceOf(3, free, owned(5, 0, -1), owned(6, 4, -1)),
		spaceOf(3, free, owned(5, 0, -1), owned(-2, 0, -1)),
		spaceOf(3, append(slices.Repeat([]api.Frame{free}, 64), owned(5, 0, -1))...),
		{Shift: 3, Frames: []api.Frame{free, free}},
		{Shift: 3, Words: make([]uint64, 17), Frames: []api.Frame{free, free}},
		{Shift: math.MaxInt, Words: make([]uint64, 16), Frames: []api.Frame{free, free}},
		{Shift: math.MinInt, Words: make([]uint64, 16), Frames: []api.Frame{free, owned(5, 0, -1)}},
		{Shift: 3, Words: append(make([]uint64, 15), 1), Frames: []api.Frame{free, free}},
	} {
		for _, l := range []belts{nil, {nil}, make(belts, 4), {{i}}, {{i}, nil}, {{number(0, 0, 0)}}} {
			checkValid(t, "the space", s, l, false)
		}
	}
}

// P11.2

// checkQueries compares Oldest, Youngest and Find with what is wanted, for all belts and Seqs that l could have, and some others; belts stay as they are.
func checkQueries(t *testing.T, l belts) {
	t.Helper()
	inside, memory, outer := within(l)
	memoryBefore, outerBefore := slices.Clone(memory), cloneBelts(outer)
	for _, b := range append([]int{0, 1, 2, 3, 4, 5, len(l)}, farNumbers...) {
		var first, last api.Increment
		want := b >= 0 && b < len(l) && len(l[b]) > 0
		if want {
			first, last = l[b][0], l[b][len(l[b])-1]
		}
		if i, ok := belt.Oldest(inside, b); i != first || ok != want {
			t.Errorf("Oldest(%v, %d) = %v, %t, want %v, %t", l, b, i, ok, first, want)
		}
		if i, ok := belt.Youngest(inside, b); i != last || ok != want {
			t.Errorf("Youngest(%v, %d) = %v, %t, want %v, %t", l, b, i, ok, last, want)
		}
	}
	for _, seq := range append([]int{0, 3, 4, 5, 6, 8}, farNumbers...) {
		var found api.Increment
		want := false
		for _, i := range flat(l) {
			if i.Seq == seq && !want {
				found, want = i, true
			}
		}
		if i, ok := belt.Find(inside, seq); i != found || ok != want {
			t.Errorf("Find(%v, %d) = %v, %t, want %v, %t", l, seq, i, ok, found, want)
		}
	}
	if !slices.Equal(memory, memoryBefore) || !isEqualBelts(outer, outerBefore) {
		t.Errorf("Oldest, Youngest or Find has changed %v to %v", l, inside)
	}
}

func TestQueriesOfSomeBelts(t *testing.T) {
	someBelts(func(l belts) { checkQueries(t, l) })
}

func TestKnownQueries(t *testing.T) {
	_, l := whole()
	for _, x := range []struct {
		b          int
		old, young api.Increment
		ok         bool
	}{{0, l[0][0], l[0][1], true}, {1, api.Increment{}, api.Increment{}, false}, {2, l[2][0], l[2][1], true}, {3, api.Increment{}, api.Increment{}, false}, {-1, api.Increment{}, api.Increment{}, false}} {
		if i, ok := belt.Oldest(l, x.b); i != x.old || ok != x.ok {
			t.Errorf("Oldest(%d) = %v, %t", x.b, i, ok)
		}
		if i, ok := belt.Youngest(l, x.b); i != x.young || ok != x.ok {
			t.Errorf("Youngest(%d) = %v, %t", x.b, i, ok)
		}
	}
	for seq, want := range map[int]api.Increment{3: l[0][0], 7: l[0][1], 4: l[2][0], 9: l[2][1], 5: {}, -1: {}} {
		if i, ok := belt.Find(l, seq); i != want || ok != (want.Words > 0) {
			t.Errorf("Find(%d) = %v, %t", seq, i, ok)
		}
	}
	// A zero increment may stand in a belt: only the bool tells that it was found.
	zero := belts{nil, {{}}}
	oldest, isOldest := belt.Oldest(zero, 1)
	youngest, isYoungest := belt.Youngest(zero, 1)
	found, isFound := belt.Find(zero, 0)
	if !isOldest || !isYoungest || !isFound || oldest != (api.Increment{}) || youngest != oldest || found != oldest {
		t.Errorf("a zero increment is not found")
	}
}

func TestASeqThatOccursMoreThanOnce(t *testing.T) {
	l := belts{nil, {number(4, 0, 10), number(6, 1, 20), number(6, 1, 30)}, {number(6, 2, 40), number(4, 2, 50)}}
	for seq, want := range map[int]api.Increment{4: l[1][0], 6: l[1][1]} {
		if i, ok := belt.Find(l, seq); i != want || !ok {
			t.Errorf("Find(%d) = %v, %t, want %v", seq, i, ok, want)
		}
	}
	out, err := belt.Remove(l, 6)
	if want := (belts{nil, {number(4, 0, 10), number(6, 1, 30)}, {number(6, 2, 40), number(4, 2, 50)}}); err != api.OK || !isEqualBelts(out, want) {
		t.Errorf("Remove once: %v, error %d, want %v", out, err, want)
	}
	out, _ = belt.Remove(out, 6)
	out, err = belt.Remove(out, 6)
	if want := (belts{nil, {number(4, 0, 10)}, {number(4, 2, 50)}}); err != api.OK || !isEqualBelts(out, want) {
		t.Errorf("Remove three times: %v, error %d, want %v", out, err, want)
	}
	if out, err = belt.Remove(out, 6); err != api.ErrState || len(out) != 0 {
		t.Errorf("Remove four times: %v, error %d", out, err)
	}
}

// P11.3

func TestChangesOfSomeBelts(t *testing.T) {
	someBelts(func(l belts) {
		for _, seq := range []int{3, 4, 5, 8, math.MinInt, math.MaxInt} {
			for b := -1; b <= 5; b++ {
				i := api.Increment{Seq: seq, Belt: b, First: 60, Last: 61, Words: 62}
				checkAdd(t, l, i)
				checkReplace(t, l, i)
			}
			checkRemove(t, l, seq)
		}
	})
}

func TestAddAtEachEnd(t *testing.T) {
	_, l := whole()
	for _, x := range []struct {
		seq, b int
		want   api.Errno
	}{
		{8, 0, api.OK}, {7, 0, api.ErrState}, {6, 0, api.ErrState}, {3, 0, api.ErrState}, {-8, 0, api.ErrState}, {math.MinInt, 0, api.ErrState}, {math.MaxInt, 0, api.OK},
		{0, 1, api.OK}, {-1, 1, api.OK}, {4, 1, api.OK}, {math.MinInt, 1, api.OK}, {api.MaxSeq, 1, api.OK},
		{10, 2, api.OK}, {9, 2, api.ErrState}, {8, 2, api.ErrState},
		{99, 3, api.ErrArg}, {99, 4, api.ErrArg}, {99, -1, api.ErrArg}, {99, math.MinInt, api.ErrArg}, {99, math.MaxInt, api.ErrArg}, {99, 1 << 32, api.ErrArg},
		{3, 3, api.ErrArg}, {3, -1, api.ErrArg}, {9, 3, api.ErrArg},
	} {
		i := api.Increment{Seq: x.seq, Belt: x.b, First: 4, Last: 4, Words: 5}
		out, err := belt.Add(l, i)
		if err != x.want {
			t.Errorf("Add(%v): error %d, want %d", i, err, x.want)
		}
		if err == api.OK {
			if last, _ := belt.Youngest(out, x.b); last != i || len(out[x.b]) != len(l[x.b])+1 {
				t.Errorf("Add(%v): %v", i, out)
			}
		}
		checkAdd(t, l, i)
	}
	for _, none := range []belts{nil, {}} {
		if out, err := belt.Add(none, api.Increment{}); err != api.ErrArg || len(out) != 0 {
			t.Errorf("Add without belts: %v, error %d", out, err)
		}
	}
}

// The last Seq of the belt counts, not the greatest one, nor those of other belts or the Belt of the increment that stands there.
func TestAddLooksAtTheLastSeq(t *testing.T) {
	l := belts{{number(9, 0, 1), number(2, 1, 1)}, {number(50, 0, 1)}, nil}
	for _, x := range []struct {
		seq, b int
		want   api.Errno
	}{{3, 0, api.OK}, {9, 0, api.OK}, {2, 0, api.ErrState}, {3, 1, api.ErrState}, {50, 1, api.ErrState}, {51, 1, api.OK}, {2, 2, api.OK}} {
		if _, err := belt.Add(l, number(x.seq, x.b, 1)); err != x.want {
			t.Errorf("Add of the Seq %d to belt %d: error %d, want %d", x.seq, x.b, err, x.want)
		}
		checkAdd(t, l, number(x.seq, x.b, 1))
	}
}

func TestReplaceInItsBelt(t *testing.T) {
	_, l := whole()
	for _, x := range []struct {
		seq, b, place int
		want          api.Errno
	}{
		{3, 0, 0, api.OK}, {7, 0, 1, api.OK}, {4, 2, 0, api.OK}, {9, 2, 1, api.OK},
		{4, 0, 0, api.ErrState}, {9, 0, 0, api.ErrState}, {3, 1, 0, api.ErrState}, {3, 2, 0, api.ErrState}, {5, 0, 0, api.ErrState}, {-1, 2, 0, api.ErrState},
		{3, 3, 0, api.ErrArg}, {3, -1, 0, api.ErrArg}, {5, 3, 0, api.ErrArg}, {4, 4, 0, api.ErrArg}, {7, math.MinInt, 0, api.ErrArg}, {7, math.MaxInt, 0, api.ErrArg}, {7, 1 << 32, 0, api.ErrArg},
	} {
		i := api.Increment{Seq: x.seq, Belt: x.b, First: 40, Last: 50, Words: 60}
		out, err := belt.Replace(l, i)
		if err != x.want {
			t.Errorf("Replace(%v): error %d, want %d", i, err, x.want)
		}
		if err == api.OK && out[x.b][x.place] != i {
			t.Errorf("Replace(%v): %v", i, out)
		}
		checkReplace(t, l, i)
	}
	if out, err := belt.Replace(nil, api.Increment{}); err != api.ErrArg || len(out) != 0 {
		t.Errorf("Replace without belts: %v, error %d", out, err)
	}
	// The belt is the one that i names, also where another one stands in it.
	strange := belts{{number(5, 1, 10)}, {number(6, 1, 20), number(5, 0, 30)}}
	out, err := belt.Replace(strange, number(5, 1, 77))
	if want := (belts{{number(5, 1, 10)}, {number(6, 1, 20), number(5, 1, 77)}}); err != api.OK || !isEqualBelts(out, want) {
		t.Errorf("Replace in belt 1: %v, error %d, want %v", out, err, want)
	}
}

func TestRemoveFromEachBelt(t *testing.T) {
	_, l := whole()
	for _, x := range []struct {
		seq  int
		want belts
	}{
		{3, belts{{l[0][1]}, nil, l[2]}},
		{7, belts{{l[0][0]}, nil, l[2]}},
		{4, belts{l[0], nil, {l[2][1]}}},
		{9, belts{l[0], nil, {l[2][0]}}},
	} {
		out, err := belt.Remove(l, x.seq)
		if err != api.OK || !isEqualBelts(out, x.want) {
			t.Errorf("Remove(%d): %v, error %d, want %v", x.seq, out, err, x.want)
		}
		checkRemove(t, l, x.seq)
	}
	for _, seq := range append([]int{0, 1, 2, 5, 6, 8, 10}, farNumbers...) {
		if out, err := belt.Remove(l, seq); err != api.ErrState || len(out) != 0 {
			t.Errorf("Remove(%d): %v, error %d", seq, out, err)
		}
		checkRemove(t, l, seq)
	}
	// The belt stays when its only increment goes.
	out, err := belt.Remove(belts{nil, {number(5, 1, 1)}}, 5)
	if err != api.OK || len(out) != 2 || len(out[0]) != 0 || len(out[1]) != 0 {
		t.Errorf("Remove of the only increment: %v, error %d", out, err)
	}
	for _, none := range []belts{nil, {}, {nil}, make(belts, 4)} {
		if out, err := belt.Remove(none, 0); err != api.ErrState || len(out) != 0 {
			t.Errorf("Remove from empty belts: %v, error %d", out, err)
		}
	}
}

// Belts need not be as many as are permitted, nor valid, to be changed.
func TestManyBeltsAndIncrements(t *testing.T) {
	l := make(belts, 7)
	for seq := range 1 << 12 {
		l[6] = append(l[6], number(seq, 6, seq))
	}
	for _, b := range []int{0, 5, 6} {
		checkAdd(t, l, number(1<<12, b, 1))
	}
	for _, seq := range []int{0, 1, 2000, 1<<12 - 1, 1 << 12} {
		checkReplace(t, l, number(seq, 6, -5))
		checkRemove(t, l, seq)
	}
	for b := range api.MaxBelts + 2 {
		checkAdd(t, make(belts, b), number(9, b-1, 4))
		checkAdd(t, make(belts, b), number(9, b, 4))
	}
}

// P11.4

func TestWordsOfAllNumbers(t *testing.T) {
	for words := range 1<<20 + 1 {
		if got := belt.Words(belts{nil, {number(0, 0, words)}}); got != words {
			t.Fatalf("Words of one increment of %d words is %d", words, got)
		}
	}
	someBelts(func(l belts) {
		inside, memory, _ := within(l)
		before, want := slices.Clone(memory), 0
		for _, i := range flat(l) {
			want += i.Words
		}
		if got := belt.Words(inside); got != want || !slices.Equal(memory, before) {
			t.Errorf("Words(%v) is %d, want %d, or its argument has changed to %v", l, got, want, inside)
		}
	})
	for _, none := range []belts{nil, {}, {nil}, make(belts, 4)} {
		if got := belt.Words(none); got != 0 {
			t.Errorf("Words(%v) is %d", none, got)
		}
	}
}

// The most increments that an input may have, of the most words.
func TestWordsAndLargestOfTheLongestBelts(t *testing.T) {
	l := belts{make([]api.Increment, 1<<18), make([]api.Increment, 1<<18), nil, make([]api.Increment, 1<<19)}
	for _, queue := range l {
		for k := range queue {
			queue[k].Words = 1 << 20
		}
	}
	if got := belt.Words(l); got != 1<<40 {
		t.Errorf("Words is %d, want 2^40", got)
	}
	if got := belt.Largest(api.Space{Shift: 3}, l); got != 1<<17 {
		t.Errorf("Largest is %d, want 2^17", got)
	}
	for _, queue := range l {
		clear(queue)
	}
	l[3][1<<19-1].Words = 17
	if got := belt.Words(l); got != 17 {
		t.Errorf("Words of one increment among many is %d, want 17", got)
	}
	if got := belt.Largest(api.Space{Shift: 3}, l); got != 3 {
		t.Errorf("Largest of one increment among many is %d, want 3", got)
	}
}

func TestLargestOfAllNumbersOfWords(t *testing.T) {
	for shift := api.MinShift; shift <= api.MaxShift; shift++ {
		s := api.Space{Shift: shift}
		for words, want := 0, 0; words <= 1<<20; words++ {
			if words > want<<shift {
				want++
			}
			if got := belt.Largest(s, belts{{number(0, 0, words)}}); got != want {
				t.Fatalf("Largest of one increment of %d words with the shift %d is %d, want %d", words, shift, got, want)
			}
		}
	}
}

// Wherever the largest increment stands.
func TestLargestOfSeveral(t *testing.T) {
	s, l := whole()
	for b, queue := range l {
		for k := range queue {
			for words, want := range map[int]int{0: 3, 8: 3, 17: 3, 24: 3, 25: 4, 32: 4, 33: 5, 1 << 20: 1 << 17} {
				changed := cloneBelts(l)
				if changed[b][k].Seq == 9 {
					want = max(2, (words+7)/8)
				}
				changed[b][k].Words = words
				before, spaceBefore := cloneBelts(changed), cloneSpace(s)
				if got := belt.Largest(s, changed); got != want {
					t.Errorf("Largest(%v) is %d, want %d", changed, got, want)
				}
				if !isEqualBelts(changed, before) || !isEqualSpace(s, spaceBefore) {
					t.Errorf("Largest has changed %v to %v, or its space", before, changed)
				}
			}
		}
	}
	for _, none := range []belts{nil, {}, {nil}, make(belts, 4), {{number(3, 0, 0)}}} {
		if got := belt.Largest(s, none); got != 0 {
			t.Errorf("Largest(%v) is %d", none, got)
		}
	}
}

// Largest is bump.Frames of one of the increments also in spaces that are not valid.
func TestLargestInOtherSpaces(t *testing.T) {
	l := belts{{number(5, 9, 40)}, {{Seq: -1, Belt: -1, First: 99, Last: -99, Words: 50}, number(4, 0, 7)}}
	for _, shift := range append([]int{-1, 0, 1, 2, 9, 20, 21, 63, 64}, farNumbers...) {
		s := api.Space{Shift: shift}
		if got, want := belt.Largest(s, l), bump.Frames(s, l[1][0]); got != want {
			t.Errorf("Largest with the shift %d is %d, want %d", shift, got, want)
		}
	}
}

func TestOpenOfAllLimits(t *testing.T) {
	for shift := api.MinShift; shift <= api.MaxShift; shift++ {
		s, size := freeSpace(shift, 2), 1<<shift
		before := cloneSpace(s)
		for limit := range api.MaxFrames + 1 {
			for _, words := range []int{0, 1, limit*size - size, limit*size - 2, limit*size - 1, limit * size, limit*size + 1, limit*size + size, 64*size - 1, 64 * size, 1 << 14, 1<<20 - 1, 1 << 20} {
				want := limit == 0 || words < limit*size
				if words < 0 {
					continue
				}
				for _, i := range []api.Increment{number(0, 0, words), {Seq: -1, Belt: 7, First: 5, Last: 6, Words: words}} {
					if got := belt.Open(s, i, limit); got != want {
						t.Errorf("Open of %d words in frames of %d with the limit %d is %t", words, size, limit, got)
					}
				}
			}
		}
		if !isEqualSpace(s, before) {
			t.Errorf("Open has changed %v", before.Frames)
		}
	}
}

func TestOpenOfAllNumbersOfWords(t *testing.T) {
	for _, x := range []struct{ shift, limit, least int }{{3, 0, 1 << 21}, {3, 1, 8}, {3, 64, 512}, {5, 3, 96}, {8, 0, 1 << 21}, {8, 1, 256}, {8, 64, 1 << 14}} {
		s := api.Space{Shift: x.shift}
		for words := range 1<<20 + 1 {
			if got := belt.Open(s, number(0, 0, words), x.limit); got != (words < x.least) {
				t.Fatalf("Open of %d words with the shift %d and the limit %d is %t", words, x.shift, x.limit, got)
			}
		}
	}
}

// A frame has no words where Shift is not permitted, so no increment has fewer.
func TestOpenInSpacesThatAreNotValid(t *testing.T) {
	for _, shift := range append([]int{-1, 0, 1, 2, 9, 63, 64}, farNumbers...) {
		for _, words := range []int{0, 1, 8, 1 << 20} {
			for _, limit := range []int{0, 1, 2, 64} {
				if got := belt.Open(api.Space{Shift: shift}, number(0, 0, words), limit); got != (limit == 0) {
					t.Errorf("Open of %d words with the shift %d and the limit %d is %t", words, shift, limit, got)
				}
			}
		}
	}
}

// Nothing is promised for other numbers, but that the result is the same again.
func TestFarNumbers(t *testing.T) {
	s, _ := whole()
	for _, words := range farNumbers {
		l := belts{{number(words, words, words), number(5, 0, words)}, {number(6, 1, 3)}}
		again := cloneBelts(l)
		if belt.Words(l) != belt.Words(again) || belt.Largest(s, l) != belt.Largest(s, again) {
			t.Errorf("Words or Largest of %v returns something else when called again", l)
		}
		for _, limit := range farNumbers {
			if belt.Open(s, l[0][0], limit) != belt.Open(s, again[0][0], limit) {
				t.Errorf("Open of %d words with the limit %d returns something else when called again", words, limit)
			}
		}
		if !isEqualBelts(l, again) {
			t.Errorf("Words, Largest or Open has changed %v to %v", again, l)
		}
	}
}

// P11.1 to P11.4 together

func TestTheDocumentsExample(t *testing.T) {
	s := freeSpace(3, 2)
	if belt.Open(s, number(0, 0, 16), 2) {
		t.Error("an increment of 16 words is open")
	}
	if !belt.Open(s, number(0, 0, 15), 2) {
		t.Error("an increment of 15 words is not open")
	}
}

// checkConsequences checks that the belts are valid, and that their words take at most as many frames as are used.
func checkConsequences(t *testing.T, s api.Space, l belts) {
	t.Helper()
	checkValid(t, "grown", s, l, true)
	words, used, size, increments := belt.Words(l), pool.Used(s), frame.Size(s), len(flat(l))
	if words > used*size || words < (used-increments)*size+increments {
		t.Errorf("%v have %d words in %d frames of %d", l, words, used, size)
	}
	for _, i := range flat(l) {
		if found, ok := belt.Find(l, i.Seq); found != i || !ok {
			t.Errorf("Find(%v, %d) = %v, %t", l, i.Seq, found, ok)
		}
	}
}

// checkSequences checks all sequences of so many calls that add an increment with n words to a belt, let one grow, or remove one.
func checkSequences(t *testing.T, s api.Space, l belts, seq, calls int) {
	checkConsequences(t, s, l)
	if calls == 0 {
		return
	}
	for b := range l {
		for _, n := range []int{1, 8, 9} {
			if out, i, _, err := bump.Alloc(s, number(seq, b, 0), n); err == api.OK {
				next, err := belt.Add(l, i)
				if err != api.OK {
					t.Errorf("Add(%v, %v): error %d", l, i, err)
				}
				checkSequences(t, out, next, seq+1, calls-1)
			}
		}
	}
	for _, i := range flat(l) {
		if out, grown, _, err := bump.Alloc(s, i, 11); err == api.OK {
			next, err := belt.Replace(l, grown)
			if err != api.OK {
				t.Errorf("Replace(%v, %v): error %d", l, grown, err)
			}
			checkSequences(t, out, next, seq, calls-1)
		}
		out, _ := bump.Drop(s, i)
		next, err := belt.Remove(l, i.Seq)
		if err != api.OK {
			t.Errorf("Remove(%v, %d): error %d", l, i.Seq, err)
		}
		checkSequences(t, out, next, seq, calls-1)
	}
}

func TestAllSequencesOfCalls(t *testing.T) {
	checkSequences(t, freeSpace(3, 5), make(belts, 3), 0, 4)
	checkSequences(t, freeSpace(3, 4), make(belts, 1), api.MaxSeq-4, 5)
}
