package walk_test

import (
	"math"
	"slices"
	"testing"

	"beltway/api"
	"beltway/bump"
	"beltway/frame"
	"beltway/object"
	"beltway/walk"
)

// free is the entry of a free frame.
var free = api.Frame{Owner: -1, Stamp: -1, Next: -1}

// farNumbers are outside of every range; the sums and stamps of some of them wrap around to small numbers.
var farNumbers = []int{math.MinInt, math.MinInt + 1, math.MinInt + 8, -1 << 62, -1 << 33, -1 << 32, -65, -2, -1, 1 << 14, 1<<14 + 1, 1 << 32, 1<<32 + 1, 1 << 40, 1 << 62, math.MaxInt - 8, math.MaxInt - 1, math.MaxInt}

// forwardingWords are headers of objects that were copied.
var forwardingWords = []uint64{1, 3, 11, 0x101, 0x403, 0x405, 1<<15 - 1}

// otherWords are headers of no kind: zero, too many fields, a size that is not that of the fields, and a live or a forwarding header with a bit too many.
var otherWords = []uint64{0, 2, 6, 0x102, 0x302 + 1<<16, 0x120, 0x1120, 0x2200, 0x3122, 0xff00, 0x100 + 1<<8<<8, 0x100 + 1<<63, 1 << 63, 1<<15 + 1, 1<<33 + 1, 5 << 40, math.MaxUint64 - 1, math.MaxUint64}

// headers are the live headers and the sizes of their objects, by sums instead of bits.
var headers = func() map[uint64]int {
	sizes := map[uint64]int{}
	eachShape(func(refs, data int) { sizes[liveWord(refs, data)] = 1 + refs + data })
	return sizes
}()

// shape is how many reference fields and data fields an object has.
type shape struct{ refs, data int }

func (x shape) size() int { return 1 + x.refs + x.data }

func liveWord(refs, data int) uint64 { return uint64(2*refs + 256*(1+refs+data)) }

func eachShape(visit func(refs, data int)) {
	for refs := 0; refs <= 15; refs++ {
		for data := 0; data <= 32; data++ {
			visit(refs, data)
		}
	}
}

func owned(seq, belt, next int) api.Frame {
	return api.Frame{Owner: seq, Stamp: belt*api.BeltStamp + seq, Next: next}
}

// spaceOf returns a space with a copy of the frames; each word of a frame with an owner is the header of the least object, so that no word shows where objects begin, and those of free frames are 0.
func spaceOf(shift int, frames ...api.Frame) api.Space {
	s := api.Space{Shift: shift, Words: make([]uint64, len(frames)<<shift), Frames: slices.Clone(frames)}
	for a := range s.Words {
		if frames[a>>shift] != free {
			s.Words[a] = 256
		}
	}
	return s
}

// chained returns a space of n frames of which those of the order are the chain of the increment 5 of belt 1; the others are free.
func chained(shift, n int, order ...int) api.Space {
	frames := slices.Repeat([]api.Frame{free}, n)
	for k, f := range order {
		frames[f] = owned(5, 1, -1)
		if k+1 < len(order) {
			frames[f].Next = order[k+1]
		}
	}
	return spaceOf(shift, frames...)
}

// filled returns such a space whose chain begins with objects of these shapes, and the increment that they fill. Its last frame is the last one of the order.
func filled(shift, n int, order []int, shapes ...shape) (api.Space, api.Increment) {
	s := chained(shift, n, order...)
	i := api.Increment{Seq: 5, Belt: 1, First: order[0], Last: order[len(order)-1]}
	words := wordsFrom(s, order[0])
	for _, x := range shapes {
		s.Words[words[i.Words]] = liveWord(x.refs, x.data)
		i.Words += x.size()
	}
	return s, i
}

// filling returns shapes of objects of so many words together.
func filling(words int) []shape {
	var shapes []shape
	for ; words > 48; words -= 48 {
		shapes = append(shapes, shape{15, 32})
	}
	if refs := min(words/2, 15); words > 0 {
		shapes = append(shapes, shape{refs, words - 1 - refs})
	}
	return shapes
}

// shuffled returns so many frames, not ascending.
func shuffled(n int) []int {
	var order []int
	for k := range n {
		if k%2 == 0 {
			order = append([]int{k}, order...)
		} else {
			order = append(order, k)
		}
	}
	return order
}

// orders returns all orders of up to three of four frames.
func orders() [][]int {
	var all [][]int
	for a := range 4 {
		all = append(all, []int{a})
		for b := range 4 {
			for c := range 4 {
				if a != b && c == 0 {
					all = append(all, []int{a, b})
				}
				if a != b && b != c && a != c {
					all = append(all, []int{a, b, c})
				}
			}
		}
	}
	return all
}

// empty returns an increment without words.
func empty(seq, belt int) api.Increment {
	return api.Increment{Seq: seq, Belt: belt, First: -1, Last: -1}
}

// wordsFrom returns the addresses of the words of the chain that begins with the frame first, in their order.
func wordsFrom(s api.Space, first int) []int {
	var addresses []int
	for f := first; f != -1; f = s.Frames[f].Next {
		for offset := range 1 << s.Shift {
			addresses = append(addresses, f*(1<<s.Shift)+offset)
		}
	}
	return addresses
}

func clone(s api.Space) api.Space {
	return api.Space{Shift: s.Shift, Words: slices.Clone(s.Words), Frames: slices.Clone(s.Frames)}
}

func isEqual(a, b api.Space) bool {
	return a.Shift == b.Shift && slices.Equal(a.Words, b.Words) && slices.Equal(a.Frames, b.Frames)
}

func withWord(s api.Space, a int, w uint64) api.Space {
	out := clone(s)
	out.Words[a] = w
	return out
}

// wantedObjects says what Objects answers for an increment that is valid in a valid space.
func wantedObjects(s api.Space, i api.Increment) ([]int, api.Errno) {
	words := wordsFrom(s, i.First)[:i.Words]
	var objects []int
	for len(words) > 0 {
		size := headers[s.Words[words[0]]]
		if size == 0 || size > len(words) {
			return nil, api.ErrHeader
		}
		objects, words = append(objects, words[0]), words[size:]
	}
	return objects, api.OK
}

// someAddresses returns addresses inside and outside of a space: all of them where it is small.
func someAddresses(s api.Space) []int {
	all := append([]int{-2, -1, len(s.Words), len(s.Words) + 1}, farNumbers...)
	for a := 0; a < len(s.Words); a += 1 + len(s.Words)/256 {
		all = append(all, a)
	}
	return all
}

// checkWalk compares what the functions answer with what is wanted, for an increment that has to be valid in a valid space, and checks that the arguments stay.
func checkWalk(t *testing.T, s api.Space, i api.Increment) {
	t.Helper()
	if !bump.Valid(s, i) {
		t.Fatalf("%v is not valid in %v", i, s.Frames)
	}
	want, wantErr := wantedObjects(s, i)
	checkAnswers(t, s, i, want, wantErr)
}

// checkAnswers checks that Objects answers want, and Holds and Live what belongs to it, that all arguments stay, and that results share no memory.
func checkAnswers(t *testing.T, s api.Space, i api.Increment, want []int, wantErr api.Errno) {
	t.Helper()
	before := clone(s)
	objects, err := walk.Objects(s, i)
	if err != wantErr || !slices.Equal(objects, want) {
		t.Errorf("Objects(%v) in %v = %v, error %d, want %v, error %d", i, s.Frames, objects, err, want, wantErr)
	}
	again, _ := walk.Objects(s, i)
	for k := range again[:cap(again)] {
		again[:cap(again)][k] = -77
	}
	if !slices.Equal(objects, want) {
		t.Errorf("Objects(%v) in %v shares memory with another result", i, s.Frames)
	}
	wantWords := 0
	for _, a := range want {
		wantWords += headers[before.Words[a]]
	}
	if n, words, err := walk.Live(s, i); n != len(want) || words != wantWords || err != wantErr {
		t.Errorf("Live(%v) in %v = %d, %d, error %d, want %d, %d, error %d", i, s.Frames, n, words, err, len(want), wantWords, wantErr)
	}
	for _, a := range slices.Concat(someAddresses(s), want[:min(len(want), 100)]) {
		if got := walk.Holds(s, i, a); got != slices.Contains(want, a) {
			t.Errorf("Holds(%v, %d) in %v = %t, want objects %v", i, a, s.Frames, got, want)
		}
	}
	if !isEqual(s, before) {
		t.Errorf("the walk along %v has changed %v to %v, or its words", i, before.Frames, s.Frames)
	}
}

// P10.1 and P10.2: objects one after the other

func TestWithoutWords(t *testing.T) {
	full := spaceOf(3, owned(6, 0, 1), owned(6, 0, -1))
	for _, s := range []api.Space{chained(3, 2), chained(8, 64), full, chained(3, 3, 1), chained(3, 3, 2, 0, 1), spaceOf(3, owned(5, 2, -1), free)} {
		// The owner of the first one has frames in some of these spaces: they are not the increment's.
		for _, i := range []api.Increment{empty(5, 1), empty(0, 0), empty(api.MaxSeq, 3)} {
			checkAnswers(t, s, i, nil, api.OK)
		}
	}
}

// Whatever words an increment has in its first places, in a chain that does not ascend.
func TestAllWordsAtTheBeginning(t *testing.T) {
	some := []uint64{0, 1, 2, 256, 512, 514, 768, 770, 1024, 1282}
	s, i := chained(3, 2, 1), api.Increment{Seq: 5, Belt: 1, First: 1, Last: 1}
	for i.Words = 1; i.Words <= 4; i.Words++ {
		for number := range 10 * 10 * 10 * 10 {
			for k, rest := 8, number; k < 12; k, rest = k+1, rest/10 {
				s.Words[k] = some[rest%10]
			}
			checkWalk(t, s, i)
			if t.Failed() {
				t.Fatalf("the words are %v", s.Words[8:12])
			}
		}
	}
}

// And in the places around the end of its first frame, behind an object of six words.
func TestAllWordsAroundTheEndOfAFrame(t *testing.T) {
	some := []uint64{0, 3, 256, 514, 770, 1024, 1282}
	s, i := filled(3, 3, []int{2, 0}, shape{2, 3})
	for i.Words = 9; i.Words <= 11; i.Words++ {
		for number := range 7 * 7 * 7 * 7 * 7 {
			for k, rest := 0, number; k < 5; k, rest = k+1, rest/7 {
				s.Words[[]int{22, 23, 0, 1, 2}[k]] = some[rest%7]
			}
			checkWalk(t, s, i)
			if t.Failed() {
				t.Fatalf("the words are %v and %v", s.Words[22:24], s.Words[:3])
			}
		}
	}
}

func TestOneObjectFillsTheIncrement(t *testing.T) {
	eachShape(func(refs, data int) {
		for _, shift := range []int{3, 4, 8} {
			size := 1 + refs + data
			order := shuffled((size-1)>>shift + 1)
			s, i := filled(shift, 8, order, shape{refs, data})
			checkAnswers(t, s, i, []int{order[0] << shift}, api.OK)
		}
	})
}

func TestObjectsOfAllSizesAtAllOffsets(t *testing.T) {
	for shift := api.MinShift; shift <= api.MaxShift; shift++ {
		size := 1 << shift
		for offset := range min(size, 64) {
			// The offsets at the end of a frame are those where an object straddles frames.
			before := filling(size - offset)
			for _, x := range []shape{{0, 0}, {1, 0}, {0, 1}, {3, 4}, {15, 0}, {15, 31}, {15, 32}} {
				for _, behind := range []int{0, 1, 9} {
					shapes := append(append(slices.Clone(before), x), filling(behind)...)
					words := size - offset + x.size() + behind
					s, i := filled(shift, 12, shuffled((words+size-1)/size), shapes...)
					checkWalk(t, s, i)
					if _, _, err := walk.Live(s, i); err != api.OK {
						t.Errorf("%v: Live: error %d", shapes, err)
					}
				}
			}
		}
	}
}

func TestChainsInAllOrders(t *testing.T) {
	for _, order := range orders() {
		// Seven words, and so at each place where a frame ends, an object of each size up to nine.
		shapes := append(filling(len(order)*8-7), shape{3, 3})
		s, i := filled(3, 4, order, shapes...)
		checkWalk(t, s, i)
		for size := 1; size <= 9 && len(order) > 1; size++ {
			for start := 1; start+size < len(order)*8; start++ {
				shapes := append(append(filling(start), filling(size)...), filling(len(order)*8-start-size)...)
				s, i := filled(3, 4, order, shapes...)
				checkWalk(t, s, i)
			}
		}
	}
}

func TestKnownObjects(t *testing.T) {
	for _, x := range []struct {
		why    string
		order  []int
		shapes []shape
		want   []int
	}{
		{"the least object", []int{2}, []shape{{0, 0}}, []int{16}},
		{"a frame of least objects", []int{1}, []shape{{0, 0}, {0, 0}, {0, 0}, {0, 0}, {0, 0}, {0, 0}, {0, 0}, {0, 0}}, []int{8, 9, 10, 11, 12, 13, 14, 15}},
		{"an object that fills its frame", []int{1}, []shape{{3, 4}}, []int{8}},
		{"objects that fill a frame each", []int{2, 0, 1}, []shape{{3, 4}, {7, 0}, {0, 7}}, []int{16, 0, 8}},
		{"an object that straddles two frames", []int{3, 1}, []shape{{1, 4}, {2, 1}, {0, 1}}, []int{24, 30, 10}},
		{"a header that ends its frame", []int{3, 1}, []shape{{1, 5}, {2, 1}, {0, 1}}, []int{24, 31, 11}},
		{"a field that begins a frame", []int{3, 1}, []shape{{1, 5}, {1, 0}, {0, 0}}, []int{24, 31, 9}},
		{"an object that straddles three frames", []int{1, 7, 2}, []shape{{0, 6}, {4, 5}, {0, 2}}, []int{8, 15, 17}},
		{"the greatest object in six frames", []int{5, 2, 4, 0, 3, 1}, []shape{{15, 32}}, []int{40}},
		{"the greatest object in seven frames", []int{5, 2, 6, 4, 0, 3, 1}, []shape{{0, 4}, {15, 32}, {1, 1}}, []int{40, 45, 13}},
	} {
		s, i := filled(3, 8, x.order, x.shapes...)
		checkAnswers(t, s, i, x.want, api.OK)
		if t.Failed() {
			t.Fatal(x.why)
		}
	}
}

func TestTheLargestIncrements(t *testing.T) {
	for _, x := range []shape{{0, 0}, {1, 0}, {3, 4}, {15, 32}} {
		order := shuffled(api.MaxFrames)
		s, i := filled(api.MaxShift, api.MaxFrames, order, slices.Repeat([]shape{x}, (1<<14)/x.size())...)
		if _, words, err := walk.Live(s, i); err != api.OK || words != i.Words {
			t.Errorf("Live(%v) of objects of %d words = %d words, error %d", i, x.size(), words, err)
		}
		objects, err := walk.Objects(s, i)
		if want, wantErr := wantedObjects(s, i); err != wantErr || !slices.Equal(objects, want) {
			t.Errorf("Objects(%v) of objects of %d words are %d, error %d, want %d", i, x.size(), len(objects), err, len(want))
		}
		last := wordsFrom(s, i.First)[i.Words-x.size()]
		for _, a := range []int{order[0] << 8, last, order[1]<<8 + 255, order[63] << 8, order[63]<<8 + 255, 1 << 14, -1} {
			if got := walk.Holds(s, i, a); got != slices.Contains(objects, a) {
				t.Errorf("Holds(%v, %d) of objects of %d words is %t", i, a, x.size(), got)
			}
		}
	}
}

// Increments grow beside each other, so their frames alternate; frames that were freed are taken again, so they do not ascend.
func TestObjectsThatWereAllocated(t *testing.T) {
	for shift := api.MinShift; shift <= api.MaxShift; shift++ {
		s, _ := frame.New(shift, 64)
		increments := []api.Increment{empty(5, 1), empty(0, 0), empty(api.MaxSeq, 3), empty(9, 1)}
		allocated := make([][]int, len(increments))
		for n := range 120 {
			if n == 40 && shift < 6 {
				s, _ = bump.Drop(s, increments[3])
				increments[3], allocated[3] = empty(10, 2), nil
			}
			k, x := n*7%4, shape{n * 5 % 16, n * 3 % 8}
			out, grown, a, err := bump.Alloc(s, increments[k], x.size())
			if err != api.OK {
				break
			}
			s, increments[k], allocated[k] = out, grown, append(allocated[k], a)
			s, _ = object.Init(s, a, x.refs, x.data)
		}
		for k, i := range increments {
			checkAnswers(t, s, i, allocated[k], api.OK)
		}
	}
}

func TestPermittedNumbersAndBelts(t *testing.T) {
	for _, seq := range []int{0, 1, 2, 47, 48, 1 << 31, api.MaxSeq - 1, api.MaxSeq} {
		for belt := range api.MaxBelts {
			s, i := filled(3, 5, []int{4, 0, 2}, shape{1, 3}, shape{5, 3}, shape{3, 4})
			i.Seq, i.Belt = seq, belt
			s.Frames[4], s.Frames[0], s.Frames[2], s.Frames[1] = owned(seq, belt, 0), owned(seq, belt, 2), owned(seq, belt, -1), owned(9, belt, -1)
			checkAnswers(t, s, i, []int{32, 37, 6}, api.OK)
		}
	}
}

// What stands in fields, behind the increment's last word, and in other increments says nothing about its objects.
func TestWordsThatAreNoBeginnings(t *testing.T) {
	s, i := filled(3, 4, []int{3, 1}, shape{2, 1}, shape{0, 0}, shape{1, 3}, shape{0, 2})
	s.Frames[0] = owned(9, 1, -1)
	want := []int{24, 28, 29, 10}
	for a := range s.Words {
		if slices.Contains(want, a) || s.Frames[a>>3] == free {
			continue
		}
		for _, w := range slices.Concat(otherWords, forwardingWords, []uint64{256, 1540, 48*256 + 30}) {
			checkAnswers(t, withWord(s, a, w), i, want, api.OK)
		}
	}
}

// P10.1 and P10.2: what is no object

// wrongPlaces returns increments of several objects, and each of the addresses where one begins.
func wrongPlaces(visit func(s api.Space, i api.Increment, a int)) {
	for _, x := range []struct {
		order  []int
		shapes []shape
	}{
		{[]int{1}, []shape{{0, 0}}},
		{[]int{0}, []shape{{3, 4}}},
		{[]int{2, 0}, []shape{{1, 3}, {5, 0}, {0, 0}, {0, 0}}},
		{[]int{5, 2, 6, 4, 0, 3, 1}, []shape{{0, 4}, {15, 32}, {1, 1}}},
	} {
		s, i := filled(3, 8, x.order, x.shapes...)
		objects, _ := wantedObjects(s, i)
		for _, a := range objects {
			visit(s, i, a)
		}
	}
}

func TestWordsThatAreNoHeaders(t *testing.T) {
	wrongPlaces(func(s api.Space, i api.Increment, a int) {
		for _, w := range otherWords {
			checkAnswers(t, withWord(s, a, w), i, nil, api.ErrHeader)
		}
	})
}

func TestForwardingHeaders(t *testing.T) {
	wrongPlaces(func(s api.Space, i api.Increment, a int) {
		for _, w := range forwardingWords {
			checkAnswers(t, withWord(s, a, w), i, nil, api.ErrHeader)
		}
	})
}

func TestAllWordsOfSixteenBits(t *testing.T) {
	s, i := filled(3, 8, []int{7, 2, 6, 4, 0, 3, 1}, shape{0, 4}, shape{15, 32})
	for w := range uint64(1 << 16) {
		// The words behind this one are headers of the least object, so that other objects follow one that ends early.
		s.Words[61] = w
		want, wantErr := wantedObjects(s, i)
		if objects, err := walk.Objects(s, i); err != wantErr || !slices.Equal(objects, want) {
			t.Errorf("Objects with the header %#x = %v, error %d, want %v, error %d", w, objects, err, want, wantErr)
		}
	}
}

func TestObjectsThatEndAfterTheLastWord(t *testing.T) {
	for shift := api.MinShift; shift <= api.MaxShift; shift++ {
		size := 1 << shift
		for _, before := range []int{0, 1, 5, size - 1, size, size + 1} {
			for _, x := range []shape{{1, 0}, {0, 1}, {3, 4}, {0, 15}, {15, 32}} {
				for fewer := range x.size() {
					words := before + x.size() - fewer
					order := shuffled((words + size - 1) / size)
					s, i := chained(shift, 16, order...), api.Increment{Seq: 5, Belt: 1, First: order[0], Last: order[len(order)-1], Words: words}
					place := 0
					for _, y := range append(filling(before), x) {
						s.Words[wordsFrom(s, i.First)[place]] = liveWord(y.refs, y.data)
						place += y.size()
					}
					want := api.ErrHeader
					if fewer == 0 {
						want = api.OK
					}
					if _, err := walk.Objects(s, i); err != want {
						t.Errorf("%v after %d words, %d words too few: error %d, want %d", x, before, fewer, err, want)
					}
					checkWalk(t, s, i)
				}
			}
		}
	}
}

// The increment ends with its last word, not with its last frame; and the frames behind are not its own.
func TestKnownObjectsThatDoNotEnd(t *testing.T) {
	for _, x := range []struct {
		why   string
		order []int
		words int
		put   map[int]uint64
		want  []int
		err   api.Errno
	}{
		{"one word, an object of one", []int{0}, 1, map[int]uint64{0: 256}, []int{0}, api.OK},
		{"one word, an object of two", []int{0}, 1, map[int]uint64{0: 512}, nil, api.ErrHeader},
		{"the last word, an object of one", []int{2}, 5, map[int]uint64{16: 1024, 20: 256}, []int{16, 20}, api.OK},
		{"the last word, an object of two", []int{2}, 5, map[int]uint64{16: 1024, 20: 512}, nil, api.ErrHeader},
		{"up to the last word", []int{2}, 5, map[int]uint64{16: 512, 18: 768}, []int{16, 18}, api.OK},
		{"one word later", []int{2}, 5, map[int]uint64{16: 512, 18: 1024}, nil, api.ErrHeader},
		{"up to the end of the frame, later than the last word", []int{2}, 5, map[int]uint64{16: 512, 18: 1536}, nil, api.ErrHeader},
		{"one word after the end of the chain", []int{2}, 8, map[int]uint64{16: 512, 18: 1792}, nil, api.ErrHeader},
		{"one word after the end of two frames", []int{2, 1}, 16, map[int]uint64{16: 512, 18: 15 * 256}, nil, api.ErrHeader},
		{"up to the end of two frames", []int{2, 1}, 16, map[int]uint64{16: 512, 18: 14 * 256}, []int{16, 18}, api.OK},
		{"the last word of the second frame", []int{2, 1}, 16, map[int]uint64{16: 15 * 256, 15: 256}, []int{16, 15}, api.OK},
		{"after the last word of the second frame", []int{2, 1}, 16, map[int]uint64{16: 15 * 256, 15: 512}, nil, api.ErrHeader},
		{"the greatest object at the last word", []int{2, 1}, 16, map[int]uint64{16: 15 * 256, 15: 48*256 + 30}, nil, api.ErrHeader},
	} {
		s := chained(3, 4, x.order...)
		s.Frames[3] = owned(6, 1, -1)
		for a, w := range x.put {
			s.Words[a] = w
		}
		i := api.Increment{Seq: 5, Belt: 1, First: x.order[0], Last: x.order[len(x.order)-1], Words: x.words}
		checkAnswers(t, s, i, x.want, x.err)
		if t.Failed() {
			t.Fatal(x.why)
		}
	}
}

// With another number of words the increment is as valid, but its last word is inside of an object, or its objects are followed by a word that is no header.
func TestNumbersOfWordsThatTheObjectsDoNotFill(t *testing.T) {
	s, i := filled(3, 4, []int{3, 0, 2}, shape{1, 3}, shape{5, 0}, shape{0, 0}, shape{2, 4})
	s.Words[19] = 0
	for i.Words = 17; i.Words <= 24; i.Words++ {
		if i.Words == 19 {
			checkAnswers(t, s, i, []int{24, 29, 3, 4}, api.OK)
		} else {
			checkAnswers(t, s, i, nil, api.ErrHeader)
		}
	}
	// With headers of the least object behind it, each of them is one more.
	for a := 19; a < 24; a++ {
		s.Words[a], i.Words = 256, a
		checkAnswers(t, s, i, append([]int{24, 29, 3, 4}, []int{19, 20, 21, 22, 23}[:a-19]...), api.OK)
	}
}

// P10.1 and P10.2: what is not valid

// checkNotValid checks that ErrArg comes first, whether the words are objects, no headers, or forwarding ones.
func checkNotValid(t *testing.T, why string, s api.Space, i api.Increment) {
	t.Helper()
	checkAnswers(t, s, i, nil, api.ErrArg)
	for _, w := range []uint64{1, 2, 3, 256, 48 * 256, math.MaxUint64} {
		out := clone(s)
		for a := range out.Words {
			if out.Words[a] != 0 {
				out.Words[a] = w
			}
		}
		checkAnswers(t, out, i, nil, api.ErrArg)
	}
	if t.Failed() {
		t.Fatalf("%s: %v in %v", why, i, s.Frames)
	}
}

func TestIncrementsThatAreNotValid(t *testing.T) {
	s, good := filled(3, 5, []int{3, 0, 2}, shape{1, 3}, shape{5, 0}, shape{0, 0}, shape{2, 5})
	s.Frames[1] = owned(6, 1, -1)
	checkAnswers(t, s, good, []int{24, 29, 3, 4}, api.OK)
	change := func(why string, alter func(i *api.Increment)) {
		i := good
		alter(&i)
		checkNotValid(t, why, s, i)
	}
	for _, seq := range append([]int{0, 4, 6, 5 + api.BeltStamp, 5 - api.BeltStamp, api.MaxSeq + 1}, farNumbers...) {
		change("another number", func(i *api.Increment) { i.Seq = seq })
	}
	for _, belt := range append([]int{0, 2, 3, 4}, farNumbers...) {
		change("another belt", func(i *api.Increment) { i.Belt = belt })
	}
	for _, f := range append([]int{0, 1, 2, 4, 5}, farNumbers...) {
		change("another first frame", func(i *api.Increment) { i.First = f })
	}
	for _, f := range append([]int{0, 1, 3, 4, 5}, farNumbers...) {
		change("another last frame", func(i *api.Increment) { i.Last = f })
	}
	for _, words := range append([]int{0, 1, 8, 16, 25, 40}, farNumbers...) {
		change("another number of words", func(i *api.Increment) { i.Words = words })
	}
	change("the same stamp", func(i *api.Increment) { i.Seq, i.Belt = 5+api.BeltStamp, 0 })
	change("no frame", func(i *api.Increment) { i.First, i.Last = -1, -1 })
	change("nothing", func(i *api.Increment) { *i = api.Increment{} })
	change("far numbers", func(i *api.Increment) {
		*i = api.Increment{Seq: -1, Belt: 4, First: math.MaxInt, Last: math.MinInt, Words: math.MaxInt}
	})
}

// The owner has a frame that is not the increment's, or the increment has no words but a frame.
func TestFramesThatMakeIncrementsNotValid(t *testing.T) {
	s, i := filled(3, 4, []int{2, 0}, shape{1, 3}, shape{5, 0})
	for _, extra := range []api.Frame{owned(5, 1, -1), owned(5, 1, 2), owned(5, 0, -1)} {
		other := clone(s)
		other.Frames[1] = extra
		checkNotValid(t, "another frame of the owner", other, i)
	}
	for _, x := range [][2]int{{2, 0}, {2, 2}, {0, 0}, {2, -1}, {-1, 0}, {-2, -2}, {1, 1}, {0, 1}} {
		checkNotValid(t, "a frame without words", s, api.Increment{Seq: 5, Belt: 1, First: x[0], Last: x[1]})
	}
}

func TestSpacesThatAreNotValid(t *testing.T) {
	word := chained(3, 3, 1)
	word.Words[7] = 1 << 63
	short := chained(3, 3, 1)
	short.Words = short.Words[:23]
	long := chained(3, 3, 1)
	long.Words = append(long.Words, 0)
	spaces := []api.Space{
		{},
		{Shift: 3, Words: []uint64{}, Frames: []api.Frame{}},
		word, short, long,
		{Shift: 3, Frames: []api.Frame{free, owned(5, 1, -1)}},
		{Shift: 3, Frames: make([]api.Frame, 1000)},
		spaceOf(3, owned(5, 1, -1)),
		spaceOf(3, free),
		chained(2, 3, 1),
		chained(9, 3, 1),
		spaceOf(3, free, owned(5, 1, -1), owned(8, 4, -1)),
		spaceOf(3, free, owned(5, 1, -1), owned(-2, 1, -1)),
		spaceOf(3, free, owned(5, 1, -1), owned(8, 1, 0)),
		spaceOf(3, free, owned(5, 1, -1), api.Frame{Owner: -1, Stamp: 0, Next: -1}),
		spaceOf(3, free, owned(5, 1, -1), api.Frame{Owner: -1, Stamp: -1, Next: 1}),
		spaceOf(3, free, owned(5, 1, 1)),
		spaceOf(3, free, owned(5, 1, 2), owned(5, 1, 1)),
		spaceOf(3, free, owned(5, 1, 3)),
		spaceOf(3, free, owned(5, 1, math.MaxInt), owned(5, 1, math.MinInt)),
		spaceOf(3, free, owned(5, 1, 2), owned(6, 1, -1)),
		spaceOf(3, append(slices.Repeat([]api.Frame{free}, api.MaxFrames), owned(5, 1, -1))...),
	}
	for _, shift := range []int{math.MinInt, -3, 0, 63, 64, 67, math.MaxInt} {
		spaces = append(spaces, api.Space{Shift: shift, Words: make([]uint64, 16), Frames: []api.Frame{free, owned(5, 1, -1)}})
	}
	for _, s := range spaces {
		for _, i := range []api.Increment{{Seq: 5, Belt: 1, First: 1, Last: 1, Words: 8}, {Seq: 5, Belt: 1, First: 1, Last: 2, Words: 16}, empty(5, 1), empty(7, 0), {}, {Seq: -1, Belt: 4, First: math.MaxInt, Last: math.MinInt, Words: -1}} {
			checkNotValid(t, "the space", s, i)
		}
	}
}

// P10.2

func TestAddressesThatAreHeld(t *testing.T) {
	frames := []api.Frame{owned(5, 1, -1), owned(9, 2, 3), owned(5, 1, 0), owned(9, 2, -1), free}
	s := spaceOf(3, frames...)
	s.Words[16], s.Words[21], s.Words[3] = liveWord(1, 3), liveWord(5, 0), liveWord(0, 0)
	s.Words[8], s.Words[10] = liveWord(0, 1), liveWord(4, 4)
	mine, other := api.Increment{Seq: 5, Belt: 1, First: 2, Last: 0, Words: 12}, api.Increment{Seq: 9, Belt: 2, First: 1, Last: 3, Words: 11}
	for _, x := range []struct {
		why         string
		a           int
		mine, other bool
	}{
		{"the first word of the increment", 16, true, false}, {"a word inside of the first object", 17, false, false}, {"the last word of it", 20, false, false},
		{"an object that straddles frames", 21, true, false}, {"a word of it in its second frame", 0, false, false}, {"the last word of it", 2, false, false},
		{"an object of one word that ends the increment", 3, true, false}, {"the word behind the increment, a header", 4, false, false}, {"the last word of its last frame, a header", 7, false, false},
		{"the first object of another increment", 8, false, true}, {"the second object of another increment", 10, false, true}, {"a word inside of it, a header", 24, false, false},
		{"a word of a free frame", 32, false, false}, {"the word behind the space", 40, false, false}, {"the word before the space", -1, false, false},
		{"a reference word", 17, false, false}, {"far away", 16 + 1<<32, false, false}, {"far away", 16 - 1<<32, false, false}, {"far away", math.MinInt + 16, false, false},
	} {
		if got := walk.Holds(s, mine, x.a); got != x.mine {
			t.Errorf("%s: Holds(%d) is %t", x.why, x.a, got)
		}
		if got := walk.Holds(s, other, x.a); got != x.other {
			t.Errorf("%s: Holds(%d) of the other increment is %t", x.why, x.a, got)
		}
	}
	checkWalk(t, s, mine)
	checkWalk(t, s, other)
}

// An object that begins before the place of the error is not held either.
func TestNothingIsHeldBesideAnError(t *testing.T) {
	s, i := filled(3, 4, []int{3, 0}, shape{1, 3}, shape{5, 0}, shape{0, 1})
	for _, a := range []int{24, 29, 3} {
		if !walk.Holds(s, i, a) {
			t.Fatalf("Holds(%d) is false", a)
		}
		for _, w := range []uint64{0, 3, 768} {
			if bad := withWord(s, 3, w); walk.Holds(bad, i, a) {
				t.Errorf("Holds(%d) is true though the last object has the header %#x", a, w)
			}
		}
		wrong := i
		wrong.Last = 3
		if walk.Holds(s, wrong, a) {
			t.Errorf("Holds(%d) is true though the increment is not valid", a)
		}
	}
}

func TestLiveOfKnownIncrements(t *testing.T) {
	for _, x := range []struct {
		shapes   []shape
		n, words int
	}{
		{[]shape{{0, 0}}, 1, 1}, {[]shape{{15, 32}}, 1, 48}, {[]shape{{0, 0}, {0, 0}, {0, 0}}, 3, 3}, {[]shape{{1, 3}, {5, 0}}, 2, 11}, {[]shape{{15, 32}, {0, 0}, {15, 32}, {2, 2}}, 4, 102},
	} {
		s, i := filled(3, 16, shuffled((x.words+7)/8), x.shapes...)
		if n, words, err := walk.Live(s, i); n != x.n || words != x.words || err != api.OK {
			t.Errorf("Live of %v = %d, %d, error %d, want %d, %d", x.shapes, n, words, err, x.n, x.words)
		}
	}
}

func TestTheDocumentsExample(t *testing.T) {
	s, _ := frame.New(3, 4)
	s, i, a, _ := bump.Alloc(s, empty(7, 0), 5)
	s, _ = object.Init(s, a, 2, 2)
	s, i, b, _ := bump.Alloc(s, i, 6)
	s, _ = object.Init(s, b, 0, 5)
	if a != 0 || b != 5 {
		t.Fatalf("the objects were allocated at %d and %d", a, b)
	}
	checkAnswers(t, s, i, []int{0, 5}, api.OK)
	if n, words, err := walk.Live(s, i); n != 2 || words != 11 || err != api.OK {
		t.Errorf("Live = %d, %d, error %d", n, words, err)
	}
}
