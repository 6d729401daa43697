package object_test

import (
	"math"
	"slices"
	"testing"

	"beltway/api"
	"beltway/chain"
	"beltway/frame"
	"beltway/object"
	"beltway/pool"
)

// free is the entry of a free frame.
var free = api.Frame{Owner: -1, Stamp: -1, Next: -1}

// farNumbers are outside of every range; the sums of some of them wrap around to small numbers.
var farNumbers = []int{math.MinInt, math.MinInt + 1, math.MinInt + 16, -1 << 62, -1 << 32, 1 << 32, 1<<32 + 1, 1 << 62, math.MaxInt - 16, math.MaxInt - 1, math.MaxInt}

// anyWords are words for fields: nil, references to words inside and outside of spaces, headers of both kinds, and others.
var anyWords = []uint64{0, 1, 2, 9, 17, 1 << 14, 1<<14 + 1, 256, 1540, 11, 1 << 32, 1 << 63, math.MaxUint64 - 1, math.MaxUint64}

// allWrong gives each of its numbers to a function of an object that is not there.
var allWrong = [][3]int{{0, 0, 0}, {0, 16, 0}, {8, 1, 1}, {8, 0, 33}, {-1, 0, 0}, {-1, -1, -1}, {64, 1, 0}, {math.MinInt, math.MaxInt, math.MinInt}, {math.MaxInt, math.MinInt, math.MaxInt}}

func owned(seq, belt, next int) api.Frame {
	return api.Frame{Owner: seq, Stamp: belt*api.BeltStamp + seq, Next: next}
}

// spaceOf returns a space with a copy of the frames; every word of a frame with an owner has an own number that is no header, those of free frames are 0.
func spaceOf(shift int, frames ...api.Frame) api.Space {
	s := api.Space{Shift: shift, Words: make([]uint64, len(frames)<<shift), Frames: slices.Clone(frames)}
	for a := range s.Words {
		if frames[a>>shift] != free {
			s.Words[a] = uint64(a+1) << 40
		}
	}
	return s
}

// chained returns a space of n frames of which those of the order make a chain; the others are free.
func chained(shift, n int, order ...int) api.Space {
	frames := slices.Repeat([]api.Frame{free}, n)
	for i, f := range order {
		frames[f] = owned(7, 2, -1)
		if i+1 < len(order) {
			frames[f].Next = order[i+1]
		}
	}
	return spaceOf(shift, frames...)
}

// smallSpaces returns spaces with chains in each order of up to three frames, with chains beside each other, and with one that is longer than the largest object.
func smallSpaces() []api.Space {
	return []api.Space{
		chained(3, 2, 0), chained(3, 2, 1), chained(3, 2, 0, 1), chained(3, 2, 1, 0),
		chained(3, 3, 0, 1, 2), chained(3, 3, 0, 2, 1), chained(3, 3, 1, 0, 2), chained(3, 3, 1, 2, 0), chained(3, 3, 2, 0, 1), chained(3, 3, 2, 1, 0),
		chained(4, 3, 2, 0), chained(4, 2, 1, 0),
		chained(3, 8, 3, 0, 7, 1, 6, 2, 4),
		// Two frames of one owner without a link, and a chain of another owner between them.
		spaceOf(3, owned(7, 1, -1), owned(9, 1, 3), owned(7, 1, -1), owned(9, 1, -1), free),
	}
}

// invalidSpaces returns spaces that are not valid; most of them have a frame 1 that would take an object, and a free frame 0.
func invalidSpaces() []api.Space {
	word := chained(3, 3, 1, 2)
	word.Words[7] = 1 << 63
	short := chained(3, 3, 1, 2)
	short.Words = short.Words[:23]
	long := chained(3, 3, 1, 2)
	long.Words = append(long.Words, 0)
	spaces := []api.Space{
		{},
		{Shift: 3, Words: []uint64{}, Frames: []api.Frame{}},
		word, short, long,
		{Shift: 3, Frames: []api.Frame{free, owned(7, 1, -1)}},
		{Shift: 3, Frames: make([]api.Frame, 1000)},
		spaceOf(3, owned(7, 1, -1)),
		chained(2, 3, 1, 2),
		chained(9, 3, 1, 2),
		spaceOf(3, free, owned(7, 4, -1)),
		spaceOf(3, free, owned(-2, 1, -1)),
		spaceOf(3, free, owned(7, 1, 0)),
		spaceOf(3, free, owned(7, 1, 1)),
		spaceOf(3, free, owned(7, 1, 2), owned(7, 1, 1)),
		spaceOf(3, free, owned(7, 1, 2)),
		spaceOf(3, free, owned(7, 1, math.MaxInt), owned(7, 1, math.MinInt)),
		spaceOf(3, free, owned(7, 1, 2), owned(8, 1, -1)),
		spaceOf(3, append(slices.Repeat([]api.Frame{owned(7, 1, -1)}, api.MaxFrames), free)...),
	}
	for _, shift := range []int{math.MinInt, -3, 0, 64, 67, math.MaxInt} {
		spaces = append(spaces, api.Space{Shift: shift, Words: make([]uint64, 24), Frames: []api.Frame{free, owned(7, 1, 2), owned(7, 1, -1)}})
	}
	for _, s := range spaces {
		if len(s.Words) > 8 {
			s.Words[8] = liveWord(1, 1)
		}
	}
	return spaces
}

func clone(s api.Space) api.Space {
	return api.Space{Shift: s.Shift, Words: slices.Clone(s.Words), Frames: slices.Clone(s.Frames)}
}

func isEqual(a, b api.Space) bool {
	return a.Shift == b.Shift && slices.Equal(a.Words, b.Words) && slices.Equal(a.Frames, b.Frames)
}

func isZero(s api.Space) bool {
	return s.Shift == 0 && len(s.Words) == 0 && len(s.Frames) == 0
}

// scribble writes to all memory of a space, also behind its lengths.
func scribble(s api.Space) {
	words, frames := s.Words[:cap(s.Words)], s.Frames[:cap(s.Frames)]
	for a := range words {
		words[a] = 77
	}
	for f := range frames {
		frames[f] = api.Frame{Owner: 9, Stamp: 99, Next: 999}
	}
}

// liveWord is the header of an object, by sums instead of bits.
func liveWord(refs, data int) uint64 {
	return uint64(2*refs + 256*(1+refs+data))
}

// shapeOf returns the numbers of fields that a header says, and whether the word is a header of an object that was not copied.
func shapeOf(w uint64) (refs, data int, ok bool) {
	for refs = 0; refs <= 15; refs++ {
		for data = 0; data <= 32; data++ {
			if liveWord(refs, data) == w {
				return refs, data, true
			}
		}
	}
	return 0, 0, false
}

// wordsFrom returns the addresses of the word at a and of those behind it in its chain.
func wordsFrom(s api.Space, a int) []int {
	size := 1 << s.Shift
	var addresses []int
	for f, i := a/size, a%size; f != -1; f, i = s.Frames[f].Next, 0 {
		for ; i < size; i++ {
			addresses = append(addresses, f*size+i)
		}
	}
	return addresses
}

// withHeader returns the space with a header at a.
func withHeader(s api.Space, a, refs, data int) api.Space {
	return withWord(s, a, liveWord(refs, data))
}

func withWord(s api.Space, a int, w uint64) api.Space {
	out := clone(s)
	out.Words[a] = w
	return out
}

// wantedPlace says which words an object of the given size has at a, in a valid space.
func wantedPlace(s api.Space, a, size int) ([]int, api.Errno) {
	if a < 0 || a >= len(s.Words) {
		return nil, api.ErrRange
	}
	if s.Frames[a/(1<<s.Shift)] == free {
		return nil, api.ErrState
	}
	words := wordsFrom(s, a)
	if size > len(words) {
		return nil, api.ErrRange
	}
	return words[:size], api.OK
}

// wantedInit says what Init answers for a valid space.
func wantedInit(s api.Space, a, refs, data int) (api.Space, api.Errno) {
	if refs < 0 || refs > 15 || data < 0 || data > 32 {
		return api.Space{}, api.ErrSize
	}
	words, err := wantedPlace(s, a, 1+refs+data)
	if err != api.OK {
		return api.Space{}, err
	}
	out := clone(s)
	for _, b := range words {
		out.Words[b] = 0
	}
	out.Words[a] = liveWord(refs, data)
	return out, api.OK
}

// wantedObject says which reference and data fields the object at a has, in a valid space.
func wantedObject(s api.Space, a int) (refs, data []int, err api.Errno) {
	if _, err := wantedPlace(s, a, 1); err != api.OK {
		return nil, nil, err
	}
	r, d, ok := shapeOf(s.Words[a])
	if !ok {
		return nil, nil, api.ErrHeader
	}
	words, err := wantedPlace(s, a, 1+r+d)
	if err != api.OK {
		return nil, nil, err
	}
	return words[1 : 1+r], words[1+r:], api.OK
}

// checkInit compares Init with what is wanted of a valid space, and checks that its argument stays and its results are new memory.
func checkInit(t *testing.T, s api.Space, a, refs, data int) {
	t.Helper()
	before := clone(s)
	out, err := object.Init(s, a, refs, data)
	result := clone(out)
	again, _ := object.Init(s, a, refs, data)
	scribble(again)
	if !isEqual(s, before) || !isEqual(out, result) {
		t.Errorf("Init(%d, %d, %d) in %v: its argument or its result has changed", a, refs, data, before.Frames)
	}
	want, wantErr := wantedInit(before, a, refs, data)
	if err != wantErr || !isEqual(out, want) {
		t.Errorf("Init(%d, %d, %d) in %v: %v, error %d, want %v, error %d", a, refs, data, s.Frames, out.Words, err, want.Words, wantErr)
	}
	if err == api.OK && !frame.Valid(out) {
		t.Errorf("Init(%d, %d, %d) in %v: the space is not valid", a, refs, data, s.Frames)
	}
}

// checkShape compares Shape and Slots with what is wanted of a valid space.
func checkShape(t *testing.T, s api.Space, a int) {
	t.Helper()
	before := clone(s)
	wantRefs, wantData, wantErr := wantedObject(before, a)
	refs, data, err := object.Shape(s, a)
	if refs != len(wantRefs) || data != len(wantData) || err != wantErr {
		t.Errorf("Shape(%d) in %v = %d, %d, error %d, want %d, %d, error %d", a, s.Frames, refs, data, err, len(wantRefs), len(wantData), wantErr)
	}
	slots, err := object.Slots(s, a)
	if !slices.Equal(slots, wantRefs) || err != wantErr {
		t.Errorf("Slots(%d) in %v = %v, error %d, want %v, error %d", a, s.Frames, slots, err, wantRefs, wantErr)
	}
	for i := range slots[:cap(slots)] {
		slots[:cap(slots)][i] = 77
	}
	if again, _ := object.Slots(s, a); !slices.Equal(again, wantRefs) || !isEqual(s, before) {
		t.Errorf("Slots(%d) in %v: its argument or its result has changed", a, before.Frames)
	}
}

// kind is one kind of fields, with the functions that access them.
type kind struct {
	name string
	get  func(s api.Space, a, i int) (uint64, api.Errno)
	set  func(s api.Space, a, i int, w uint64) (api.Space, api.Errno)
	of   func(refs, data []int) []int
}

func kinds() []kind {
	return []kind{
		{"Ref", object.Ref, object.SetRef, func(refs, data []int) []int { return refs }},
		{"Data", object.Data, object.SetData, func(refs, data []int) []int { return data }},
	}
}

// checkField compares the functions of one kind of fields with what is wanted of a valid space.
func checkField(t *testing.T, k kind, s api.Space, a, i int, w uint64) {
	t.Helper()
	before, want := clone(s), api.Space{}
	refs, data, wantErr := wantedObject(before, a)
	fields, wantWord := k.of(refs, data), uint64(0)
	if wantErr == api.OK && (i < 0 || i >= len(fields)) {
		wantErr = api.ErrIndex
	}
	if wantErr == api.OK {
		wantWord = before.Words[fields[i]]
		want = withWord(before, fields[i], w)
	}
	if got, err := k.get(s, a, i); got != wantWord || err != wantErr {
		t.Errorf("%s(%d, %d) in %v = %#x, error %d, want %#x, error %d", k.name, a, i, s.Frames, got, err, wantWord, wantErr)
	}
	out, err := k.set(s, a, i, w)
	result := clone(out)
	again, _ := k.set(s, a, i, w)
	scribble(again)
	if !isEqual(s, before) || !isEqual(out, result) {
		t.Errorf("Set%s(%d, %d, %#x) in %v: its argument or its result has changed", k.name, a, i, w, before.Frames)
	}
	if !isEqual(out, want) || err != wantErr {
		t.Errorf("Set%s(%d, %d, %#x) in %v: %v, error %d, want %v, error %d", k.name, a, i, w, s.Frames, out.Words, err, want.Words, wantErr)
	}
}

// checkEveryError checks that each function but Init answers the error, whatever the index is, with zero values.
func checkEveryError(t *testing.T, why string, s api.Space, a int, want api.Errno) {
	t.Helper()
	if refs, data, err := object.Shape(s, a); refs != 0 || data != 0 || err != want {
		t.Errorf("%s: Shape(%d) = %d, %d, error %d, want error %d", why, a, refs, data, err, want)
	}
	if slots, err := object.Slots(s, a); len(slots) != 0 || err != want {
		t.Errorf("%s: Slots(%d) = %v, error %d, want error %d", why, a, slots, err, want)
	}
	for _, k := range kinds() {
		for _, i := range append([]int{-1, 0, 1, 15, 33}, farNumbers...) {
			if w, err := k.get(s, a, i); w != 0 || err != want {
				t.Errorf("%s: %s(%d, %d) = %#x, error %d, want error %d", why, k.name, a, i, w, err, want)
			}
			if out, err := k.set(s, a, i, 5); !isZero(out) || err != want {
				t.Errorf("%s: Set%s(%d, %d): %v, error %d, want error %d", why, k.name, a, i, out, err, want)
			}
		}
	}
}

func eachShape(visit func(refs, data int)) {
	for refs := 0; refs <= api.MaxRefs; refs++ {
		for data := 0; data <= api.MaxData; data++ {
			visit(refs, data)
		}
	}
}

// P8.1

func TestInitOfAllShapesAtAllAddresses(t *testing.T) {
	for _, s := range smallSpaces() {
		for a := -1; a <= len(s.Words); a++ {
			eachShape(func(refs, data int) { checkInit(t, s, a, refs, data) })
		}
	}
}

func TestInitOfKnownObjects(t *testing.T) {
	s := chained(3, 8, 3, 0, 7, 1, 6, 2, 4)
	for _, x := range []struct {
		why           string
		a, refs, data int
		header        uint64
		fields        []int
	}{
		{"without fields", 26, 0, 0, 0x100, nil},
		{"in one frame", 24, 2, 3, 1540, []int{25, 26, 27, 28, 29}},
		{"in two frames that do not ascend", 30, 1, 2, 0x402, []int{31, 0, 1}},
		{"up to the end of a frame", 24, 7, 0, 0x80e, []int{25, 26, 27, 28, 29, 30, 31}},
		{"in four frames", 7, 8, 10, 0x1310, []int{56, 57, 58, 59, 60, 61, 62, 63, 8, 9, 10, 11, 12, 13, 14, 15, 48, 49}},
		{"up to the end of the chain", 20, 2, 9, 0xc04, []int{21, 22, 23, 32, 33, 34, 35, 36, 37, 38, 39}},
		{"without fields at the end of the chain", 39, 0, 0, 0x100, nil},
	} {
		out, err := object.Init(s, x.a, x.refs, x.data)
		want := clone(s)
		want.Words[x.a] = x.header
		for _, field := range x.fields {
			want.Words[field] = 0
		}
		if err != api.OK || !isEqual(out, want) {
			t.Errorf("%s: Init(%d, %d, %d): %v, error %d, want %v", x.why, x.a, x.refs, x.data, out.Words, err, want.Words)
		}
	}
}

func TestInitOfTheLargestObjectOverEachOffset(t *testing.T) {
	for shift := api.MinShift; shift <= api.MaxShift; shift++ {
		size := 1 << shift
		s := chained(shift, 16, 15, 2, 14, 3, 13, 4, 12, 5, 11)
		for offset := range size {
			for _, f := range []int{15, 13, 11} {
				checkInit(t, s, f*size+offset, api.MaxRefs, api.MaxData)
				checkInit(t, s, f*size+offset, api.MaxRefs, 0)
				checkInit(t, s, f*size+offset, 0, api.MaxData)
			}
		}
	}
}

func TestInitInTheLargestSpace(t *testing.T) {
	order := make([]int, api.MaxFrames)
	for i := range order {
		order[i] = i * 37 % api.MaxFrames
	}
	s := chained(api.MaxShift, api.MaxFrames, order...)
	for i, f := range order {
		for _, offset := range []int{0, 208, 209, 250, 255} {
			if i%8 == 0 || i == api.MaxFrames-1 {
				checkInit(t, s, f*256+offset, api.MaxRefs, api.MaxData)
				checkInit(t, s, f*256+offset, 5, 0)
			}
		}
	}
}

// A new object has zeros whatever was there before: an older object, or words that look like one.
func TestInitOverOtherObjects(t *testing.T) {
	s := chained(3, 3, 2, 0)
	for a := range s.Words[:8] {
		s.Words[a], s.Words[16+a] = math.MaxUint64, liveWord(3, 3)
	}
	checkInit(t, s, 22, 4, 5)
	s, _ = object.Init(s, 20, 3, 4)
	s, _ = object.SetRef(s, 20, 2, 17)
	checkInit(t, s, 20, 1, 1)
	checkInit(t, s, 21, 2, 6)
	checkInit(t, s, 16, 0, 0)
}

func TestInitOfSizesThatAreNotPermitted(t *testing.T) {
	s := chained(3, 8, 3, 0, 7, 1, 6, 2, 4)
	// At the word 39 nothing fits, 40 is free, and 64 is outside: the size is checked first.
	for _, a := range append([]int{24, 0, 39, 40, 64, -1}, farNumbers...) {
		for _, far := range append([]int{-64, -2, -1, 33, 34, 48, 256}, farNumbers...) {
			for _, other := range append([]int{-1, 0, 1, 15, 16, 32, 33, -far, 1 - far, 47 - far}, farNumbers...) {
				checkInit(t, s, a, far, other)
				checkInit(t, s, a, other, far)
			}
		}
		for _, x := range [][2]int{{16, 0}, {16, 31}, {16, 32}, {0, 33}, {15, 33}, {-1, 0}, {0, -1}, {-1, 2}, {2, -1}} {
			if out, err := object.Init(s, a, x[0], x[1]); err != api.ErrSize || !isZero(out) {
				t.Errorf("Init(%d, %d, %d): error %d, want ErrSize", a, x[0], x[1], err)
			}
		}
	}
}

func TestInitWhereNoObjectFits(t *testing.T) {
	s := spaceOf(3, owned(7, 1, -1), owned(9, 1, 3), owned(7, 1, -1), owned(9, 1, -1), free)
	for _, x := range []struct {
		why           string
		a, refs, data int
		want          api.Errno
	}{
		{"before the space", -1, 0, 0, api.ErrRange}, {"behind the space", 40, 0, 0, api.ErrRange}, {"far behind the space", 40, 15, 32, api.ErrRange},
		{"the first word of a free frame", 32, 0, 0, api.ErrState}, {"the last word of a free frame", 39, 0, 0, api.ErrState}, {"a free frame, too small", 39, 15, 32, api.ErrState},
		{"a free frame behind the chain", 31, 1, 0, api.ErrRange}, {"another chain of the same owner", 7, 1, 0, api.ErrRange}, {"the frame behind, of another owner", 2, 0, 6, api.ErrRange},
		{"one word too many", 8, 0, 16, api.ErrRange}, {"one word too many, with references", 8, 15, 1, api.ErrRange}, {"far too many words", 30, 15, 32, api.ErrRange},
		{"all words of the chain", 8, 0, 15, api.OK}, {"all words of the chain, references", 8, 15, 0, api.OK}, {"the last word of the chain", 31, 0, 0, api.OK},
	} {
		out, err := object.Init(s, x.a, x.refs, x.data)
		if err != x.want || (err != api.OK && !isZero(out)) {
			t.Errorf("%s: Init(%d, %d, %d): error %d, want %d", x.why, x.a, x.refs, x.data, err, x.want)
		}
		checkInit(t, s, x.a, x.refs, x.data)
	}
	for _, a := range farNumbers {
		checkInit(t, s, a, 0, 0)
		checkInit(t, s, a, 15, 32)
	}
}

func TestInitOfSpacesThatAreNotValid(t *testing.T) {
	for i, s := range invalidSpaces() {
		for _, x := range allWrong {
			if out, err := object.Init(s, x[0], x[1], x[2]); err != api.ErrArg || !isZero(out) {
				t.Errorf("space %d: Init of %v: %v, error %d, want ErrArg", i, x, out, err)
			}
		}
	}
}

// P8.2

func TestShapeOfAllShapesAtAllAddresses(t *testing.T) {
	for _, s := range smallSpaces() {
		for a := range s.Words {
			if s.Frames[a>>s.Shift] == free {
				checkShape(t, s, a)
				continue
			}
			eachShape(func(refs, data int) { checkShape(t, withHeader(s, a, refs, data), a) })
		}
	}
}

func TestShapeOfAllWordsOfSixteenBits(t *testing.T) {
	s := chained(3, 8, 3, 0, 7, 1, 6, 2, 4)
	headers := map[uint64][2]int{}
	eachShape(func(refs, data int) { headers[liveWord(refs, data)] = [2]int{refs, data} })
	for w := range uint64(1 << 16) {
		s.Words[30] = w
		shape, ok := headers[w]
		want := api.ErrHeader
		if ok {
			want = api.OK
		}
		refs, data, err := object.Shape(s, 30)
		if refs != shape[0] || data != shape[1] || err != want {
			t.Errorf("Shape of the header %#x = %d, %d, error %d, want %v, error %d", w, refs, data, err, shape, want)
		}
	}
}

func TestWordsThatAreNoHeaders(t *testing.T) {
	s := chained(3, 8, 3, 0, 7, 1, 6, 2, 4)
	// There is room for the largest object at the address 24, and for none with a field at 39: the word is looked at first.
	for _, a := range []int{24, 39} {
		for _, w := range []uint64{0, 2, 5 << 40, 0x102, 0x2200, 0x1120, 0xff00, 0x10100, 0x100 + 1<<63, 1 << 63, math.MaxUint64, math.MaxUint64 - 1} {
			checkEveryError(t, "no header", withWord(s, a, w), a, api.ErrHeader)
		}
		for _, w := range []uint64{1, 11, 0x101, 0x403, 0x7fff, 0x8001, 1 + 1<<33} {
			checkEveryError(t, "a forwarding header", withWord(s, a, w), a, api.ErrHeader)
		}
	}
}

// The addresses are those of the links, not of the numbers of the frames.
func TestSlotsOfKnownObjects(t *testing.T) {
	s := chained(3, 8, 3, 0, 7, 1, 6, 2, 4)
	for _, x := range []struct {
		a, refs, data int
		want          []int
	}{
		{26, 0, 0, nil}, {26, 0, 32, nil}, {39, 0, 0, nil}, {24, 2, 3, []int{25, 26}}, {30, 1, 2, []int{31}}, {31, 2, 0, []int{0, 1}}, {6, 3, 32, []int{7, 56, 57}},
		{63, 15, 0, []int{8, 9, 10, 11, 12, 13, 14, 15, 48, 49, 50, 51, 52, 53, 54}},
		{50, 15, 6, []int{51, 52, 53, 54, 55, 16, 17, 18, 19, 20, 21, 22, 23, 32, 33}},
		{22, 9, 0, []int{23, 32, 33, 34, 35, 36, 37, 38, 39}},
	} {
		slots, err := object.Slots(withHeader(s, x.a, x.refs, x.data), x.a)
		if err != api.OK || !slices.Equal(slots, x.want) {
			t.Errorf("Slots(%d) of %d and %d fields = %v, error %d, want %v", x.a, x.refs, x.data, slots, err, x.want)
		}
	}
}

func TestShapeOfObjectsThatDoNotEnd(t *testing.T) {
	s := spaceOf(3, owned(7, 1, -1), owned(9, 1, 3), owned(7, 1, -1), owned(9, 1, -1), free)
	for _, x := range []struct {
		why           string
		a, refs, data int
	}{
		{"a free frame behind the chain", 31, 1, 0}, {"a free frame behind the chain", 31, 0, 1}, {"another chain of the same owner", 7, 1, 0}, {"the frame behind, of another owner", 2, 0, 6},
		{"one word too many", 8, 0, 16}, {"one word too many, with references", 8, 15, 1}, {"far too many words", 30, 15, 32}, {"the end of the space", 31, 15, 0},
	} {
		// The end is checked before the index.
		checkEveryError(t, x.why, withHeader(s, x.a, x.refs, x.data), x.a, api.ErrRange)
	}
	for _, x := range [][3]int{{8, 0, 15}, {8, 15, 0}, {31, 0, 0}, {7, 0, 0}, {2, 2, 3}} {
		refs, data, err := object.Shape(withHeader(s, x[0], x[1], x[2]), x[0])
		if refs != x[1] || data != x[2] || err != api.OK {
			t.Errorf("Shape of %v = %d, %d, error %d", x, refs, data, err)
		}
	}
}

func TestAddressesWhereNoObjectIs(t *testing.T) {
	for _, s := range smallSpaces() {
		for _, a := range append([]int{-65, -2, -1, len(s.Words), len(s.Words) + 1, 1 << 14}, farNumbers...) {
			checkEveryError(t, "outside", s, a, api.ErrRange)
		}
		for a := range s.Words {
			if s.Frames[a>>s.Shift] == free {
				checkEveryError(t, "a free frame", s, a, api.ErrState)
			}
		}
	}
}

func TestSpacesThatAreNotValid(t *testing.T) {
	for i, s := range invalidSpaces() {
		for _, x := range allWrong {
			checkEveryError(t, "a space that is not valid", s, x[0], api.ErrArg)
			if t.Failed() {
				t.Fatalf("space %d", i)
			}
		}
	}
}

// P8.3

func TestFieldsOfAllShapes(t *testing.T) {
	s := chained(3, 8, 3, 0, 7, 1, 6, 2, 4)
	eachShape(func(refs, data int) {
		for _, a := range []int{26, 31, 55} {
			o := withHeader(s, a, refs, data)
			for _, k := range kinds() {
				for i := -2; i <= 34; i++ {
					checkField(t, k, o, a, i, math.MaxUint64-uint64(i+2))
				}
			}
		}
	})
}

func TestFieldsAtAllAddresses(t *testing.T) {
	for _, s := range smallSpaces() {
		for a := range s.Words {
			for _, shape := range [][2]int{{0, 0}, {1, 0}, {0, 1}, {1, 1}, {3, 2}, {0, 7}, {15, 32}} {
				o := s
				if s.Frames[a>>s.Shift] != free {
					o = withHeader(s, a, shape[0], shape[1])
				}
				for _, k := range kinds() {
					for i := -1; i <= 7; i++ {
						checkField(t, k, o, a, i, 1<<63)
					}
				}
			}
		}
	}
}

func TestFieldsTakeAnyWord(t *testing.T) {
	s := withHeader(chained(3, 3, 2, 0), 22, 3, 4)
	for _, k := range kinds() {
		for i := range 3 {
			for _, w := range anyWords {
				checkField(t, k, s, 22, i, w)
				out, err := k.set(s, 22, i, w)
				if err != api.OK {
					t.Fatalf("Set%s(22, %d, %#x): error %d", k.name, i, w, err)
				}
				checkField(t, k, out, 22, i, 3)
			}
		}
	}
}

func TestIndicesWhereNoFieldIs(t *testing.T) {
	s := chained(3, 8, 3, 0, 7, 1, 6, 2, 4)
	for _, x := range []struct{ a, refs, data int }{{24, 0, 0}, {39, 0, 0}, {30, 1, 2}, {30, 2, 1}, {24, 15, 0}, {24, 0, 32}, {24, 15, 32}, {37, 1, 1}} {
		o := withHeader(s, x.a, x.refs, x.data)
		for _, k := range kinds() {
			refs, data, _ := wantedObject(o, x.a)
			n := len(k.of(refs, data))
			for _, i := range append([]int{-x.refs - 1, -x.refs, -2, -1, n, n + 1, n + 2, x.refs + x.data, x.refs + x.data + 1, 48, 256}, farNumbers...) {
				if i >= 0 && i < n {
					continue
				}
				if w, err := k.get(o, x.a, i); w != 0 || err != api.ErrIndex {
					t.Errorf("%s(%d, %d) of %v = %#x, error %d, want ErrIndex", k.name, x.a, i, x, w, err)
				}
				checkField(t, k, o, x.a, i, 5)
			}
		}
	}
}

// What is set comes back, beside all that was set before it, and nothing else has changed at the end.
func TestFieldsThatAreSetOneAfterTheOther(t *testing.T) {
	s := chained(3, 8, 3, 0, 7, 1, 6, 2, 4)
	want := clone(s)
	o, err := object.Init(s, 30, 7, 9)
	if err != api.OK {
		t.Fatalf("Init: error %d", err)
	}
	words := wordsFrom(s, 30)
	want.Words[30] = liveWord(7, 9)
	for i := range 9 {
		o, _ = object.SetData(o, 30, 8-i, uint64(1000-i))
		want.Words[words[1+7+8-i]] = uint64(1000 - i)
	}
	for i := range 7 {
		o, _ = object.SetRef(o, 30, i, uint64(100+i))
		want.Words[words[1+i]] = uint64(100 + i)
	}
	if !isEqual(o, want) {
		t.Errorf("words %v, want %v", o.Words, want.Words)
	}
	for i := range 7 {
		if w, err := object.Ref(o, 30, i); w != uint64(100+i) || err != api.OK {
			t.Errorf("Ref(%d) = %d, error %d", i, w, err)
		}
	}
	for i := range 9 {
		if w, err := object.Data(o, 30, i); w != uint64(992+i) || err != api.OK {
			t.Errorf("Data(%d) = %d, error %d", i, w, err)
		}
	}
}

func TestObjectsBesideEachOtherStay(t *testing.T) {
	s := chained(3, 3, 2, 0)
	s, _ = object.Init(s, 16, 1, 2)
	s, _ = object.Init(s, 20, 2, 3)
	s, _ = object.Init(s, 2, 0, 5)
	for _, x := range []struct{ a, refs, data int }{{16, 1, 2}, {20, 2, 3}, {2, 0, 5}} {
		checkShape(t, s, x.a)
		for _, k := range kinds() {
			for i := range 6 {
				checkField(t, k, s, x.a, i, math.MaxUint64)
			}
		}
	}
	s, _ = object.SetRef(s, 20, 1, 3)
	s, _ = object.SetData(s, 20, 2, 4)
	s, _ = object.SetData(s, 2, 4, 6)
	if w, _ := object.Ref(s, 20, 1); w != 3 {
		t.Errorf("Ref(20, 1) = %d", w)
	}
	if want := []uint64{256*6 + 4, 0, 3, 0}; !slices.Equal(s.Words[20:24], want) {
		t.Errorf("the words from 20 on are %v, want %v", s.Words[20:24], want)
	}
	if want := []uint64{0, 4, 256 * 6, 0, 0, 0, 0, 6}; !slices.Equal(s.Words[:8], want) {
		t.Errorf("the words from 0 on are %v, want %v", s.Words[:8], want)
	}
}

// P8.1 to P8.3 together

func TestTheDocumentsExample(t *testing.T) {
	s, _ := frame.New(3, 3)
	for _, owner := range []int{5, 6, 5} {
		s, _, _ = pool.Take(s, owner, 0)
	}
	s, err := chain.Link(s, 2, 0)
	if err != api.OK {
		t.Fatalf("Link(2, 0): error %d", err)
	}
	o, err := object.Init(s, 22, 1, 2)
	if err != api.OK || o.Words[22] != 1026 {
		t.Fatalf("Init(22, 1, 2): %v, error %d", o.Words, err)
	}
	if slots, err := object.Slots(o, 22); !slices.Equal(slots, []int{23}) || err != api.OK {
		t.Errorf("Slots(22) = %v, error %d", slots, err)
	}
	for i, field := range []int{0, 1} {
		set, err := object.SetData(o, 22, i, 7)
		if err != api.OK || !isEqual(set, withWord(o, field, 7)) {
			t.Errorf("SetData(22, %d, 7): %v, error %d", i, set.Words, err)
		}
	}
	if _, err := object.Data(o, 22, 2); err != api.ErrIndex {
		t.Errorf("Data(22, 2): error %d, want ErrIndex", err)
	}
}
