package root_test

import (
	"maps"
	"math"
	"slices"
	"testing"

	"beltway/api"
	"beltway/root"
)

// words are the handles in use with their words: what a valid table stands for.
type words map[int]uint64

// edgeWords are nil, the references to the first addresses and to the last one of the largest space, and words that no reference has.
var edgeWords = []uint64{0, 1, 2, 77, 16384, 1 << 32, 1<<63 - 1, 1 << 63, 1<<64 - 1}

// badHandles belong to no entry of any table; some of them have the low bits of handles.
var badHandles = []int{math.MinInt, math.MinInt + 1, -1 << 32, -1<<32 + 1, -33, -32, -31, -2, -1, 0, api.MaxHandles + 1, api.MaxHandles + 2, 63, 64, 65, 256, 257, 1 << 32, 1<<32 + 1, 1<<32 + 32, math.MaxInt - 1, math.MaxInt}

// freeEntries returns a table without handles in use.
func freeEntries(used, refs int) api.Roots {
	return api.Roots{Used: make([]bool, used), Refs: make([]uint64, refs)}
}

// usedEntries returns a table in which all entries are in use, with a word of their own each.
func usedEntries(used, refs int) api.Roots {
	r := freeEntries(used, refs)
	for k := range r.Used {
		r.Used[k] = true
	}
	for k := range r.Refs {
		r.Refs[k] = uint64(k + 101)
	}
	return r
}

func tableOf(w words) api.Roots {
	r := freeEntries(api.MaxHandles, api.MaxHandles)
	for h, word := range w {
		r.Used[h-1], r.Refs[h-1] = true, word
	}
	return r
}

// inUse returns the handles with a word of their own each; that of handle 3 is 0.
func inUse(handles ...int) words {
	w := words{}
	for _, h := range handles {
		w[h] = uint64(100 * (h - 3))
	}
	return w
}

// from returns all handles from the first one to the last one.
func from(first, last int) []int {
	var handles []int
	for h := first; h <= last; h++ {
		handles = append(handles, h)
	}
	return handles
}

// with returns a copy in which the word of a handle is another one.
func (w words) with(h int, word uint64) words {
	out := maps.Clone(w)
	out[h] = word
	return out
}

// without returns a copy in which a handle is not in use.
func (w words) without(h int) words {
	out := maps.Clone(w)
	delete(out, h)
	return out
}

// handles returns the handles in use, ascending.
func (w words) handles() []int {
	var handles []int
	for h := 1; h <= api.MaxHandles; h++ {
		if _, isUsed := w[h]; isUsed {
			handles = append(handles, h)
		}
	}
	return handles
}

// next returns the handle that is taken next, or 0.
func (w words) next() int {
	for h := 1; h <= api.MaxHandles; h++ {
		if _, isUsed := w[h]; !isUsed {
			return h
		}
	}
	return 0
}

// someTables are empty, full, and of several kinds between.
func someTables() []words {
	return []words{
		{},
		inUse(1),
		inUse(2),
		inUse(3),
		inUse(api.MaxHandles),
		inUse(1, 2, 3),
		inUse(2, 3, 5, 7, 11, 13, 17, 19, 23, 29, 31),
		inUse(1, 4, 6, 8, 9, 10, 12, 14, 32),
		inUse(from(17, 32)...),
		inUse(from(2, 32)...),
		inUse(from(1, 31)...),
		inUse(from(1, 32)...).without(16),
		inUse(from(1, 32)...),
	}
}

func clone(r api.Roots) api.Roots {
	return api.Roots{Used: slices.Clone(r.Used), Refs: slices.Clone(r.Refs)}
}

func isEqual(a, b api.Roots) bool {
	return slices.Equal(a.Used, b.Used) && slices.Equal(a.Refs, b.Refs)
}

// scribble writes to all memory of a table, also behind its lengths.
func scribble(r api.Roots) {
	used, refs := r.Used[:cap(r.Used)], r.Refs[:cap(r.Refs)]
	for k := range used {
		used[k] = !used[k]
	}
	for k := range refs {
		refs[k] = ^refs[k]
	}
}

// expectUnchanged calls a function twice with a table that has guards before and behind its elements, and checks that nothing there has changed, also after the answer that the second call returns was written over.
func expectUnchanged(t *testing.T, why string, r api.Roots, call func(r api.Roots) api.Roots) {
	t.Helper()
	memory := api.Roots{
		Used: slices.Concat([]bool{true, false}, r.Used, []bool{false, true}),
		Refs: slices.Concat([]uint64{9, 8}, r.Refs, []uint64{7, 6}),
	}
	before := clone(memory)
	given := api.Roots{Used: memory.Used[2 : 2+len(r.Used)], Refs: memory.Refs[2 : 2+len(r.Refs)]}
	first := call(given)
	kept := clone(first)
	scribble(call(given))
	if !isEqual(memory, before) {
		t.Errorf("%s of %v has changed its argument to %v", why, r, given)
	}
	if !isEqual(first, kept) {
		t.Errorf("%s of %v: the answer has changed from %v to %v", why, r, kept, first)
	}
}

// expectValid checks Valid.
func expectValid(t *testing.T, why string, r api.Roots, want bool) {
	t.Helper()
	expectUnchanged(t, "Valid", r, func(r api.Roots) api.Roots {
		if got := root.Valid(r); got != want {
			t.Errorf("%s: Valid(%v) is %t", why, r, got)
		}
		return api.Roots{}
	})
}

// expectTake checks the answer of Take for a table of any kind.
func expectTake(t *testing.T, r api.Roots, w uint64, want api.Roots, wantHandle int, wantErr api.Errno) {
	t.Helper()
	expectUnchanged(t, "Take", r, func(r api.Roots) api.Roots {
		out, h, err := root.Take(r, w)
		if !isEqual(out, want) || h != wantHandle || err != wantErr {
			t.Errorf("Take(%v, %d): %v, handle %d, error %d, want %v, handle %d, error %d", r, w, out, h, err, want, wantHandle, wantErr)
		}
		return out
	})
}

// expectTaken checks that Take of a table with a free entry gives this handle.
func expectTaken(t *testing.T, w words, word uint64, wantHandle int) {
	t.Helper()
	expectTake(t, tableOf(w), word, tableOf(w.with(wantHandle, word)), wantHandle, api.OK)
}

func expectGet(t *testing.T, r api.Roots, h int, want uint64, wantErr api.Errno) {
	t.Helper()
	expectUnchanged(t, "Get", r, func(r api.Roots) api.Roots {
		if got, err := root.Get(r, h); got != want || err != wantErr {
			t.Errorf("Get(%v, %d): %d, error %d, want %d, error %d", r, h, got, err, want, wantErr)
		}
		return api.Roots{}
	})
}

func expectSet(t *testing.T, r api.Roots, h int, w uint64, want api.Roots, wantErr api.Errno) {
	t.Helper()
	expectUnchanged(t, "Set", r, func(r api.Roots) api.Roots {
		out, err := root.Set(r, h, w)
		if !isEqual(out, want) || err != wantErr {
			t.Errorf("Set(%v, %d, %d): %v, error %d, want %v, error %d", r, h, w, out, err, want, wantErr)
		}
		return out
	})
}

func expectDrop(t *testing.T, r api.Roots, h int, want api.Roots, wantErr api.Errno) {
	t.Helper()
	expectUnchanged(t, "Drop", r, func(r api.Roots) api.Roots {
		out, err := root.Drop(r, h)
		if !isEqual(out, want) || err != wantErr {
			t.Errorf("Drop(%v, %d): %v, error %d, want %v, error %d", r, h, out, err, want, wantErr)
		}
		return out
	})
}

// expectLive checks Live, and that what is written over one answer does not change another one.
func expectLive(t *testing.T, r api.Roots, want []int) {
	t.Helper()
	expectUnchanged(t, "Live", r, func(r api.Roots) api.Roots {
		first := root.Live(r)
		again := root.Live(r)
		for k := range again[:cap(again)] {
			again[:cap(again)][k] = -7
		}
		if !slices.Equal(first, want) || !slices.Equal(root.Live(r), want) {
			t.Errorf("Live(%v) is %v, and then %v, want %v", r, first, root.Live(r), want)
		}
		return api.Roots{}
	})
}

// expectRefused checks that Get, Set and Drop answer this error, with zero values.
func expectRefused(t *testing.T, r api.Roots, h int, want api.Errno) {
	t.Helper()
	expectGet(t, r, h, 0, want)
	for _, w := range []uint64{0, 1, 1<<64 - 1} {
		expectSet(t, r, h, w, api.Roots{}, want)
	}
	expectDrop(t, r, h, api.Roots{}, want)
}

// expectTable checks that a table is valid and stands for these handles with these words, as all functions that only read it say.
func expectTable(t *testing.T, r api.Roots, w words) {
	t.Helper()
	if !isEqual(r, tableOf(w)) {
		t.Fatalf("the table is %v, want %v", r, tableOf(w))
	}
	expectValid(t, "a table that was made", r, true)
	expectLive(t, r, w.handles())
	for h := -1; h <= api.MaxHandles+2; h++ {
		if word, isUsed := w[h]; isUsed {
			expectGet(t, r, h, word, api.OK)
		} else {
			expectGet(t, r, h, 0, api.ErrHandle)
		}
	}
}

// shortAndLongTables are not valid by their lengths alone: in each, all entries are free, or all in use.
func shortAndLongTables() []api.Roots {
	var tables []api.Roots
	for _, size := range [][2]int{{31, 32}, {33, 32}, {0, 32}, {32, 31}, {32, 33}, {32, 0}, {0, 0}, {1, 1}, {31, 31}, {33, 33}, {31, 33}, {33, 31}, {64, 64}, {64, 0}, {0, 64}, {1000, 3}} {
		tables = append(tables, freeEntries(size[0], size[1]), usedEntries(size[0], size[1]))
	}
	return tables
}

// tablesWithWordsOfFreeEntries are not valid because of the first entry, one in the middle, or the last one.
func tablesWithWordsOfFreeEntries() []api.Roots {
	var tables []api.Roots
	for _, h := range []int{1, 2, 16, 31, 32} {
		for _, word := range []uint64{1, 2, 1 << 63, 1<<64 - 1} {
			lonely := tableOf(words{})
			lonely.Refs[h-1] = word
			amongOthers := usedEntries(32, 32)
			amongOthers.Used[h-1], amongOthers.Refs[h-1] = false, word
			mixed := tableOf(inUse(3, 5, 30).without(h))
			mixed.Refs[h-1] = word
			tables = append(tables, lonely, amongOthers, mixed)
		}
	}
	return tables
}

func invalidTables() []api.Roots {
	return append(shortAndLongTables(), tablesWithWordsOfFreeEntries()...)
}

// P20.1

func TestNewHasNoHandleInUse(t *testing.T) {
	r := root.New()
	if len(r.Used) != 32 || len(r.Refs) != 32 {
		t.Fatalf("New has %d and %d elements", len(r.Used), len(r.Refs))
	}
	for k := range 32 {
		if r.Used[k] || r.Refs[k] != 0 {
			t.Errorf("New has entry %d in use, or with the word %d", k, r.Refs[k])
		}
	}
	expectTable(t, r, words{})
}

func TestNewIsNewMemory(t *testing.T) {
	first := root.New()
	scribble(root.New())
	expectTable(t, first, words{})
	scribble(first)
	expectTable(t, root.New(), words{})
}

func TestValidOfAllLengths(t *testing.T) {
	lengths := append(from(0, 40), 63, 64, 65, 255, 256, 257)
	for _, used := range lengths {
		for _, refs := range lengths {
			want := used == 32 && refs == 32
			expectValid(t, "all entries free", freeEntries(used, refs), want)
			expectValid(t, "all entries in use", usedEntries(used, refs), want)
			inUseWithoutWords := usedEntries(used, 0)
			inUseWithoutWords.Refs = make([]uint64, refs)
			expectValid(t, "all entries in use with zero words", inUseWithoutWords, want)
		}
	}
}

// 2^20 elements are the most that there may be.
func TestValidOfTheLargestTables(t *testing.T) {
	for _, size := range [][2]int{{1 << 20, 0}, {0, 1 << 20}, {1 << 19, 1 << 19}, {32, 1<<20 - 32}, {1<<20 - 32, 32}} {
		expectValid(t, "a large table", freeEntries(size[0], size[1]), false)
		expectValid(t, "a large table", usedEntries(size[0], size[1]), false)
	}
}

// The words and entries that are missing are there behind the end, and those that are too many would be valid without it.
func TestValidDoesNotLookBehindTheEnd(t *testing.T) {
	r := tableOf(inUse(1, 7, 32))
	long := api.Roots{Used: append(clone(r).Used, false), Refs: append(clone(r).Refs, 0)}
	for _, x := range []api.Roots{
		{Used: r.Used[:31], Refs: r.Refs},
		{Used: r.Used, Refs: r.Refs[:31]},
		{Used: r.Used[:31], Refs: r.Refs[:31]},
		{Used: r.Used[:0], Refs: r.Refs},
		{Used: r.Used, Refs: r.Refs[:0]},
		{Used: r.Used[1:], Refs: r.Refs},
		{Used: r.Used, Refs: r.Refs[1:]},
		{Used: nil, Refs: r.Refs},
		{Used: r.Used, Refs: nil},
		{Used: long.Used, Refs: r.Refs},
		{Used: r.Used, Refs: long.Refs},
		long,
	} {
		expectValid(t, "a wrong length", x, false)
	}
	expectValid(t, "the right lengths", api.Roots{Used: long.Used[:32], Refs: long.Refs[:32]}, true)
}

func TestValidOfTheWordsOfEachEntry(t *testing.T) {
	for _, w := range someTables() {
		expectValid(t, "a written-out table", tableOf(w), true)
		for h := 1; h <= api.MaxHandles; h++ {
			for _, word := range edgeWords {
				expectValid(t, "an entry in use", tableOf(w.with(h, word)), true)
				free := tableOf(w.without(h))
				free.Refs[h-1] = word
				expectValid(t, "an entry that is not in use", free, word == 0)
			}
		}
	}
}

// Every single bit of the word of an entry that is not in use counts.
func TestValidOfEachBitOfFreeEntries(t *testing.T) {
	for h := 1; h <= api.MaxHandles; h++ {
		for bit := range 64 {
			r := tableOf(words{})
			r.Refs[h-1] = 1 << bit
			expectValid(t, "a bit of a free entry", r, false)
			r.Used[h-1] = true
			expectValid(t, "a bit of an entry in use", r, true)
		}
	}
}

// One entry's word is none of another one: a wrong one is not made good by a right one, wherever the two stand.
func TestValidOfAllEntriesOfSixPlaces(t *testing.T) {
	places := []int{1, 2, 3, 17, 31, 32}
	kinds := []struct {
		isUsed bool
		word   uint64
	}{{false, 0}, {false, 5}, {true, 0}, {true, 5}}
	for number := range 1 << (2 * len(places)) {
		r, want := freeEntries(32, 32), true
		for k, h := range places {
			kind := number >> (2 * k) % 4
			r.Used[h-1], r.Refs[h-1] = kinds[kind].isUsed, kinds[kind].word
			want = want && kind != 1
		}
		expectValid(t, "six entries", r, want)
	}
}

func TestValidOfTablesThatAreNot(t *testing.T) {
	for _, r := range invalidTables() {
		expectValid(t, "a table of the list", r, false)
	}
}

// P20.2

func TestTakePutsWordsIntoTheFirstFreeEntry(t *testing.T) {
	for _, x := range []struct {
		why  string
		used []int
		want int
	}{
		{"an empty table", nil, 1},
		{"the first entry in use", from(1, 1), 2},
		{"the first entries in use", from(1, 9), 10},
		{"all but the last entries in use", from(1, 29), 30},
		{"a free entry between others", append(from(1, 4), from(6, 11)...), 5},
		{"two free entries between others", []int{1, 2, 4, 5, 7, 8}, 3},
		{"a free entry alone in the middle", append(from(1, 15), from(17, 32)...), 16},
		{"the first entry free alone", from(2, 32), 1},
		{"the first and the last entry free", from(2, 31), 1},
		{"the last entry but one free alone", append(from(1, 30), 32), 31},
		{"the last entry free alone", from(1, 31), 32},
		{"only the last entry in use", []int{32}, 1},
	} {
		for _, word := range []uint64{0, 1, 1 << 63, 1<<64 - 1} {
			r := tableOf(inUse(x.used...))
			out, h, err := root.Take(r, word)
			if h != x.want || err != api.OK {
				t.Errorf("%s: Take gives handle %d, error %d, want handle %d", x.why, h, err, x.want)
			} else if !out.Used[h-1] || out.Refs[h-1] != word {
				t.Errorf("%s: entry %d has the word %d after Take of %d, or is not in use", x.why, h-1, out.Refs[h-1], word)
			}
			expectTaken(t, inUse(x.used...), word, x.want)
		}
	}
}

// All sets of the first and the last six handles, with those between all free or all in use.
func TestTakeOfAllSetsOfHandles(t *testing.T) {
	for set := range 1 << 12 {
		var edges []int
		for k := range 12 {
			if set>>k&1 == 1 {
				edges = append(edges, (k+27)%32+1)
			}
		}
		for _, w := range []words{inUse(edges...), inUse(append(edges, from(7, 27)...)...)} {
			expectLive(t, tableOf(w), w.handles())
			if h := w.next(); h > 0 {
				expectTaken(t, w, 3, h)
			} else {
				expectTake(t, tableOf(w), 3, api.Roots{}, 0, api.ErrHandles)
			}
		}
	}
}

// What the words of the entries in use are does not matter: one with a zero word is in use too.
func TestTakeOfTablesWithEdgeWords(t *testing.T) {
	for _, w := range someTables() {
		for _, word := range edgeWords {
			same := words{}
			for h := range w {
				same[h] = word
			}
			for _, taken := range edgeWords {
				if h := w.next(); h > 0 {
					expectTaken(t, same, taken, h)
				} else {
					expectTake(t, tableOf(same), taken, api.Roots{}, 0, api.ErrHandles)
				}
			}
		}
	}
}

func TestTakeOfTablesThatAreNotValid(t *testing.T) {
	for _, r := range invalidTables() {
		for _, word := range []uint64{0, 1, 1 << 63, 1<<64 - 1} {
			expectTake(t, r, word, api.Roots{}, 0, api.ErrArg)
		}
	}
}

// In these tables no entry is free either, but they are not valid in the first place.
func TestTakeChecksTheTableBeforeItsRoom(t *testing.T) {
	for _, size := range [][2]int{{0, 0}, {0, 32}, {31, 32}, {33, 32}, {32, 31}, {32, 33}, {32, 0}, {31, 31}, {33, 33}} {
		expectTake(t, usedEntries(size[0], size[1]), 1, api.Roots{}, 0, api.ErrArg)
	}
	expectTake(t, usedEntries(32, 32), 1, api.Roots{}, 0, api.ErrHandles)
}

// P20.3

func TestGetSetAndDropOfAllHandles(t *testing.T) {
	for _, w := range someTables() {
		r := tableOf(w)
		for h := 1; h <= api.MaxHandles; h++ {
			word, isUsed := w[h]
			if !isUsed {
				expectRefused(t, r, h, api.ErrHandle)
				continue
			}
			expectGet(t, r, h, word, api.OK)
			expectDrop(t, r, h, tableOf(w.without(h)), api.OK)
			for _, other := range edgeWords {
				expectSet(t, r, h, other, tableOf(w.with(h, other)), api.OK)
			}
			expectSet(t, r, h, word, r, api.OK)
		}
	}
}

// A handle with each word is read, set to each other one, also to 0, and dropped, also where its word is 0 already.
func TestGetSetAndDropOfEdgeWords(t *testing.T) {
	for _, h := range []int{1, 2, 16, 31, 32} {
		for _, word := range edgeWords {
			for _, others := range []words{{}, inUse(5, 6), inUse(from(1, 32)...)} {
				w := others.with(h, word)
				expectGet(t, tableOf(w), h, word, api.OK)
				expectDrop(t, tableOf(w), h, tableOf(w.without(h)), api.OK)
				for _, other := range edgeWords {
					expectSet(t, tableOf(w), h, other, tableOf(w.with(h, other)), api.OK)
				}
			}
		}
	}
}

func TestSetToNilKeepsTheHandleInUse(t *testing.T) {
	r, err := root.Set(tableOf(words{1: 9, 2: 0}), 1, 0)
	if err != api.OK || !r.Used[0] || r.Refs[0] != 0 {
		t.Errorf("Set(1, 0) leaves %v, error %d", r, err)
	}
	r, err = root.Set(r, 2, 0)
	if err != api.OK || !r.Used[1] || r.Refs[1] != 0 {
		t.Errorf("Set(2, 0) leaves %v, error %d", r, err)
	}
	expectTable(t, r, words{1: 0, 2: 0})
}

func TestDropClearsTheWord(t *testing.T) {
	r, err := root.Drop(tableOf(words{31: 9, 32: 0}), 31)
	if err != api.OK || r.Used[30] || r.Refs[30] != 0 {
		t.Errorf("Drop(31) leaves %v, error %d", r, err)
	}
	r, err = root.Drop(r, 32)
	if err != api.OK || r.Used[31] || r.Refs[31] != 0 {
		t.Errorf("Drop(32) leaves %v, error %d", r, err)
	}
	expectTable(t, r, words{})
}

func TestHandlesThatAreNone(t *testing.T) {
	for _, w := range someTables() {
		for _, h := range badHandles {
			expectRefused(t, tableOf(w), h, api.ErrHandle)
		}
	}
}

func TestHandlesOfTablesThatAreNotValid(t *testing.T) {
	for _, r := range invalidTables() {
		for h := 1; h <= api.MaxHandles; h++ {
			expectRefused(t, r, h, api.ErrArg)
		}
		for _, h := range badHandles {
			expectRefused(t, r, h, api.ErrArg)
		}
	}
}

func TestLiveOfWrittenOutTables(t *testing.T) {
	expectLive(t, root.New(), nil)
	expectLive(t, usedEntries(32, 32), []int{1, 2, 3, 4, 5, 6, 7, 8, 9, 10, 11, 12, 13, 14, 15, 16, 17, 18, 19, 20, 21, 22, 23, 24, 25, 26, 27, 28, 29, 30, 31, 32})
	expectLive(t, tableOf(words{1: 0}), []int{1})
	expectLive(t, tableOf(words{32: 0}), []int{32})
	expectLive(t, tableOf(words{32: 5, 1: 7, 16: 0, 17: 1 << 63}), []int{1, 16, 17, 32})
	for _, w := range someTables() {
		expectLive(t, tableOf(w), w.handles())
	}
}

// Nothing is promised for other tables but that Live returns the same again and changes nothing.
func TestLiveOfTablesThatAreNotValid(t *testing.T) {
	for _, r := range append(invalidTables(), usedEntries(1<<20, 0), freeEntries(0, 1<<20)) {
		before := clone(r)
		first := slices.Clone(root.Live(r))
		if !slices.Equal(first, root.Live(r)) || !isEqual(r, before) {
			t.Errorf("Live of %d and %d elements returns something else when called again, or changes its argument", len(r.Used), len(r.Refs))
		}
	}
}

// P20.1, P20.2 and P20.3 together

func TestTheDocumentsExample(t *testing.T) {
	r, first, _ := root.Take(root.New(), 4)
	r, second, _ := root.Take(r, 5)
	r, err := root.Drop(r, 1)
	r, third, _ := root.Take(r, 6)
	if err != api.OK || first != 1 || second != 2 || third != 1 {
		t.Errorf("the handles are %d, %d, %d, and Drop has the error %d, want 1, 2, 1", first, second, third, err)
	}
	expectTable(t, r, words{1: 6, 2: 5})
}

func TestAllHandlesAreTakenInTheirOrder(t *testing.T) {
	r, w := root.New(), words{}
	for h := 1; h <= 32; h++ {
		next, got, err := root.Take(r, uint64(h%3))
		if got != h || err != api.OK {
			t.Fatalf("Take gives handle %d, error %d, want handle %d", got, err, h)
		}
		expectTable(t, r, w)
		r, w = next, w.with(h, uint64(h%3))
		expectTable(t, r, w)
	}
	expectTake(t, r, 1, api.Roots{}, 0, api.ErrHandles)
	for _, h := range []int{32, 1, 17} {
		dropped, err := root.Drop(r, h)
		if err != api.OK {
			t.Fatalf("Drop(%d) has the error %d", h, err)
		}
		expectTaken(t, w.without(h), 8, h)
		expectRefused(t, dropped, h, api.ErrHandle)
	}
}

// change is a call of Take (Code api.OpAlloc), Set (api.OpWriteRef) or Drop (api.OpDrop).
type change struct {
	code, handle int
	word         uint64
}

// expectChange checks the answer of a call against the words that the table has, and returns the table and the words after it, which are those before where it has an error.
func expectChange(t *testing.T, r api.Roots, w words, c change) (api.Roots, words) {
	t.Helper()
	_, isUsed := w[c.handle]
	switch {
	case c.code == api.OpAlloc && w.next() == 0:
		expectTake(t, r, c.word, api.Roots{}, 0, api.ErrHandles)
	case c.code == api.OpAlloc:
		out, h, _ := root.Take(r, c.word)
		expectTaken(t, w, c.word, w.next())
		return out, w.with(h, c.word)
	case !isUsed:
		expectRefused(t, r, c.handle, api.ErrHandle)
	case c.code == api.OpDrop:
		out, _ := root.Drop(r, c.handle)
		expectDrop(t, r, c.handle, tableOf(w.without(c.handle)), api.OK)
		return out, w.without(c.handle)
	default:
		out, _ := root.Set(r, c.handle, c.word)
		expectSet(t, r, c.handle, c.word, tableOf(w.with(c.handle, c.word)), api.OK)
		return out, w.with(c.handle, c.word)
	}
	return r, w
}

// expectSequences checks all sequences of so many calls.
func expectSequences(t *testing.T, r api.Roots, w words, calls int, choice []change) {
	t.Helper()
	expectTable(t, r, w)
	if calls == 0 {
		return
	}
	for _, c := range choice {
		next, after := expectChange(t, r, w, c)
		expectSequences(t, next, after, calls-1, choice)
	}
}

func TestAllSequencesOfCalls(t *testing.T) {
	first := []change{{api.OpAlloc, 0, 0}, {api.OpAlloc, 0, 5}, {api.OpDrop, 1, 0}, {api.OpDrop, 2, 0}, {api.OpWriteRef, 1, 6}, {api.OpWriteRef, 2, 0}}
	expectSequences(t, root.New(), words{}, 4, first)
	last := []change{{api.OpAlloc, 0, 0}, {api.OpAlloc, 0, 5}, {api.OpDrop, 32, 0}, {api.OpDrop, 31, 0}, {api.OpWriteRef, 32, 6}, {api.OpWriteRef, 31, 0}}
	nearlyFull := inUse(from(1, 31)...)
	expectSequences(t, tableOf(nearlyFull), nearlyFull, 4, last)
}

// A rule makes calls, whose handles and words come from a sum; what was taken stays with its word until it is dropped.
func TestLongSequencesOfCalls(t *testing.T) {
	for start := range 20 {
		r, w, sum := root.New(), words{}, uint64(start)
		for range 400 {
			sum = sum*6364136223846793005 + 1442695040888963407
			code := []int{api.OpAlloc, api.OpAlloc, api.OpWriteRef, api.OpDrop}[sum>>60%4]
			if start%2 == 1 && code == api.OpDrop && sum>>50%4 > 0 {
				// Every other sequence drops seldom, so that its table is full for most of the time.
				code = api.OpAlloc
			}
			r, w = expectChange(t, r, w, change{code, int(sum>>40%34) - 1 + int(sum>>30%2), sum >> 20})
			expectTable(t, r, w)
		}
	}
}

// tableByDetours has these handles in use, with other words: in each round it takes all that are free, and drops some, in an order of its own; those that are not wanted are dropped last.
func tableByDetours(t *testing.T, w words, rounds int) api.Roots {
	t.Helper()
	r := root.New()
	for round := range rounds {
		for range api.MaxHandles - len(root.Live(r)) {
			r, _, _ = root.Take(r, uint64(round))
		}
		for k := range api.MaxHandles {
			// An odd factor leads to each handle once.
			h := (k*(2*rounds+1)+round)%api.MaxHandles + 1
			_, isWanted := w[h]
			if isWanted && (round == rounds-1 || k%3 == 0) {
				continue
			}
			next, err := root.Drop(r, h)
			if err != api.OK {
				t.Fatalf("Drop(%d) has the error %d", h, err)
			}
			r = next
		}
	}
	return r
}

func TestTheNextHandleDependsOnThoseInUseAlone(t *testing.T) {
	for _, w := range someTables() {
		for rounds := 1; rounds <= 4; rounds++ {
			r := tableByDetours(t, w, rounds)
			expectLive(t, r, w.handles())
			_, h, err := root.Take(r, 1)
			if wantErr := errOfTake(w); h != w.next() || err != wantErr {
				t.Errorf("Take after %d rounds of detours to %v: handle %d, error %d, want handle %d, error %d", rounds, w.handles(), h, err, w.next(), wantErr)
			}
		}
	}
}

func errOfTake(w words) api.Errno {
	if w.next() == 0 {
		return api.ErrHandles
	}
	return api.OK
}

// Tables that were made one from another stay what they were, whatever is done with the others.
func TestAnswersShareNoMemory(t *testing.T) {
	empty := root.New()
	one, _, _ := root.Take(empty, 9)
	set, _ := root.Set(one, 1, 8)
	same, _ := root.Set(one, 1, 9)
	dropped, _ := root.Drop(one, 1)
	two, _, _ := root.Take(one, 7)
	tables := []api.Roots{empty, one, set, same, dropped, two}
	want := []words{{}, {1: 9}, {1: 8}, {1: 9}, {}, {1: 9, 2: 7}}
	for k := range tables {
		for m := k; m < len(tables); m++ {
			expectTable(t, tables[m], want[m])
		}
		scribble(tables[k])
	}
}
