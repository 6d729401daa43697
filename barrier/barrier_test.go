package barrier_test

import (
	"cmp"
	"math"
	"slices"
	"testing"

	"beltway/api"
	"beltway/barrier"
	"beltway/belt"
	"beltway/frame"
	"beltway/remset"
	"beltway/walk"
)

// sets are lists of remembered sets.
type sets = []api.Set

// queues are belts of increments.
type queues = [][]api.Increment

// place is where a frame belongs: to an increment of a belt, or nowhere.
type place struct{ belt, seq int }

var nowhere = place{-1, -1}

// entry is a remembered slot with its pair of frames.
type entry struct{ from, to, slot int }

// farSlots are outside of every space; some of them are addresses in their low bits.
var farSlots = []int{math.MinInt, math.MinInt + 1, math.MinInt + 9, -1 << 62, -1 << 32, -1<<32 + 9, -16384, -65, -9, -8, -7, -2, -1, 1 << 14, 1<<14 + 9, 1 << 16, 1<<32 + 1, 1<<32 + 9, 1 << 62, 1<<62 + 9, math.MaxInt - 8, math.MaxInt - 1, math.MaxInt}

// farWords refer to no address of any space; some of them do in their low bits.
var farWords = []uint64{0, 1<<14 + 1, 1<<14 + 2, 1<<16 + 1, 1<<32 + 1, 1<<32 + 9, 1<<62 + 1, 1<<63 - 1, 1 << 63, 1<<63 + 1, 1<<63 + 2, 1<<63 + 9, 1<<64 - 1<<32, 1<<64 - 9, 1<<64 - 8, 1<<64 - 2, 1<<64 - 1}

// isLaterThan says which increment of two is collected later.
func (p place) isLaterThan(q place) bool {
	if p.belt == q.belt {
		return p.seq > q.seq
	}
	return p.belt > q.belt
}

// entry returns what the frame table says of a frame of p.
func (p place) entry(next int) api.Frame {
	if p == nowhere {
		return api.Frame{Owner: -1, Stamp: -1, Next: -1}
	}
	return api.Frame{Owner: p.seq, Stamp: p.belt*4294967296 + p.seq, Next: next}
}

// spaceOf returns a space whose frames belong to these places, without links; every word of a frame that is not free is w.
func spaceOf(shift int, w uint64, places ...place) api.Space {
	s := api.Space{Shift: shift}
	for _, p := range places {
		s.Frames = append(s.Frames, p.entry(-1))
		word := w
		if p == nowhere {
			word = 0
		}
		s.Words = append(s.Words, slices.Repeat([]uint64{word}, 1<<shift)...)
	}
	return s
}

// wantedPair says which pair of frames a slot with the word w is remembered for, and whether it has to be, in a space whose frames belong to these places.
func wantedPair(shift int, places []place, slot int, w uint64) (int, int, bool) {
	size := 1 << shift
	words := size * len(places)
	if slot < 0 || slot >= words || w == 0 || w > uint64(words) {
		return 0, 0, false
	}
	f, g := slot/size, int(w-1)/size
	if places[f] == nowhere || places[g] == nowhere {
		return 0, 0, false
	}
	return f, g, places[f].isLaterThan(places[g])
}

func set(from, to int, slots ...int) api.Set {
	return api.Set{From: from, To: to, Slots: slots}
}

func cloneSpace(s api.Space) api.Space {
	return api.Space{Shift: s.Shift, Words: slices.Clone(s.Words), Frames: slices.Clone(s.Frames)}
}

func cloneSets(l sets) sets {
	var out sets
	for _, s := range l {
		out = append(out, set(s.From, s.To, slices.Clone(s.Slots)...))
	}
	return out
}

func isEqualSets(a, b sets) bool {
	return slices.EqualFunc(a, b, func(x, y api.Set) bool {
		return x.From == y.From && x.To == y.To && slices.Equal(x.Slots, y.Slots)
	})
}

// entriesOf returns the entries of the sets, set by set.
func entriesOf(l sets) []entry {
	var entries []entry
	for _, s := range l {
		for _, slot := range s.Slots {
			entries = append(entries, entry{s.From, s.To, slot})
		}
	}
	return entries
}

// setsOf returns the valid sets with these entries, which may stand in any order and more than once.
func setsOf(entries ...entry) sets {
	sorted := slices.Clone(entries)
	slices.SortFunc(sorted, func(a, b entry) int {
		return cmp.Or(cmp.Compare(a.from, b.from), cmp.Compare(a.to, b.to), cmp.Compare(a.slot, b.slot))
	})
	var out sets
	for _, e := range slices.Compact(sorted) {
		if n := len(out); n == 0 || out[n-1].From != e.from || out[n-1].To != e.to {
			out = append(out, set(e.from, e.to))
		}
		out[len(out)-1].Slots = append(out[len(out)-1].Slots, e.slot)
	}
	return out
}

// watchSpace returns the space in memory that goes on behind its ends, and a function that reports whether all of it is as it was.
func watchSpace(s api.Space) (api.Space, func() bool) {
	words := append(slices.Clone(s.Words), 3, 1, 2)
	frames := append(slices.Clone(s.Frames), api.Frame{Owner: 7, Stamp: 7, Next: 7}, api.Frame{Owner: 8})
	oldWords, oldFrames := slices.Clone(words), slices.Clone(frames)
	out := api.Space{Shift: s.Shift, Words: words[:len(s.Words)], Frames: frames[:len(s.Frames)]}
	return out, func() bool {
		return slices.Equal(words, oldWords) && slices.Equal(frames, oldFrames)
	}
}

// watchSets returns the sets with their slots one directly behind the other, so that a write behind an end changes another set or a guard, and a function that reports whether all of this memory is as it was.
func watchSets(l sets) (sets, func() bool) {
	var slots []int
	for _, s := range l {
		slots = append(slots, s.Slots...)
	}
	slots = append(slots, -99, -98)
	var outer sets
	at := 0
	for _, s := range l {
		outer = append(outer, api.Set{From: s.From, To: s.To, Slots: slots[at : at+len(s.Slots)]})
		at += len(s.Slots)
	}
	outer = append(outer, set(-97, -96, -95), set(-94, -93, -92))
	oldSlots, oldOuter := slices.Clone(slots), cloneSets(outer)
	return outer[:len(l)], func() bool {
		return slices.Equal(slots, oldSlots) && isEqualSets(outer, oldOuter)
	}
}

// watchBelts returns the belts with their increments one directly behind the other, and a function that reports whether all of this memory is as it was.
func watchBelts(b queues) (queues, func() bool) {
	all := append(slices.Concat(b...), api.Increment{Seq: -9}, api.Increment{Seq: -8})
	var outer queues
	at := 0
	for _, queue := range b {
		outer = append(outer, all[at:at+len(queue)])
		at += len(queue)
	}
	outer = append(outer, []api.Increment{{Seq: -7}}, nil)
	oldAll, lengths := slices.Clone(all), lengthsOf(outer)
	return outer[:len(b)], func() bool {
		return slices.Equal(all, oldAll) && slices.Equal(lengthsOf(outer), lengths)
	}
}

func lengthsOf(b queues) []int {
	var lengths []int
	for _, queue := range b {
		lengths = append(lengths, len(queue))
	}
	return lengths
}

// scribble writes to all memory of sets, also behind their lengths.
func scribble(l sets) {
	full := l[:cap(l)]
	for k := range full {
		scribbleSlots(full[k].Slots)
		full[k] = set(-7, -7, -7)
	}
}

func scribbleSlots(slots []int) {
	full := slots[:cap(slots)]
	for k := range full {
		full[k] = -77
	}
}

// expectOwnMemory checks that what is written to, and behind, the slots of one set of an answer changes no other set of it.
func expectOwnMemory(t *testing.T, l sets) {
	t.Helper()
	before := cloneSets(l)
	for k := range l {
		scribbleSlots(l[k].Slots)
		if !isEqualSets(l[k+1:], before[k+1:]) {
			t.Errorf("the set %d of the answer %v shares memory with a later one", k, before)
		}
	}
}

// expectNeeds checks Needs, that it answers alike when it is called again, and that its argument stays.
func expectNeeds(t *testing.T, why string, s api.Space, slot int, w uint64, want bool) {
	t.Helper()
	s, stays := watchSpace(s)
	got, again := barrier.Needs(s, slot, w), barrier.Needs(s, slot, w)
	if got != want || again != want {
		t.Errorf("%s: Needs(%d, %d) is %t, and %t when called again, in %v", why, slot, w, got, again, s.Frames)
	}
	if !stays() {
		t.Errorf("%s: Needs(%d, %d) has changed the space", why, slot, w)
	}
}

// expectRecord checks Record, that its arguments stay, and that no two answers, and no answer and an argument, share memory.
func expectRecord(t *testing.T, why string, s api.Space, l sets, slot int, w uint64, want sets, wantErr api.Errno) {
	t.Helper()
	s, spaceStays := watchSpace(s)
	l, setsStay := watchSets(l)
	got, err := barrier.Record(s, l, slot, w)
	again, _ := barrier.Record(s, l, slot, w)
	if err != wantErr || !isEqualSets(got, want) {
		t.Errorf("%s: Record(%v, %d, %d) is %v, error %d, want %v, error %d, in %v", why, l, slot, w, got, err, want, wantErr, s.Frames)
	}
	before := cloneSets(got)
	scribble(again)
	if !isEqualSets(got, before) {
		t.Errorf("%s: two answers of Record(%v, %d, %d) share memory", why, l, slot, w)
	}
	expectOwnMemory(t, got)
	if !spaceStays() || !setsStay() {
		t.Errorf("%s: Record(%v, %d, %d) has changed an argument, or answers a part of it", why, l, slot, w)
	}
}

// expectMissing checks Missing, that its arguments stay, and that two answers share no memory.
func expectMissing(t *testing.T, why string, s api.Space, b queues, l sets, want []int) {
	t.Helper()
	s, spaceStays := watchSpace(s)
	b, beltsStay := watchBelts(b)
	l, setsStay := watchSets(l)
	got, again := barrier.Missing(s, b, l), barrier.Missing(s, b, l)
	if !slices.Equal(got, want) {
		t.Errorf("%s: Missing(%v, %v) is %v, want %v, in %v with the words %v", why, b, l, got, want, s.Frames, s.Words[:min(len(s.Words), 64)])
	}
	before := slices.Clone(got)
	scribbleSlots(again)
	if !slices.Equal(got, before) {
		t.Errorf("%s: two answers of Missing(%v, %v) share memory", why, b, l)
	}
	scribbleSlots(got)
	if !spaceStays() || !beltsStay() || !setsStay() {
		t.Errorf("%s: Missing(%v, %v) has changed an argument", why, b, l)
	}
}

// shape is how many reference fields and data fields an object has.
type shape struct{ refs, data int }

func (x shape) size() int { return 1 + x.refs + x.data }

// part is an increment: its place, its frames in the order of its chain, and the objects that fill it.
type part struct {
	place
	frames []int
	shapes []shape
}

// heap is a space with valid belts.
type heap struct {
	space   api.Space
	belts   queues
	places  []place // of the frames
	objects []int   // the addresses of all objects, part by part
	slots   []int   // those of their reference fields
}

// decoy stands in all words of a heap's increments that are neither headers nor reference fields: it refers to the first word of the heap's first part.
func decoy(shift int, parts []part) uint64 {
	if len(parts) == 0 {
		return 0
	}
	return uint64(parts[0].frames[0]<<shift + 1)
}

// heapOf returns a heap of n frames with these increments, which stand in the order of collection; all references are 0.
func heapOf(t *testing.T, shift, n int, parts ...part) heap {
	t.Helper()
	h := heap{places: slices.Repeat([]place{nowhere}, n), belts: queues{nil}}
	for _, p := range parts {
		for _, f := range p.frames {
			h.places[f] = p.place
		}
		for len(h.belts) <= p.belt {
			h.belts = append(h.belts, nil)
		}
	}
	h.space = spaceOf(shift, decoy(shift, parts), h.places...)
	for _, p := range parts {
		h.add(p)
	}
	if !belt.Valid(h.space, h.belts) {
		t.Fatalf("%v are not valid in %v", h.belts, h.space.Frames)
	}
	for _, i := range slices.Concat(h.belts...) {
		if _, err := walk.Objects(h.space, i); err != api.OK {
			t.Fatalf("the walk along %v in %v has the error %d", i, h.space.Frames, err)
		}
	}
	return h
}

// add puts an increment into the heap, whose frames belong to it already.
func (h *heap) add(p part) {
	var words []int
	for k, f := range p.frames {
		if k > 0 {
			h.space.Frames[p.frames[k-1]].Next = f
		}
		for offset := range 1 << h.space.Shift {
			words = append(words, f<<h.space.Shift+offset)
		}
	}
	i := api.Increment{Seq: p.seq, Belt: p.belt, First: p.frames[0], Last: p.frames[len(p.frames)-1]}
	for _, x := range p.shapes {
		h.objects = append(h.objects, words[0])
		h.space.Words[words[0]] = uint64(2*x.refs + 256*x.size())
		for _, slot := range words[1 : 1+x.refs] {
			h.slots = append(h.slots, slot)
			h.space.Words[slot] = 0
		}
		words = words[x.size():]
		i.Words += x.size()
	}
	h.belts[p.belt] = append(h.belts[p.belt], i)
}

// ref is a reference word in a slot.
type ref struct {
	slot int
	w    uint64
}

// with returns the heap with these references.
func (h heap) with(refs ...ref) heap {
	h.space = cloneSpace(h.space)
	for _, r := range refs {
		h.space.Words[r.slot] = r.w
	}
	return h
}

// neededEntries returns the entries of all slots of the heap that have to be remembered.
func (h heap) neededEntries() []entry {
	var entries []entry
	for _, slot := range h.slots {
		if f, g, needed := wantedPair(h.space.Shift, h.places, slot, h.space.Words[slot]); needed {
			entries = append(entries, entry{f, g, slot})
		}
	}
	return entries
}

// wantedMissing says what Missing returns.
func (h heap) wantedMissing(l sets) []int {
	there := map[entry]bool{}
	for _, e := range entriesOf(l) {
		there[e] = true
	}
	isMissing := map[int]bool{}
	for _, e := range h.neededEntries() {
		isMissing[e.slot] = !there[e]
	}
	var missing []int
	for a := range h.space.Words {
		if isMissing[a] {
			missing = append(missing, a)
		}
	}
	return missing
}

// numbers follow a short rule, so that every run has the same.
type numbers struct{ state uint32 }

func (r *numbers) below(n int) int {
	r.state = r.state*1664525 + 1013904223
	return int(r.state>>8) % n
}

// order returns the first n indices in some order.
func (r *numbers) order(n int) []int {
	all := make([]int, n)
	for k := range all {
		all[k] = k
		m := r.below(k + 1)
		all[k], all[m] = all[m], all[k]
	}
	return all
}

// someHeap returns a heap of a number of frames, some of them free, whose increments have any frames.
func someHeap(t *testing.T, r *numbers) heap {
	t.Helper()
	shift, n := 3+r.below(2), 2+r.below(11)
	left := r.order(n)
	var parts []part
	for at := (place{0, r.below(3)}); at.belt < 4; at.seq++ {
		p, words := part{place: at}, 0
		for range 1 + r.below(4) {
			x := shape{r.below(5), r.below(4)}
			p.shapes, words = append(p.shapes, x), words+x.size()
		}
		used := (words + 1<<shift - 1) >> shift
		if used > len(left) {
			break
		}
		p.frames, left = left[:used], left[used:]
		parts = append(parts, p)
		if r.below(3) == 0 {
			// The numbers of the next belt begin anywhere, but none of another belt is among them.
			at = place{at.belt + 1 + r.below(2), 100*at.belt + 100 + r.below(3)}
			if r.below(2) == 0 {
				at.seq = 3000 - 100*at.belt
			}
		}
	}
	h := heapOf(t, shift, n, parts...)
	for _, slot := range h.slots {
		h.space.Words[slot] = someReference(r, h)
	}
	return h
}

// someReference returns a reference to an object of the heap, or 0, or now and then any word.
func someReference(r *numbers, h heap) uint64 {
	switch r.below(8) {
	case 0:
		return 0
	case 1:
		return uint64(r.below(len(h.space.Words) + 3))
	}
	return uint64(h.objects[r.below(len(h.objects))] + 1)
}

// someEntries returns some of the entries that are needed, and some that are not.
func someEntries(r *numbers, h heap) []entry {
	var entries []entry
	for _, e := range h.neededEntries() {
		switch r.below(5) {
		case 0, 1:
			entries = append(entries, e)
		case 2:
			entries = append(entries, entry{e.from, r.below(64), e.slot})
		case 3:
			entries = append(entries, entry{r.below(64), e.to, e.slot}, entry{e.from, e.to, e.slot + 1})
		}
	}
	return entries
}

// written is a heap whose increments do not stand in the order of their frames, and whose objects straddle some:
//
//	belt 0, 3: frame 4, the object 32 with the slots 33 and 34, the object 36 with the slot 37
//	belt 0, 5: frames 5 and 2, the object 40 with the slot 41, the object 46 with the slots 47, 16 and 17
//	belt 1, 4: frame 0, the object 0 with the slots 1 and 2
//	belt 1, 6: frame 3, the object 24 with the slot 25, the object 26 without slots
//
// Frame 1 is free.
func written(t *testing.T) heap {
	t.Helper()
	return heapOf(t, 3, 6,
		part{place{0, 3}, []int{4}, []shape{{2, 1}, {1, 0}}},
		part{place{0, 5}, []int{5, 2}, []shape{{1, 4}, {3, 1}}},
		part{place{1, 4}, []int{0}, []shape{{2, 0}}},
		part{place{1, 6}, []int{3}, []shape{{1, 0}, {0, 3}}})
}

// P19.1

func TestNeedsThatAreWrittenOut(t *testing.T) {
	s := spaceOf(3, 256,
		place{0, 3},          // frame 0, addresses 0 to 7
		place{1, 4},          // 1, 8 to 15
		place{0, 5},          // 2, 16 to 23
		nowhere,              // 3, 24 to 31
		place{0, 3},          // 4, 32 to 39, follows frame 0
		place{0, api.MaxSeq}, // 5, 40 to 47
		place{1, 0},          // 6, 48 to 55
		place{0, 3},          // 7, 56 to 63, of the same increment as the frames 0 and 4
		place{3, api.MaxSeq}, // 8, 64 to 71
		place{2, 4294967294}, // 9, 72 to 79
		nowhere,              // 10, 80 to 87
		place{0, 0},          // 11, 88 to 95
		place{1, api.MaxSeq}, // 12, 96 to 103
	)
	s.Frames[0].Next = 4
	if !frame.Valid(s) {
		t.Fatal("the space is not valid")
	}
	for _, x := range []struct {
		why  string
		slot int
		w    uint64
		want bool
	}{
		{"a later belt into an earlier one", 9, 1, true},
		{"an earlier belt into a later one", 1, 9, false},
		{"a later belt into an earlier one with a greater Seq", 9, 17, true},
		{"an earlier belt with a greater Seq into a later one", 17, 9, false},
		{"a later increment of one belt into an earlier one", 17, 1, true},
		{"an earlier increment of one belt into a later one", 1, 17, false},
		{"a later increment of belt 1 into an earlier one", 9, 49, true},
		{"an earlier increment of belt 1 into a later one", 49, 9, false},
		{"the word 0", 9, 0, false},
		{"the word 0 in the last increment", 65, 0, false},
		{"the word 1", 17, 1, true},
		{"the word 1 in the slot 0", 0, 1, false},
		{"the last word of the earliest frame", 9, 8, true},
		{"the first word of the frame behind", 9, 9, false},
		{"the last address", 65, 104, true},
		{"the last address from an earlier increment", 9, 104, false},
		{"one beyond the last address", 65, 105, false},
		{"another beyond", 65, 106, false},
		{"the word 1<<63 - 1", 65, 1<<63 - 1, false},
		{"the word 1<<63", 65, 1 << 63, false},
		{"the word 1<<63 + 1", 65, 1<<63 + 1, false},
		{"the word 1<<64 - 1", 65, 1<<64 - 1, false},
		{"the word 1<<32 + 1", 65, 1<<32 + 1, false},
		{"the slot -1", -1, 1, false},
		{"the slot -1, another word", -1, 89, false},
		{"the slot 0", 0, 89, true},
		{"the slot 0 into a later increment", 0, 9, false},
		{"the first word of a frame", 8, 1, true},
		{"the last word of a frame", 15, 1, true},
		{"the last word of a frame, an earlier increment", 7, 89, true},
		{"the last word of a frame before a later one", 7, 1, false},
		{"the last address as slot", 103, 1, true},
		{"the last address as slot, its own increment", 103, 97, false},
		{"a slot one beyond the last address", 104, 1, false},
		{"the slot's frame is free", 25, 1, false},
		{"the slot's frame is free, the earliest increment", 31, 89, false},
		{"the word's frame is free", 9, 25, false},
		{"the word's frame is free, its last word", 9, 32, false},
		{"the word's frame is free, in the last increment", 65, 81, false},
		{"both frames are free", 25, 81, false},
		{"both in one free frame", 25, 26, false},
		{"both in one frame", 9, 9, false},
		{"both in one frame, a word behind the slot", 9, 13, false},
		{"both in one frame, the slot itself", 9, 10, false},
		{"both in one frame of the latest increment", 65, 66, false},
		{"the first of two frames of one increment", 1, 33, false},
		{"the second of two frames of one increment", 33, 1, false},
		{"a frame of one Stamp outside of the chain", 57, 1, false},
		{"into a frame of one Stamp outside of the chain", 1, 57, false},
		{"the second frame into an earlier increment", 33, 89, true},
		{"into the second frame of an earlier increment", 17, 33, true},
		{"into the second frame of a later increment", 89, 33, false},
		{"the greatest Seq of belt 0 into belt 1", 41, 49, false},
		{"the least Seq of belt 1 into belt 0", 49, 41, true},
		{"the greatest Seq of belt 0 into the least", 41, 89, true},
		{"the least Seq of belt 0 into the greatest", 89, 41, false},
		{"the latest increment into the last but one belt", 65, 73, true},
		{"the last but one belt into the latest increment", 73, 65, false},
		{"the latest increment into the earliest", 65, 89, true},
		{"the earliest increment into the latest", 89, 65, false},
		{"belt 2 into the greatest Seq of belt 1", 73, 97, true},
		{"the greatest Seq of belt 1 into belt 2", 97, 73, false},
		{"the greatest Seq of belt 1 into that of belt 0", 97, 41, true},
		{"the greatest Seq of belt 0 into that of belt 1", 41, 97, false},
	} {
		expectNeeds(t, x.why, s, x.slot, x.w, x.want)
	}
}

func TestNeedsAtTheEdgesOfFramesAndSpaces(t *testing.T) {
	for shift := 3; shift <= 8; shift++ {
		for _, n := range []int{2, 3, 5, 63, 64} {
			for _, isUpward := range []bool{true, false} {
				places := make([]place, n)
				for f := range places {
					places[f] = place{f % 4, f}
					if !isUpward {
						places[f] = place{3 - f%4, 100 - f}
					}
				}
				checkEdges(t, shift, places)
				places[n/2] = nowhere
				checkEdges(t, shift, places)
			}
		}
	}
}

// checkEdges compares Needs with what is wanted for slots and words at the edges of frames and of the space, and outside of it.
func checkEdges(t *testing.T, shift int, places []place) {
	t.Helper()
	size, n := 1<<shift, len(places)
	slots := slices.Clone(farSlots)
	for _, f := range []int{0, 1, n / 2, n - 2, n - 1, n} {
		slots = append(slots, f*size-1, f*size, f*size+1, f*size+size-1)
	}
	words := slices.Clone(farWords)
	for _, f := range []int{0, 1, n / 2, n - 2, n - 1, n} {
		words = append(words, uint64(f*size), uint64(f*size+1), uint64(f*size+2), uint64(f*size+size))
	}
	s := spaceOf(shift, 1, places...)
	if !frame.Valid(s) {
		t.Fatalf("the space is not valid: %v", s.Frames)
	}
	for _, slot := range slots {
		for _, w := range words {
			if _, _, want := wantedPair(shift, places, slot, w); barrier.Needs(s, slot, w) != want {
				t.Errorf("Needs(%d, %d) is %t, Shift %d, %d frames", slot, w, !want, shift, n)
			}
		}
	}
}

// somePlaces are increments of several belts with the least, the greatest and equal Seqs, and none.
var somePlaces = []place{nowhere, {0, 0}, {0, 1}, {0, api.MaxSeq}, {1, 0}, {1, 1}, {1, api.MaxSeq}, {3, 0}, {3, api.MaxSeq}}

// eachPlaces visits all choices of three of some places.
func eachPlaces(visit func(places []place)) {
	for _, a := range somePlaces {
		for _, b := range somePlaces {
			for _, c := range somePlaces {
				visit([]place{a, b, c})
			}
		}
	}
}

func TestNeedsOfAllSlotsAndWordsOfSmallSpaces(t *testing.T) {
	yes, no := 0, 0
	eachPlaces(func(places []place) {
		s := spaceOf(3, 512, places...)
		if !frame.Valid(s) {
			t.Fatalf("the space is not valid: %v", s.Frames)
		}
		for slot := -2; slot < 27; slot++ {
			for w := uint64(0); w < 28; w++ {
				_, _, want := wantedPair(3, places, slot, w)
				if barrier.Needs(s, slot, w) != want {
					t.Errorf("Needs(%d, %d) is %t, in %v", slot, w, !want, places)
				}
				if want {
					yes++
				} else {
					no++
				}
			}
		}
	})
	if yes < 10000 || no < 10000 {
		t.Errorf("only %d have to be remembered, and %d have not", yes, no)
	}
}

// Neither the links of the frames nor the words of the space change what has to be remembered.
func TestNeedsLooksAtStampsAlone(t *testing.T) {
	places := []place{{1, 4}, {0, 3}, {1, 4}, {0, 3}, {1, 4}, {0, 7}}
	plain := spaceOf(3, 1, places...)
	linked := spaceOf(3, math.MaxUint64, places...)
	linked.Frames[2].Next, linked.Frames[4].Next, linked.Frames[1].Next = 4, 0, 3
	zeros := spaceOf(3, 0, places...)
	for _, s := range []api.Space{plain, linked, zeros} {
		if !frame.Valid(s) {
			t.Fatalf("the space is not valid: %v", s.Frames)
		}
		for slot := range 48 {
			for w := range uint64(49) {
				if _, _, want := wantedPair(3, places, slot, w); barrier.Needs(s, slot, w) != want {
					t.Errorf("Needs(%d, %d) is %t in %v", slot, w, !want, s.Frames)
				}
			}
		}
	}
}

// broken is a space that is not valid, with the cause.
type broken struct {
	why string
	s   api.Space
}

// brokenSpaces returns spaces in which a slot of frame 1 with a reference into frame 0 would have to be remembered if they were valid.
func brokenSpaces() []broken {
	valid := func() api.Space {
		s := spaceOf(3, 256, place{0, 3}, place{1, 4}, place{1, 4}, nowhere, place{0, 3})
		s.Frames[1].Next = 2
		return s
	}
	var all []broken
	add := func(why string, change func(s *api.Space)) {
		s := valid()
		change(&s)
		all = append(all, broken{why, s})
	}
	add("the zero space", func(s *api.Space) { *s = api.Space{} })
	for _, shift := range []int{math.MinInt, -1, 0, 1, 2, 4, 8, 9, 61, 62, 63, 64, 65, 67, math.MaxInt} {
		add("another Shift", func(s *api.Space) { s.Shift = shift })
	}
	add("Shift 2 with its words", func(s *api.Space) { s.Shift, s.Words = 2, slices.Repeat([]uint64{0}, 20) })
	add("Shift 9 with its words", func(s *api.Space) { s.Shift, s.Words = 9, make([]uint64, 5<<9) })
	add("no words", func(s *api.Space) { s.Words = nil })
	add("a word less", func(s *api.Space) { s.Words = s.Words[1:] })
	add("a word more", func(s *api.Space) { s.Words = append(s.Words, 0) })
	add("a frame more", func(s *api.Space) { s.Frames = append(s.Frames, place{0, 9}.entry(-1)) })
	add("no frames", func(s *api.Space) { s.Frames = nil })
	add("no frames and no words", func(s *api.Space) { s.Frames, s.Words = nil, nil })
	add("one frame", func(s *api.Space) { s.Frames, s.Words = s.Frames[:1], s.Words[:8] })
	add("65 frames", func(s *api.Space) {
		*s = spaceOf(3, 0, slices.Repeat([]place{{0, 3}, {1, 4}, nowhere, {0, 3}, {1, 4}}, 13)...)
	})
	add("a free frame with a word", func(s *api.Space) { s.Words[31] = 1 })
	add("a free frame with a Stamp", func(s *api.Space) { s.Frames[3].Stamp = 0 })
	add("a free frame with a next one", func(s *api.Space) { s.Frames[3].Next = 0 })
	add("a free frame with an Owner", func(s *api.Space) { s.Frames[3].Owner = 0 })
	add("an Owner below -1", func(s *api.Space) { s.Frames[4] = api.Frame{Owner: -2, Stamp: -2, Next: -1} })
	add("an Owner that is too great", func(s *api.Space) { s.Frames[1] = api.Frame{Owner: 1 << 32, Stamp: 1 << 32, Next: -1} })
	add("a Stamp of another Owner", func(s *api.Space) { s.Frames[1].Stamp++ })
	add("a Stamp of belt 4", func(s *api.Space) { s.Frames[4].Stamp += 4 << 32 })
	add("a Stamp of a belt before the first", func(s *api.Space) { s.Frames[0].Stamp -= 1 << 32 })
	add("a next frame that is none", func(s *api.Space) { s.Frames[1].Next = 5 })
	add("a next frame below -1", func(s *api.Space) { s.Frames[1].Next = -2 })
	add("a next frame with another Owner", func(s *api.Space) { s.Frames[1].Next = 4 })
	add("a next frame that is free", func(s *api.Space) { s.Frames[1].Next = 3 })
	add("a frame that follows itself", func(s *api.Space) { s.Frames[0].Next = 0 })
	add("two frames that follow each other", func(s *api.Space) { s.Frames[2].Next = 1 })
	add("two frames with one next frame", func(s *api.Space) { s.Frames[0].Next, s.Frames[4].Next = 4, 4 })
	add("extreme numbers", func(s *api.Space) {
		s.Frames[0] = api.Frame{Owner: math.MinInt, Stamp: math.MinInt, Next: math.MinInt}
		s.Frames[1] = api.Frame{Owner: math.MaxInt, Stamp: math.MaxInt, Next: math.MaxInt}
	})
	return all
}

// Of spaces that are not valid, nothing but an answer that depends on the arguments alone is promised.
func TestNeedsOfSpacesThatAreNotValid(t *testing.T) {
	for _, x := range brokenSpaces() {
		if frame.Valid(x.s) {
			t.Fatalf("%s: the space is valid", x.why)
		}
		for _, slot := range append([]int{0, 1, 8, 9, 24, 31, 39, 40, 63, 64}, farSlots...) {
			for _, w := range append([]uint64{1, 8, 9, 25, 32, 33, 40, 41, 64, 65}, farWords...) {
				expectNeeds(t, x.why, x.s, slot, w, barrier.Needs(x.s, slot, w))
			}
		}
	}
}

// P19.2

func TestRecordThatIsWrittenOut(t *testing.T) {
	s := spaceOf(3, 256, place{0, 3}, place{1, 4}, place{0, 5}, nowhere, place{1, 4})
	s.Frames[4].Next = 1
	there := sets{set(1, 0, 9, 12), set(1, 2, 10), set(2, 0, 16)}
	far := sets{set(0, 0, 3), set(63, 62, 0, 1<<40, math.MaxInt)}
	for _, x := range []struct {
		why  string
		l    sets
		slot int
		w    uint64
		want sets
	}{
		{"into no sets", nil, 9, 1, sets{set(1, 0, 9)}},
		{"into no sets, not nil", sets{}, 9, 17, sets{set(1, 2, 9)}},
		{"not needed, no sets", nil, 1, 9, nil},
		{"not needed, no sets, not nil", sets{}, 1, 9, nil},
		{"not needed", there, 1, 9, there},
		{"a slot that is there already", there, 9, 1, there},
		{"the last slot that is there already", there, 16, 8, there},
		{"before the slots of a set that is there", there, 8, 1, sets{set(1, 0, 8, 9, 12), set(1, 2, 10), set(2, 0, 16)}},
		{"between the slots of a set that is there", there, 10, 8, sets{set(1, 0, 9, 10, 12), set(1, 2, 10), set(2, 0, 16)}},
		{"behind the slots of a set that is there", there, 15, 5, sets{set(1, 0, 9, 12, 15), set(1, 2, 10), set(2, 0, 16)}},
		{"a slot that another set has", there, 9, 17, sets{set(1, 0, 9, 12), set(1, 2, 9, 10), set(2, 0, 16)}},
		{"a new set behind all", there, 33, 1, sets{set(1, 0, 9, 12), set(1, 2, 10), set(2, 0, 16), set(4, 0, 33)}},
		{"a new set before all", sets{set(1, 2, 10)}, 9, 1, sets{set(1, 0, 9), set(1, 2, 10)}},
		{"a new set between", sets{set(1, 0, 9), set(4, 2, 33)}, 32, 1, sets{set(1, 0, 9), set(4, 0, 32), set(4, 2, 33)}},
		{"a new set of another frame of the increment", sets{set(1, 2, 9)}, 39, 24, sets{set(1, 2, 9), set(4, 2, 39)}},
		{"a slot that is there for a pair, with a word that needs no memory", there, 9, 9, there},
		{"a slot that is there, with the word 0", there, 9, 0, there},
		{"the word 0", there, 10, 0, there},
		{"within an increment", there, 9, 33, there},
		{"within an increment, the other way", there, 33, 9, there},
		{"within a frame", there, 9, 16, there},
		{"an earlier increment into a later one", there, 1, 17, there},
		{"the word's frame is free", there, 9, 25, there},
		{"the slot's frame is free", there, 25, 1, there},
		{"a slot of -1", there, -1, 1, there},
		{"the least slot", there, math.MinInt, 1, there},
		{"a slot one beyond", there, 40, 1, there},
		{"the greatest slot", there, math.MaxInt, 1, there},
		{"a word one beyond", there, 33, 41, there},
		{"the word 1<<63", there, 33, 1 << 63, there},
		{"the word 1<<64 - 1", there, 33, 1<<64 - 1, there},
		{"sets of frames and slots that the space has not", far, 9, 1, sets{set(0, 0, 3), set(1, 0, 9), set(63, 62, 0, 1<<40, math.MaxInt)}},
		{"sets of frames and slots that the space has not, not needed", far, 1, 9, far},
	} {
		expectRecord(t, x.why, s, x.l, x.slot, x.w, x.want, api.OK)
	}
}

func TestRecordOfSpacesThatAreNotValid(t *testing.T) {
	lists := []sets{nil, {set(1, 0, 9)}, {set(1, 0, 8, 9), set(2, 0, 16)}, {set(1, 0, 9, 9)}}
	for _, x := range brokenSpaces() {
		for _, l := range lists {
			for _, r := range []ref{{9, 1}, {8, 8}, {9, 0}, {1, 9}, {9, 25}, {25, 1}, {-1, 1}, {40, 1}, {9, 1<<64 - 1}, {math.MaxInt, 1}} {
				expectRecord(t, x.why, x.s, l, r.slot, r.w, nil, api.ErrArg)
			}
		}
	}
}

func TestRecordOfSetsThatAreNotValid(t *testing.T) {
	s := spaceOf(3, 256, place{0, 3}, place{1, 4}, nowhere)
	for _, x := range []struct {
		why string
		l   sets
	}{
		{"a set that is nil", sets{{}}},
		{"a set without slots", sets{set(1, 0)}},
		{"a set without slots at last", sets{set(0, 1, 9), set(1, 0)}},
		{"From of -1", sets{set(-1, 0, 9)}},
		{"From of 64", sets{set(64, 0, 9)}},
		{"To of -1", sets{set(1, -1, 9)}},
		{"To of 64", sets{set(1, 64, 9)}},
		{"a slot of -1", sets{set(1, 0, -1)}},
		{"the least slot", sets{set(1, 0, math.MinInt, 9)}},
		{"two equal slots", sets{set(1, 0, 9, 9)}},
		{"slots that descend", sets{set(1, 0, 9, 8)}},
		{"slots that descend at last", sets{set(0, 1, 1, 2, 3, 2)}},
		{"equal pairs", sets{set(1, 0, 8), set(1, 0, 9)}},
		{"From descends", sets{set(1, 0, 8), set(0, 1, 9)}},
		{"To descends", sets{set(1, 2, 8), set(1, 0, 9)}},
		{"pairs that descend at last", sets{set(0, 1, 8), set(1, 0, 9), set(0, 2, 9)}},
	} {
		if remset.Valid(x.l) {
			t.Fatalf("%s: the sets are valid", x.why)
		}
		for _, r := range []ref{{9, 1}, {8, 8}, {15, 3}, {9, 0}, {1, 9}, {9, 9}, {9, 17}, {17, 1}, {-1, 1}, {24, 1}, {9, 25}, {9, 1 << 63}, {9, 1<<64 - 1}} {
			expectRecord(t, x.why, s, x.l, r.slot, r.w, nil, api.ErrArg)
		}
	}
}

func TestRecordOfAllSlotsAndWordsOfSmallSpaces(t *testing.T) {
	lists := []sets{nil, {set(0, 1, 3)}, {set(1, 0, 8, 9, 15), set(2, 0, 16, 23), set(2, 1, 17)}, {set(0, 2, 0, 7), set(1, 2, 8, 9), set(63, 0, 1)}}
	for _, places := range [][]place{
		{{0, 1}, {0, 2}, {1, 0}}, {{0, 1}, {1, 2}, {1, 0}}, {{2, 5}, {0, 6}, {1, 7}}, {{1, 1}, {0, 3}, {0, 2}},
		{{3, api.MaxSeq}, {0, api.MaxSeq}, {1, 0}}, {{0, 4}, {0, 4}, {1, 5}}, {{0, 4}, nowhere, {1, 5}}, {nowhere, nowhere, nowhere},
	} {
		s := spaceOf(3, 1, places...)
		for slot := -1; slot < 25; slot++ {
			for w := uint64(0); w < 27; w++ {
				f, g, needed := wantedPair(3, places, slot, w)
				for _, l := range lists {
					want := l
					if needed {
						want = setsOf(append(entriesOf(l), entry{f, g, slot})...)
					}
					expectRecord(t, "a small space", s, l, slot, w, want, api.OK)
				}
			}
		}
	}
}

// One slot after the other, until all that have to be remembered are, whatever their order is.
func TestRecordOneAfterTheOther(t *testing.T) {
	r := &numbers{3}
	for range 300 {
		h := someHeap(t, r)
		var l sets
		var entries []entry
		for _, k := range r.order(len(h.slots)) {
			slot := h.slots[k]
			w := h.space.Words[slot]
			if f, g, needed := wantedPair(h.space.Shift, h.places, slot, w); needed {
				entries = append(entries, entry{f, g, slot})
			}
			expectRecord(t, "some heap", h.space, l, slot, w, setsOf(entries...), api.OK)
			l, _ = barrier.Record(h.space, l, slot, w)
		}
	}
}

func TestRecordIntoManySlots(t *testing.T) {
	const n = 1<<20 - 200
	slots := make([]int, n)
	for k := range slots {
		slots[k] = 2 * k
	}
	s := spaceOf(3, 0, place{0, 3}, place{1, 4}, place{0, 5})
	for _, x := range []struct {
		w          uint64
		slot, from int
		want       []int
	}{
		{1, 9, 1, slices.Insert(slices.Clone(slots), 5, 9)},
		{8, 8, 1, slots},
		{9, 9, 1, slots},
		{1, 17, 2, slices.Insert(slices.Clone(slots), 9, 17)},
	} {
		l := sets{set(x.from, 0, slots...)}
		got, err := barrier.Record(s, l, x.slot, x.w)
		if err != api.OK || !isEqualSets(got, sets{set(x.from, 0, x.want...)}) {
			t.Errorf("Record of the slot %d with the word %d: error %d", x.slot, x.w, err)
		}
		scribble(got)
		if !slices.Equal(l[0].Slots, slots) {
			t.Errorf("Record of the slot %d with the word %d has changed its argument", x.slot, x.w)
		}
	}
}

func TestRecordIntoSetsOfAllPairs(t *testing.T) {
	var all sets
	for from := range 64 {
		for to := range 64 {
			all = append(all, set(from, to, 16*from+to%16))
		}
	}
	places := make([]place, 64)
	for f := range places {
		places[f] = place{f % 3, f}
	}
	s := spaceOf(4, 0, places...)
	for _, x := range []ref{{33, 1}, {1022, 50}, {1023, 1}, {0, 1024}, {47, 500}, {16, 33}, {40, 17}} {
		f, g, needed := wantedPair(4, places, x.slot, x.w)
		want := all
		if needed {
			want = setsOf(append(entriesOf(all), entry{f, g, x.slot})...)
		}
		expectRecord(t, "sets of all pairs", s, all, x.slot, x.w, want, api.OK)
	}
}

// Sets whose slots share memory are valid too, but no answer may have them so.
func TestRecordIntoSetsThatShareMemory(t *testing.T) {
	s := spaceOf(3, 256, place{0, 3}, place{1, 4}, place{0, 5})
	slots := []int{9, 12, 14}
	l := sets{{From: 1, To: 0, Slots: slots}, {From: 1, To: 2, Slots: slots[:2]}}
	for _, x := range []struct {
		slot int
		w    uint64
		want sets
	}{
		{10, 1, sets{set(1, 0, 9, 10, 12, 14), set(1, 2, 9, 12)}},
		{14, 17, sets{set(1, 0, 9, 12, 14), set(1, 2, 9, 12, 14)}},
		{9, 1, sets{set(1, 0, 9, 12, 14), set(1, 2, 9, 12)}},
		{1, 9, sets{set(1, 0, 9, 12, 14), set(1, 2, 9, 12)}},
	} {
		got, err := barrier.Record(s, l, x.slot, x.w)
		if err != api.OK || !isEqualSets(got, x.want) {
			t.Errorf("Record(%d, %d) is %v, error %d", x.slot, x.w, got, err)
		}
		expectOwnMemory(t, got)
		if !slices.Equal(slots, []int{9, 12, 14}) {
			t.Fatalf("Record(%d, %d) has changed its argument", x.slot, x.w)
		}
	}
}

// P19.3

func TestMissingThatIsWrittenOut(t *testing.T) {
	h := written(t)
	three := []ref{{41, 33}, {1, 47}, {25, 1}}
	for _, x := range []struct {
		why  string
		refs []ref
		l    sets
		want []int
	}{
		{"references that are 0", nil, nil, nil},
		{"references that are 0, and sets", nil, sets{set(0, 4, 1), set(5, 4, 41)}, nil},
		{"an object that refers to itself", []ref{{33, 33}, {47, 47}}, nil, nil},
		{"within an increment", []ref{{33, 37}, {37, 33}, {41, 47}, {17, 41}}, nil, nil},
		{"within an increment, from one frame into the other", []ref{{41, 17}, {16, 41}}, nil, nil},
		{"to a later increment of the belt", []ref{{33, 41}, {1, 25}}, nil, nil},
		{"to a later belt", []ref{{33, 1}, {34, 25}, {41, 1}, {16, 27}}, nil, nil},
		{"to a later belt with a lesser Seq", []ref{{41, 1}, {47, 1}}, nil, nil},
		{"to an earlier increment of the belt", []ref{{41, 33}}, nil, []int{41}},
		{"to an earlier increment of belt 1", []ref{{25, 1}}, nil, []int{25}},
		{"to an earlier belt", []ref{{1, 33}}, nil, []int{1}},
		{"to an earlier belt with a greater Seq", []ref{{2, 41}}, nil, []int{2}},
		{"to an object that straddles frames", []ref{{2, 47}}, nil, []int{2}},
		{"into the second frame of an increment", []ref{{2, 17}}, nil, []int{2}},
		{"both slots of an object", []ref{{2, 33}, {1, 41}}, nil, []int{1, 2}},
		{"the last slot of an object alone", []ref{{2, 33}}, nil, []int{2}},
		{"the first slot of an object alone", []ref{{1, 33}}, nil, []int{1}},
		{"a slot in the first frame of an object that straddles", []ref{{47, 33}}, nil, []int{47}},
		{"a slot in its second frame", []ref{{16, 33}}, nil, []int{16}},
		{"slots in both of its frames", []ref{{47, 33}, {16, 37}, {17, 33}}, nil, []int{16, 17, 47}},
		{"slots of several increments", []ref{{1, 33}, {2, 41}, {25, 1}, {41, 33}, {47, 37}, {16, 33}}, nil, []int{1, 2, 16, 25, 41, 47}},
		{"all slots to the first object", []ref{{1, 33}, {2, 33}, {16, 33}, {17, 33}, {25, 33}, {33, 33}, {34, 33}, {37, 33}, {41, 33}, {47, 33}}, nil, []int{1, 2, 16, 17, 25, 41, 47}},
		{"all slots to the last object", []ref{{1, 27}, {2, 27}, {16, 27}, {17, 27}, {25, 27}, {33, 27}, {34, 27}, {37, 27}, {41, 27}, {47, 27}}, nil, nil},
		{"into a free frame", []ref{{1, 9}, {25, 16}}, nil, nil},
		{"words beyond the space", []ref{{1, 49}, {2, 1 << 63}, {25, 1<<64 - 1}, {41, 1<<63 - 1}}, nil, nil},
		{"the first and the last address", []ref{{25, 1}, {2, 48}}, nil, []int{2, 25}},
		{"in the set of the pair", []ref{{41, 33}}, sets{set(5, 4, 41)}, nil},
		{"in the set of the pair, among others", []ref{{41, 33}}, sets{set(0, 4, 41), set(5, 4, 40, 41, 42), set(5, 5, 1)}, nil},
		{"in the set of another pair only, another To", []ref{{41, 33}}, sets{set(5, 2, 41)}, []int{41}},
		{"in the set of another pair only, another From", []ref{{41, 33}}, sets{set(2, 4, 41)}, []int{41}},
		{"in the set of the pair the other way", []ref{{41, 33}}, sets{set(4, 5, 41)}, []int{41}},
		{"in the sets of all other pairs of its frames", []ref{{41, 33}}, sets{set(4, 4, 41), set(4, 5, 41), set(5, 5, 41)}, []int{41}},
		{"in the set of the pair of the first frame of the object", []ref{{16, 33}}, sets{set(5, 4, 16)}, []int{16}},
		{"another slot in the set of the pair", []ref{{41, 33}}, sets{set(5, 4, 40, 42, 47)}, []int{41}},
		{"in the set that a former word needed", []ref{{1, 41}}, sets{set(0, 4, 1)}, []int{1}},
		{"in the sets of the former and of the new word", []ref{{1, 41}}, sets{set(0, 4, 1), set(0, 5, 1)}, nil},
		{"the first one in its set", three, sets{set(0, 5, 1)}, []int{25, 41}},
		{"the one between in its set", three, sets{set(3, 0, 25)}, []int{1, 41}},
		{"the last one in its set", three, sets{set(5, 4, 41)}, []int{1, 25}},
		{"all in their sets", three, sets{set(0, 5, 1), set(3, 0, 25), set(5, 4, 41)}, nil},
		{"all in sets, but not in their own", three, sets{set(0, 4, 1), set(0, 5, 25, 41), set(3, 4, 25), set(5, 2, 41)}, []int{1, 25, 41}},
		{"into the second frame, in the set of the first one", []ref{{2, 17}}, sets{set(0, 5, 2)}, []int{2}},
		{"into the second frame, in its set", []ref{{2, 17}}, sets{set(0, 2, 2)}, nil},
	} {
		got := h.with(x.refs...)
		expectMissing(t, x.why, got.space, got.belts, x.l, x.want)
	}
}

func TestMissingOfHeapsThatHaveNoSlots(t *testing.T) {
	l := sets{set(0, 1, 3), set(1, 0, 9)}
	for _, h := range []heap{
		heapOf(t, 3, 2),
		heapOf(t, 8, 64),
		heapOf(t, 3, 3, part{place{0, 1}, []int{1}, []shape{{0, 0}}}),
		heapOf(t, 3, 3, part{place{0, 1}, []int{1}, []shape{{0, 3}}}, part{place{1, 2}, []int{2}, []shape{{0, 0}, {0, 6}}}),
		heapOf(t, 3, 6, part{place{0, 1}, []int{1}, []shape{{0, 3}}}, part{place{3, 0}, []int{5, 0, 4}, []shape{{0, 1}, {0, 20}, {0, 0}}}),
	} {
		for _, empty := range []queues{h.belts, append(slices.Clone(h.belts), queues{{}, {}, {}, {}}[len(h.belts):]...)} {
			expectMissing(t, "no slots", h.space, empty, nil, nil)
			expectMissing(t, "no slots, and sets", h.space, empty, l, nil)
		}
	}
}

// Belts without increments stand before, between and behind those with some.
func TestMissingOfBeltsWithoutIncrements(t *testing.T) {
	one, two := []shape{{1, 0}}, []shape{{0, 1}, {2, 0}}
	first := heapOf(t, 3, 4, part{place{1, 0}, []int{2}, one}, part{place{3, 9}, []int{0}, two})
	first = first.with(ref{3, 17}, ref{17, 1})
	expectMissing(t, "belts 1 and 3", first.space, first.belts, nil, []int{3})
	expectMissing(t, "belts 1 and 3, remembered", first.space, first.belts, sets{set(0, 2, 3)}, nil)
	second := heapOf(t, 3, 4, part{place{0, 7}, []int{3}, one}, part{place{0, 9}, []int{1}, two})
	second = second.with(ref{25, 9}, ref{11, 25}, ref{12, 9})
	second.belts = append(second.belts, nil, []api.Increment{}, nil)
	expectMissing(t, "belt 0 alone", second.space, second.belts, nil, []int{11})
	expectMissing(t, "belt 0 alone, remembered", second.space, second.belts, sets{set(1, 3, 11)}, nil)
}

// Neither a data field nor a word behind the last object is a slot, whatever it contains; a header is none either.
func TestMissingOfWordsThatAreNoSlots(t *testing.T) {
	h := heapOf(t, 3, 5,
		part{place{0, 1}, []int{4}, []shape{{0, 1}}},
		part{place{1, 2}, []int{3, 1}, []shape{{0, 5}, {1, 6}}},
		part{place{2, 3}, []int{0}, []shape{{0, 0}, {2, 2}}})
	expectMissing(t, "data fields and unused words that look like references", h.space, h.belts, nil, nil)
	h = h.with(ref{31, 33}, ref{3, 33})
	expectMissing(t, "slots among them", h.space, h.belts, nil, []int{3, 31})
	// Word 256, the header of an object without fields, is a reference into frame 0 here.
	large := heapOf(t, 8, 3,
		part{place{0, 1}, []int{0}, []shape{{0, 32}, {3, 0}}},
		part{place{1, 2}, []int{2}, []shape{{0, 0}, {1, 0}}})
	if w := large.space.Words[512]; w != 256 || !barrier.Needs(large.space, 512, w) {
		t.Fatalf("the header %d is no reference to remember", w)
	}
	expectMissing(t, "headers that look like references", large.space, large.belts, nil, nil)
	large = large.with(ref{514, 1})
	expectMissing(t, "a slot behind them", large.space, large.belts, nil, []int{514})
}

// Three increments with two slots each, in all orders of their frames, with all references among their objects.
func TestMissingOfAllReferencesBetweenThreeIncrements(t *testing.T) {
	shapes := []shape{{2, 1}}
	for number, order := range [][]int{{0, 1, 2}, {0, 2, 1}, {1, 0, 3}, {1, 2, 0}, {3, 0, 1}, {3, 1, 0}} {
		places := [][]place{{{0, 1}, {0, 2}, {0, 3}}, {{0, 2}, {1, 1}, {2, 0}}, {{0, 9}, {1, 5}, {1, 10}}}[number%3]
		var parts []part
		for k, p := range places {
			parts = append(parts, part{p, order[k : k+1], shapes})
		}
		h := heapOf(t, 3, 4, parts...)
		words := []uint64{0}
		for _, a := range h.objects {
			words = append(words, uint64(a+1))
		}
		checkAllReferences(t, h, words)
	}
}

// checkAllReferences compares Missing with what is wanted for all ways to write the words to the slots of the heap.
func checkAllReferences(t *testing.T, h heap, words []uint64) {
	t.Helper()
	for number := range 1 << (2 * len(h.slots)) {
		for k, slot := range h.slots {
			h.space.Words[slot] = words[number>>(2*k)&3]
		}
		needed := h.neededEntries()
		var some, others []entry
		for k, e := range needed {
			if (number+number>>3+k)%2 == 0 {
				some = append(some, e)
			} else {
				others = append(others, entry{e.to, e.from, e.slot}, entry{e.from, e.from, e.slot})
			}
		}
		for _, l := range []sets{nil, setsOf(needed...), setsOf(some...), setsOf(others...), setsOf(append(some, others...)...)} {
			if got, want := barrier.Missing(h.space, h.belts, l), h.wantedMissing(l); !slices.Equal(got, want) {
				t.Fatalf("Missing(%v, %v) is %v, want %v, in %v with the words %v", h.belts, l, got, want, h.space.Frames, h.space.Words)
			}
		}
	}
}

func TestMissingOfManyHeaps(t *testing.T) {
	r := &numbers{5}
	none, all, some := 0, 0, 0
	for range 2500 {
		h := someHeap(t, r)
		l := setsOf(someEntries(r, h)...)
		want := h.wantedMissing(l)
		expectMissing(t, "some heap", h.space, h.belts, l, want)
		expectMissing(t, "some heap, no sets", h.space, h.belts, nil, h.wantedMissing(nil))
		switch n := len(h.neededEntries()); {
		case len(want) == 0:
			none++
		case len(want) == n:
			all++
		default:
			some++
		}
	}
	if none < 100 || all < 100 || some < 500 {
		t.Errorf("in %d heaps none is missing, in %d all are, in %d some", none, all, some)
	}
}

// largestHeap returns a heap of 64 frames with 256 words, whose four belts have the frames from the last to the first, and whose slots refer to all of its objects.
func largestHeap(t *testing.T) heap {
	t.Helper()
	var parts []part
	seq, f := 0, 63
	for b := range 4 {
		for k := range 4 {
			p := part{place: place{b, 1000*(4-b) + k}}
			for range 4 {
				p.frames = append(p.frames, f)
				f--
			}
			for words := 0; words+5 <= 1024; words += 5 {
				p.shapes = append(p.shapes, shape{seq % 4, 4 - seq%4})
				seq++
			}
			parts = append(parts, p)
		}
	}
	h := heapOf(t, 8, 64, parts...)
	for k, slot := range h.slots {
		h.space.Words[slot] = uint64(h.objects[k*17%len(h.objects)] + 1)
	}
	return h
}

func TestMissingOfTheLargestHeap(t *testing.T) {
	h := largestHeap(t)
	all := h.wantedMissing(nil)
	if len(all) < 1000 {
		t.Fatalf("only %d slots have to be remembered", len(all))
	}
	expectMissing(t, "no sets", h.space, h.belts, nil, all)
	needed := h.neededEntries()
	expectMissing(t, "all remembered", h.space, h.belts, setsOf(needed...), nil)
	for _, k := range []int{0, 1, len(needed) / 2, len(needed) - 1} {
		l := setsOf(slices.Delete(slices.Clone(needed), k, k+1)...)
		expectMissing(t, "all but one remembered", h.space, h.belts, l, []int{needed[k].slot})
	}
}

func TestMissingWithManySlotsInTheSets(t *testing.T) {
	const n = 1<<20 - 200
	slots := make([]int, n)
	for k := range slots {
		slots[k] = 2 * k
	}
	h := written(t).with(ref{16, 33}, ref{17, 33}, ref{2, 41}, ref{1, 41})
	if got := barrier.Missing(h.space, h.belts, sets{set(2, 4, slots...)}); !slices.Equal(got, []int{1, 2, 17}) {
		t.Error("the even slots of (2, 4)", got)
	}
	if got := barrier.Missing(h.space, h.belts, sets{set(0, 5, slots...)}); !slices.Equal(got, []int{1, 16, 17}) {
		t.Error("the even slots of (0, 5)", got)
	}
}

// Of belts that are not valid, of increments without objects, and of sets that are not valid, nothing but an answer that depends on the arguments alone is promised.
func TestMissingOfArgumentsThatAreNotValid(t *testing.T) {
	h := written(t).with(ref{41, 33}, ref{1, 33}, ref{25, 1})
	expectSame := func(why string, s api.Space, b queues, l sets) {
		t.Helper()
		expectMissing(t, why, s, b, l, barrier.Missing(s, b, l))
	}
	i := h.belts[1][0]
	for _, b := range []queues{
		nil, {}, {nil}, {nil, nil, nil, nil, nil}, {h.belts[0]}, {nil, h.belts[1]}, {h.belts[1], h.belts[0]},
		{h.belts[0], {i, i, h.belts[1][1]}}, {h.belts[0], {h.belts[1][1], i}}, {{{}}, {{}}}, {{{First: -1, Last: -1}}},
		{{{Seq: math.MinInt, Belt: math.MinInt, First: math.MinInt, Last: math.MinInt, Words: math.MinInt}}},
		{{{Seq: math.MaxInt, Belt: math.MaxInt, First: math.MaxInt, Last: math.MaxInt, Words: math.MaxInt}}},
		{h.belts[0], {{Seq: 4, Belt: 1, First: 0, Last: 0, Words: math.MaxInt}}}, {h.belts[0], {{Seq: 4, Belt: 1, First: 5, Last: 2, Words: 11}}},
		{h.belts[0], h.belts[1], h.belts[0], h.belts[1]},
	} {
		expectSame("belts that are not valid", h.space, b, nil)
		expectSame("belts that are not valid, and sets", h.space, b, sets{set(5, 4, 41)})
	}
	for _, x := range brokenSpaces() {
		expectSame(x.why, x.s, h.belts, nil)
		expectSame(x.why, x.s, queues{{{Seq: 3, Words: 8}}, {{Seq: 4, Belt: 1, First: 1, Last: 2, Words: 16}}}, nil)
	}
	for _, w := range []uint64{0, 1, 3, 11, 2, 0xff00, 256 * 48, 1 << 63, math.MaxUint64} {
		for _, a := range []int{0, 24, 26, 32, 36, 40, 46} {
			expectSame("a word that is no header", h.with(ref{a, w}).space, h.belts, nil)
		}
	}
	for _, l := range []sets{{{}}, {set(5, 4)}, {set(-1, 64, 41), set(-2, -2, -2)}, {set(5, 4, 41, 40)}, {set(5, 4, 41), set(5, 4, 41), set(0, 4, 1)}} {
		expectSame("sets that are not valid", h.space, h.belts, l)
	}
}

func TestMissingOfManyIncrementsThatAreNotValid(t *testing.T) {
	h := largestHeap(t)
	all := slices.Concat(h.belts...)
	many := slices.Repeat(all[:1], 1<<17)
	for _, b := range []queues{{many}, {h.belts[0], many}, slices.Repeat(h.belts, 1<<15), {slices.Repeat(h.belts[0], 1<<15), h.belts[1], h.belts[2], h.belts[3]}} {
		first, second := barrier.Missing(h.space, b, nil), barrier.Missing(h.space, b, nil)
		if !slices.Equal(first, second) {
			t.Errorf("Missing has %d and %d slots", len(first), len(second))
		}
	}
}

// Consequences

func TestSlotsWithinAnIncrementAreNeverRemembered(t *testing.T) {
	s := spaceOf(3, 256, place{1, 4}, place{1, 4}, nowhere, place{1, 4}, place{0, 6})
	s.Frames[3].Next, s.Frames[1].Next = 1, 0
	l := sets{set(3, 4, 25)}
	for _, f := range []int{0, 1, 3} {
		for _, g := range []int{0, 1, 3} {
			for offset := range 64 {
				slot, w := 8*f+offset/8, uint64(8*g+offset%8+1)
				expectNeeds(t, "within an increment", s, slot, w, false)
				expectRecord(t, "within an increment", s, l, slot, w, l, api.OK)
			}
		}
	}
}

func TestOneOfTwoDirectionsIsRemembered(t *testing.T) {
	eachPlaces(func(places []place) {
		s := spaceOf(3, 256, places...)
		for f, p := range places {
			for g, q := range places {
				there, back := barrier.Needs(s, 8*f+1, uint64(8*g+1)), barrier.Needs(s, 8*g+1, uint64(8*f+1))
				isBetweenTwo := p != nowhere && q != nowhere && p != q
				if there && back || (there || back) != isBetweenTwo {
					t.Errorf("Needs from frame %d to %d is %t, and back %t, in %v", f, g, there, back, places)
				}
			}
		}
	})
}

func TestNothingThatWasRecordedIsMissing(t *testing.T) {
	r := &numbers{11}
	for range 400 {
		h := someHeap(t, r)
		var l sets
		for _, k := range r.order(len(h.slots)) {
			var err api.Errno
			if l, err = barrier.Record(h.space, l, h.slots[k], h.space.Words[h.slots[k]]); err != api.OK {
				t.Fatalf("Record of the slot %d has the error %d", h.slots[k], err)
			}
		}
		expectMissing(t, "all were recorded", h.space, h.belts, l, nil)
		if remset.Count(l) != len(h.neededEntries()) || !remset.Valid(l) {
			t.Errorf("%v for %v", l, h.neededEntries())
		}
	}
}

// A prefix of the order of collection is what a step may collect: remset.Into says which slots point into it.
func TestIfNothingIsMissingAllPointersIntoAPrefixAreKnown(t *testing.T) {
	r := &numbers{17}
	pointers := 0
	for range 400 {
		h := someHeap(t, r)
		l := setsOf(h.neededEntries()...)
		if got := barrier.Missing(h.space, h.belts, l); len(got) != 0 {
			t.Fatalf("%v are missing", got)
		}
		inOrder := slices.Concat(h.belts...)
		for n := range len(inOrder) + 1 {
			isCondemned := map[place]bool{}
			for _, i := range inOrder[:n] {
				isCondemned[place{i.Belt, i.Seq}] = true
			}
			known, _ := remset.Into(l, framesOf(h, isCondemned))
			want := pointersInto(h, isCondemned)
			pointers += len(want)
			if !slices.Equal(known, want) {
				t.Errorf("known are %v, want %v, in %v for the first %d of %v", known, want, h.space.Frames, n, inOrder)
			}
		}
	}
	if pointers < 1000 {
		t.Errorf("only %d pointers into a prefix", pointers)
	}
}

// framesOf returns the frames of the condemned increments.
func framesOf(h heap, isCondemned map[place]bool) []int {
	var frames []int
	for f, p := range h.places {
		if isCondemned[p] {
			frames = append(frames, f)
		}
	}
	return frames
}

// pointersInto returns the slots outside of the condemned increments that point into them, ascending.
func pointersInto(h heap, isCondemned map[place]bool) []int {
	var slots []int
	for _, slot := range h.slots {
		w, size := h.space.Words[slot], 1<<h.space.Shift
		if w == 0 || w > uint64(len(h.space.Words)) || isCondemned[h.places[slot/size]] {
			continue
		}
		if isCondemned[h.places[int(w-1)/size]] {
			slots = append(slots, slot)
		}
	}
	slices.Sort(slots)
	return slots
}

// Examples

func TestASlotInBelt1ThatPointsToBelt0(t *testing.T) {
	h := heapOf(t, 3, 2, part{place{0, 0}, []int{0}, []shape{{1, 0}}}, part{place{1, 1}, []int{1}, []shape{{1, 0}}})
	h = h.with(ref{9, 1}, ref{1, 9})
	expectNeeds(t, "belt 1 to belt 0", h.space, 9, 1, true)
	expectNeeds(t, "belt 0 to belt 1", h.space, 1, 9, false)
	expectRecord(t, "belt 1 to belt 0", h.space, nil, 9, 1, sets{set(1, 0, 9)}, api.OK)
	expectRecord(t, "belt 0 to belt 1", h.space, nil, 1, 9, nil, api.OK)
	expectMissing(t, "both", h.space, h.belts, nil, []int{9})
	expectMissing(t, "both, the one remembered", h.space, h.belts, sets{set(1, 0, 9)}, nil)
}
