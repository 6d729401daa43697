package remset_test

import (
	"math"
	"slices"
	"testing"

	"beltway/api"
	"beltway/remset"
)

// sets are lists of remembered sets.
type sets = []api.Set

// entry is a remembered slot with its pair of frames.
type entry struct{ from, to, slot int }

// badFrames are no indices of frames; some of them are those of frames in their low bits.
var badFrames = []int{math.MinInt, math.MinInt + 1, -1 << 32, -65, -64, -2, -1, 64, 65, 127, 128, 4095, 1 << 32, 1<<32 + 1, 1 << 62, math.MaxInt - 1, math.MaxInt}

// badSlots are negative.
var badSlots = []int{math.MinInt, math.MinInt + 1, -1 << 32, -1<<32 + 5, -16384, -2, -1}

// edgeSlots are the least slots, the last ones of small and large spaces, and some far beyond; no chapter bounds them here.
var edgeSlots = []int{0, 1, 2, 15, 16, 63, 64, 16383, 16384, 1<<31 - 1, 1 << 31, 1 << 32, 1<<32 + 1, math.MaxInt - 1, math.MaxInt}

func set(from, to int, slots ...int) api.Set {
	return api.Set{From: from, To: to, Slots: slots}
}

// example is what the chapter's example is extended to: it has sets into a lesser and a greater frame, and two sets of one From.
func example() sets {
	return sets{set(0, 1, 5), set(2, 0, 16, 17), set(2, 1, 18)}
}

func cloneSets(l sets) sets {
	var out sets
	for _, s := range l {
		out = append(out, set(s.From, s.To, slices.Clone(s.Slots)...))
	}
	return out
}

func isEqualSet(a, b api.Set) bool {
	return a.From == b.From && a.To == b.To && slices.Equal(a.Slots, b.Slots)
}

func isEqualSets(a, b sets) bool {
	return slices.EqualFunc(a, b, isEqualSet)
}

// memory is where sets stand: with a guard behind them, and their slots one directly behind the other, so that a write behind an end changes another set or a guard.
type memory struct {
	slots []int
	outer sets
	given sets // the part of outer that is passed on
}

func within(l sets) memory {
	var m memory
	for _, s := range l {
		m.slots = append(m.slots, s.Slots...)
	}
	m.slots = append(m.slots, -99, -98)
	at := 0
	for _, s := range l {
		m.outer = append(m.outer, api.Set{From: s.From, To: s.To, Slots: m.slots[at : at+len(s.Slots)]})
		at += len(s.Slots)
	}
	m.outer = append(m.outer, set(-97, -96, -95), set(-94, -93, -92))
	m.given = m.outer[:len(l)]
	return m
}

// expectUnchanged calls a function with sets that stand in shared memory, and checks that nothing there has changed.
func expectUnchanged(t *testing.T, why string, l sets, call func(l sets)) {
	t.Helper()
	m := within(l)
	slots, outer := slices.Clone(m.slots), cloneSets(m.outer)
	call(m.given)
	if !slices.Equal(m.slots, slots) || !isEqualSets(m.outer, outer) {
		t.Errorf("%s of %v has changed its argument to %v", why, l, m.given)
	}
}

// scribble writes to all memory of sets, also behind their lengths.
func scribble(l sets) {
	full := l[:cap(l)]
	for k := range full {
		scribbleSlots(full[k].Slots)
		full[k] = set(-7, -7, -7)
	}
}

func scribbleSlots(slots []int) {
	full := slots[:cap(slots)]
	for k := range full {
		full[k] = -77
	}
}

// expectOwnMemory checks that what is written to, and behind, the slots of one set of an answer changes no other set of it.
func expectOwnMemory(t *testing.T, l sets) {
	t.Helper()
	before := cloneSets(l)
	for k := range l {
		scribbleSlots(l[k].Slots)
		for m := k + 1; m < len(l); m++ {
			if !isEqualSet(l[m], before[m]) {
				t.Errorf("the sets %d and %d of the answer %v share memory", k, m, before)
			}
		}
	}
}

// wantedValid says what Valid reports, as the promise lists it.
func wantedValid(l sets) bool {
	for k, s := range l {
		if s.From < 0 || s.From > 63 || s.To < 0 || s.To > 63 || len(s.Slots) == 0 {
			return false
		}
		for m, slot := range s.Slots {
			if slot < 0 || m > 0 && slot <= s.Slots[m-1] {
				return false
			}
		}
		// Each frame has two digits here, so the pairs are ordered as these numbers are.
		if k > 0 && 100*s.From+s.To <= 100*l[k-1].From+l[k-1].To {
			return false
		}
	}
	return true
}

// entriesOf returns the entries of the sets, set by set.
func entriesOf(l sets) []entry {
	var entries []entry
	for _, s := range l {
		for _, slot := range s.Slots {
			entries = append(entries, entry{s.From, s.To, slot})
		}
	}
	return entries
}

// setsOf returns the valid sets with these entries, which may stand in any order and more than once.
func setsOf(entries []entry) sets {
	left, out := slices.Clone(entries), sets{}
	for len(left) > 0 {
		least := left[0]
		for _, e := range left {
			if isLess(e, least) {
				least = e
			}
		}
		if n := len(out); n == 0 || out[n-1].From != least.from || out[n-1].To != least.to {
			out = append(out, set(least.from, least.to))
		}
		out[len(out)-1].Slots = append(out[len(out)-1].Slots, least.slot)
		left = without(left, func(e entry) bool { return e == least })
	}
	return out
}

func isLess(a, b entry) bool {
	if a.from != b.from {
		return a.from < b.from
	}
	if a.to != b.to {
		return a.to < b.to
	}
	return a.slot < b.slot
}

func without(entries []entry, isOut func(e entry) bool) []entry {
	var out []entry
	for _, e := range entries {
		if !isOut(e) {
			out = append(out, e)
		}
	}
	return out
}

// wantedDrop says what Drop returns for valid sets.
func wantedDrop(l sets, frames []int) sets {
	var out sets
	for _, s := range l {
		if !slices.Contains(frames, s.From) && !slices.Contains(frames, s.To) {
			out = append(out, s)
		}
	}
	return out
}

// wantedInto says what Into returns for valid sets: it looks for each slot in the order of their numbers.
func wantedInto(l sets, frames []int) ([]int, int) {
	found := without(entriesOf(l), func(e entry) bool {
		return slices.Contains(frames, e.from) || !slices.Contains(frames, e.to)
	})
	var slots []int
	for left := found; len(left) > 0; {
		least := left[0].slot
		for _, e := range left {
			least = min(least, e.slot)
		}
		slots = append(slots, least)
		left = without(left, func(e entry) bool { return e.slot == least })
	}
	return slots, len(found)
}

// expectValid checks Valid, and that Insert takes just the sets that are valid.
func expectValid(t *testing.T, why string, l sets, want bool) {
	t.Helper()
	expectUnchanged(t, "Valid", l, func(l sets) {
		if got := remset.Valid(l); got != want {
			t.Errorf("%s: Valid(%v) is %t", why, l, got)
		}
		if got := remset.Valid(l); got != want {
			t.Errorf("%s: Valid(%v) is %t when called again", why, l, got)
		}
		wantErr := api.OK
		if !want {
			wantErr = api.ErrArg
		}
		for _, e := range []entry{{0, 0, 0}, {63, 63, 0}, {1, 0, 7}} {
			got, err := remset.Insert(l, e.from, e.to, e.slot)
			if err != wantErr || err != api.OK && len(got) != 0 {
				t.Errorf("%s: Insert(%v, %v) is %v, error %d", why, l, e, got, err)
			}
		}
	})
}

// expectInsert checks Insert for arguments that it takes.
func expectInsert(t *testing.T, l sets, e entry, want sets) {
	t.Helper()
	expectUnchanged(t, "Insert", l, func(l sets) {
		got, err := remset.Insert(l, e.from, e.to, e.slot)
		again, _ := remset.Insert(l, e.from, e.to, e.slot)
		if err != api.OK || !isEqualSets(got, want) {
			t.Errorf("Insert(%v, %v) is %v, error %d, want %v", l, e, got, err, want)
		}
		if !remset.Valid(got) || !remset.Has(got, e.from, e.to, e.slot) {
			t.Errorf("Insert(%v, %v) is %v, which is not valid or has no such slot", l, e, got)
		}
		before := cloneSets(got)
		scribble(again)
		if !isEqualSets(got, before) {
			t.Errorf("two answers of Insert(%v, %v) share memory", l, e)
		}
		expectOwnMemory(t, got)
	})
}

// expectNoInsert checks Insert for arguments that it does not take.
func expectNoInsert(t *testing.T, why string, l sets, e entry) {
	t.Helper()
	expectUnchanged(t, "Insert", l, func(l sets) {
		if got, err := remset.Insert(l, e.from, e.to, e.slot); err != api.ErrArg || len(got) != 0 {
			t.Errorf("%s: Insert(%v, %v) is %v, error %d", why, l, e, got, err)
		}
	})
}

func expectHas(t *testing.T, l sets, e entry, want bool) {
	t.Helper()
	expectUnchanged(t, "Has", l, func(l sets) {
		if got := remset.Has(l, e.from, e.to, e.slot); got != want {
			t.Errorf("Has(%v, %v) is %t", l, e, got)
		}
	})
}

func expectCount(t *testing.T, l sets, want int) {
	t.Helper()
	expectUnchanged(t, "Count", l, func(l sets) {
		if got := remset.Count(l); got != want {
			t.Errorf("Count(%v) is %d, want %d", l, got, want)
		}
	})
}

// expectFrames calls a function with numbers of frames that have memory behind their end, and checks that nothing there has changed.
func expectFrames(t *testing.T, why string, frames []int, call func(frames []int)) {
	t.Helper()
	listed := append(slices.Clone(frames), -99, 99, -98)
	before := slices.Clone(listed)
	call(listed[:len(frames)])
	if !slices.Equal(listed, before) {
		t.Errorf("%s has changed the frames %v to %v", why, frames, listed)
	}
}

func expectDrop(t *testing.T, l sets, frames []int, want sets) {
	t.Helper()
	expectUnchanged(t, "Drop", l, func(l sets) {
		expectFrames(t, "Drop", frames, func(frames []int) {
			got, again := remset.Drop(l, frames), remset.Drop(l, frames)
			if !isEqualSets(got, want) || !remset.Valid(got) {
				t.Errorf("Drop(%v, %v) is %v, want %v", l, frames, got, want)
			}
			before := cloneSets(got)
			scribble(again)
			if !isEqualSets(got, before) {
				t.Errorf("two answers of Drop(%v, %v) share memory", l, frames)
			}
			expectOwnMemory(t, got)
		})
	})
}

func expectInto(t *testing.T, l sets, frames []int, want []int, wantEntries int) {
	t.Helper()
	expectUnchanged(t, "Into", l, func(l sets) {
		expectFrames(t, "Into", frames, func(frames []int) {
			got, entries := remset.Into(l, frames)
			again, _ := remset.Into(l, frames)
			if !slices.Equal(got, want) || entries != wantEntries {
				t.Errorf("Into(%v, %v) is %v, %d, want %v, %d", l, frames, got, entries, want, wantEntries)
			}
			before := slices.Clone(got)
			scribbleSlots(again)
			if !slices.Equal(got, before) {
				t.Errorf("two answers of Into(%v, %v) share memory", l, frames)
			}
			scribbleSlots(got)
		})
	})
}

// eachList visits all lists of up to so many of the numbers.
func eachList(numbers []int, length int, visit func(list []int)) {
	var extend func(list []int)
	extend = func(list []int) {
		visit(list)
		if len(list) == length {
			return
		}
		for _, n := range numbers {
			extend(append(slices.Clone(list), n))
		}
	}
	extend(nil)
}

// eachSets visits all lists of up to so many of the sets, valid or not.
func eachSets(choice sets, length int, visit func(l sets)) {
	numbers := make([]int, len(choice))
	for k := range numbers {
		numbers[k] = k
	}
	eachList(numbers, length, func(list []int) {
		var l sets
		for _, k := range list {
			l = append(l, choice[k])
		}
		visit(l)
	})
}

// eachChoice visits all valid sets that have some of the entries.
func eachChoice(entries []entry, visit func(chosen []entry, l sets)) {
	for bits := range 1 << len(entries) {
		var chosen []entry
		for k, e := range entries {
			if bits>>k&1 == 1 {
				chosen = append(chosen, e)
			}
		}
		visit(chosen, setsOf(chosen))
	}
}

// eachOrder visits the entries in every order.
func eachOrder(entries []entry, visit func(ordered []entry)) {
	var extend func(chosen, left []entry)
	extend = func(chosen, left []entry) {
		if len(left) == 0 {
			visit(chosen)
		}
		for k, e := range left {
			extend(append(slices.Clone(chosen), e), slices.Delete(slices.Clone(left), k, k+1))
		}
	}
	extend(nil, entries)
}

// inserted returns sets into which the entries were inserted, one after the other.
func inserted(t *testing.T, l sets, entries []entry) sets {
	t.Helper()
	for _, e := range entries {
		var err api.Errno
		if l, err = remset.Insert(l, e.from, e.to, e.slot); err != api.OK {
			t.Fatalf("Insert of %v: error %d", e, err)
		}
	}
	return l
}

// allPairs returns a set for each pair of frames, with a slot that tells it from the others.
func allPairs() sets {
	var l sets
	for from := range 64 {
		for to := range 64 {
			l = append(l, set(from, to, 1000*from+10*to))
		}
	}
	return l
}

// manySlots returns n slots, each greater than the one before by 3.
func manySlots(n int) []int {
	slots := make([]int, n)
	for k := range slots {
		slots[k] = 3*k + 1
	}
	return slots
}

// P18.1

func TestSetsThatAreWrittenOut(t *testing.T) {
	for _, x := range []struct {
		why   string
		l     sets
		valid bool
		count int
	}{
		{"nil", nil, true, 0},
		{"no sets", sets{}, true, 0},
		{"one set", sets{set(0, 0, 0)}, true, 1},
		{"the greatest frames", sets{set(63, 63, 0)}, true, 1},
		{"the least and the greatest frame", sets{set(0, 63, 7)}, true, 1},
		{"the greatest and the least frame", sets{set(63, 0, 7)}, true, 1},
		{"From of -1", sets{set(-1, 0, 0)}, false, 1},
		{"From of 64", sets{set(64, 0, 0)}, false, 1},
		{"To of -1", sets{set(0, -1, 0)}, false, 1},
		{"To of 64", sets{set(0, 64, 0)}, false, 1},
		{"From of 64 in the last set", sets{set(63, 63, 0), set(64, 0, 0)}, false, 2},
		{"To of 64 in the last set", sets{set(0, 63, 0), set(0, 64, 0)}, false, 2},
		{"From of -1 in the first set", sets{set(-1, 63, 0), set(0, 0, 0)}, false, 2},
		{"To of -1 in the first set", sets{set(0, -1, 0), set(0, 0, 0)}, false, 2},
		{"pairs that ascend by From", sets{set(1, 5, 0), set(2, 5, 0)}, true, 2},
		{"pairs that ascend by To", sets{set(5, 1, 0), set(5, 2, 0)}, true, 2},
		{"pairs that ascend by From while To descends", sets{set(1, 63, 0), set(2, 0, 0)}, true, 2},
		{"equal pairs", sets{set(1, 2, 0), set(1, 2, 1)}, false, 2},
		{"equal sets", sets{set(1, 2, 3), set(1, 2, 3)}, false, 2},
		{"equal pairs behind another one", sets{set(0, 9, 1), set(1, 2, 0), set(1, 2, 1)}, false, 3},
		{"equal pairs before another one", sets{set(1, 2, 0), set(1, 2, 1), set(1, 3, 0)}, false, 3},
		{"From descends", sets{set(2, 1, 0), set(1, 1, 0)}, false, 2},
		{"From descends while To ascends", sets{set(1, 0, 1), set(0, 5, 1)}, false, 2},
		{"equal From and To that descends", sets{set(1, 2, 0), set(1, 1, 0)}, false, 2},
		{"equal From and To that descends at last", sets{set(0, 2, 0), set(1, 2, 0), set(1, 1, 0)}, false, 3},
		{"a pair again that another one stands between", sets{set(1, 2, 0), set(1, 3, 0), set(1, 2, 0)}, false, 3},
		{"a set that is nil", sets{{}}, false, 0},
		{"no slots", sets{set(1, 0)}, false, 0},
		{"no slots, not nil", sets{{From: 1, Slots: []int{}}}, false, 0},
		{"no slots in the last set", sets{set(1, 0, 4), set(1, 1)}, false, 1},
		{"no slots in the first set", sets{set(1, 0), set(1, 1, 4, 5)}, false, 2},
		{"no slots in a set between", sets{set(1, 0, 3), set(1, 1), set(1, 2, 4, 5)}, false, 3},
		{"a slot of -1", sets{set(0, 0, -1)}, false, 1},
		{"a slot of -1 and one of 0", sets{set(0, 0, -1, 0)}, false, 2},
		{"a slot of -1 in a later set", sets{set(0, 0, 0), set(0, 1, -1, 3)}, false, 3},
		{"a slot of 0", sets{set(0, 1, 0)}, true, 1},
		{"a slot of 0 in a later set", sets{set(0, 0, 9), set(0, 1, 0, 1)}, true, 3},
		{"the least int", sets{set(0, 0, math.MinInt)}, false, 1},
		{"the greatest int", sets{set(0, 0, math.MaxInt)}, true, 1},
		{"slots that ascend", sets{set(0, 0, 0, 1, 2, 9, math.MaxInt)}, true, 5},
		{"two equal slots", sets{set(0, 0, 4, 4)}, false, 2},
		{"two equal slots of 0", sets{set(0, 0, 0, 0)}, false, 2},
		{"two equal slots at last", sets{set(0, 0, 1, 4, 4)}, false, 3},
		{"two equal slots in a later set", sets{set(0, 0, 4), set(0, 1, 4, 4)}, false, 3},
		{"slots that descend", sets{set(0, 0, 4, 3)}, false, 2},
		{"slots that descend to a negative one", sets{set(0, 0, 4, -3)}, false, 2},
		{"slots that descend at last", sets{set(0, 0, 1, 4, 3)}, false, 3},
		{"slots that descend in a later set", sets{set(0, 0, 1), set(7, 7, 4, 3)}, false, 3},
		{"a slot again that another one stands between", sets{set(0, 0, 4, 5, 4)}, false, 3},
		{"equal slots in different sets", sets{set(0, 0, 4), set(0, 1, 4), set(1, 0, 4)}, true, 3},
		{"slots that descend from set to set", sets{set(0, 0, 9, 10), set(0, 1, 5, 6), set(3, 0, 1, 2, 3)}, true, 7},
		{"the example", example(), true, 4},
	} {
		expectValid(t, x.why, x.l, x.valid)
		expectCount(t, x.l, x.count)
		if wantedValid(x.l) != x.valid || len(entriesOf(x.l)) != x.count {
			t.Errorf("%s: the oracle has it otherwise", x.why)
		}
	}
}

func TestAllSmallSets(t *testing.T) {
	var choice sets
	for _, from := range []int{-1, 0, 1, 63, 64} {
		for _, to := range []int{-1, 0, 1, 63, 64} {
			choice = append(choice, set(from, to, 5))
		}
	}
	choice = append(choice, set(0, 1), set(0, 1, -1), set(0, 1, 3, 3), set(1, 0, 3, 4), set(1, 0, 4, 3))
	found := 0
	eachSets(choice, 3, func(l sets) {
		want := wantedValid(l)
		if got := remset.Valid(l); got != want {
			t.Errorf("Valid(%v) is %t", l, got)
		}
		if got, want := remset.Count(l), len(entriesOf(l)); got != want {
			t.Errorf("Count(%v) is %d, want %d", l, got, want)
		}
		if want && len(l) > 1 {
			found++
		}
	})
	if found < 100 {
		t.Errorf("only %d lists of two or more are valid", found)
	}
}

func TestAllPairsOfPairs(t *testing.T) {
	frames := []int{0, 1, 2, 31, 32, 62, 63}
	for _, a := range frames {
		for _, b := range frames {
			for _, c := range frames {
				for _, d := range frames {
					l := sets{set(a, b, 8), set(c, d, 8)}
					if got, want := remset.Valid(l), wantedValid(l); got != want {
						t.Errorf("Valid(%v) is %t", l, got)
					}
				}
			}
		}
	}
}

func TestAllSmallSlots(t *testing.T) {
	eachList([]int{math.MinInt, -2, -1, 0, 1, 2, math.MaxInt}, 4, func(slots []int) {
		for _, l := range []sets{
			{set(3, 4, slots...)},
			{set(3, 4, slots...), set(3, 5, 1)},
			{set(3, 3, 1), set(3, 4, slots...)},
			{set(3, 3, 1), set(3, 4, slots...), set(4, 0, 1)},
		} {
			if got, want := remset.Valid(l), wantedValid(l); got != want {
				t.Errorf("Valid(%v) is %t", l, got)
			}
			if got, want := remset.Count(l), len(l)-1+len(slots); got != want {
				t.Errorf("Count(%v) is %d, want %d", l, got, want)
			}
		}
	})
}

func TestValidAtAllFrames(t *testing.T) {
	for f := range 64 {
		expectValid(t, "each frame is permitted", sets{set(f, f, 1)}, true)
		expectValid(t, "each frame is permitted as From", sets{set(f, 5, 1)}, true)
		expectValid(t, "each frame is permitted as To", sets{set(5, f, 1)}, true)
	}
	for _, f := range badFrames {
		for _, good := range []int{0, 1, 63} {
			expectValid(t, "From is no frame", sets{set(f, good, 1)}, false)
			expectValid(t, "To is no frame", sets{set(good, f, 1)}, false)
		}
		for _, other := range badFrames {
			expectValid(t, "neither is a frame", sets{set(f, other, 1)}, false)
		}
	}
}

func TestValidOfAllPairs(t *testing.T) {
	l := allPairs()
	if !remset.Valid(l) || remset.Count(l) != 4096 {
		t.Error("all pairs", remset.Count(l))
	}
	for k := 0; k+1 < len(l); k += 61 {
		bad := slices.Clone(l)
		bad[k], bad[k+1] = bad[k+1], bad[k]
		if remset.Valid(bad) {
			t.Errorf("all pairs, with set %d behind the next one", k)
		}
		bad = slices.Clone(l)
		bad[k+1] = bad[k]
		if remset.Valid(bad) {
			t.Errorf("all pairs, with set %d twice", k)
		}
	}
}

func TestManySets(t *testing.T) {
	if l := make(sets, 1<<20); remset.Valid(l) || remset.Count(l) != 0 {
		t.Error("2^20 sets without slots")
	}
	slots := manySlots(1 << 20)
	if l := (sets{set(5, 6, slots...)}); !remset.Valid(l) || remset.Count(l) != 1<<20 {
		t.Error("2^20 slots")
	}
	slots[1<<19] = slots[1<<19-1]
	if l := (sets{set(5, 6, slots...)}); remset.Valid(l) || remset.Count(l) != 1<<20 {
		t.Error("2^20 slots, one of them twice")
	}
	slots[1<<19]++
	slots[1<<20-1] = 0
	if remset.Valid(sets{set(5, 6, slots...)}) {
		t.Error("2^20 slots, the last one less")
	}
}

// P18.2

func TestInsertsThatAreWrittenOut(t *testing.T) {
	for _, x := range []struct {
		why  string
		l    sets
		e    entry
		want sets
	}{
		{"into nil", nil, entry{2, 0, 17}, sets{set(2, 0, 17)}},
		{"into no sets", sets{}, entry{0, 0, 0}, sets{set(0, 0, 0)}},
		{"into no sets, the greatest frames", nil, entry{63, 63, math.MaxInt}, sets{set(63, 63, math.MaxInt)}},
		{"before all pairs", example(), entry{0, 0, 9}, sets{set(0, 0, 9), set(0, 1, 5), set(2, 0, 16, 17), set(2, 1, 18)}},
		{"between two pairs, by To of the first", example(), entry{0, 2, 1}, sets{set(0, 1, 5), set(0, 2, 1), set(2, 0, 16, 17), set(2, 1, 18)}},
		{"between two pairs, by From", example(), entry{1, 63, 1}, sets{set(0, 1, 5), set(1, 63, 1), set(2, 0, 16, 17), set(2, 1, 18)}},
		{"between two pairs with one From", sets{set(2, 0, 1), set(2, 5, 1)}, entry{2, 4, 0}, sets{set(2, 0, 1), set(2, 4, 0), set(2, 5, 1)}},
		{"behind all pairs, by To", example(), entry{2, 2, 0}, sets{set(0, 1, 5), set(2, 0, 16, 17), set(2, 1, 18), set(2, 2, 0)}},
		{"behind all pairs, by From", example(), entry{3, 0, 0}, sets{set(0, 1, 5), set(2, 0, 16, 17), set(2, 1, 18), set(3, 0, 0)}},
		{"at the first place of the first set", example(), entry{0, 1, 4}, sets{set(0, 1, 4, 5), set(2, 0, 16, 17), set(2, 1, 18)}},
		{"at the last place of the first set", example(), entry{0, 1, 6}, sets{set(0, 1, 5, 6), set(2, 0, 16, 17), set(2, 1, 18)}},
		{"at the first place of a set between", example(), entry{2, 0, 1}, sets{set(0, 1, 5), set(2, 0, 1, 16, 17), set(2, 1, 18)}},
		{"at the last place of a set between", example(), entry{2, 0, 18}, sets{set(0, 1, 5), set(2, 0, 16, 17, 18), set(2, 1, 18)}},
		{"at a place between", sets{set(2, 0, 1, 5, 9)}, entry{2, 0, 6}, sets{set(2, 0, 1, 5, 6, 9)}},
		{"at another place between", sets{set(2, 0, 1, 5, 9)}, entry{2, 0, 3}, sets{set(2, 0, 1, 3, 5, 9)}},
		{"a slot of 0", example(), entry{2, 1, 0}, sets{set(0, 1, 5), set(2, 0, 16, 17), set(2, 1, 0, 18)}},
		{"the greatest slot", example(), entry{2, 1, math.MaxInt}, sets{set(0, 1, 5), set(2, 0, 16, 17), set(2, 1, 18, math.MaxInt)}},
		{"the only slot again", example(), entry{0, 1, 5}, example()},
		{"the first slot again", example(), entry{2, 0, 16}, example()},
		{"the last slot again", example(), entry{2, 0, 17}, example()},
		{"a slot between again", sets{set(2, 0, 1, 5, 9)}, entry{2, 0, 5}, sets{set(2, 0, 1, 5, 9)}},
		{"a slot that another pair has", example(), entry{2, 1, 16}, sets{set(0, 1, 5), set(2, 0, 16, 17), set(2, 1, 16, 18)}},
		{"From and To exchanged", example(), entry{0, 2, 16}, sets{set(0, 1, 5), set(0, 2, 16), set(2, 0, 16, 17), set(2, 1, 18)}},
		{"From and To equal", example(), entry{1, 1, 16}, sets{set(0, 1, 5), set(1, 1, 16), set(2, 0, 16, 17), set(2, 1, 18)}},
	} {
		got, err := remset.Insert(x.l, x.e.from, x.e.to, x.e.slot)
		if err != api.OK || !isEqualSets(got, x.want) {
			t.Errorf("%s: Insert(%v, %v) is %v, error %d, want %v", x.why, x.l, x.e, got, err, x.want)
		}
		expectInsert(t, x.l, x.e, x.want)
		expectValid(t, x.why, x.want, true)
	}
}

func TestInsertOfArgumentsThatAreNotValid(t *testing.T) {
	for _, l := range []sets{nil, {}, {set(0, 0, 0)}, {set(63, 63, 1, 2)}, example()} {
		for _, f := range badFrames {
			for _, good := range []int{0, 1, 2, 63} {
				expectNoInsert(t, "from is no frame", l, entry{f, good, 0})
				expectNoInsert(t, "to is no frame", l, entry{good, f, 0})
			}
			expectNoInsert(t, "neither is a frame", l, entry{f, f, 0})
			expectNoInsert(t, "neither is a frame, and the slot is negative", l, entry{f, f, -1})
		}
		for _, slot := range badSlots {
			for _, e := range []entry{{0, 0, slot}, {2, 0, slot}, {2, 1, slot}, {63, 63, slot}} {
				expectNoInsert(t, "the slot is negative", l, e)
			}
		}
	}
}

func TestInsertIntoSetsThatAreNotValid(t *testing.T) {
	for _, l := range []sets{
		{{}},
		{set(1, 0)},
		{set(-1, 0, 1)},
		{set(64, 0, 1)},
		{set(0, -1, 1)},
		{set(0, 64, 1)},
		{set(0, 0, -1)},
		{set(0, 0, 1, 1)},
		{set(0, 0, 2, 1)},
		{set(1, 0, 1), set(0, 5, 1)},
		{set(1, 1, 1), set(1, 0, 1)},
		{set(1, 0, 1), set(1, 0, 2)},
		{set(0, 0, 1), set(1, 0, 1), set(1, 1)},
		{set(0, 0, 1), set(1, 0, 1), set(1, 1, 3, 3)},
		{set(0, 0, 1), set(1, 0, 1), set(1, 64, 3)},
	} {
		for _, e := range []entry{{0, 0, 0}, {0, 0, 1}, {0, 0, 3}, {1, 0, 1}, {1, 1, 3}, {2, 2, 2}, {-1, 0, 1}, {0, 64, 1}, {0, 0, -1}} {
			expectNoInsert(t, "the sets are not valid", l, e)
		}
	}
}

func TestInsertOfAllFramesAndEdgeSlots(t *testing.T) {
	for from := range 64 {
		for to := range 64 {
			expectInsert(t, nil, entry{from, to, 3}, sets{set(from, to, 3)})
			expectInsert(t, example(), entry{from, to, 11}, setsOf(append(entriesOf(example()), entry{from, to, 11})))
		}
	}
	for k, slot := range edgeSlots {
		expectInsert(t, nil, entry{1, 2, slot}, sets{set(1, 2, slot)})
		expectInsert(t, sets{set(1, 2, edgeSlots...)}, entry{1, 2, slot}, sets{set(1, 2, edgeSlots...)})
		others := slices.Delete(slices.Clone(edgeSlots), k, k+1)
		expectInsert(t, sets{set(1, 2, others...)}, entry{1, 2, slot}, sets{set(1, 2, edgeSlots...)})
	}
}

// choice has entries with equal pairs, with pairs that differ only by From, only by To, and by both, and with slots of several pairs.
func choice() []entry {
	return []entry{{0, 63, 3}, {1, 0, 0}, {1, 0, 3}, {1, 0, 7}, {1, 1, 3}, {1, 1, 5}, {2, 1, 7}, {63, 0, 3}, {63, 2, 5}}
}

func TestInsertAndHasOfSmallSets(t *testing.T) {
	eachChoice(choice(), func(chosen []entry, l sets) {
		if got := remset.Count(l); got != len(chosen) || !remset.Valid(l) {
			t.Errorf("Count(%v) is %d", l, got)
		}
		for _, from := range []int{0, 1, 2, 63} {
			for _, to := range []int{0, 1, 2, 63} {
				for slot := range 9 {
					e := entry{from, to, slot}
					isThere := slices.Contains(chosen, e)
					if got := remset.Has(l, from, to, slot); got != isThere {
						t.Errorf("Has(%v, %v) is %t", l, e, got)
					}
					want := setsOf(append(slices.Clone(chosen), e))
					if got, err := remset.Insert(l, from, to, slot); err != api.OK || !isEqualSets(got, want) {
						t.Errorf("Insert(%v, %v) is %v, error %d", l, e, got, err)
					}
				}
			}
		}
		for _, e := range []entry{{1, 0, 3}, {1, 0, 4}, {1, 2, 3}, {0, 0, 0}, {63, 63, 9}} {
			expectInsert(t, l, e, setsOf(append(slices.Clone(chosen), e)))
			expectHas(t, l, e, slices.Contains(chosen, e))
		}
	})
}

func TestHasThatIsWrittenOut(t *testing.T) {
	for _, x := range []struct {
		why  string
		l    sets
		e    entry
		want bool
	}{
		{"nil", nil, entry{0, 0, 0}, false},
		{"no sets", sets{}, entry{2, 0, 16}, false},
		{"the only slot", example(), entry{0, 1, 5}, true},
		{"the first slot", example(), entry{2, 0, 16}, true},
		{"the last slot", example(), entry{2, 0, 17}, true},
		{"the last set", example(), entry{2, 1, 18}, true},
		{"a slot between", sets{set(2, 0, 1, 5, 9)}, entry{2, 0, 5}, true},
		{"a slot of 0", sets{set(0, 0, 0)}, entry{0, 0, 0}, true},
		{"a slot that another To has", example(), entry{2, 0, 18}, false},
		{"a slot that another From has", example(), entry{2, 1, 5}, false},
		{"a slot below all", example(), entry{2, 0, 15}, false},
		{"a slot above all", example(), entry{2, 0, 18}, false},
		{"a slot between two", sets{set(2, 0, 1, 5, 9)}, entry{2, 0, 6}, false},
		{"From and To exchanged", example(), entry{0, 2, 16}, false},
		{"From and To exchanged, of the first set", example(), entry{1, 0, 5}, false},
		{"another From", example(), entry{1, 1, 18}, false},
		{"another To", example(), entry{2, 2, 18}, false},
		{"a pair before all", example(), entry{0, 0, 5}, false},
		{"a pair behind all", example(), entry{63, 63, 18}, false},
		{"a pair between", example(), entry{1, 0, 16}, false},
		{"a negative slot", example(), entry{2, 0, -16}, false},
		{"a pair with the same number", sets{set(1, 0, 5)}, entry{0, 64, 5}, false},
		{"a pair with the same number, negative To", sets{set(1, 63, 5)}, entry{2, -1, 5}, false},
		{"From of 2^32 above", example(), entry{1<<32 + 2, 0, 16}, false},
		{"To of 2^32 above", example(), entry{2, 1 << 32, 16}, false},
		{"a slot 2^32 above", example(), entry{2, 0, 1<<32 + 16}, false},
	} {
		expectHas(t, x.l, x.e, x.want)
	}
}

func TestHasOfNumbersThatAreNoFramesOrSlots(t *testing.T) {
	for _, l := range []sets{nil, {set(0, 0, 0)}, {set(63, 63, 0, 1, math.MaxInt)}, example()} {
		for _, f := range badFrames {
			for _, good := range []int{0, 1, 2, 63} {
				for _, slot := range []int{0, 1, 5, 16, math.MaxInt} {
					expectHas(t, l, entry{f, good, slot}, false)
					expectHas(t, l, entry{good, f, slot}, false)
				}
			}
		}
		for _, slot := range badSlots {
			for _, e := range []entry{{0, 0, slot}, {2, 0, slot}, {63, 63, slot}} {
				expectHas(t, l, e, false)
			}
		}
	}
}

func TestInsertAndHasOfAllPairs(t *testing.T) {
	l := allPairs()
	for k, s := range l {
		slot := s.Slots[0]
		if !remset.Has(l, s.From, s.To, slot) || remset.Has(l, s.From, s.To, slot+10) || remset.Has(l, s.From, s.To, slot-10) {
			t.Errorf("Has of %v", s)
		}
		if k%61 != 0 && k != len(l)-1 {
			continue
		}
		missing := slices.Delete(slices.Clone(l), k, k+1)
		if remset.Has(missing, s.From, s.To, slot) {
			t.Errorf("Has of %v, which is missing", s)
		}
		if got, err := remset.Insert(missing, s.From, s.To, slot); err != api.OK || !isEqualSets(got, l) {
			t.Errorf("Insert of %v: error %d", s, err)
		}
		if got, err := remset.Insert(l, s.From, s.To, slot); err != api.OK || !isEqualSets(got, l) {
			t.Errorf("Insert of %v again: error %d", s, err)
		}
		more, err := remset.Insert(l, s.From, s.To, slot+1)
		if err != api.OK || len(more) != 4096 || remset.Count(more) != 4097 || !slices.Equal(more[k].Slots, []int{slot, slot + 1}) {
			t.Errorf("Insert of another slot into %v: error %d", s, err)
		}
	}
}

func TestInsertIntoManySlots(t *testing.T) {
	const n = 1 << 20
	slots := manySlots(n)
	l := sets{set(5, 6, slots...)}
	for _, at := range []int{0, 1, n / 3, n / 2, n - 1, n} {
		slot := 3 * at
		got, err := remset.Insert(l, 5, 6, slot)
		if err != api.OK || len(got) != 1 || !slices.Equal(got[0].Slots, slices.Concat(slots[:at], []int{slot}, slots[at:])) {
			t.Errorf("Insert of the slot %d: error %d", slot, err)
		}
		if remset.Has(l, 5, 6, slot) || !remset.Has(l, 5, 6, slots[min(at, n-1)]) {
			t.Errorf("Has of the slot %d", slot)
		}
	}
}

// For sets that are not valid, nothing but an answer that depends on the arguments alone is promised.
func TestQueriesOfSetsThatAreNotValid(t *testing.T) {
	bad := sets{{}, set(-1, 5, 2, 1), set(64, 0, 3, 3), set(math.MinInt, math.MaxInt, -1), set(2, 0), set(2, 0, 7)}
	eachSets(bad, 3, func(l sets) {
		for _, e := range []entry{{2, 0, 7}, {-1, 5, 1}, {64, 0, 3}, {math.MinInt, math.MaxInt, -1}, {0, 0, 0}} {
			expectHas(t, l, e, remset.Has(l, e.from, e.to, e.slot))
		}
		for _, frames := range [][]int{nil, {0}, {2}, {-1, 64}, {5, math.MaxInt}} {
			expectUnchanged(t, "Drop and Into", l, func(l sets) {
				dropped, again := remset.Drop(l, frames), remset.Drop(l, frames)
				slots, entries := remset.Into(l, frames)
				scribble(again)
				if got := remset.Drop(l, frames); !isEqualSets(got, dropped) {
					t.Errorf("Drop(%v, %v) is %v when called again", l, frames, got)
				}
				if got, n := remset.Into(l, frames); !slices.Equal(got, slots) || n != entries {
					t.Errorf("Into(%v, %v) is %v, %d when called again", l, frames, got, n)
				}
			})
		}
	})
}

// P18.3

func TestDropAndIntoThatAreWrittenOut(t *testing.T) {
	more := sets{set(0, 1, 5), set(1, 1, 7, 16), set(2, 0, 16, 17), set(2, 1, 9, 16, 18), set(3, 2, 2, 20)}
	for _, x := range []struct {
		why     string
		l       sets
		frames  []int
		left    sets
		slots   []int
		entries int
	}{
		{"nil", nil, nil, nil, nil, 0},
		{"no sets", sets{}, []int{0, 1}, nil, nil, 0},
		{"no frames", example(), nil, example(), nil, 0},
		{"no frames, not nil", example(), []int{}, example(), nil, 0},
		{"frames that no set has", example(), []int{3, 63, 4}, example(), nil, 0},
		{"numbers that are no frames", example(), []int{-1, 64, 99, math.MinInt, math.MaxInt, 1 << 32, 1<<32 + 1, -63, -64, 66}, example(), nil, 0},
		{"a frame that is only From", example(), []int{2}, sets{set(0, 1, 5)}, nil, 0},
		{"a frame that is only To", example(), []int{1}, sets{set(2, 0, 16, 17)}, []int{5, 18}, 2},
		{"a frame that is both", example(), []int{0}, sets{set(2, 1, 18)}, []int{16, 17}, 2},
		{"a frame that is listed twice", example(), []int{1, 1}, sets{set(2, 0, 16, 17)}, []int{5, 18}, 2},
		{"a frame that is listed twice, not side by side", example(), []int{1, 3, 1}, sets{set(2, 0, 16, 17)}, []int{5, 18}, 2},
		{"frames and numbers that are none", example(), []int{-1, 1, 64}, sets{set(2, 0, 16, 17)}, []int{5, 18}, 2},
		{"both To of one From", example(), []int{0, 1}, nil, []int{16, 17, 18}, 3},
		{"both To of one From, descending", example(), []int{1, 0}, nil, []int{16, 17, 18}, 3},
		{"From and To of a set", example(), []int{0, 2}, nil, nil, 0},
		{"From and To of a set, and To of another one", example(), []int{1, 2}, nil, []int{5}, 1},
		{"all frames of the sets", example(), []int{2, 1, 0}, nil, nil, 0},
		{"a set within a frame", sets{set(1, 1, 4)}, []int{1}, nil, nil, 0},
		{"a set within another frame", sets{set(1, 1, 4)}, []int{0}, sets{set(1, 1, 4)}, nil, 0},
		{"a slot that is in two sets", more, []int{0, 1}, sets{set(3, 2, 2, 20)}, []int{9, 16, 17, 18}, 5},
		{"a slot that is in two sets, in one of them from within", more, []int{1}, sets{set(2, 0, 16, 17), set(3, 2, 2, 20)}, []int{5, 9, 16, 18}, 4},
		{"sets from frames that are listed too", more, []int{2, 1}, nil, []int{2, 5, 20}, 3},
		{"From that is listed, beside one that is not", more, []int{2, 0}, sets{set(1, 1, 7, 16)}, []int{2, 20}, 2},
		{"From that is less than To", sets{set(1, 5, 3)}, []int{5}, nil, []int{3}, 1},
		{"From that is greater than To", sets{set(5, 1, 3)}, []int{1}, nil, []int{3}, 1},
		{"three sets with the same slots", sets{set(4, 0, 1, 2), set(4, 1, 1, 2), set(5, 1, 1, 2)}, []int{0, 1}, nil, []int{1, 2}, 6},
		{"the least slot in the last set", sets{set(4, 0, 8, 9), set(4, 1, 5, 9), set(5, 1, 0, math.MaxInt)}, []int{1, 0}, nil, []int{0, 5, 8, 9, math.MaxInt}, 6},
		{"the edge frames", sets{set(0, 63, 1), set(63, 0, 2)}, []int{63}, nil, []int{1}, 1},
		{"the other edge frame", sets{set(0, 63, 1), set(63, 0, 2)}, []int{0}, nil, []int{2}, 1},
	} {
		if got := remset.Drop(x.l, x.frames); !isEqualSets(got, x.left) {
			t.Errorf("%s: Drop is %v, want %v", x.why, got, x.left)
		}
		if got, entries := remset.Into(x.l, x.frames); !slices.Equal(got, x.slots) || entries != x.entries {
			t.Errorf("%s: Into is %v, %d, want %v, %d", x.why, got, entries, x.slots, x.entries)
		}
		expectDrop(t, x.l, x.frames, x.left)
		expectInto(t, x.l, x.frames, x.slots, x.entries)
	}
}

func TestDropAndIntoOfSmallSets(t *testing.T) {
	var lists [][]int
	eachList([]int{-1, 0, 1, 2, 63, 64}, 3, func(list []int) { lists = append(lists, list) })
	twice := 0
	eachChoice(choice(), func(chosen []entry, l sets) {
		for _, frames := range lists {
			if got, want := remset.Drop(l, frames), wantedDrop(l, frames); !isEqualSets(got, want) {
				t.Errorf("Drop(%v, %v) is %v, want %v", l, frames, got, want)
			}
			want, wantEntries := wantedInto(l, frames)
			if got, entries := remset.Into(l, frames); !slices.Equal(got, want) || entries != wantEntries {
				t.Errorf("Into(%v, %v) is %v, %d, want %v, %d", l, frames, got, entries, want, wantEntries)
			}
			if len(want) < wantEntries {
				twice++
			}
		}
		for _, frames := range [][]int{nil, {0}, {1, 1}, {2, 63, -5}, {0, 1}, {63, 64, 0}} {
			expectDrop(t, l, frames, wantedDrop(l, frames))
			want, entries := wantedInto(l, frames)
			expectInto(t, l, frames, want, entries)
		}
	})
	if twice < 100 {
		t.Errorf("only %d had a slot in two sets", twice)
	}
}

func TestDropAndIntoOfAllPairs(t *testing.T) {
	l := allPairs()
	for _, frames := range [][]int{nil, {0}, {63}, {17}, {0, 63}, {40, 8, 40, 9}, {64, -1}, {5, 69, 133}} {
		if got, want := remset.Drop(l, frames), wantedDrop(l, frames); !isEqualSets(got, want) {
			t.Errorf("Drop of all pairs, %v: %d sets, want %d", frames, len(got), len(want))
		}
		want, wantEntries := wantedInto(l, frames)
		if got, entries := remset.Into(l, frames); !slices.Equal(got, want) || entries != wantEntries {
			t.Errorf("Into of all pairs, %v: %d slots and %d entries, want %d and %d", frames, len(got), entries, len(want), wantEntries)
		}
	}
	all := make([]int, 64)
	for f := range all {
		all[f] = 63 - f
	}
	if got := remset.Drop(l, all); len(got) != 0 {
		t.Errorf("Drop of all pairs, all frames: %d sets", len(got))
	}
	if got, entries := remset.Into(l, all); len(got) != 0 || entries != 0 {
		t.Errorf("Into of all pairs, all frames: %d slots and %d entries", len(got), entries)
	}
	for _, f := range []int{0, 30, 63} {
		others := slices.Delete(slices.Clone(all), 63-f, 64-f)
		if got := remset.Drop(l, others); !isEqualSets(got, sets{set(f, f, 1010*f)}) {
			t.Errorf("Drop of all pairs, all frames but %d: %v", f, got)
		}
		if got, entries := remset.Into(l, others); len(got) != 63 || entries != 63 {
			t.Errorf("Into of all pairs, all frames but %d: %d slots and %d entries", f, len(got), entries)
		}
	}
}

func TestDropAndIntoOfManyFramesAndSlots(t *testing.T) {
	// One frame of the sets stands far behind numbers that are none.
	frames := make([]int, 1<<20)
	for k := range frames {
		frames[k] = 64 + k
	}
	frames[len(frames)-1] = 1
	expectDrop(t, example(), frames, sets{set(2, 0, 16, 17)})
	expectInto(t, example(), frames, []int{5, 18}, 2)
	clear(frames)
	expectDrop(t, example(), frames, sets{set(2, 1, 18)})
	expectInto(t, example(), frames, []int{16, 17}, 2)

	slots := manySlots(1 << 18)
	l := sets{set(3, 0, slots...), set(3, 1, slots[100:]...), set(4, 0, slots...), set(4, 3, slots...)}
	if got, entries := remset.Into(l, []int{1, 0}); !slices.Equal(got, slots) || entries != 3<<18-100 {
		t.Errorf("Into of many slots: %d slots and %d entries", len(got), entries)
	}
	if got, entries := remset.Into(l, []int{1}); !slices.Equal(got, slots[100:]) || entries != 1<<18-100 {
		t.Errorf("Into of many slots: %d slots and %d entries", len(got), entries)
	}
	if got := remset.Drop(l, []int{1, 4}); !isEqualSets(got, l[:1]) {
		t.Errorf("Drop of many slots: %d sets", len(got))
	}
}

// Sets whose slots share memory are valid too, but no answer may have them so.
func TestAnswersOfSetsThatShareMemory(t *testing.T) {
	slots := []int{3, 4, 5}
	l := sets{{From: 1, To: 0, Slots: slots}, {From: 1, To: 2, Slots: slots[1:]}, {From: 2, To: 0, Slots: slots}}
	got, err := remset.Insert(l, 1, 3, 9)
	if err != api.OK || !isEqualSets(got, sets{set(1, 0, 3, 4, 5), set(1, 2, 4, 5), set(1, 3, 9), set(2, 0, 3, 4, 5)}) {
		t.Error("Insert", got, err)
	}
	expectOwnMemory(t, got)
	expectOwnMemory(t, remset.Drop(l, nil))
	scribble(remset.Drop(l, []int{2}))
	into, _ := remset.Into(l, []int{2})
	scribbleSlots(into)
	if !slices.Equal(slots, []int{3, 4, 5}) {
		t.Error("the argument has changed", slots)
	}
}

// Consequences

func TestSetsDoNotDependOnTheOrderOfInsertion(t *testing.T) {
	entries := []entry{{2, 0, 17}, {2, 1, 18}, {2, 0, 16}, {0, 1, 5}, {2, 0, 17}, {0, 2, 16}, {1, 63, 0}}
	want := sets{set(0, 1, 5), set(0, 2, 16), set(1, 63, 0), set(2, 0, 16, 17), set(2, 1, 18)}
	eachOrder(entries, func(ordered []entry) {
		if got := inserted(t, nil, ordered); !isEqualSets(got, want) {
			t.Errorf("inserted as %v: %v", ordered, got)
		}
	})
}

func TestManyInsertionsInSeveralOrders(t *testing.T) {
	// The factors below are odd, so that each of them leads through all n entries in another order.
	const n = 1024
	at := func(k int) entry { return entry{k * 7 % 64, k / 16 % 64, k * 5 % 90} }
	var want sets
	for _, factor := range []int{1, 3, 301, 1023} {
		var entries []entry
		for k := range n {
			entries = append(entries, at(k*factor%n))
		}
		got := inserted(t, nil, entries)
		if want == nil {
			want = setsOf(entries)
		}
		if !isEqualSets(got, want) || !remset.Valid(got) {
			t.Errorf("inserted with the factor %d: %d sets, want %d", factor, len(got), len(want))
		}
	}
}

func TestWhatWasInsertedIsThereUntilAFrameIsDropped(t *testing.T) {
	var l sets
	there := map[entry]bool{}
	// The numbers follow a short rule, so that every run is the same.
	number := uint32(1)
	next := func(n int) int {
		number = number*1664525 + 1013904223
		return int(number>>8) % n
	}
	for round := range 600 {
		if next(12) == 0 {
			frames := []int{next(8), next(8), next(100) - 10}
			l = remset.Drop(l, frames)
			for e := range there {
				if slices.Contains(frames, e.from) || slices.Contains(frames, e.to) {
					delete(there, e)
				}
			}
		} else {
			e := entry{next(8), next(8), next(6)}
			l = inserted(t, l, []entry{e})
			there[e] = true
		}
		if !remset.Valid(l) || remset.Count(l) != len(there) {
			t.Fatalf("round %d: %v has %d slots, want %d", round, l, remset.Count(l), len(there))
		}
		for from := range 8 {
			for to := range 8 {
				for slot := range 6 {
					if got := remset.Has(l, from, to, slot); got != there[entry{from, to, slot}] {
						t.Fatalf("round %d: Has(%v, %d, %d, %d) is %t", round, l, from, to, slot, got)
					}
				}
			}
		}
	}
}

// Examples

func TestTwoSlotsOfOnePair(t *testing.T) {
	l := inserted(t, nil, []entry{{2, 0, 17}, {2, 0, 16}, {2, 0, 17}})
	if len(l) != 1 || l[0].From != 2 || l[0].To != 0 || !slices.Equal(l[0].Slots, []int{16, 17}) {
		t.Error("Insert", l)
	}
}
