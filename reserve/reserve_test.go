package reserve_test

import (
	"math"
	"slices"
	"strings"
	"testing"

	"beltway/api"
	"beltway/belt"
	"beltway/bump"
	"beltway/config"
	"beltway/frame"
	"beltway/preset"
	"beltway/reserve"
)

// belts are queues of increments.
type belts = [][]api.Increment

// farNumbers are outside of every range; sums and shifts of some of them wrap around to small numbers.
var farNumbers = []int{math.MinInt, math.MinInt + 1, math.MinInt + 8, -1 << 62, -1 << 33, -1 << 32, -65, -8, -1, 0, 65, 1 << 20, 1 << 32, 1<<40 - 8, 1 << 40, 1<<40 + 1, 1 << 62, math.MaxInt - 8, math.MaxInt - 1, math.MaxInt}

// fresh is a new increment without words.
var fresh = api.Increment{Seq: 1000, First: -1, Last: -1}

// kind is a configuration, of which a test knows whether it is complete.
type kind struct {
	c          api.Config
	isComplete bool
}

// ruled returns the configuration whose rules have these shares, each but the last one with the next one as its target.
func ruled(full int, shares ...float64) api.Config {
	c := api.Config{Name: "a", Full: full}
	for b, x := range shares {
		c.Rules = append(c.Rules, api.Rule{Share: x, Target: min(b+1, len(shares)-1)})
	}
	return c
}

// complete is a complete configuration of n belts.
func complete(n int) api.Config {
	return ruled(8, append(slices.Repeat([]float64{0.25}, n-1), 0)...)
}

// partial is a valid configuration of n belts that is not complete.
func partial(n int) api.Config {
	return ruled(0, slices.Repeat([]float64{0.25}, n)...)
}

// kinds returns configurations of n belts. Of some, all shares but the last one would say the opposite.
func kinds(n int) []kind {
	limited := func(c api.Config) api.Config {
		for b := range n - 1 {
			c.Rules[b].Limit, c.Rules[b].Batch = 1+b, 3
		}
		c.Rules[n-1].Batch = 1
		return c
	}
	return []kind{
		{complete(n), true},
		{limited(ruled(1, make([]float64, n)...)), true},
		{partial(n), false},
		{limited(ruled(0, append(make([]float64, n-1), 1)...)), false},
	}
}

// filled returns a space of n frames of 1 << shift words with valid belts, whose increments have so many words. They take their frames in turns, so that those of one increment do not stand side by side.
func filled(t *testing.T, shift, n int, words [][]int) (api.Space, belts) {
	t.Helper()
	s, err := frame.New(shift, n)
	if err != api.OK {
		t.Fatalf("New(%d, %d): error %d", shift, n, err)
	}
	l := make(belts, len(words))
	for b, queue := range words {
		for k, w := range queue {
			l[b] = append(l[b], api.Increment{Seq: 10*k + 7 - b, Belt: b, First: -1, Last: -1, Words: w})
		}
	}
	for turn, f := 0, 0; turn < n; turn++ {
		for _, queue := range l {
			for k := range queue {
				if turn<<shift < queue[k].Words {
					appendFrame(s, &queue[k], f)
					f++
				}
			}
		}
	}
	if !belt.Valid(s, l) {
		t.Fatalf("%v in %d frames: the belts %v are not valid", words, n, l)
	}
	return s, l
}

// appendFrame gives frame f to the increment, as its last one.
func appendFrame(s api.Space, i *api.Increment, f int) {
	s.Frames[f] = api.Frame{Owner: i.Seq, Stamp: i.Belt*api.BeltStamp + i.Seq, Next: -1}
	if i.First == -1 {
		i.First = f
	} else {
		s.Frames[i.Last].Next = f
	}
	i.Last = f
}

// counts returns how many frames are used, and how many the owner with the most of them has.
func counts(s api.Space) (int, int) {
	used, largest, owned := 0, 0, map[int]int{}
	for _, entry := range s.Frames {
		if entry.Owner != -1 {
			used++
			owned[entry.Owner]++
			largest = max(largest, owned[entry.Owner])
		}
	}
	return used, largest
}

// framesFor returns the least number of frames that have so many words.
func framesFor(s api.Space, words int) int {
	n := 0
	for n*(1<<s.Shift) < words {
		n++
	}
	return n
}

// wantedNeeded says what Needed returns for valid belts, as the promise lists it.
func wantedNeeded(isComplete bool, s api.Space) int {
	used, largest := counts(s)
	if isComplete {
		return used
	}
	return largest
}

// wantedHolds says what Holds reports for valid belts.
func wantedHolds(isComplete bool, s api.Space) bool {
	used, _ := counts(s)
	return len(s.Frames)-used >= wantedNeeded(isComplete, s)
}

// wantedGrants says what Grants reports for valid belts, as the promise lists it.
func wantedGrants(isComplete bool, s api.Space, i api.Increment, n int) bool {
	k := framesFor(s, i.Words+n) - framesFor(s, i.Words)
	if k == 0 {
		return true
	}
	u, largest := counts(s)
	f := len(s.Frames)
	if u+k > f {
		return false
	}
	if isComplete {
		return 2*(u+k) <= f
	}
	return f-(u+k) >= largest && f-(u+k) >= framesFor(s, i.Words)+k
}

// expectHeld compares Needed and Holds with what is wanted.
func expectHeld(t *testing.T, why string, c api.Config, s api.Space, l belts, need int, holds bool) {
	t.Helper()
	if got := reserve.Needed(c, s, l); got != need {
		t.Errorf("%s: Needed of %v in %d frames is %d, want %d", why, l, len(s.Frames), got, need)
	}
	if got := reserve.Holds(c, s, l); got != holds {
		t.Errorf("%s: Holds of %v in %d frames is %t", why, l, len(s.Frames), got)
	}
}

// expectGranted compares Grants with what is wanted.
func expectGranted(t *testing.T, why string, c api.Config, s api.Space, l belts, i api.Increment, n int, want bool) {
	t.Helper()
	if got := reserve.Grants(c, s, l, i, n); got != want {
		t.Errorf("%s: Grants of %v in %d frames is %t for %v and %d words", why, l, len(s.Frames), got, i, n)
	}
}

// eachFilling visits the numbers of words of all increments: up to so many of them, in so many belts, each with 1 word in its last frame, with a few, or with all of them, that take at most as many frames of 8 words as there are.
func eachFilling(frames, belts, increments int, visit func(words [][]int)) {
	var extend func(words [][]int, at, framesLeft, left int)
	extend = func(words [][]int, at, framesLeft, left int) {
		visit(words)
		if left == 0 {
			return
		}
		for b := at; b < belts; b++ {
			for n := 1; n <= framesLeft; n++ {
				for _, last := range []int{1, 5, 8} {
					next := slices.Clone(words)
					next[b] = append(slices.Clone(next[b]), 8*n-8+last)
					extend(next, b, framesLeft-n, left-1)
				}
			}
		}
	}
	extend(make([][]int, belts), 0, frames, increments)
}

// eachHeap visits heaps of up to so many frames of 8 words, with configurations and valid belts.
func eachHeap(t *testing.T, frames int, visit func(x kind, s api.Space, l belts)) {
	t.Helper()
	for f := 2; f <= frames; f++ {
		for n, increments := range map[int]int{1: 3, 2: 3, 3: 2, 4: 1} {
			eachFilling(f, n, increments, func(words [][]int) {
				s, l := filled(t, 3, f, words)
				for _, x := range kinds(n) {
					visit(x, s, l)
				}
			})
		}
	}
}

// growing returns all increments of the belts, and a new one for each belt.
func growing(l belts) []api.Increment {
	all := slices.Concat(l...)
	for b := range l {
		all = append(all, api.Increment{Seq: 1000, Belt: b, First: -1, Last: -1})
	}
	return all
}

func TestKindsAreWhatTheyAreSaidToBe(t *testing.T) {
	for n := 1; n <= api.MaxBelts; n++ {
		for k, x := range kinds(n) {
			if err := config.Check(x.c); err != api.OK || config.Complete(x.c) != x.isComplete {
				t.Errorf("kind %d of %d belts: error %d", k, n, err)
			}
		}
	}
}

// P16.1

func TestNeededAndHoldsThatAreWrittenOut(t *testing.T) {
	for _, x := range []struct {
		why   string
		c     api.Config
		f     int
		words [][]int
		need  int
		holds bool
	}{
		{"complete, no increments, the fewest frames", complete(1), 2, [][]int{nil}, 0, true},
		{"complete, no increments, the most frames", complete(4), 64, make([][]int, 4), 0, true},
		{"complete, exactly as many are free", complete(1), 2, [][]int{{1}}, 1, true},
		{"complete, all of two are used", complete(1), 2, [][]int{{9}}, 2, false},
		{"complete, one increment, more are free", complete(1), 8, [][]int{{24}}, 3, true},
		{"complete, one increment, exactly as many are free", complete(1), 8, [][]int{{25}}, 4, true},
		{"complete, one increment, full frames, exactly as many", complete(1), 8, [][]int{{32}}, 4, true},
		{"complete, one increment, fewer are free", complete(1), 8, [][]int{{33}}, 5, false},
		{"complete, one fewer is free, an odd number", complete(1), 7, [][]int{{25}}, 4, false},
		{"complete, one more is free, an odd number", complete(1), 7, [][]int{{24}}, 3, true},
		{"complete, several increments, exactly as many are free", complete(2), 8, [][]int{{1, 9}, {8}}, 4, true},
		{"complete, several increments, fewer are free", complete(2), 8, [][]int{{1, 9}, {8, 1}}, 5, false},
		{"complete, several increments, one fewer is free", complete(3), 9, [][]int{{1, 9}, nil, {8, 1}}, 5, false},
		{"complete, first belts are empty", complete(4), 10, [][]int{nil, nil, nil, {40}}, 5, true},
		{"complete, last belts are empty", complete(4), 10, [][]int{{8, 8, 8, 8, 8}, nil, nil, nil}, 5, true},
		{"complete, all frames are used", complete(2), 8, [][]int{{32}, {32}}, 8, false},
		{"complete, 32 of 64", complete(2), 64, [][]int{{128}, {128}}, 32, true},
		{"complete, 33 of 64", complete(2), 64, [][]int{{128}, {129}}, 33, false},
		{"otherwise, no increments, the fewest frames", partial(1), 2, [][]int{nil}, 0, true},
		{"otherwise, no increments, the most frames", partial(4), 64, make([][]int, 4), 0, true},
		{"otherwise, one of two", partial(1), 2, [][]int{{8}}, 1, true},
		{"otherwise, both of two by one increment", partial(1), 2, [][]int{{9}}, 2, false},
		{"otherwise, both of two by two increments", partial(1), 2, [][]int{{1, 1}}, 1, false},
		{"otherwise, one increment, exactly as many are free", partial(1), 8, [][]int{{25}}, 4, true},
		{"otherwise, one increment, fewer are free", partial(1), 8, [][]int{{33}}, 5, false},
		{"otherwise, one increment, one fewer is free", partial(1), 7, [][]int{{32}}, 4, false},
		{"otherwise, the first one is the largest, exactly as many are free", partial(2), 8, [][]int{{20, 9}, nil}, 3, true},
		{"otherwise, the first one is the largest, one fewer is free", partial(2), 8, [][]int{{20, 9}, {1}}, 3, false},
		{"otherwise, the last one is the largest, exactly as many are free", partial(2), 8, [][]int{{9}, {8, 17}}, 3, false},
		{"otherwise, the last one is the largest, one more frame", partial(2), 9, [][]int{{9}, {8, 17}}, 3, true},
		{"otherwise, the largest one is in the middle", partial(3), 8, [][]int{{8}, {1, 10, 1}, {3}}, 2, true},
		{"otherwise, the largest one is in the middle, one fewer is free", partial(3), 7, [][]int{{8}, {1, 10, 1}, {3}}, 2, false},
		{"otherwise, all are equal, exactly as many are free", partial(4), 10, [][]int{{9}, {16}, {10}, {15}}, 2, true},
		{"otherwise, all are equal, one fewer is free", partial(4), 9, [][]int{{9}, {16}, {10}, {15}}, 2, false},
		{"otherwise, more than half of the frames are used", partial(1), 8, [][]int{{8, 8, 8, 8, 8, 8, 8}}, 1, true},
		{"otherwise, all frames are used", partial(1), 8, [][]int{{8, 8, 8, 8, 8, 8, 8, 8}}, 1, false},
		{"otherwise, 63 of 64", partial(1), 64, [][]int{slices.Repeat([]int{8}, 63)}, 1, true},
		{"otherwise, 32 of 64", partial(2), 64, [][]int{nil, {256}}, 32, true},
		{"otherwise, 33 of 64", partial(2), 64, [][]int{nil, {257}}, 33, false},
	} {
		s, l := filled(t, 3, x.f, x.words)
		expectHeld(t, x.why, x.c, s, l, x.need, x.holds)
	}
}

func TestNeededAndHoldsOfSmallHeaps(t *testing.T) {
	holds, exact, missed := 0, 0, 0
	eachHeap(t, 6, func(x kind, s api.Space, l belts) {
		need, held := wantedNeeded(x.isComplete, s), wantedHolds(x.isComplete, s)
		expectHeld(t, "a small heap", x.c, s, l, need, held)
		used, _ := counts(s)
		switch left := len(s.Frames) - used - need; {
		case left == 0:
			exact++
		case left == -1:
			missed++
		case held:
			holds++
		}
	})
	if holds < 100 || exact < 100 || missed < 100 {
		t.Errorf("the reserve held in %d heaps, exactly in %d, and was missed by one frame in %d", holds, exact, missed)
	}
}

func TestNeededAndHoldsOfAllSizesOfFrames(t *testing.T) {
	for shift := api.MinShift; shift <= api.MaxShift; shift++ {
		size := 1 << shift
		for _, f := range []int{2, 3, 8, 9, 63, 64} {
			for n := 1; n < f; n++ {
				for _, words := range [][][]int{{{n * size}, {1}}, {{(n-1)*size + 1}, {size}}} {
					s, l := filled(t, shift, f, words)
					expectHeld(t, "complete", complete(2), s, l, n+1, 2*(n+1) <= f)
					expectHeld(t, "otherwise", partial(2), s, l, n, 2*n+1 <= f)
				}
			}
		}
	}
}

// Only whether a configuration is complete makes a difference, whatever its rules are besides.
func TestNeededAndHoldsOfThePresets(t *testing.T) {
	for name, want := range map[string]int{"semispace": 5, "appel": 5, "fixed": 5, "older-first": 3, "xx": 3, "xx100": 5} {
		for _, percent := range []int{1, 25, 100} {
			c, err := preset.Get(name, percent)
			if err != api.OK {
				t.Fatalf("Get(%s, %d): error %d", name, percent, err)
			}
			words := make([][]int, len(c.Rules))
			words[0], words[len(c.Rules)-1] = nil, []int{17, 10}
			for f := 5; f <= 12; f++ {
				s, l := filled(t, 3, f, words)
				expectHeld(t, name, c, s, l, want, f-5 >= want)
			}
		}
	}
}

// P16.2

func TestGrowthsThatAreWrittenOut(t *testing.T) {
	for _, x := range []struct {
		why   string
		c     api.Config
		f     int
		words [][]int
		b, k  int // the increment that grows; k of -1: a new one
		n     int
		want  bool
	}{
		{"complete, within the last frame, to the last word", complete(1), 8, [][]int{{20}}, 0, 0, 4, true},
		{"complete, one word more, 2 (u + k) is f", complete(1), 8, [][]int{{20}}, 0, 0, 5, true},
		{"complete, 2 (u + k) is f, to the last word", complete(1), 8, [][]int{{20}}, 0, 0, 12, true},
		{"complete, one word more is one frame more than f", complete(1), 8, [][]int{{20}}, 0, 0, 13, false},
		{"complete, a full frame, one word more", complete(1), 8, [][]int{{24}}, 0, 0, 1, true},
		{"complete, a full frame, to the last word", complete(1), 8, [][]int{{24}}, 0, 0, 8, true},
		{"complete, a full frame, one word too many", complete(1), 8, [][]int{{24}}, 0, 0, 9, false},
		{"complete, a new one, n of 1", complete(2), 8, [][]int{{20}, nil}, 0, -1, 1, true},
		{"complete, a new one, to the last word", complete(2), 8, [][]int{{20}, nil}, 0, -1, 8, true},
		{"complete, a new one, one word more", complete(2), 8, [][]int{{20}, nil}, 0, -1, 9, false},
		{"complete, a new one on another belt, to the last word", complete(2), 8, [][]int{{20}, nil}, 1, -1, 8, true},
		{"complete, a new one on another belt, one word more", complete(2), 8, [][]int{{20}, nil}, 1, -1, 9, false},
		{"complete, half of the frames are used", complete(1), 8, [][]int{{32}}, 0, 0, 1, false},
		{"complete, half of the frames are used, a new one", complete(1), 8, [][]int{{32}}, 0, -1, 1, false},
		{"complete, an odd number of frames", complete(1), 7, [][]int{{16}}, 0, 0, 8, true},
		{"complete, an odd number of frames, one frame more", complete(1), 7, [][]int{{16}}, 0, 0, 9, false},
		{"complete, a small increment beside a large one", complete(2), 12, [][]int{{1}, {32}}, 0, 0, 15, true},
		{"complete, a small increment beside a large one, one word more", complete(2), 12, [][]int{{1}, {32}}, 0, 0, 16, false},
		{"complete, the fewest frames", complete(1), 2, [][]int{nil}, 0, -1, 8, true},
		{"complete, the fewest frames, one word more", complete(1), 2, [][]int{nil}, 0, -1, 9, false},
		{"complete, the fewest frames, one is used", complete(1), 2, [][]int{{8}}, 0, 0, 1, false},
		{"complete, u + k is f", complete(1), 8, [][]int{{24}}, 0, 0, 40, false},
		{"complete, u + k is one more than f", complete(1), 8, [][]int{{24}}, 0, 0, 41, false},
		{"complete, n of MaxObject, 2 (u + k) is f", complete(1), 12, [][]int{nil}, 0, -1, 48, true},
		{"complete, n of MaxObject, one frame fewer", complete(1), 11, [][]int{nil}, 0, -1, 48, false},
		{"complete, n of MaxObject, u + k is f", complete(1), 6, [][]int{nil}, 0, -1, 48, false},
		{"complete, n of MaxObject, u + k is one more than f", complete(1), 5, [][]int{nil}, 0, -1, 48, false},
		{"complete, within the last frame, the reserve does not hold", complete(2), 8, [][]int{{20}, {10}}, 1, 0, 6, true},
		{"complete, one word more, the reserve does not hold", complete(2), 8, [][]int{{20}, {10}}, 1, 0, 7, false},
		{"complete, within the last frame, no frame is free", complete(1), 2, [][]int{{9}}, 0, 0, 7, true},
		{"complete, one word more, no frame is free", complete(1), 2, [][]int{{9}}, 0, 0, 8, false},
		{"complete, within the last frame, n of 1, no frame is free", complete(1), 2, [][]int{{15}}, 0, 0, 1, true},
		{"complete, a full frame, n of 1, no frame is free", complete(1), 2, [][]int{{16}}, 0, 0, 1, false},
		{"complete, within the last frame, that of the first increment", complete(1), 2, [][]int{{1, 8}}, 0, 0, 7, true},

		{"otherwise, within the last frame, to the last word", partial(1), 8, [][]int{{20}}, 0, 0, 4, true},
		{"otherwise, alone, met exactly, to the last word", partial(1), 8, [][]int{{20}}, 0, 0, 12, true},
		{"otherwise, alone, one word more", partial(1), 8, [][]int{{20}}, 0, 0, 13, false},
		{"otherwise, Largest is greater, met exactly, n of 1", partial(2), 12, [][]int{{8}, {40}}, 0, 0, 1, true},
		{"otherwise, Largest is greater, met exactly, to the last word", partial(2), 12, [][]int{{8}, {40}}, 0, 0, 8, true},
		{"otherwise, Largest is greater, missed by one frame", partial(2), 12, [][]int{{8}, {40}}, 0, 0, 9, false},
		{"otherwise, Largest is greater, one frame fewer", partial(2), 11, [][]int{{8}, {40}}, 0, 0, 8, false},
		{"otherwise, Largest is greater, it is older and on the same belt", partial(1), 12, [][]int{{40, 8}}, 0, 1, 8, true},
		{"otherwise, Largest is greater, it is older, missed by one frame", partial(1), 12, [][]int{{40, 8}}, 0, 1, 9, false},
		{"otherwise, Largest is greater, a new one, met exactly", partial(2), 12, [][]int{nil, {40}}, 0, -1, 16, true},
		{"otherwise, Largest is greater, a new one, missed by one frame", partial(2), 12, [][]int{nil, {40}}, 0, -1, 17, false},
		{"otherwise, bump.Frames(i) + k is greater, met exactly", partial(2), 13, [][]int{{24}, {8}}, 0, 0, 24, true},
		{"otherwise, bump.Frames(i) + k is greater, one word more", partial(2), 13, [][]int{{24}, {8}}, 0, 0, 25, false},
		{"otherwise, bump.Frames(i) + k is greater, missed by one frame", partial(2), 12, [][]int{{24}, {8}}, 0, 0, 24, false},
		{"otherwise, bump.Frames(i) + k is greater, before that", partial(2), 12, [][]int{{24}, {8}}, 0, 0, 16, true},
		{"otherwise, bump.Frames(i) + k is greater, a new one, met exactly", partial(2), 5, [][]int{{8}, nil}, 1, -1, 16, true},
		{"otherwise, bump.Frames(i) + k is greater, a new one, missed by one frame", partial(2), 4, [][]int{{8}, nil}, 1, -1, 16, false},
		{"otherwise, both are equal, met exactly", partial(2), 9, [][]int{{16}, {24}}, 0, 0, 8, true},
		{"otherwise, both are equal, missed by one frame", partial(2), 8, [][]int{{16}, {24}}, 0, 0, 8, false},
		{"otherwise, more than half of the frames are used", partial(1), 8, [][]int{{8, 8, 8, 8, 8, 8}}, 0, -1, 8, true},
		{"otherwise, more than half of the frames are used, one word more", partial(1), 8, [][]int{{8, 8, 8, 8, 8, 8}}, 0, -1, 9, false},
		{"otherwise, more than half of the frames are used, an old one", partial(1), 8, [][]int{{8, 8, 8, 8, 8, 8}}, 0, 5, 1, false},
		{"otherwise, the last free frame", partial(1), 8, [][]int{{8, 8, 8, 8, 8, 8, 8}}, 0, -1, 1, false},
		{"otherwise, u + k is f", partial(1), 8, [][]int{{8, 8, 8}}, 0, -1, 40, false},
		{"otherwise, u + k is one more than f", partial(1), 8, [][]int{{8, 8, 8}}, 0, -1, 41, false},
		{"otherwise, the fewest frames", partial(1), 2, [][]int{nil}, 0, -1, 8, true},
		{"otherwise, the fewest frames, one word more", partial(1), 2, [][]int{nil}, 0, -1, 9, false},
		{"otherwise, n of MaxObject, met exactly", partial(1), 12, [][]int{nil}, 0, -1, 48, true},
		{"otherwise, n of MaxObject, one frame fewer", partial(1), 11, [][]int{nil}, 0, -1, 48, false},
		{"otherwise, n of MaxObject, u + k is f", partial(1), 6, [][]int{nil}, 0, -1, 48, false},
		{"otherwise, n of MaxObject, u + k is one more than f", partial(1), 5, [][]int{nil}, 0, -1, 48, false},
		{"otherwise, within the last frame, the reserve does not hold", partial(1), 8, [][]int{{36}}, 0, 0, 4, true},
		{"otherwise, one word more, the reserve does not hold", partial(1), 8, [][]int{{36}}, 0, 0, 5, false},
		{"otherwise, within the last frame, no frame is free", partial(1), 2, [][]int{{1, 5}}, 0, 1, 3, true},
		{"otherwise, one word more, no frame is free", partial(1), 2, [][]int{{1, 5}}, 0, 1, 4, false},
		{"otherwise, within the last frame, that of the first increment", partial(1), 2, [][]int{{1, 8}}, 0, 0, 7, true},
		{"otherwise, a full frame, n of 1, no frame is free", partial(1), 2, [][]int{{1, 8}}, 0, 1, 1, false},
	} {
		s, l := filled(t, 3, x.f, x.words)
		i := api.Increment{Seq: 1000, Belt: x.b, First: -1, Last: -1}
		if x.k >= 0 {
			i = l[x.b][x.k]
		}
		expectGranted(t, x.why, x.c, s, l, i, x.n, x.want)
	}
}

func TestGrowthsInSmallHeaps(t *testing.T) {
	granted, refused := map[bool]int{}, map[bool]int{}
	eachHeap(t, 5, func(x kind, s api.Space, l belts) {
		for _, i := range growing(l) {
			for n := 1; n <= api.MaxObject; n++ {
				want := wantedGrants(x.isComplete, s, i, n)
				expectGranted(t, "a small heap", x.c, s, l, i, n, want)
				if want {
					granted[x.isComplete]++
				} else {
					refused[x.isComplete]++
				}
			}
		}
	})
	if min(granted[true], granted[false], refused[true], refused[false]) < 1000 {
		t.Errorf("%v were granted, %v refused", granted, refused)
	}
}

func TestGrowthsInMiddleHeaps(t *testing.T) {
	for f := 6; f <= 20; f++ {
		for large := 1; large < f; large++ {
			for small := 1; small <= large && small+large <= f; small++ {
				s, l := filled(t, 3, f, [][]int{{8*large - 3}, {8 * small}})
				for _, x := range kinds(2) {
					for _, i := range growing(l) {
						for n := 1; n <= api.MaxObject; n++ {
							expectGranted(t, "a middle heap", x.c, s, l, i, n, wantedGrants(x.isComplete, s, i, n))
						}
					}
				}
			}
		}
	}
}

func TestGrowthsInTheLargestHeaps(t *testing.T) {
	for shift := api.MinShift; shift <= api.MaxShift; shift++ {
		size := 1 << shift
		for _, used := range []int{1, 20, 30, 31, 32, 33, 61, 62, 63, 64} {
			for _, words := range [][][]int{
				{{used * size}, nil}, {nil, {(used-1)*size + 1}}, {{size}, {max(1, used-1)*size - 5}},
				{slices.Repeat([]int{size}, used-1), {size - 2}},
			} {
				s, l := filled(t, shift, api.MaxFrames, words)
				for _, x := range kinds(2) {
					for _, i := range growing(l) {
						for _, n := range []int{1, 2, 5, 6, 8, 9, 16, 17, 31, 32, 33, 47, api.MaxObject} {
							expectGranted(t, "a large heap", x.c, s, l, i, n, wantedGrants(x.isComplete, s, i, n))
						}
					}
				}
			}
		}
	}
}

// A new increment has no frame, also where its Seq is that of one that has some.
func TestGrowthsOfNewIncrementsWithAnySeqAndBelt(t *testing.T) {
	s, l := filled(t, 3, 8, [][]int{{20}, nil})
	for _, seq := range []int{0, 6, 7, 8, api.MaxSeq} {
		for b := range 2 {
			i := api.Increment{Seq: seq, Belt: b, First: -1, Last: -1}
			// Three frames are used, all by one increment: half of the frames leave one, and the reserve for three leaves two.
			expectGranted(t, "complete, to the last word", complete(2), s, l, i, 8, true)
			expectGranted(t, "complete, one word more", complete(2), s, l, i, 9, false)
			expectGranted(t, "otherwise, to the last word", partial(2), s, l, i, 16, true)
			expectGranted(t, "otherwise, one word more", partial(2), s, l, i, 17, false)
		}
	}
}

// Consequences

// grown returns the heap after a growth of an increment of the belts or of a new one.
func grown(t *testing.T, s api.Space, l belts, i api.Increment, n int) (api.Space, belts) {
	t.Helper()
	s, after, _, err := bump.Alloc(s, i, n)
	if err != api.OK {
		t.Fatalf("Alloc of %d words for %v, which were granted: error %d", n, i, err)
	}
	var out belts
	if i.Words > 0 {
		out, err = belt.Replace(l, after)
	} else {
		out, err = belt.Add(l, after)
	}
	if err != api.OK || !belt.Valid(s, out) {
		t.Fatalf("the belts %v after a growth of %v by %d: error %d", out, i, n, err)
	}
	return s, out
}

func TestReserveHoldsAfterGrowthsThatWereGranted(t *testing.T) {
	checked := 0
	eachHeap(t, 4, func(x kind, s api.Space, l belts) {
		held := reserve.Holds(x.c, s, l)
		for _, i := range growing(l) {
			for n := 1; n <= api.MaxObject; n++ {
				if !reserve.Grants(x.c, s, l, i, n) {
					continue
				}
				after, out := grown(t, s, l, i, n)
				if held && !reserve.Holds(x.c, after, out) {
					t.Errorf("the reserve of %v held in %d frames, but not after a growth of %v by %d", l, len(s.Frames), i, n)
				}
				checked++
			}
		}
	})
	if checked < 10000 {
		t.Errorf("only %d growths were granted", checked)
	}
}

func TestReserveHoldsWhateverGrowsFromAnEmptyHeap(t *testing.T) {
	growths := 0
	for _, x := range kinds(3) {
		for f := 2; f <= 40; f++ {
			s, l := filled(t, 3, f, make([][]int, 3))
			for k, refused := 0, 0; refused < 20 && k < 1000; k++ {
				n, b := k*29%api.MaxObject+1, k%3
				i, ok := belt.Youngest(l, b)
				if !ok || k%5 == 0 {
					i = api.Increment{Seq: k, Belt: b, First: -1, Last: -1}
				}
				if !reserve.Grants(x.c, s, l, i, n) {
					refused++
					continue
				}
				if s, l = grown(t, s, l, i, n); !reserve.Holds(x.c, s, l) {
					t.Fatalf("the reserve does not hold for %v in %d frames", l, f)
				}
				growths++
			}
		}
	}
	if growths < 500 {
		t.Errorf("only %d growths were granted", growths)
	}
}

func TestGrowthsWithinTheLastFrameAreAlwaysGranted(t *testing.T) {
	eachHeap(t, 5, func(x kind, s api.Space, l belts) {
		for _, i := range slices.Concat(l...) {
			for n := 1; n <= -i.Words&7; n++ {
				expectGranted(t, "within the last frame", x.c, s, l, i, n, true)
			}
		}
	})
	for _, c := range []api.Config{complete(2), partial(2)} {
		for _, words := range []int{1, 8, 207, 208} {
			s, l := filled(t, 8, 2, [][]int{{words}, {256}})
			expectGranted(t, "MaxObject words within the last frame", c, s, l, l[0][0], api.MaxObject, true)
			expectGranted(t, "a full frame", c, s, l, l[1][0], 1, false)
		}
		s, l := filled(t, 8, 2, [][]int{{209}, {256}})
		expectGranted(t, "to the last word", c, s, l, l[0][0], api.MaxObject-1, true)
		expectGranted(t, "one word more", c, s, l, l[0][0], api.MaxObject, false)
	}
}

// Rules

// cloneConfig returns a copy of c whose name, too, is in other memory.
func cloneConfig(c api.Config) api.Config {
	return api.Config{Name: strings.Clone(c.Name), Rules: slices.Clone(c.Rules), Full: c.Full}
}

// isEqualRule compares shares by their bits, for one that is not a number is not equal to itself.
func isEqualRule(a, b api.Rule) bool {
	return math.Float64bits(a.Share) == math.Float64bits(b.Share) && a.Limit == b.Limit && a.Batch == b.Batch && a.Target == b.Target
}

func isEqualConfig(a, b api.Config) bool {
	return a.Name == b.Name && a.Full == b.Full && slices.EqualFunc(a.Rules, b.Rules, isEqualRule)
}

func cloneBelts(l belts) belts {
	var out belts
	for _, queue := range l {
		out = append(out, slices.Clone(queue))
	}
	return out
}

// behind returns a slice with the same elements that has memory behind its end, and all of this memory.
func behind[T any](elements []T, guard T) ([]T, []T) {
	memory := append(slices.Clone(elements), guard, guard)
	return memory[:len(elements)], memory
}

// within returns belts of which every slice has memory behind its end, in which l and its queues stand one directly behind the other: what is written behind an end changes another queue, or the guard at the end.
func within(l belts) (belts, []api.Increment, belts) {
	guard := api.Increment{Seq: -99, Belt: -99, First: -99, Last: -99, Words: -99}
	memory := append(slices.Concat(l...), guard)
	queues, at := belts{}, 0
	for _, queue := range l {
		queues = append(queues, memory[at:at+len(queue)])
		at += len(queue)
	}
	queues = append(queues, []api.Increment{guard})
	return queues[:len(l)], memory, queues
}

// answers are what the three functions say of a heap, Grants for each of some growths.
type answers struct {
	need   int
	holds  bool
	grants []bool
}

func askAll(c api.Config, s api.Space, l belts, increments []api.Increment, numbers []int) answers {
	out := answers{need: reserve.Needed(c, s, l), holds: reserve.Holds(c, s, l)}
	for _, i := range increments {
		for _, n := range numbers {
			out.grants = append(out.grants, reserve.Grants(c, s, l, i, n))
		}
	}
	return out
}

// expectSteady checks that the functions end, answer the same when called again with equal arguments in other memory, and change nothing in their arguments or behind their ends.
func expectSteady(t *testing.T, why string, c api.Config, s api.Space, l belts, increments []api.Increment, numbers []int) {
	t.Helper()
	inC, inS := cloneConfig(c), s
	var rules []api.Rule
	var words []uint64
	var frames []api.Frame
	inC.Rules, rules = behind(c.Rules, api.Rule{Share: 0.125, Target: -99})
	inS.Words, words = behind(s.Words, 99)
	inS.Frames, frames = behind(s.Frames, api.Frame{Owner: -1, Stamp: 99, Next: 99})
	inL, memory, queues := within(l)
	rulesBefore, wordsBefore, framesBefore := slices.Clone(rules), slices.Clone(words), slices.Clone(frames)
	memoryBefore, queuesBefore := slices.Clone(memory), cloneBelts(queues)
	first := askAll(inC, inS, inL, increments, numbers)
	again := askAll(inC, inS, inL, increments, numbers)
	other := askAll(c, s, l, increments, numbers)
	for _, x := range []answers{again, other} {
		if x.need != first.need || x.holds != first.holds || !slices.Equal(x.grants, first.grants) {
			t.Errorf("%s: the answers are %v, and %v when asked again", why, first, x)
		}
	}
	if !slices.EqualFunc(rules, rulesBefore, isEqualRule) || !isEqualConfig(inC, c) || !slices.Equal(words, wordsBefore) || !slices.Equal(frames, framesBefore) || inS.Shift != s.Shift || !slices.Equal(memory, memoryBefore) || !slices.EqualFunc(queues, queuesBefore, slices.Equal) {
		t.Errorf("%s: the arguments have changed to %v, %v and %v", why, inC, inS.Frames, inL)
	}
}

func TestArgumentsStayAsTheyAre(t *testing.T) {
	eachHeap(t, 3, func(x kind, s api.Space, l belts) {
		expectSteady(t, "a small heap", x.c, s, l, growing(l), []int{1, 7, 8, 9, 16, 17, api.MaxObject})
	})
}

// badConfigs are not valid: nothing is promised for them but the rules.
func badConfigs() []api.Config {
	out := []api.Config{{}, {Name: "a"}, {Name: "a", Rules: make([]api.Rule, 5), Full: 8}, {Name: "", Rules: complete(2).Rules, Full: 8}, ruled(0, 0.5, 0), ruled(8, 0.5), ruled(0, math.NaN()), ruled(0, math.Inf(1)), ruled(8, 0.5, math.Copysign(0, -1)), {Name: "a", Rules: make([]api.Rule, 1<<12), Full: 8}}
	for _, n := range farNumbers {
		for _, c := range []api.Config{complete(3), partial(3)} {
			c.Full = n
			out = append(out, c, api.Config{Name: "a", Full: 8, Rules: []api.Rule{{Target: n}, {Limit: n, Batch: n, Target: 1}}})
		}
	}
	return out
}

// badSpaces are not valid, most of them because of one number.
func badSpaces() []api.Space {
	out := []api.Space{{}, {Shift: 3}, {Shift: 3, Words: make([]uint64, 64)}, {Shift: 3, Frames: make([]api.Frame, 8)}, {Shift: 3, Words: make([]uint64, 8), Frames: make([]api.Frame, 1)}}
	for _, n := range append([]int{2, 9, 20, 21, 63, 64}, farNumbers...) {
		out = append(out, api.Space{Shift: n, Words: make([]uint64, 64), Frames: make([]api.Frame, 8)})
		for _, entry := range []api.Frame{{Owner: n}, {Stamp: n}, {Next: n}, {Owner: n, Stamp: n, Next: n}} {
			out = append(out, api.Space{Shift: 3, Words: make([]uint64, 64), Frames: slices.Repeat([]api.Frame{entry}, 8)})
		}
	}
	return append(out, api.Space{Shift: 3, Words: make([]uint64, 65*8), Frames: slices.Repeat([]api.Frame{{Owner: -1, Stamp: -1, Next: -1}}, 65)})
}

// badIncrements have numbers that are far outside, or that do not fit together.
func badIncrements() []api.Increment {
	out := []api.Increment{{}, {Words: 5}, {First: -1, Last: -1, Words: 9}}
	for _, n := range farNumbers {
		out = append(out, api.Increment{Seq: n, First: -1, Last: -1}, api.Increment{Belt: n, First: -1, Last: -1}, api.Increment{First: n, Last: n, Words: 3}, api.Increment{First: -1, Last: -1, Words: n}, api.Increment{Seq: n, Belt: n, First: n, Last: n, Words: n})
	}
	return out
}

func TestBadConfigurations(t *testing.T) {
	s, l := filled(t, 3, 8, [][]int{{20}, {9}})
	for _, c := range badConfigs() {
		expectSteady(t, "a bad configuration", c, s, l, growing(l), []int{1, 8, api.MaxObject})
	}
}

func TestBadSpaces(t *testing.T) {
	_, l := filled(t, 3, 8, [][]int{{20}, {9}})
	for _, s := range badSpaces() {
		for _, c := range []api.Config{complete(2), partial(2), {}} {
			expectSteady(t, "a bad space", c, s, l, append(badIncrements(), growing(l)...), append([]int{1, 8, api.MaxObject}, farNumbers...))
		}
	}
}

func TestBadBeltsAndIncrements(t *testing.T) {
	s, good := filled(t, 3, 8, [][]int{{20}, {9}})
	all := []belts{nil, {}, {nil}, make(belts, 5), {badIncrements()}, {nil, badIncrements(), good[0]}, {good[1], good[0]}, {good[0], good[0], good[1], good[1], good[0]}}
	for _, i := range badIncrements() {
		all = append(all, belts{{i}, nil}, belts{good[0], {i}})
	}
	for _, l := range all {
		for _, c := range []api.Config{complete(2), partial(2), complete(4), partial(1), {}} {
			expectSteady(t, "bad belts", c, s, l, append(badIncrements(), good[0][0], fresh), append([]int{1, 8, api.MaxObject}, farNumbers...))
		}
	}
}

func TestNumbersOfWordsThatAreNotPermitted(t *testing.T) {
	s, l := filled(t, 3, 8, [][]int{{20}, {9}})
	for _, x := range kinds(2) {
		expectSteady(t, "bad numbers of words", x.c, s, l, growing(l), append([]int{-9, -4, api.MaxObject + 1, 1000}, farNumbers...))
	}
}

func TestManyElements(t *testing.T) {
	s := api.Space{Shift: 3, Words: make([]uint64, 1<<18), Frames: make([]api.Frame, 1<<17)}
	l := append(make(belts, 1<<10), slices.Repeat([]api.Increment{{Words: 20}}, 1<<17))
	for _, c := range []api.Config{complete(2), partial(2), {Name: strings.Repeat("a", 1<<18), Rules: make([]api.Rule, 1<<17), Full: 8}} {
		expectSteady(t, "many elements", c, s, l, []api.Increment{fresh, {Words: 20}}, []int{1, 8, api.MaxObject})
	}
}

// Examples

func TestOneMoreFrameIsGrantedAndTwoMoreAreNot(t *testing.T) {
	// 3 of 8 frames are used, all of their words.
	s, l := filled(t, 3, 8, [][]int{{24}})
	for _, i := range growing(l) {
		expectGranted(t, "one more", complete(1), s, l, i, 8, true)
		expectGranted(t, "two more", complete(1), s, l, i, 9, false)
		expectGranted(t, "two more, all of their words", complete(1), s, l, i, 16, false)
	}
}
