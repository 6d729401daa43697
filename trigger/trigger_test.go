package trigger_test

import (
	"math"
	"slices"
	"strings"
	"testing"

	"beltway/api"
	"beltway/belt"
	"beltway/bump"
	"beltway/config"
	"beltway/frame"
	"beltway/preset"
	"beltway/reserve"
	"beltway/trigger"
)

// belts are queues of increments.
type belts = [][]api.Increment

// farNumbers are outside of every range; sums and shifts of some of them wrap around to small numbers.
var farNumbers = []int{math.MinInt, math.MinInt + 1, math.MinInt + 8, -1 << 62, -1 << 33, -1 << 32, -1<<32 + 50, -65, -8, -1, 1 << 33, 1<<40 - 8, 1 << 40, 1<<40 + 1, 1 << 62, math.MaxInt - 8, math.MaxInt - 1, math.MaxInt}

// Kinds of configurations.
const (
	complete = true
	partial  = false
)

// nursery returns a configuration of n belts, of which the first one has this share and Limit, and the others have no Limit. Its last belt has no cap if the configuration is complete. A single belt is the last one: it has no Limit, and its share says whether it is complete.
func nursery(isComplete bool, n int, share float64, limit int) api.Config {
	c := api.Config{Name: "a", Rules: make([]api.Rule, n)}
	for b := range c.Rules {
		c.Rules[b] = api.Rule{Share: 0.75, Batch: 3, Target: min(b+1, n-1)}
	}
	if isComplete {
		c.Rules[n-1].Share, c.Full = 0, 8
	}
	c.Rules[0].Share, c.Rules[0].Limit = share, limit
	return c
}

// filled returns a space of n frames of 1 << shift words with valid belts, whose increments have so many words. They take their frames in turns, so that those of one increment do not stand side by side. Increment k of belt b has the Seq 10 * k + 7 - b.
func filled(t *testing.T, shift, n int, words [][]int) (api.Space, belts) {
	t.Helper()
	s, err := frame.New(shift, n)
	if err != api.OK {
		t.Fatalf("New(%d, %d): error %d", shift, n, err)
	}
	l := make(belts, len(words))
	for b, queue := range words {
		for k, w := range queue {
			l[b] = append(l[b], api.Increment{Seq: 10*k + 7 - b, Belt: b, First: -1, Last: -1, Words: w})
		}
	}
	for turn, f := 0, 0; turn < n; turn++ {
		for _, queue := range l {
			for k := range queue {
				if turn<<shift < queue[k].Words {
					appendFrame(s, &queue[k], f)
					f++
				}
			}
		}
	}
	if !belt.Valid(s, l) {
		t.Fatalf("%v in %d frames: the belts %v are not valid", words, n, l)
	}
	return s, l
}

// appendFrame gives frame f to the increment, as its last one.
func appendFrame(s api.Space, i *api.Increment, f int) {
	s.Frames[f] = api.Frame{Owner: i.Seq, Stamp: i.Belt*api.BeltStamp + i.Seq, Next: -1}
	if i.First == -1 {
		i.First = f
	} else {
		s.Frames[i.Last].Next = f
	}
	i.Last = f
}

// framesFor returns the least number of frames that have so many words.
func framesFor(s api.Space, words int) int {
	n := 0
	for n*(1<<s.Shift) < words {
		n++
	}
	return n
}

// isGranted says whether the reserve lets an increment of so many words grow by n, as chapter 16 lists it.
func isGranted(isComplete bool, s api.Space, l belts, words, n int) bool {
	has := framesFor(s, words)
	k := framesFor(s, words+n) - has
	if k == 0 {
		return true
	}
	used, largest := k, 0
	for _, i := range slices.Concat(l...) {
		used += framesFor(s, i.Words)
		largest = max(largest, framesFor(s, i.Words))
	}
	free := len(s.Frames) - used
	if isComplete {
		return free >= used
	}
	return free >= largest && free >= has+k
}

// wantedPlan says what Decide plans, as the promise lists it, for arguments that are permitted and a share of belt 0 whose products with numbers of frames are exact.
func wantedPlan(c api.Config, s api.Space, l belts, seq, n int) (int, api.Increment) {
	isComplete := c.Rules[len(c.Rules)-1].Share == 0
	share, limit, have := c.Rules[0].Share, c.Rules[0].Limit, len(l[0])
	most := len(s.Words) + 1
	if share != 0 {
		most = max(1, int(share*float64(len(s.Frames)))) << s.Shift
	}
	if have > 0 && l[0][have-1].Words < most {
		if isGranted(isComplete, s, l, l[0][have-1].Words, n) {
			return api.PlanAppend, l[0][have-1]
		}
		return api.PlanCollect, api.Increment{}
	}
	if limit > 0 && have >= limit || !isGranted(isComplete, s, l, 0, n) {
		return api.PlanCollect, api.Increment{}
	}
	return api.PlanOpen, opened(seq)
}

// opened is the increment that is opened with this Seq.
func opened(seq int) api.Increment {
	return api.Increment{Seq: seq, Belt: 0, First: -1, Last: -1, Words: 0}
}

// nextSeq returns the least Seq that is greater than all of those in l.
func nextSeq(l belts) int {
	next := 0
	for _, i := range slices.Concat(l...) {
		next = max(next, i.Seq+1)
	}
	return next
}

// expectPlan compares Decide with the plan and increment that are wanted.
func expectPlan(t *testing.T, why string, c api.Config, s api.Space, l belts, seq, n, plan int, i api.Increment) {
	t.Helper()
	if gotPlan, got, err := trigger.Decide(c, s, l, seq, n); gotPlan != plan || got != i || err != api.OK {
		t.Errorf("%s: Decide(%v, %d frames, %v, %d, %d) is %d, %v and error %d, want %d and %v", why, c, len(s.Frames), l, seq, n, gotPlan, got, err, plan, i)
	}
}

// expectErrArg checks that Decide refuses its arguments, and returns nothing else.
func expectErrArg(t *testing.T, why string, c api.Config, s api.Space, l belts, seq, n int) {
	t.Helper()
	if plan, i, err := trigger.Decide(c, s, l, seq, n); plan != 0 || i != (api.Increment{}) || err != api.ErrArg {
		t.Errorf("%s: Decide(%v, %d frames, %v, %d, %d) is %d, %v and error %d", why, c, len(s.Frames), l, seq, n, plan, i, err)
	}
}

// eachFilling visits the numbers of words of all increments: up to so many of them, in so many belts, each with 1 word in its last frame, with 5, with 7, or with all of them, that take at most as many frames of 8 words as there are.
func eachFilling(frames, belts, increments int, visit func(words [][]int)) {
	var extend func(words [][]int, at, framesLeft, left int)
	extend = func(words [][]int, at, framesLeft, left int) {
		visit(words)
		if left == 0 {
			return
		}
		for b := at; b < belts; b++ {
			for n := 1; n <= framesLeft; n++ {
				for _, last := range []int{1, 5, 7, 8} {
					next := slices.Clone(words)
					next[b] = append(slices.Clone(next[b]), 8*n-8+last)
					extend(next, b, framesLeft-n, left-1)
				}
			}
		}
	}
	extend(make([][]int, belts), 0, frames, increments)
}

// eachHeap visits heaps of up to so many frames of 8 words, with configurations and valid belts.
func eachHeap(t *testing.T, frames int, visit func(c api.Config, s api.Space, l belts)) {
	t.Helper()
	for f := 2; f <= frames; f++ {
		for n, increments := range map[int]int{1: 3, 2: 3, 3: 2, 4: 1} {
			configs := nurseries(n)
			eachFilling(f, n, increments, func(words [][]int) {
				s, l := filled(t, 3, f, words)
				for _, c := range configs {
					visit(c, s, l)
				}
			})
		}
	}
}

// nurseries returns configurations of n belts whose first belts have several shares and Limits.
func nurseries(n int) []api.Config {
	if n == 1 {
		return []api.Config{nursery(complete, 1, 0, 0), nursery(partial, 1, 0.015625, 0), nursery(partial, 1, 0.5, 0), nursery(partial, 1, 1, 0)}
	}
	var out []api.Config
	for _, isComplete := range []bool{complete, partial} {
		for _, share := range []float64{0, 0.015625, 0.5, 1} {
			for limit := range 3 {
				out = append(out, nursery(isComplete, n, share, limit))
			}
		}
	}
	return out
}

func TestConfigurationsAreWhatTheyAreSaidToBe(t *testing.T) {
	for n := 1; n <= api.MaxBelts; n++ {
		for k, c := range nurseries(n) {
			if err := config.Check(c); err != api.OK || config.Complete(c) != (c.Rules[n-1].Share == 0) {
				t.Errorf("configuration %d of %d belts: error %d", k, n, err)
			}
		}
	}
}

// P17.1

func TestPlansThatAreWrittenOut(t *testing.T) {
	// In 16 frames of 8 words, the cap of a quarter is 4 frames, 32 words.
	quarter := func(isComplete bool, limit int) api.Config { return nursery(isComplete, 2, 0.25, limit) }
	for _, x := range []struct {
		why   string
		c     api.Config
		f     int
		words [][]int
		n     int
		plan  int
	}{
		{"no increment at all", quarter(complete, 0), 16, [][]int{nil, nil}, 1, api.PlanOpen},
		{"no increment at all, a Limit", quarter(complete, 1), 16, [][]int{nil, nil}, 1, api.PlanOpen},
		{"no increment at all, the largest object", quarter(complete, 1), 16, [][]int{nil, nil}, 48, api.PlanOpen},
		{"no increment at all, the largest object, granted exactly", quarter(partial, 1), 12, [][]int{nil, nil}, 48, api.PlanOpen},
		{"no increment at all, the largest object, one frame fewer", quarter(partial, 1), 11, [][]int{nil, nil}, 48, api.PlanCollect},
		{"no increment at all, the fewest frames", quarter(complete, 1), 2, [][]int{nil, nil}, 8, api.PlanOpen},
		{"no increment at all, the fewest frames, one word more", quarter(complete, 1), 2, [][]int{nil, nil}, 9, api.PlanCollect},
		{"no increment in belt 0, granted", quarter(complete, 1), 16, [][]int{nil, {48}}, 16, api.PlanOpen},
		{"no increment in belt 0, one word more", quarter(complete, 1), 16, [][]int{nil, {48}}, 17, api.PlanCollect},
		{"no increment in belt 0, no Limit, one word more", quarter(complete, 0), 16, [][]int{nil, {48}}, 17, api.PlanCollect},
		{"no increment in belt 0, the one of belt 1 would take more", quarter(complete, 1), 16, [][]int{nil, {57}}, 7, api.PlanCollect},
		{"no increment in belt 0, granted, not complete", quarter(partial, 1), 16, [][]int{nil, {48}}, 32, api.PlanOpen},
		{"no increment in belt 0, one word more, not complete", quarter(partial, 1), 16, [][]int{nil, {48}}, 33, api.PlanCollect},
		{"no increment in belt 0, more of belt 1 than the Limit", quarter(partial, 1), 16, [][]int{nil, {8, 8, 8}}, 1, api.PlanOpen},

		{"the youngest is open, within its last frame", quarter(complete, 1), 16, [][]int{{27}, nil}, 5, api.PlanAppend},
		{"the youngest is open, granted exactly", quarter(complete, 1), 16, [][]int{{31}, nil}, 33, api.PlanAppend},
		{"the youngest is open, one word more", quarter(complete, 1), 16, [][]int{{31}, nil}, 34, api.PlanCollect},
		{"the youngest is open, one word more, no Limit", quarter(complete, 0), 16, [][]int{{31}, nil}, 34, api.PlanCollect},
		{"the youngest is open, granted exactly, not complete", quarter(partial, 1), 16, [][]int{{24}, nil}, 40, api.PlanAppend},
		{"the youngest is open, one word more, not complete", quarter(partial, 1), 16, [][]int{{24}, nil}, 41, api.PlanCollect},
		{"the youngest is open and not granted, a new one would be", nursery(partial, 2, 1, 0), 8, [][]int{{24}, nil}, 16, api.PlanCollect},
		{"the same, but the youngest is full", nursery(partial, 2, 0.25, 0), 8, [][]int{{24}, nil}, 16, api.PlanOpen},
		{"the youngest is open, the oldest is full", quarter(complete, 0), 16, [][]int{{32, 3}, nil}, 1, api.PlanAppend},
		{"the youngest is open, two older ones are full", quarter(complete, 3), 16, [][]int{{8, 32, 3}, nil}, 1, api.PlanAppend},
		{"the youngest is open, the Limit is reached", quarter(complete, 2), 16, [][]int{{8, 31}, nil}, 1, api.PlanAppend},
		{"the youngest is open, the Limit is passed", quarter(complete, 1), 16, [][]int{{8, 31}, nil}, 1, api.PlanAppend},
		{"the youngest is open, the Limit is reached, it is not granted", quarter(complete, 1), 16, [][]int{{31}, {32}}, 2, api.PlanCollect},
		{"the youngest is open, the reserve does not hold, within its last frame", nursery(complete, 2, 1, 1), 2, [][]int{{9}, nil}, 7, api.PlanAppend},
		{"the youngest is open, the reserve does not hold, one word more", nursery(complete, 2, 1, 1), 2, [][]int{{9}, nil}, 8, api.PlanCollect},

		{"the youngest is full, the Limit is 0", quarter(complete, 0), 16, [][]int{{32}, nil}, 1, api.PlanOpen},
		{"the youngest is full, the Limit is 0, many increments", quarter(partial, 0), 62, [][]int{slices.Repeat([]int{120}, 3), nil}, 1, api.PlanOpen},
		{"the youngest is full, the Limit is not reached", quarter(complete, 2), 16, [][]int{{32}, nil}, 1, api.PlanOpen},
		{"the youngest is full, the Limit is just reached", quarter(complete, 1), 16, [][]int{{32}, nil}, 1, api.PlanCollect},
		{"the youngest is full, the Limit is passed", quarter(complete, 1), 32, [][]int{{64, 64}, nil}, 1, api.PlanCollect},
		{"the youngest is full, two of a Limit of 3", nursery(partial, 2, 0.015625, 3), 16, [][]int{{8, 8}, nil}, 8, api.PlanOpen},
		{"the youngest is full, three of a Limit of 3", nursery(partial, 2, 0.015625, 3), 16, [][]int{{8, 8, 8}, nil}, 8, api.PlanCollect},
		{"the youngest is full, four of a Limit of 3", nursery(partial, 2, 0.015625, 3), 16, [][]int{{8, 8, 8, 8}, nil}, 8, api.PlanCollect},
		{"the youngest is full, 62 of the greatest Limit", nursery(partial, 2, 0.015625, api.MaxCount), 64, [][]int{slices.Repeat([]int{8}, 62), nil}, 8, api.PlanOpen},
		{"the youngest is full, more of belt 1 than the Limit", nursery(partial, 2, 0.015625, 2), 16, [][]int{{8}, {8, 8, 8}}, 8, api.PlanOpen},
		{"the youngest is full, the oldest is open", quarter(complete, 2), 16, [][]int{{3, 32}, nil}, 1, api.PlanCollect},
		{"the youngest is full, the oldest is open, the Limit is 0", quarter(complete, 0), 16, [][]int{{3, 32}, nil}, 1, api.PlanOpen},
		{"the youngest is full, a new one is granted exactly", quarter(complete, 2), 16, [][]int{{32}, nil}, 32, api.PlanOpen},
		{"the youngest is full, a new one is not granted", quarter(complete, 2), 16, [][]int{{32}, nil}, 33, api.PlanCollect},
		{"the youngest is full, a new one is granted exactly, not complete", quarter(partial, 0), 16, [][]int{{32}, nil}, 48, api.PlanOpen},
		{"the youngest is full, a new one is not granted, not complete", quarter(partial, 0), 15, [][]int{{32}, nil}, 41, api.PlanCollect},
		{"the youngest is full, its last frame would take more", quarter(complete, 0), 16, [][]int{{57}, nil}, 7, api.PlanCollect},

		{"the cap is missed by one word", quarter(complete, 0), 16, [][]int{{31}, nil}, 1, api.PlanAppend},
		{"the cap is met exactly", quarter(complete, 0), 16, [][]int{{32}, nil}, 1, api.PlanOpen},
		{"the cap is passed by one word", quarter(complete, 0), 16, [][]int{{33}, nil}, 1, api.PlanOpen},
		{"the cap is missed by one word, the object passes it", quarter(complete, 1), 16, [][]int{{31}, nil}, 2, api.PlanAppend},
		{"the cap is rounded down, missed by one word", quarter(complete, 0), 15, [][]int{{23}, nil}, 1, api.PlanAppend},
		{"the cap is rounded down, met exactly", quarter(complete, 0), 15, [][]int{{24}, nil}, 1, api.PlanOpen},
		{"the cap is at least a frame, missed by one word", nursery(complete, 2, 0.01, 0), 16, [][]int{{7}, nil}, 1, api.PlanAppend},
		{"the cap is at least a frame, met exactly", nursery(complete, 2, 0.01, 0), 16, [][]int{{8}, nil}, 1, api.PlanOpen},
		{"the cap is a part of all frames, not of the free ones", quarter(partial, 0), 16, [][]int{{31}, {8, 8, 8, 8}}, 1, api.PlanAppend},
		{"the cap is that of belt 0, met exactly", api.Config{Name: "a", Rules: []api.Rule{{Share: 0.25, Target: 1}, {Share: 1, Target: 1}}}, 16, [][]int{{32}, nil}, 1, api.PlanOpen},
		{"the cap is that of belt 0, missed by one word", api.Config{Name: "a", Rules: []api.Rule{{Share: 0.25, Target: 1}, {Share: 0.01, Target: 1}}}, 16, [][]int{{31}, nil}, 1, api.PlanAppend},
		{"the cap is all frames, missed by one word", nursery(partial, 1, 1, 0), 2, [][]int{{15}}, 1, api.PlanAppend},
		{"the cap is all frames, met exactly", nursery(partial, 1, 1, 0), 2, [][]int{{16}}, 1, api.PlanCollect},
		{"no cap, a few words", nursery(complete, 2, 0, 1), 16, [][]int{{1}, nil}, 1, api.PlanAppend},
		{"no cap, many words, granted exactly", nursery(complete, 2, 0, 1), 16, [][]int{{56}, nil}, 8, api.PlanAppend},
		{"no cap, many words, one word more", nursery(complete, 2, 0, 0), 16, [][]int{{56}, nil}, 9, api.PlanCollect},
		{"no cap, all words but one of all frames", nursery(complete, 2, 0, 1), 16, [][]int{{127}, nil}, 1, api.PlanAppend},
		{"no cap, all words of all frames", nursery(complete, 2, 0, 0), 16, [][]int{{128}, nil}, 1, api.PlanCollect},
		{"no cap, one belt", nursery(complete, 1, 0, 0), 16, [][]int{{8}}, 48, api.PlanAppend},
		{"no cap, not complete", nursery(partial, 2, 0, 1), 16, [][]int{{56}, nil}, 8, api.PlanAppend},
	} {
		s, l := filled(t, 3, x.f, x.words)
		seq, i := nextSeq(l), api.Increment{}
		switch x.plan {
		case api.PlanAppend:
			i = l[0][len(l[0])-1]
		case api.PlanOpen:
			i = api.Increment{Seq: seq, Belt: 0, First: -1, Last: -1}
		}
		expectPlan(t, x.why, x.c, s, l, seq, x.n, x.plan, i)
	}
}

// All fields of the increments are written out.
func TestAppendReturnsTheYoungestAndOpenTheNewIncrement(t *testing.T) {
	s, l := filled(t, 3, 18, [][]int{{32, 11}, {9}})
	expectPlan(t, "appended", nursery(complete, 2, 0.25, 2), s, l, 18, 1, api.PlanAppend, api.Increment{Seq: 17, Belt: 0, First: 1, Last: 4, Words: 11})
	expectPlan(t, "opened", nursery(complete, 2, 0.0625, 3), s, l, 18, 1, api.PlanOpen, api.Increment{Seq: 18, Belt: 0, First: -1, Last: -1, Words: 0})
	expectPlan(t, "opened with a Seq far above", nursery(complete, 2, 0.0625, 3), s, l, 1<<31, 1, api.PlanOpen, api.Increment{Seq: 1 << 31, Belt: 0, First: -1, Last: -1, Words: 0})
	expectPlan(t, "collected", nursery(complete, 2, 0.0625, 2), s, l, 18, 1, api.PlanCollect, api.Increment{})
}

func TestPlansInSmallHeaps(t *testing.T) {
	plans := map[bool]map[int]int{complete: {}, partial: {}}
	eachHeap(t, 4, func(c api.Config, s api.Space, l belts) {
		seq := nextSeq(l)
		for _, n := range []int{1, 2, 3, 4, 7, 8, 9, 11, 16, 17, 24, 25, 32, 33, api.MaxObject} {
			plan, i := wantedPlan(c, s, l, seq, n)
			expectPlan(t, "a small heap", c, s, l, seq, n, plan, i)
			plans[config.Complete(c)][plan]++
		}
	})
	for isComplete, counts := range plans {
		if min(counts[api.PlanAppend], counts[api.PlanOpen], counts[api.PlanCollect]) < 1000 {
			t.Errorf("complete %t: so many of each plan: %v", isComplete, counts)
		}
	}
}

func TestPlansOfAllNumbersOfWordsInMiddleHeaps(t *testing.T) {
	for f := 5; f <= 16; f++ {
		for _, words := range [][][]int{{nil, {8}}, {{8*f/4 - 3}, nil}, {{8 * (f / 2)}, {9}}, {{1, 16}, {5, 8}}, {{8, 8, 8}, {16}}, {{8*(f/2) - 1}, nil}} {
			s, l := filled(t, 3, f, words)
			for _, c := range nurseries(2) {
				for n := 1; n <= api.MaxObject; n++ {
					plan, i := wantedPlan(c, s, l, 1000, n)
					expectPlan(t, "a middle heap", c, s, l, 1000, n, plan, i)
				}
			}
		}
	}
}

func TestPlansForAllSizesOfFramesAndAllCaps(t *testing.T) {
	for shift := api.MinShift; shift <= api.MaxShift; shift++ {
		for _, f := range []int{2, 3, 4, 7, 16, 63, 64} {
			for _, share := range []float64{0.015625, 0.25, 0.328125, 0.5, 0.984375, 1} {
				most := max(1, int(share*float64(f))) << shift
				for _, w := range []int{most - 1, most, most + 1} {
					if w > f<<shift {
						continue
					}
					s, l := filled(t, shift, f, [][]int{{w}, nil})
					for _, c := range []api.Config{nursery(complete, 2, share, 1), nursery(partial, 2, share, 2), nursery(complete, 2, share, 0)} {
						plan, i := wantedPlan(c, s, l, 8, 1)
						if (plan == api.PlanAppend) && w >= most {
							t.Errorf("%d words of %d are not open", w, most)
						}
						expectPlan(t, "about the cap", c, s, l, 8, 1, plan, i)
					}
				}
			}
		}
	}
}

// Shares whose products with numbers of frames would be rounded up to a whole number.
func TestCapsAreRoundedDownExactly(t *testing.T) {
	for f, share := range map[int]float64{6: 1.0 / 3, 12: 1.0 / 3, 10: math.Nextafter(0.5, 0), 64: math.Nextafter(1, 0)} {
		frames, err := config.Cap(nursery(partial, 2, share, 1), 0, f)
		if err != api.OK {
			t.Fatalf("Cap: error %d", err)
		}
		s, l := filled(t, 3, f, [][]int{{8*frames - 1}, nil})
		expectPlan(t, "missed by one word", nursery(partial, 2, share, 1), s, l, 8, 1, api.PlanAppend, l[0][0])
		s, l = filled(t, 3, f, [][]int{{8 * frames}, nil})
		expectPlan(t, "met exactly", nursery(partial, 2, share, 1), s, l, 8, 1, api.PlanCollect, api.Increment{})
	}
}

// Only rule 0 and what the configuration is complete by say where an allocation goes.
func TestRulesOfOtherBeltsDecideNothing(t *testing.T) {
	s, l := filled(t, 3, 32, [][]int{{31}, {8, 8}, {9}})
	full, m := filled(t, 3, 32, [][]int{{64}, {8, 8}, {9}})
	for _, limit := range []int{0, 1, 2, 3, api.MaxCount} {
		for _, batch := range []int{0, 1, 2, api.MaxCount} {
			for _, share := range []float64{0, 0.01, 0.25, 1} {
				c := nursery(complete, 3, 0.25, 2)
				c.Rules[0].Batch, c.Rules[1] = batch, api.Rule{Share: share, Limit: limit, Batch: batch, Target: 2}
				c.Full = 1 + batch/2
				expectPlan(t, "appended", c, s, l, 18, 1, api.PlanAppend, l[0][0])
				expectPlan(t, "opened", c, full, m, 18, 1, api.PlanOpen, opened(18))
				c.Rules[0].Limit = 1
				expectPlan(t, "collected", c, full, m, 18, 1, api.PlanCollect, api.Increment{})
			}
		}
	}
}

// planned is a heap with a configuration for which Decide makes a plan, and has to refuse other arguments whatever the plan would be.
type planned struct {
	plan int
	c    api.Config
	s    api.Space
	l    belts
}

// eachPlan returns a heap for each plan, twice for PlanCollect: because of the Limit, and because of the reserve. All have two belts with an increment in each.
func eachPlan(t *testing.T) []planned {
	t.Helper()
	s, l := filled(t, 3, 16, [][]int{{27}, {9}})
	full, m := filled(t, 3, 16, [][]int{{32}, {9}})
	tight, o := filled(t, 3, 16, [][]int{{64}, {9}})
	return []planned{
		{api.PlanAppend, nursery(complete, 2, 0.25, 1), s, l},
		{api.PlanOpen, nursery(partial, 2, 0.25, 0), full, m},
		{api.PlanCollect, nursery(complete, 2, 0.25, 1), full, m},
		{api.PlanCollect, nursery(complete, 2, 0.5, 2), tight, o},
	}
}

// expectKind checks the plan alone, where other tests compare the increment.
func expectKind(t *testing.T, why string, x planned, seq, n int) {
	t.Helper()
	if plan, _, err := trigger.Decide(x.c, x.s, x.l, seq, n); plan != x.plan || err != api.OK {
		t.Errorf("%s: Decide(%v, %v, %d, %d) is %d and error %d, want %d", why, x.c, x.l, seq, n, plan, err, x.plan)
	}
}

// badConfigs are not valid, each of two rules because of one field alone, so that the belts are valid and as many.
func badConfigs() []api.Config {
	good := func() api.Config { return nursery(complete, 2, 0.25, 1) }
	var out []api.Config
	add := func(change func(c *api.Config)) {
		c := good()
		change(&c)
		out = append(out, c)
	}
	for _, name := range []string{"", "A", "1a", "-a", "a b", "a_", strings.Repeat("a", api.MaxName+1)} {
		add(func(c *api.Config) { c.Name = name })
	}
	for b := range 2 {
		for _, share := range []float64{math.Copysign(0, -1), -0.25, math.Nextafter(1, 2), math.NaN(), math.Inf(1), math.Inf(-1)} {
			add(func(c *api.Config) { c.Rules[b].Share = share })
		}
		for _, n := range append([]int{-1, api.MaxCount + 1}, farNumbers...) {
			add(func(c *api.Config) { c.Rules[b].Limit = n })
			add(func(c *api.Config) { c.Rules[b].Batch = n })
			add(func(c *api.Config) { c.Rules[b].Target = n })
		}
		add(func(c *api.Config) { c.Rules[b].Target = 0 })
		add(func(c *api.Config) { c.Rules[b].Target = 2 })
	}
	add(func(c *api.Config) { c.Rules[1].Limit = 1 })
	add(func(c *api.Config) { c.Rules[1].Share = 0.5 })
	for _, n := range append([]int{0, api.MaxCount + 1}, farNumbers...) {
		add(func(c *api.Config) { c.Full = n })
	}
	return out
}

func TestConfigurationsThatAreNotValid(t *testing.T) {
	for _, x := range eachPlan(t) {
		for _, c := range badConfigs() {
			if config.Check(c) == api.OK {
				t.Fatalf("%v is valid", c)
			}
			expectErrArg(t, "a bad configuration", c, x.s, x.l, 100, 1)
		}
		for _, rules := range [][]api.Rule{nil, {}, make([]api.Rule, 2), make([]api.Rule, 5)} {
			expectErrArg(t, "bad rules", api.Config{Name: "a", Rules: rules, Full: 8}, x.s, x.l, 100, 1)
		}
		expectErrArg(t, "the zero configuration", api.Config{}, x.s, x.l, 100, 1)
		expectKind(t, "a good configuration", x, 100, 5)
	}
	for n := range 6 {
		s, l := filled(t, 3, 8, make([][]int, max(1, min(n, 4))))
		c := api.Config{Name: "a", Rules: make([]api.Rule, n), Full: 8}
		expectErrArg(t, "rules without targets", api.Config{Name: "", Rules: c.Rules, Full: 8}, s, l, 0, 1)
		if n != 1 {
			expectErrArg(t, "rules without targets", c, s, l, 0, 1)
			expectErrArg(t, "as many bad belts as bad rules", c, s, make(belts, n), 0, 1)
		}
	}
}

// badBelts returns spaces and belts of two elements that are not valid together, most of them because of one number.
func badBelts(t *testing.T) []planned {
	t.Helper()
	var out []planned
	add := func(words [][]int, change func(s *api.Space, l belts)) {
		s, l := filled(t, 3, 16, words)
		change(&s, l)
		out = append(out, planned{s: s, l: l})
	}
	for _, words := range [][][]int{{{20, 9}, {9, 3}}, {{32, 3}, {1, 8}}} {
		for b := range 2 {
			for k := range 2 {
				add(words, func(_ *api.Space, l belts) { l[b][k].Belt = 1 - b })
				add(words, func(_ *api.Space, l belts) { l[b][k].Seq++ })
				add(words, func(_ *api.Space, l belts) { l[b][k].First = 15 })
				add(words, func(_ *api.Space, l belts) { l[b][k].Last = 15 })
				add(words, func(_ *api.Space, l belts) { l[b][k].Words += 8 })
				add(words, func(_ *api.Space, l belts) { l[b][k].Words = 0 })
				add(words, func(_ *api.Space, l belts) { l[b][k] = api.Increment{} })
				add(words, func(_ *api.Space, l belts) { l[b][k] = opened(50) })
				add(words, func(_ *api.Space, l belts) { l[b] = slices.Delete(l[b], k, k+1) })
				add(words, func(_ *api.Space, l belts) { l[1-b] = append(l[1-b], l[b][k]) })
				add(words, func(s *api.Space, l belts) { s.Frames[l[b][k].Last].Owner++ })
				add(words, func(s *api.Space, l belts) { s.Frames[l[b][k].Last].Stamp ^= api.BeltStamp })
				add(words, func(s *api.Space, l belts) { s.Frames[l[b][k].Last].Next = l[b][k].First })
			}
			add(words, func(_ *api.Space, l belts) { slices.Reverse(l[b]) })
			add(words, func(_ *api.Space, l belts) { l[b] = append(l[b], l[b][1]) })
			add(words, func(_ *api.Space, l belts) { l[b] = nil })
		}
		add(words, func(_ *api.Space, l belts) { slices.Reverse(l) })
		add(words, func(s *api.Space, _ belts) { s.Words[15*8] = 1 })
		add(words, func(s *api.Space, _ belts) { s.Words = s.Words[1:] })
		add(words, func(s *api.Space, _ belts) { s.Frames = s.Frames[:15] })
		add(words, func(s *api.Space, _ belts) { s.Frames[15].Owner = 60 })
		add(words, func(s *api.Space, _ belts) { s.Frames[15] = api.Frame{Owner: 60, Stamp: 60, Next: -1} })
		add(words, func(s *api.Space, _ belts) { s.Shift++ })
		add(words, func(s *api.Space, _ belts) { *s = api.Space{} })
	}
	return out
}

func TestBeltsThatAreNotValid(t *testing.T) {
	for _, x := range badBelts(t) {
		if belt.Valid(x.s, x.l) {
			t.Fatalf("%v are valid", x.l)
		}
		for _, c := range []api.Config{nursery(complete, 2, 0.25, 1), nursery(complete, 2, 0, 0), nursery(partial, 2, 0.25, 0), nursery(partial, 2, 0.015625, 2)} {
			expectErrArg(t, "bad belts", c, x.s, x.l, 100, 1)
		}
	}
}

func TestNumbersOfBeltsThatAreNotThoseOfTheRules(t *testing.T) {
	for n := 1; n <= api.MaxBelts; n++ {
		for _, words := range [][]int{nil, {3}, {32}, {3, 5}} {
			all := make([][]int, n)
			all[0] = words
			s, l := filled(t, 3, 16, all)
			for rules := 1; rules <= api.MaxBelts; rules++ {
				for _, c := range nurseries(rules) {
					if rules != n {
						expectErrArg(t, "another number of belts", c, s, l, 100, 1)
						continue
					}
					plan, i := wantedPlan(c, s, l, 100, 1)
					expectPlan(t, "as many belts", c, s, l, 100, 1, plan, i)
				}
			}
		}
	}
	s, _ := filled(t, 3, 16, [][]int{nil})
	for _, l := range []belts{nil, {}, make(belts, 5)} {
		for n := 1; n <= api.MaxBelts; n++ {
			expectErrArg(t, "no permitted number of belts", nurseries(n)[0], s, l, 100, 1)
		}
	}
}

func TestSeqsAtTheirEdges(t *testing.T) {
	for _, c := range nurseries(2) {
		s, l := filled(t, 3, 8, [][]int{nil, nil})
		for _, seq := range []int{0, 1, 1 << 31, api.MaxSeq - 1, api.MaxSeq} {
			expectPlan(t, "a permitted seq", c, s, l, seq, 5, api.PlanOpen, opened(seq))
		}
		for _, seq := range append([]int{api.MaxSeq + 1, api.MaxSeq + 2}, farNumbers...) {
			expectErrArg(t, "a seq outside", c, s, l, seq, 5)
		}
	}
	for _, x := range eachPlan(t) {
		for _, seq := range []int{8, 100, api.MaxSeq - 1, api.MaxSeq} {
			expectKind(t, "a permitted seq", x, seq, 1)
		}
		for _, seq := range append([]int{0, 5, 6, 7, api.MaxSeq + 1, api.MaxSeq + 2}, farNumbers...) {
			expectErrArg(t, "a seq outside", x.c, x.s, x.l, seq, 1)
		}
	}
}

// Queues of several lengths have the greatest Seq in any of the belts.
func TestSeqsAreGreaterThanThoseOfAllBelts(t *testing.T) {
	for n := 1; n <= api.MaxBelts; n++ {
		for longest := range n {
			for _, others := range []int{0, 1, 2} {
				for length := 1; length <= 3; length++ {
					words := make([][]int, n)
					for b := range words {
						words[b] = slices.Repeat([]int{8}, min(others, length))
					}
					words[longest] = slices.Repeat([]int{8}, length)
					s, l := filled(t, 3, 64, words)
					expectSeqsFrom(t, s, l, nextSeq(l))
				}
			}
		}
	}
}

// expectSeqsFrom checks that all seqs from this one on are permitted, and no lesser ones.
func expectSeqsFrom(t *testing.T, s api.Space, l belts, least int) {
	t.Helper()
	for _, c := range nurseries(len(l)) {
		for seq := -1; seq < least; seq++ {
			expectErrArg(t, "a seq that is not greater", c, s, l, seq, 1)
		}
		for _, seq := range []int{least, least + 1, api.MaxSeq} {
			plan, i := wantedPlan(c, s, l, seq, 1)
			expectPlan(t, "a seq that is greater", c, s, l, seq, 1, plan, i)
		}
	}
}

func TestNoSeqIsLeftAfterTheGreatestOne(t *testing.T) {
	for b := range 2 {
		s, err := frame.New(3, 8)
		i := api.Increment{Seq: api.MaxSeq, Belt: b, First: -1, Last: -1, Words: 5}
		appendFrame(s, &i, 2)
		l := make(belts, 2)
		l[b] = append(l[b], i)
		if err != api.OK || !belt.Valid(s, l) {
			t.Fatalf("the belts %v are not valid", l)
		}
		for _, c := range nurseries(2) {
			for _, seq := range []int{-1, 0, 1, api.MaxSeq - 1, api.MaxSeq, api.MaxSeq + 1, math.MaxInt} {
				expectErrArg(t, "after the greatest Seq", c, s, l, seq, 1)
			}
		}
	}
}

func TestNumbersOfWordsAtTheirEdges(t *testing.T) {
	for _, x := range eachPlan(t) {
		for _, n := range append([]int{0, api.MaxObject + 1, api.MaxObject + 2, 64, 1 << 20}, farNumbers...) {
			expectErrArg(t, "n outside", x.c, x.s, x.l, 100, n)
		}
		expectKind(t, "n of 1", x, 100, 1)
		for _, n := range []int{2, api.MaxObject - 1, api.MaxObject} {
			plan, i := wantedPlan(x.c, x.s, x.l, 100, n)
			expectPlan(t, "a permitted n", x.c, x.s, x.l, 100, n, plan, i)
		}
	}
	// In large frames, all permitted n fit, and so would those that are not.
	s, l := filled(t, 8, 8, [][]int{{100}, nil})
	empty, m := filled(t, 8, 8, [][]int{nil, nil})
	for _, c := range []api.Config{nursery(complete, 2, 0.25, 1), nursery(partial, 2, 0.25, 0)} {
		for n := -8; n <= 100; n++ {
			if n >= 1 && n <= 48 {
				expectPlan(t, "a permitted n", c, s, l, 100, n, api.PlanAppend, l[0][0])
				expectPlan(t, "a permitted n", c, empty, m, 100, n, api.PlanOpen, opened(100))
			} else {
				expectErrArg(t, "n outside", c, s, l, 100, n)
				expectErrArg(t, "n outside", c, empty, m, 100, n)
			}
		}
	}
}

// P17.2

// limited returns a configuration with these Limits and another Limit, 0, of its last rule.
func limited(limits ...int) api.Config {
	c := api.Config{Name: "a", Full: 8}
	for b, limit := range limits {
		c.Rules = append(c.Rules, api.Rule{Share: 0.25, Limit: limit, Batch: 1 + b, Target: b + 1})
	}
	c.Rules = append(c.Rules, api.Rule{Batch: 1, Target: len(limits)})
	return c
}

// crowded returns belts of so many increments, which need not be valid ones.
func crowded(counts ...int) belts {
	l := belts{}
	for b, n := range counts {
		l = append(l, slices.Repeat([]api.Increment{{Seq: 3, Belt: b, First: -1, Last: -1}}, n))
	}
	return l
}

// expectOver compares Over with the belts that are wanted.
func expectOver(t *testing.T, why string, c api.Config, l belts, want []int) {
	t.Helper()
	if got := trigger.Over(c, l); !slices.Equal(got, want) {
		t.Errorf("%s: Over(%v, %v) is %v, want %v", why, c, l, got, want)
	}
}

func TestOverThatIsWrittenOut(t *testing.T) {
	for _, x := range []struct {
		why    string
		c      api.Config
		counts []int
		want   []int
	}{
		{"no increments", limited(1, 1, 1), []int{0, 0, 0, 0}, nil},
		{"a Limit of 0", limited(0), []int{5, 0}, nil},
		{"a Limit of 0, no increments", limited(0), []int{0, 0}, nil},
		{"fewer than the Limit", limited(2), []int{1, 0}, nil},
		{"as many as the Limit", limited(2), []int{2, 0}, nil},
		{"one more than the Limit", limited(2), []int{3, 0}, []int{0}},
		{"many more than the Limit", limited(2), []int{99, 0}, []int{0}},
		{"as many as a Limit of 1", limited(1), []int{1, 0}, nil},
		{"one more than a Limit of 1", limited(1), []int{2, 0}, []int{0}},
		{"as many as the greatest Limit", limited(api.MaxCount), []int{64, 0}, nil},
		{"one more than the greatest Limit", limited(api.MaxCount), []int{65, 0}, []int{0}},
		{"the last belt", limited(1), []int{1, 99}, nil},
		{"the only belt", limited(), []int{99}, nil},
		{"belt 1 alone", limited(2, 1, 3), []int{2, 2, 3, 9}, []int{1}},
		{"belt 2 alone", limited(2, 2, 1), []int{2, 2, 2, 9}, []int{2}},
		{"two at once", limited(1, 2, 3), []int{2, 2, 4, 0}, []int{0, 2}},
		{"two at once, the last ones", limited(0, 2, 3), []int{9, 3, 4, 0}, []int{1, 2}},
		{"three at once", limited(1, 2, 3), []int{2, 3, 4, 0}, []int{0, 1, 2}},
	} {
		expectOver(t, x.why, x.c, crowded(x.counts...), x.want)
	}
}

func TestOverOfAllSmallLimitsAndNumbers(t *testing.T) {
	limits, counts := [3]int{}, [3]int{}
	for k := range 4 * 4 * 4 * 5 * 5 * 5 {
		rest := k
		for b := range limits {
			limits[b], counts[b], rest = rest%4, rest/4%5, rest/20
		}
		var want []int
		for b, limit := range limits {
			if limit > 0 && counts[b] > limit {
				want = append(want, b)
			}
		}
		expectOver(t, "small Limits", limited(limits[:]...), crowded(counts[0], counts[1], counts[2], 7), want)
	}
}

func TestOverOfConfigurationsThatAreNotValid(t *testing.T) {
	for _, c := range badConfigs() {
		for _, l := range []belts{crowded(2, 2), crowded(99, 99), crowded(0, 0)} {
			expectOver(t, "a bad configuration", c, l, nil)
		}
	}
	for n := range 6 {
		c := api.Config{Name: "a", Rules: slices.Repeat([]api.Rule{{Limit: 1}}, n), Full: 8}
		expectOver(t, "rules without targets", c, crowded(slices.Repeat([]int{9}, n)...), nil)
	}
	c := limited(1, 1, 1)
	c.Rules = append(c.Rules[:3:3], api.Rule{Limit: 1, Target: 4}, api.Rule{Target: 4})
	expectOver(t, "five rules", c, crowded(9, 9, 9, 9, 9), nil)
	expectOver(t, "the last rule has a Limit", api.Config{Name: "a", Rules: []api.Rule{{Limit: 1, Target: 1}, {Limit: 1, Target: 1}}, Full: 8}, crowded(9, 9), nil)
	expectOver(t, "a complete configuration without Full", api.Config{Name: "a", Rules: []api.Rule{{Limit: 1, Target: 1}, {Target: 1}}}, crowded(9, 9), nil)
}

func TestOverOfOtherNumbersOfBelts(t *testing.T) {
	for n := 1; n <= api.MaxBelts; n++ {
		c := limited(slices.Repeat([]int{1}, n-1)...)
		var all []int
		for b := range n - 1 {
			all = append(all, b)
		}
		for belts := range 9 {
			l := crowded(slices.Repeat([]int{2}, belts)...)
			if belts == n {
				expectOver(t, "as many belts", c, l, all)
			} else {
				expectOver(t, "another number of belts", c, l, nil)
			}
		}
		expectOver(t, "no belts", c, nil, nil)
	}
}

// Consequences

func TestWhatFitsIntoTheLastFrameOfTheOpenYoungestNeverNeedsACollection(t *testing.T) {
	checked := 0
	eachHeap(t, 4, func(c api.Config, s api.Space, l belts) {
		y, ok := belt.Youngest(l, 0)
		frames, _ := config.Cap(c, 0, len(s.Frames))
		if !ok || !belt.Open(s, y, frames) {
			return
		}
		for n := 1; n <= -y.Words&7; n++ {
			expectPlan(t, "within the last frame", c, s, l, 1000, n, api.PlanAppend, y)
			checked++
		}
	})
	if checked < 10000 {
		t.Errorf("only %d allocations fitted", checked)
	}
	// Two frames, both used: nothing else would be granted.
	for _, c := range nurseries(2) {
		for _, words := range []int{1, 207, 208} {
			s, l := filled(t, 8, 2, [][]int{{words}, {256}})
			expectPlan(t, "the largest object", c, s, l, 1000, api.MaxObject, api.PlanAppend, l[0][0])
		}
		s, l := filled(t, 8, 2, [][]int{{209}, {256}})
		expectPlan(t, "to the last word", c, s, l, 1000, api.MaxObject-1, api.PlanAppend, l[0][0])
		expectPlan(t, "one word more", c, s, l, 1000, api.MaxObject, api.PlanCollect, api.Increment{})
	}
}

// allocated returns the heap after an allocation that was planned; i is the increment that takes it.
func allocated(t *testing.T, s api.Space, l belts, plan int, i api.Increment, n int) (api.Space, belts) {
	t.Helper()
	s, grown, _, err := bump.Alloc(s, i, n)
	if err != api.OK {
		t.Fatalf("Alloc of %d words for %v, as planned: error %d", n, i, err)
	}
	if plan == api.PlanOpen {
		l, err = belt.Add(l, grown)
	} else {
		l, err = belt.Replace(l, grown)
	}
	if err != api.OK || !belt.Valid(s, l) {
		t.Fatalf("the belts %v after an allocation of %d words in %v: error %d", l, n, i, err)
	}
	return s, l
}

// Every plan that is no collection can be carried out, never leaves a belt with too many increments, and keeps the reserve.
func TestAllocationsAsPlannedUntilTheFirstCollection(t *testing.T) {
	plans := map[int]int{}
	for _, n := range []int{1, 2, 4} {
		for _, c := range append(nurseries(n), limited(3), limited(1, 0)) {
			for f := 2; f <= 24; f++ {
				s, l := filled(t, 3, f, make([][]int, len(c.Rules)))
				for k := 0; ; k++ {
					words := k*29%api.MaxObject + 1
					plan, i, err := trigger.Decide(c, s, l, k, words)
					if err != api.OK {
						t.Fatalf("allocation %d in %v: error %d", k, l, err)
					}
					plans[plan]++
					if plan == api.PlanCollect {
						break
					}
					s, l = allocated(t, s, l, plan, i, words)
					if !reserve.Holds(c, s, l) || len(trigger.Over(c, l)) > 0 {
						t.Fatalf("allocation %d: the belts are %v in %d frames", k, l, f)
					}
				}
			}
		}
	}
	if min(plans[api.PlanAppend], plans[api.PlanOpen], plans[api.PlanCollect]) < 500 {
		t.Errorf("so many of each plan: %v", plans)
	}
}

// Rules

// cloneConfig returns a copy of c whose name, too, is in other memory.
func cloneConfig(c api.Config) api.Config {
	return api.Config{Name: strings.Clone(c.Name), Rules: slices.Clone(c.Rules), Full: c.Full}
}

// isEqualRule compares shares by their bits, for one that is not a number is not equal to itself.
func isEqualRule(a, b api.Rule) bool {
	return math.Float64bits(a.Share) == math.Float64bits(b.Share) && a.Limit == b.Limit && a.Batch == b.Batch && a.Target == b.Target
}

func isEqualConfig(a, b api.Config) bool {
	return a.Name == b.Name && a.Full == b.Full && slices.EqualFunc(a.Rules, b.Rules, isEqualRule)
}

func cloneBelts(l belts) belts {
	var out belts
	for _, queue := range l {
		out = append(out, slices.Clone(queue))
	}
	return out
}

// behind returns a slice with the same elements that has memory behind its end, and all of this memory.
func behind[T any](elements []T, guard T) ([]T, []T) {
	memory := append(slices.Clone(elements), guard, guard)
	return memory[:len(elements)], memory
}

// within returns belts of which every slice has memory behind its end, in which l and its queues stand one directly behind the other: what is written behind an end changes another queue, or the guard at the end.
func within(l belts) (belts, []api.Increment, belts) {
	guard := api.Increment{Seq: -99, Belt: -99, First: -99, Last: -99, Words: -99}
	memory := append(slices.Concat(l...), guard)
	queues, at := belts{}, 0
	for _, queue := range l {
		queues = append(queues, memory[at:at+len(queue)])
		at += len(queue)
	}
	queues = append(queues, []api.Increment{guard})
	return queues[:len(l)], memory, queues
}

// answer is what Decide says of one allocation.
type answer struct {
	plan int
	i    api.Increment
	err  api.Errno
}

// askAll returns what Decide says of all pairs of a seq and an n, and what Over says. Afterwards it writes over all memory that Over's answer has.
func askAll(c api.Config, s api.Space, l belts, seqs, numbers []int) ([]answer, []int) {
	var answers []answer
	for _, seq := range seqs {
		for _, n := range numbers {
			plan, i, err := trigger.Decide(c, s, l, seq, n)
			answers = append(answers, answer{plan, i, err})
		}
	}
	over := trigger.Over(c, l)
	said := slices.Clone(over)
	for k := range over[:cap(over)] {
		over[:cap(over)][k] = -99
	}
	return answers, said
}

// expectSteady checks that the functions end, answer the same when called again with equal arguments in other memory, and change nothing in their arguments or behind their ends, also where an answer is written over.
func expectSteady(t *testing.T, why string, c api.Config, s api.Space, l belts, seqs, numbers []int) {
	t.Helper()
	inC, inS := cloneConfig(c), s
	var rules []api.Rule
	var words []uint64
	var frames []api.Frame
	inC.Rules, rules = behind(c.Rules, api.Rule{Share: 0.125, Target: -99})
	inS.Words, words = behind(s.Words, 99)
	inS.Frames, frames = behind(s.Frames, api.Frame{Owner: -1, Stamp: 99, Next: 99})
	inL, memory, queues := within(l)
	rulesBefore, wordsBefore, framesBefore := slices.Clone(rules), slices.Clone(words), slices.Clone(frames)
	memoryBefore, queuesBefore := slices.Clone(memory), cloneBelts(queues)
	first, firstOver := askAll(inC, inS, inL, seqs, numbers)
	again, againOver := askAll(inC, inS, inL, seqs, numbers)
	other, otherOver := askAll(c, s, l, seqs, numbers)
	if !slices.Equal(first, again) || !slices.Equal(first, other) {
		t.Errorf("%s: the answers are %v, and %v and %v when asked again", why, first, again, other)
	}
	if !slices.Equal(firstOver, againOver) || !slices.Equal(firstOver, otherOver) {
		t.Errorf("%s: Over is %v, and %v and %v when asked again", why, firstOver, againOver, otherOver)
	}
	if !slices.EqualFunc(rules, rulesBefore, isEqualRule) || !isEqualConfig(inC, c) || !slices.Equal(words, wordsBefore) || !slices.Equal(frames, framesBefore) || inS.Shift != s.Shift || !slices.Equal(memory, memoryBefore) || !slices.EqualFunc(queues, queuesBefore, slices.Equal) {
		t.Errorf("%s: the arguments have changed to %v, %v and %v", why, inC, inS.Frames, inL)
	}
}

func TestArgumentsStayAsTheyAre(t *testing.T) {
	eachHeap(t, 3, func(c api.Config, s api.Space, l belts) {
		expectSteady(t, "a small heap", c, s, l, []int{-1, 0, nextSeq(l)}, []int{0, 1, 8, 17, api.MaxObject})
	})
	s, l := filled(t, 3, 16, [][]int{{1, 2, 3}, {4, 5}, {6, 7}, {8}})
	for _, c := range []api.Config{limited(1, 1, 1), limited(2, 2, 1), limited(3, 1, 2), limited(0, 0, 0)} {
		expectSteady(t, "several belts with too many", c, s, l, []int{20, 28}, []int{1, 6, 48})
	}
}

// What is written into an answer is in no later one.
func TestAnswersShareNoMemory(t *testing.T) {
	c, l := limited(1, 1, 1), crowded(2, 2, 2, 2)
	first := trigger.Over(c, l)
	second := trigger.Over(c, l)
	first[0], first[2] = 50, 60
	_ = append(first[:1], 70)
	if !slices.Equal(second, []int{0, 1, 2}) {
		t.Errorf("an answer has changed to %v with another one", second)
	}
	expectOver(t, "after a change of an answer", c, l, []int{0, 1, 2})
	s, m := filled(t, 3, 16, [][]int{{9}, nil})
	_, i, _ := trigger.Decide(nursery(complete, 2, 0.25, 1), s, m, 8, 1)
	m[0][0].Words, m[0][0].Last = 99, 99
	if i != (api.Increment{Seq: 7, Belt: 0, First: 0, Last: 1, Words: 9}) {
		t.Errorf("an answer has changed to %v with its argument", i)
	}
}

// badSpaces are not valid, most of them because of one number.
func badSpaces() []api.Space {
	out := []api.Space{{}, {Shift: 3}, {Shift: 3, Words: make([]uint64, 64)}, {Shift: 3, Frames: make([]api.Frame, 8)}, {Shift: 3, Words: make([]uint64, 8), Frames: make([]api.Frame, 1)}}
	for _, n := range append([]int{0, 2, 9, 20, 21, 63, 64}, farNumbers...) {
		out = append(out, api.Space{Shift: n, Words: make([]uint64, 64), Frames: make([]api.Frame, 8)})
		for _, entry := range []api.Frame{{Owner: n}, {Stamp: n}, {Next: n}, {Owner: n, Stamp: n, Next: 0}} {
			out = append(out, api.Space{Shift: 3, Words: make([]uint64, 64), Frames: slices.Repeat([]api.Frame{entry}, 8)})
		}
	}
	return append(out, api.Space{Shift: 3, Words: make([]uint64, 65*8), Frames: slices.Repeat([]api.Frame{{Owner: -1, Stamp: -1, Next: -1}}, 65)})
}

// badIncrements have numbers that are far outside, or that do not fit together.
func badIncrements() []api.Increment {
	out := []api.Increment{{}, {Words: 5}, {First: -1, Last: -1, Words: 9}}
	for _, n := range farNumbers {
		out = append(out, api.Increment{Seq: n, First: -1, Last: -1}, api.Increment{Belt: n, First: -1, Last: -1}, api.Increment{First: n, Last: n, Words: 3}, api.Increment{First: -1, Last: -1, Words: n}, api.Increment{Seq: n, Belt: n, First: n, Last: n, Words: n})
	}
	return out
}

func TestArgumentsFarOutside(t *testing.T) {
	s, good := filled(t, 3, 8, [][]int{{20}, {9}})
	c := nursery(complete, 2, 0.25, 1)
	for _, bad := range badConfigs() {
		expectSteady(t, "a bad configuration", bad, s, good, []int{100}, []int{1})
	}
	for _, bad := range badSpaces() {
		expectErrArg(t, "a bad space", c, bad, good, 100, 1)
		expectErrArg(t, "a bad space", c, bad, make(belts, 2), 100, 1)
		expectSteady(t, "a bad space", c, bad, good, append([]int{100}, farNumbers...), append([]int{1}, farNumbers...))
	}
	for _, i := range badIncrements() {
		for _, l := range []belts{{{i}, nil}, {nil, {i}}, {good[0], {i}}, {{i}, good[1]}, {good[0], {good[1][0], i}}, {{good[0][0], i}, good[1]}} {
			expectErrArg(t, "a bad increment", c, s, l, 100, 1)
			expectSteady(t, "a bad increment", c, s, l, []int{100, 1 << 40}, []int{1, math.MinInt})
		}
	}
	for _, l := range []belts{nil, {}, {nil}, make(belts, 5), {badIncrements(), badIncrements()}} {
		expectSteady(t, "bad belts", c, s, l, append([]int{100}, farNumbers...), append([]int{1}, farNumbers...))
	}
	expectSteady(t, "far numbers", c, s, good, append([]int{100}, farNumbers...), append([]int{1}, farNumbers...))
}

func TestManyElements(t *testing.T) {
	s := api.Space{Shift: 3, Words: make([]uint64, 1<<18), Frames: make([]api.Frame, 1<<17)}
	good, _ := filled(t, 3, 8, [][]int{nil, nil})
	long := belts{slices.Repeat([]api.Increment{{Words: 20, First: -1, Last: -1}}, 1<<17), nil}
	for _, c := range []api.Config{limited(api.MaxCount), {Name: strings.Repeat("a", 1<<18), Rules: make([]api.Rule, 1<<17), Full: 8}} {
		for _, l := range []belts{long, make(belts, 1<<17), make(belts, 2)} {
			expectErrArg(t, "many frames", c, s, l, 1, 1)
			expectSteady(t, "many frames", c, s, l, []int{1}, []int{1})
		}
		expectErrArg(t, "many increments", c, good, long, 1, 1)
	}
	expectOver(t, "many increments", limited(api.MaxCount), long, []int{0})
}

// Examples

func TestAfter32WordsInAFixedNurseryTheNextAllocationNeedsACollection(t *testing.T) {
	c, err := preset.Get("fixed", 25)
	if err != api.OK {
		t.Fatalf("Get: error %d", err)
	}
	s, l := filled(t, 3, 16, [][]int{nil, nil})
	for k, want := range []int{api.PlanOpen, api.PlanAppend, api.PlanAppend, api.PlanAppend} {
		plan, i, err := trigger.Decide(c, s, l, 3+k, 8)
		if plan != want || err != api.OK {
			t.Fatalf("allocation %d: plan %d and error %d", k, plan, err)
		}
		s, l = allocated(t, s, l, plan, i, 8)
	}
	if len(l[0]) != 1 || l[0][0].Words != 32 {
		t.Fatalf("the belts are %v", l)
	}
	for n := 1; n <= api.MaxObject; n++ {
		expectPlan(t, "after 32 words", c, s, l, 9, n, api.PlanCollect, api.Increment{})
	}
}
