package order_test

import (
	"math"
	"slices"
	"testing"

	"beltway/api"
	"beltway/belt"
	"beltway/bump"
	"beltway/frame"
	"beltway/order"
)

// belts are queues of increments.
type belts = [][]api.Increment

// farNumbers are outside of every range; the stamps of some of them wrap around to small numbers.
var farNumbers = []int{math.MinInt, math.MinInt + 1, -1 << 62, -1 << 33, -1 << 32, -65, -2, -1, 1 << 32, 1<<32 + 1, 1 << 40, 1 << 62, math.MaxInt - 1, math.MaxInt}

// edgeBelts and edgeSeqs are the least and the greatest ones, and some between them that are easily taken for others.
var (
	edgeBelts = []int{0, 1, 2, api.MaxBelts - 1}
	edgeSeqs  = []int{0, 1, 2, 3, 9, 255, 256, 1<<16 - 1, 1 << 16, 1<<31 - 1, 1 << 31, 1<<31 + 1, api.MaxSeq - 1, api.MaxSeq}
)

// number returns an increment that only its numbers tell from others.
func number(seq, b, words int) api.Increment {
	return api.Increment{Seq: seq, Belt: b, First: words + 1, Last: words + 2, Words: words}
}

// queueOf returns a queue of increments of belt b with these Seqs; each has an own number of words.
func queueOf(b int, seqs ...int) []api.Increment {
	var queue []api.Increment
	for k, seq := range seqs {
		queue = append(queue, number(seq, b, 100*b+k+1))
	}
	return queue
}

// threeBelts has the Seqs 3 and 9, none, and 1 and 4.
func threeBelts() belts {
	return belts{queueOf(0, 3, 9), nil, queueOf(2, 1, 4)}
}

func cloneBelts(l belts) belts {
	var out belts
	for _, queue := range l {
		out = append(out, slices.Clone(queue))
	}
	return out
}

func isEqualBelts(a, b belts) bool {
	return slices.EqualFunc(a, b, slices.Equal)
}

// within returns belts of which every slice has memory behind its end, in which l and its queues stand one directly behind the other: what is written behind an end changes another queue, or the guard at the end.
func within(l belts) (belts, []api.Increment, belts) {
	guard := number(-99, -99, -99)
	memory := append(wantedAll(l), guard)
	queues, at := belts{}, 0
	for _, queue := range l {
		queues = append(queues, memory[at:at+len(queue)])
		at += len(queue)
	}
	queues = append(queues, []api.Increment{guard})
	return queues[:len(l)], memory, queues
}

// wantedAll says what All answers: the elements of the first queue, then those of the second one, and so on.
func wantedAll(l belts) []api.Increment {
	var all []api.Increment
	for b := 0; b < len(l); b++ {
		for k := 0; k < len(l[b]); k++ {
			all = append(all, l[b][k])
		}
	}
	return all
}

// wantedPrefix says what Prefix reports, as the promise lists it.
func wantedPrefix(l belts, seqs []int) bool {
	for k := range seqs {
		if slices.Contains(seqs[:k], seqs[k]) {
			return false
		}
	}
	all := wantedAll(l)
	if len(all) < len(seqs) {
		return false
	}
	first := map[int]bool{}
	for _, i := range all[:len(seqs)] {
		first[i.Seq] = true
	}
	for _, seq := range seqs {
		if !first[seq] {
			return false
		}
	}
	return len(first) == len(seqs)
}

// expectUnchanged calls a function with belts that stand in shared memory, and checks that nothing there has changed.
func expectUnchanged(t *testing.T, why string, l belts, call func(l belts)) {
	t.Helper()
	inside, memory, outer := within(l)
	memoryBefore, outerBefore := slices.Clone(memory), cloneBelts(outer)
	call(inside)
	if !slices.Equal(memory, memoryBefore) || !isEqualBelts(outer, outerBefore) {
		t.Errorf("%s of %v has changed its argument to %v", why, l, inside)
	}
}

func expectAll(t *testing.T, l belts) {
	t.Helper()
	want := wantedAll(l)
	expectUnchanged(t, "All", l, func(l belts) {
		got, again := order.All(l), order.All(l)
		if !slices.Equal(got, want) {
			t.Errorf("All(%v) is %v, want %v", l, got, want)
		}
		// What is written to an answer changes neither the argument nor another answer.
		full := again[:cap(again)]
		for k := range full {
			full[k] = number(-77, -77, -77)
		}
		if !slices.Equal(got, want) {
			t.Errorf("two answers of All(%v) share memory", l)
		}
		if later := order.All(l); !slices.Equal(later, want) {
			t.Errorf("All(%v) is %v after a change of an answer, want %v", l, later, want)
		}
	})
}

func expectFirst(t *testing.T, l belts) {
	t.Helper()
	want, wantOK := api.Increment{}, false
	if all := wantedAll(l); len(all) > 0 {
		want, wantOK = all[0], true
	}
	expectUnchanged(t, "First", l, func(l belts) {
		if got, ok := order.First(l); got != want || ok != wantOK {
			t.Errorf("First(%v) is %v, %t, want %v, %t", l, got, ok, want, wantOK)
		}
	})
}

func expectPrefix(t *testing.T, l belts, seqs []int, want bool) {
	t.Helper()
	memory := append(slices.Clone(seqs), -99, 99, -98)
	before := slices.Clone(memory)
	expectUnchanged(t, "Prefix", l, func(l belts) {
		if got := order.Prefix(l, memory[:len(seqs)]); got != want {
			t.Errorf("Prefix(%v, %v) is %t, want %t", l, seqs, got, want)
		}
		if !slices.Equal(memory, before) {
			t.Errorf("Prefix(%v, %v) has changed the numbers to %v", l, seqs, memory)
		}
		if got := order.Prefix(l, memory[:len(seqs)]); got != want {
			t.Errorf("Prefix(%v, %v) is %t when called again", l, seqs, got)
		}
	})
}

// eachBelts visits belts, up to most of them, with all sequences of up to so many of the increments, divided in all ways.
func eachBelts(increments []api.Increment, most, length int, visit func(l belts)) {
	var extend func(l belts, left int)
	extend = func(l belts, left int) {
		visit(l)
		if len(l) < most {
			extend(append(cloneBelts(l), nil), left)
		}
		if len(l) == 0 || left == 0 {
			return
		}
		for _, i := range increments {
			next := cloneBelts(l)
			next[len(l)-1] = append(next[len(l)-1], i)
			extend(next, left-1)
		}
	}
	extend(nil, length)
}

// someBelts visits belts of up to four increments, valid or not: Seqs more than once, in one belt or in several, not ascending, and in belts that are not their own.
func someBelts(visit func(l belts)) {
	eachBelts([]api.Increment{number(3, 0, 1), number(5, 1, 2), number(5, 0, 3), number(math.MinInt, 2, 4)}, 3, 4, visit)
	eachBelts([]api.Increment{{}, number(8, 4, 1)}, 6, 2, visit)
}

// eachSeqs visits all sequences of up to so many of the numbers.
func eachSeqs(numbers []int, length int, visit func(seqs []int)) {
	var extend func(seqs []int)
	extend = func(seqs []int) {
		visit(seqs)
		if len(seqs) == length {
			return
		}
		for _, n := range numbers {
			extend(append(slices.Clone(seqs), n))
		}
	}
	extend(nil)
}

// eachPermutation visits the numbers in every order.
func eachPermutation(numbers []int, visit func(permuted []int)) {
	var extend func(chosen, left []int)
	extend = func(chosen, left []int) {
		if len(left) == 0 {
			visit(chosen)
		}
		for k, n := range left {
			extend(append(slices.Clone(chosen), n), slices.Delete(slices.Clone(left), k, k+1))
		}
	}
	extend(nil, numbers)
}

// P15.1

func TestStampsThatAreWrittenOut(t *testing.T) {
	for _, x := range []struct{ b, seq, want int }{
		{0, 0, 0}, {0, 1, 1}, {0, 9, 9}, {0, 4294967295, 4294967295},
		{1, 0, 4294967296}, {1, 3, 4294967299}, {1, 4294967295, 8589934591},
		{2, 0, 8589934592}, {2, 1, 8589934593}, {2, 4294967295, 12884901887},
		{3, 0, 12884901888}, {3, 4294967294, 17179869182}, {3, 4294967295, 17179869183},
	} {
		if got := order.Stamp(api.Increment{Seq: x.seq, Belt: x.b}); got != x.want {
			t.Errorf("Stamp of belt %d and Seq %d is %d, want %d", x.b, x.seq, got, x.want)
		}
	}
}

func TestStampsAtAllEdges(t *testing.T) {
	for _, b := range edgeBelts {
		for _, seq := range edgeSeqs {
			// A Seq has 32 bits, so the belt stands in the bits above it.
			if got := order.Stamp(api.Increment{Seq: seq, Belt: b}); got != b<<32|seq {
				t.Errorf("Stamp of belt %d and Seq %d is %d", b, seq, got)
			}
		}
	}
}

func TestStampAndBeforeLookOnlyAtBeltAndSeq(t *testing.T) {
	plain := api.Increment{Seq: 7, Belt: 2}
	for _, n := range append([]int{0, 1, 63}, farNumbers...) {
		for _, i := range []api.Increment{
			{Seq: 7, Belt: 2, First: n}, {Seq: 7, Belt: 2, Last: n}, {Seq: 7, Belt: 2, Words: n}, {Seq: 7, Belt: 2, First: n, Last: n, Words: n},
		} {
			if got := order.Stamp(i); got != 2<<32+7 {
				t.Errorf("Stamp(%v) is %d", i, got)
			}
			if order.Before(i, plain) || order.Before(plain, i) {
				t.Errorf("one of %v and %v is before the other", i, plain)
			}
		}
	}
}

func TestBeforeAtAllEdges(t *testing.T) {
	for _, b := range edgeBelts {
		for _, seq := range edgeSeqs {
			for _, c := range edgeBelts {
				for _, other := range edgeSeqs {
					x, y := number(seq, b, 10), number(other, c, 5)
					if got, want := order.Before(x, y), b < c || b == c && seq < other; got != want {
						t.Errorf("Before(%v, %v) is %t", x, y, got)
					}
				}
			}
		}
	}
}

func TestBeforeThatIsWrittenOut(t *testing.T) {
	for _, x := range []struct {
		a, b api.Increment
		want bool
	}{
		{api.Increment{}, api.Increment{}, false},
		{api.Increment{}, api.Increment{Seq: 1}, true},
		{api.Increment{Seq: 1}, api.Increment{}, false},
		{api.Increment{Seq: 3}, api.Increment{Seq: 3, First: 1, Last: 2, Words: 3}, false},
		{api.Increment{Seq: 3, First: 1, Last: 2, Words: 3}, api.Increment{Seq: 3}, false},
		{api.Increment{Seq: 3, Belt: 1}, api.Increment{Seq: 3, Belt: 1}, false},
		{api.Increment{Seq: 9}, api.Increment{Seq: 3, Belt: 1}, true},
		{api.Increment{Seq: 3, Belt: 1}, api.Increment{Seq: 9}, false},
		{api.Increment{Seq: api.MaxSeq}, api.Increment{Belt: 1}, true},
		{api.Increment{Belt: 1}, api.Increment{Seq: api.MaxSeq}, false},
		{api.Increment{Seq: api.MaxSeq, Belt: 2}, api.Increment{Belt: 3}, true},
		{api.Increment{Belt: 3}, api.Increment{Seq: api.MaxSeq, Belt: 2}, false},
		{api.Increment{}, api.Increment{Seq: api.MaxSeq, Belt: 3}, true},
		{api.Increment{Seq: api.MaxSeq, Belt: 3}, api.Increment{}, false},
		{api.Increment{Seq: api.MaxSeq - 1, Belt: 3}, api.Increment{Seq: api.MaxSeq, Belt: 3}, true},
		{api.Increment{Seq: api.MaxSeq, Belt: 3}, api.Increment{Seq: api.MaxSeq, Belt: 3}, false},
	} {
		if got := order.Before(x.a, x.b); got != x.want {
			t.Errorf("Before(%v, %v) is %t", x.a, x.b, got)
		}
	}
}

// Beyond the Belts and Seqs of the promise, the answers need only depend on the arguments.
func TestStampAndBeforeOfFarNumbers(t *testing.T) {
	numbers := append([]int{0, 1, api.MaxBelts, api.MaxSeq}, farNumbers...)
	for _, b := range numbers {
		for _, seq := range numbers {
			i := api.Increment{Seq: seq, Belt: b}
			if order.Stamp(i) != order.Stamp(i) {
				t.Errorf("Stamp(%v) is not the same when called again", i)
			}
			for _, n := range numbers {
				other := api.Increment{Seq: n, Belt: b}
				if order.Before(i, other) != order.Before(i, other) {
					t.Errorf("Before(%v, %v) is not the same when called again", i, other)
				}
			}
		}
	}
}

// P15.2

func TestAllAndFirstOfBeltsThatAreWrittenOut(t *testing.T) {
	a, b, c, d := number(3, 0, 1), number(9, 0, 2), number(1, 2, 3), number(4, 2, 4)
	for _, x := range []struct {
		why  string
		l    belts
		want []api.Increment
	}{
		{"nil", nil, nil},
		{"no belts", belts{}, nil},
		{"one empty belt", belts{{}}, nil},
		{"one belt that is nil", belts{nil}, nil},
		{"four empty belts", belts{{}, nil, {}, nil}, nil},
		{"one increment", belts{{a}}, []api.Increment{a}},
		{"one belt", belts{{a, b}}, []api.Increment{a, b}},
		{"an empty belt first", belts{{}, {c}}, []api.Increment{c}},
		{"three empty belts first", belts{nil, {}, nil, {c, d}}, []api.Increment{c, d}},
		{"empty belts last", belts{{a}, {}, nil}, []api.Increment{a}},
		{"an empty belt in the middle", belts{{a, b}, nil, {c, d}}, []api.Increment{a, b, c, d}},
		{"Seqs that do not ascend", belts{{b, a}, nil, {d, c}}, []api.Increment{b, a, d, c}},
		{"the same Seq on two belts", belts{{a}, {number(3, 1, 9)}}, []api.Increment{a, number(3, 1, 9)}},
		{"the same Seq on two belts, the other way round", belts{{number(3, 1, 9)}, {a}}, []api.Increment{number(3, 1, 9), a}},
		{"the same Seq twice on one belt", belts{{a, number(3, 0, 8), a}}, []api.Increment{a, number(3, 0, 8), a}},
		{"the same increment on each belt", belts{{a}, {a}, {a}, {a}}, []api.Increment{a, a, a, a}},
		{"Belts that do not name their queue", belts{{c, d}, nil, {a, b}}, []api.Increment{c, d, a, b}},
		{"Belts of one queue that differ", belts{{c, a, d, b}}, []api.Increment{c, a, d, b}},
		{"a zero increment first", belts{{}, {{}, a}}, []api.Increment{{}, a}},
		{"more belts than are permitted", belts{{}, {}, {}, {}, {}, {d}, {c}}, []api.Increment{d, c}},
	} {
		if got := order.All(x.l); !slices.Equal(got, x.want) {
			t.Errorf("All of %s is %v, want %v", x.why, got, x.want)
		}
		got, ok := order.First(x.l)
		if ok != (len(x.want) > 0) || ok && got != x.want[0] || !ok && got != (api.Increment{}) {
			t.Errorf("First of %s is %v, %t", x.why, got, ok)
		}
		expectAll(t, x.l)
		expectFirst(t, x.l)
	}
}

func TestAllAndFirstOfSmallBelts(t *testing.T) {
	someBelts(func(l belts) {
		expectAll(t, l)
		expectFirst(t, l)
	})
}

func TestAllAndFirstKeepEachField(t *testing.T) {
	for _, n := range append([]int{0, 1, 5}, farNumbers...) {
		for _, i := range []api.Increment{{Seq: n}, {Belt: n}, {First: n}, {Last: n}, {Words: n}, {Seq: n, Belt: n, First: n, Last: n, Words: n}} {
			l := belts{nil, {i, number(2, 2, 2)}, {i}}
			if got := order.All(l); !slices.Equal(got, []api.Increment{i, number(2, 2, 2), i}) {
				t.Errorf("All(%v) is %v", l, got)
			}
			if got, ok := order.First(l); got != i || !ok {
				t.Errorf("First(%v) is %v, %t", l, got, ok)
			}
		}
	}
}

func TestAllOfOneBeltIsNotItsQueue(t *testing.T) {
	// One queue alone, at each place, could be answered as it is.
	for at := range 4 {
		l := make(belts, 4)
		l[at] = append(make([]api.Increment, 0, 10), queueOf(at, 3, 9)...)
		expectAll(t, l)
		all := order.All(l)
		all[0] = number(-77, -77, -77)
		_ = append(all, number(-78, -78, -78))
		if !slices.Equal(l[at][:3], append(queueOf(at, 3, 9), api.Increment{})) {
			t.Errorf("belt %d shares memory with the answer: %v", at, l[at][:3])
		}
	}
}

func TestAllAndFirstOfManyIncrements(t *testing.T) {
	many := make([]api.Increment, 1<<18)
	for k := range many {
		many[k] = number(len(many)-k, k%7, k)
	}
	l := make(belts, 1<<10)
	l = append(l, many[:1<<17], nil, many[1<<17:])
	if got := order.All(l); !slices.Equal(got, many) {
		t.Error("All of many increments")
	}
	if got, ok := order.First(l); got != many[0] || !ok {
		t.Error("First of many increments", got, ok)
	}
	empty := make(belts, 1<<20)
	if got := order.All(empty); len(got) != 0 {
		t.Error("All of 2^20 empty belts", len(got))
	}
	if got, ok := order.First(empty); got != (api.Increment{}) || ok {
		t.Error("First of 2^20 empty belts", got, ok)
	}
}

// P15.3

func TestPrefixesThatAreWrittenOut(t *testing.T) {
	for _, x := range []struct {
		why  string
		seqs []int
		want bool
	}{
		{"nil", nil, true},
		{"no numbers", []int{}, true},
		{"the first one", []int{3}, true},
		{"not the first one", []int{9}, false},
		{"the first one of another belt", []int{1}, false},
		{"the first two", []int{3, 9}, true},
		{"the first two in the other order", []int{9, 3}, true},
		{"the second one is missing", []int{3, 1}, false},
		{"the first one is missing", []int{9, 1}, false},
		{"the first one twice", []int{3, 3}, false},
		{"the second one twice", []int{9, 9}, false},
		{"three of them", []int{1, 9, 3}, true},
		{"three, with the last one", []int{3, 9, 4}, false},
		{"three, with one twice", []int{3, 9, 3}, false},
		{"three, with one twice side by side", []int{3, 3, 9}, false},
		{"all", []int{4, 1, 9, 3}, true},
		{"all, with another one for the last", []int{3, 9, 1, 5}, false},
		{"all, with another one for the first", []int{2, 9, 1, 4}, false},
		{"all, with one twice for the last", []int{3, 9, 1, 1}, false},
		{"all and one twice", []int{3, 9, 1, 4, 4}, false},
		{"all and another one", []int{3, 9, 1, 4, 5}, false},
		{"all twice", []int{3, 9, 1, 4, 3, 9, 1, 4}, false},
		{"a number that stands nowhere", []int{7}, false},
		{"0", []int{0}, false},
		{"a negative one", []int{-3}, false},
		{"a stamp", []int{2<<32 + 1}, false},
		{"the first three, the third as its stamp", []int{3, 9, 2<<32 + 1}, false},
	} {
		if got := order.Prefix(threeBelts(), x.seqs); got != x.want {
			t.Errorf("%s: Prefix of %v is %t", x.why, x.seqs, got)
		}
		expectPrefix(t, threeBelts(), x.seqs, x.want)
	}
}

func TestPrefixesOfNoIncrements(t *testing.T) {
	for _, l := range []belts{nil, {}, {nil}, {{}}, make(belts, 4), make(belts, 1<<20)} {
		if !order.Prefix(l, nil) || !order.Prefix(l, []int{}) {
			t.Errorf("no numbers, %d empty belts", len(l))
		}
		for _, n := range append([]int{0, 1}, farNumbers...) {
			if order.Prefix(l, []int{n}) || order.Prefix(l, []int{n, n}) || order.Prefix(l, []int{n, n ^ 1, n ^ 2}) {
				t.Errorf("%d, %d empty belts", n, len(l))
			}
		}
	}
}

func TestPrefixesInEveryOrder(t *testing.T) {
	l := belts{queueOf(0, 5, 20), queueOf(1, 0), nil, queueOf(3, 1, 7, api.MaxSeq)}
	seqs := []int{5, 20, 0, 1, 7, api.MaxSeq}
	for n := range len(seqs) + 1 {
		eachPermutation(seqs[:n], func(permuted []int) {
			expectPrefix(t, l, permuted, true)
			for k := range permuted {
				expectPrefix(t, l, slices.Delete(slices.Clone(permuted), k, k+1), permuted[k] == seqs[n-1])
				for _, other := range []int{permuted[k] - 1, permuted[k] + 1, -permuted[k] - 2, permuted[k] + 1<<32, permuted[(k+1)%n]} {
					changed := slices.Clone(permuted)
					changed[k] = other
					expectPrefix(t, l, changed, wantedPrefix(l, changed))
				}
			}
			for _, more := range []int{seqs[0], seqs[len(seqs)-1], 2, -1} {
				longer := append(slices.Clone(permuted), more)
				expectPrefix(t, l, longer, n < len(seqs) && more == seqs[n])
			}
		})
	}
}

func TestPrefixesOfSmallBelts(t *testing.T) {
	found := 0
	someBelts(func(l belts) {
		eachSeqs([]int{3, 5, math.MinInt, 0}, 3, func(seqs []int) {
			want := wantedPrefix(l, seqs)
			if got := order.Prefix(l, seqs); got != want {
				t.Errorf("Prefix(%v, %v) is %t, want %t", l, seqs, got, want)
			}
			if want && len(seqs) > 1 {
				found++
			}
		})
	})
	if found < 100 {
		t.Errorf("only %d were beginnings of two or more", found)
	}
}

// Two increments with the same Seq have no beginning with both of them.
func TestPrefixesOfBeltsWithTheSameSeqTwice(t *testing.T) {
	for _, x := range []struct {
		why  string
		l    belts
		seqs []int
		want bool
	}{
		{"twice on one belt, one asked for", belts{queueOf(0, 3, 3)}, []int{3}, true},
		{"twice on one belt, asked for twice", belts{queueOf(0, 3, 3)}, []int{3, 3}, false},
		{"twice on one belt, and another number", belts{queueOf(0, 3, 3, 5)}, []int{3, 5}, false},
		{"twice on one belt, and the other one behind", belts{queueOf(0, 3, 3, 5)}, []int{3, 3, 5}, false},
		{"twice on one belt, with a number of another belt", belts{queueOf(0, 3, 3), queueOf(1, 5)}, []int{3, 5, 6}, false},
		{"on two belts, one asked for", belts{queueOf(0, 3), queueOf(1, 3)}, []int{3}, true},
		{"on two belts, asked for twice", belts{queueOf(0, 3), queueOf(1, 3)}, []int{3, 3}, false},
		{"on two belts, with the one between", belts{queueOf(0, 3, 5), queueOf(1, 3)}, []int{5, 3}, true},
		{"on two belts, all three", belts{queueOf(0, 3, 5), queueOf(1, 3)}, []int{5, 3, 3}, false},
		{"on two belts, and a number that is not there", belts{queueOf(0, 3, 5), queueOf(1, 3)}, []int{5, 3, 7}, false},
		{"on two belts, and all different ones", belts{queueOf(0, 3), queueOf(1, 3, 5)}, []int{3, 5}, false},
		{"behind the beginning", belts{queueOf(0, 1, 2), queueOf(1, 7, 7)}, []int{2, 1}, true},
		{"behind the beginning, with one of them", belts{queueOf(0, 1, 2), queueOf(1, 7, 7)}, []int{2, 7, 1}, true},
		{"behind the beginning, with both", belts{queueOf(0, 1, 2), queueOf(1, 7, 7)}, []int{2, 7, 1, 7}, false},
	} {
		if got := order.Prefix(x.l, x.seqs); got != x.want {
			t.Errorf("%s: Prefix of %v is %t", x.why, x.seqs, got)
		}
		expectPrefix(t, x.l, x.seqs, x.want)
	}
}

// The beginning is that of All, not that of the ascending stamps, nor that of the ascending Seqs.
func TestPrefixesOfBeltsThatAreNotValid(t *testing.T) {
	for _, x := range []struct {
		why  string
		l    belts
		seqs []int
		want bool
	}{
		{"Seqs that descend", belts{queueOf(0, 9, 3)}, []int{9}, true},
		{"Seqs that descend, the least one", belts{queueOf(0, 9, 3)}, []int{3}, false},
		{"Belts in another order", belts{queueOf(2, 4), queueOf(0, 1)}, []int{4}, true},
		{"Belts in another order, the least stamp", belts{queueOf(2, 4), queueOf(0, 1)}, []int{1}, false},
		{"a zero increment", belts{{{}}}, []int{0}, true},
		{"a negative Seq", belts{queueOf(0, -5, 2)}, []int{-5}, true},
		{"Seqs without a difference that an int can have", belts{queueOf(0, math.MaxInt, math.MinInt, 0, -1)}, []int{-1, math.MinInt, 0, math.MaxInt}, true},
		{"Seqs that differ above 32 bits", belts{queueOf(0, 1<<32, 0)}, []int{0}, false},
		{"five belts", belts{nil, nil, nil, nil, queueOf(0, 8)}, []int{8}, true},
	} {
		if got := order.Prefix(x.l, x.seqs); got != x.want {
			t.Errorf("%s: Prefix of %v is %t", x.why, x.seqs, got)
		}
		expectPrefix(t, x.l, x.seqs, x.want)
	}
}

func TestPrefixesOfManyIncrements(t *testing.T) {
	// The numbers stand in an order that is neither ascending nor descending, and is not that of the increments.
	const n = 1 << 18
	l, seqs := belts{nil, nil}, make([]int, n)
	for k := range n {
		l[k*2/n] = append(l[k*2/n], number(k*5+1, k*2/n, k))
		seqs[k*77773%n] = k*5 + 1
	}
	if !order.Prefix(l, seqs) {
		t.Error("all of many")
	}
	if order.Prefix(l, seqs[1:]) {
		t.Error("all of many but the first one")
	}
	if order.Prefix(l, append(seqs, n*5+1)) {
		t.Error("one more than many")
	}
	seqs[n/3]++
	if order.Prefix(l, seqs) {
		t.Error("many with another one")
	}
	seqs[n/3] = seqs[n/2]
	if order.Prefix(l, seqs) {
		t.Error("many with one twice")
	}
	same := make([]int, n)
	if order.Prefix(l, same) {
		t.Error("many that are the same")
	}
}

// Consequences

// filled returns a space of frames with belts that are valid in it, made by allocating in each increment as many words as sizes has.
func filled(t *testing.T, belt0, belt1, belt2 []api.Increment, sizes []int) (api.Space, belts) {
	t.Helper()
	s, err := frame.New(3, 32)
	if err != api.OK {
		t.Fatal("New", err)
	}
	l := make(belts, 3)
	for _, i := range slices.Concat(belt2, belt0, belt1) {
		for _, n := range sizes {
			if s, i, _, err = bump.Alloc(s, i, n); err != api.OK {
				t.Fatalf("Alloc: error %d", err)
			}
		}
		if l, err = belt.Add(l, i); err != api.OK {
			t.Fatalf("Add: error %d", err)
		}
	}
	if !belt.Valid(s, l) {
		t.Fatalf("%v are not valid", l)
	}
	return s, l
}

// fresh returns increments of belt b without words.
func fresh(b int, seqs ...int) []api.Increment {
	var queue []api.Increment
	for _, seq := range seqs {
		queue = append(queue, api.Increment{Seq: seq, Belt: b, First: -1, Last: -1})
	}
	return queue
}

// eachValid visits some valid belts with their space.
func eachValid(t *testing.T, visit func(s api.Space, l belts)) {
	t.Helper()
	for _, sizes := range [][]int{{1}, {8}, {5, 6}, {3, 14, 2}} {
		for _, x := range [][3][]api.Increment{
			{fresh(0, 3, 9), fresh(1), fresh(2, 1, 4)},
			{fresh(0), fresh(1), fresh(2, 0, 1, api.MaxSeq)},
			{fresh(0, api.MaxSeq), fresh(1, 0, api.MaxSeq-1), fresh(2, 7)},
			{fresh(0, 0), fresh(1, 2, 5), fresh(2)},
			{fresh(0), fresh(1), fresh(2)},
		} {
			s, l := filled(t, x[0], x[1], x[2], sizes)
			visit(s, l)
		}
	}
}

func TestAllAscendsForValidBelts(t *testing.T) {
	eachValid(t, func(s api.Space, l belts) {
		all := order.All(l)
		for k := 1; k < len(all); k++ {
			if order.Stamp(all[k-1]) >= order.Stamp(all[k]) || !order.Before(all[k-1], all[k]) || order.Before(all[k], all[k-1]) {
				t.Errorf("%v is not before %v", all[k-1], all[k])
			}
		}
		if first, ok := order.First(l); ok != (len(all) > 0) || ok && first != all[0] {
			t.Errorf("First(%v) is %v, %t", l, first, ok)
		}
	})
}

func TestFramesHaveTheStampsOfTheirIncrements(t *testing.T) {
	eachValid(t, func(s api.Space, l belts) {
		for f, entry := range s.Frames {
			i, ok := belt.Find(l, entry.Owner)
			if ok != (entry.Owner != -1) || ok && entry.Stamp != order.Stamp(i) {
				t.Errorf("frame %d has the stamp %d, its increment is %v", f, entry.Stamp, i)
			}
		}
	})
}

// Examples

func TestBelt1ComesAfterBelt0(t *testing.T) {
	one, zero := api.Increment{Seq: 3, Belt: 1}, api.Increment{Seq: 9, Belt: 0}
	if !order.Before(zero, one) || order.Before(one, zero) {
		t.Error("Before", order.Stamp(zero), order.Stamp(one))
	}
	if all := order.All(belts{{zero}, {one}}); len(all) != 2 || all[0] != zero || all[1] != one {
		t.Error("All", all)
	}
}
