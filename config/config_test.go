package config_test

import (
	"math"
	"slices"
	"strings"
	"testing"

	"beltway/api"
	"beltway/config"
)

// farNumbers are outside of every range; conversions of some of them to fewer bits, and sums, would come back into one.
var farNumbers = []int{math.MinInt, math.MinInt + 1, -1 << 62, -1 << 33, -1 << 32, -256, -65, -64, -2, 128, 256, 257, 1 << 16, 1<<16 + 1, 1 << 32, 1<<32 + 1, 1 << 62, math.MaxInt - 1, math.MaxInt}

var negativeZero = math.Copysign(0, -1)

// goodShares are valid by chapter 6.
var goodShares = []float64{0, math.SmallestNonzeroFloat64, math.Nextafter(0x1p-1022, 0), 0x1p-1022, 0.01, 0.25, 1.0 / 3, 0.5, math.Nextafter(1, 0), 1}

// badShares are not.
var badShares = []float64{
	negativeZero, -math.SmallestNonzeroFloat64, -0.25, -1, -math.MaxFloat64,
	math.Nextafter(1, 2), 1.5, 2, 64, math.MaxFloat64,
	math.Inf(1), math.Inf(-1), math.NaN(),
	math.Float64frombits(0x7ff0000000000001), math.Float64frombits(0x7fffffffffffffff), math.Float64frombits(0xfff8000000000000), math.Float64frombits(0xffffffffffffffff),
}

// path returns the valid configuration of n belts whose last one has no cap.
func path(n int) api.Config {
	c := api.Config{Name: "a", Full: 8}
	for b := range n - 1 {
		c.Rules = append(c.Rules, api.Rule{Share: 0.25, Limit: 3, Batch: 2, Target: b + 1})
	}
	c.Rules = append(c.Rules, api.Rule{Target: n - 1})
	return c
}

// capped returns the valid configuration of n belts all of which have a cap.
func capped(n int) api.Config {
	c := path(n)
	c.Rules[n-1].Share, c.Full = 0.5, 0
	return c
}

// changed returns a configuration of n belts in which something was changed.
func changed(n int, change func(c *api.Config)) api.Config {
	c := path(n)
	change(&c)
	return c
}

func isShare(x float64) bool {
	return math.Float64bits(x) == 0 || x > 0 && x <= 1
}

// wantedName says whether the name is permitted, as the promise lists it.
func wantedName(name string) bool {
	return len(name) >= 1 && len(name) <= 16 && strings.IndexByte("abcdefghijklmnopqrstuvwxyz", name[0]) >= 0 &&
		strings.Trim(name, "abcdefghijklmnopqrstuvwxyz0123456789-") == ""
}

// wantedRule says which error of rule b applies first, as the promise lists it.
func wantedRule(rules []api.Rule, b int) api.Errno {
	r, isLast := rules[b], b == len(rules)-1
	if !isShare(r.Share) {
		return api.ErrShare
	}
	if r.Limit < 0 || r.Limit > 64 || r.Batch < 0 || r.Batch > 64 || isLast && r.Limit != 0 {
		return api.ErrLimit
	}
	if isLast && r.Target != b || !isLast && r.Target <= b || r.Target < 0 || r.Target >= len(rules) {
		return api.ErrTarget
	}
	return api.OK
}

// wantedCheck says what Check returns, as the promise lists it.
func wantedCheck(c api.Config) api.Errno {
	if !wantedName(c.Name) {
		return api.ErrName
	}
	if len(c.Rules) == 0 || len(c.Rules) > 4 {
		return api.ErrBelts
	}
	for b := range c.Rules {
		if err := wantedRule(c.Rules, b); err != api.OK {
			return err
		}
	}
	for b := range c.Rules {
		others := 0
		for other, r := range c.Rules {
			if other != b && r.Target == b {
				others++
			}
		}
		if b > 0 && others == 0 {
			return api.ErrTarget
		}
	}
	isOpenEnded := c.Rules[len(c.Rules)-1].Share == 0
	if isOpenEnded && (c.Full < 1 || c.Full > 64) || !isOpenEnded && c.Full != 0 {
		return api.ErrLimit
	}
	return api.OK
}

// expect compares Check, and what Complete and Cap make of it, with the error that is wanted.
func expect(t *testing.T, c api.Config, wanted api.Errno, why string) {
	t.Helper()
	if got := config.Check(c); got != wanted {
		t.Fatalf("%s: Check(%+v) = %d, wanted %d", why, c, got, wanted)
	}
	isComplete := wanted == api.OK && c.Rules[len(c.Rules)-1].Share == 0
	if got := config.Complete(c); got != isComplete {
		t.Fatalf("%s: Complete(%+v) = %t", why, c, got)
	}
	frames, err := config.Cap(c, 0, 8)
	if wanted != api.OK && (frames != 0 || err != api.ErrArg) || wanted == api.OK && err != api.OK {
		t.Fatalf("%s: Cap(%+v, 0, 8) = %d, %d", why, c, frames, err)
	}
}

// P12.1

func TestCheckOfValidConfigurations(t *testing.T) {
	for n := 1; n <= 4; n++ {
		expect(t, path(n), api.OK, "without a cap")
		expect(t, capped(n), api.OK, "with caps")
	}
	// All numbers at their least, and all at their greatest.
	expect(t, api.Config{Name: "z", Rules: []api.Rule{{}}, Full: 1}, api.OK, "the least")
	expect(t, api.Config{
		Name:  "z123456789-----z",
		Rules: []api.Rule{{Share: 1, Limit: 64, Batch: 64, Target: 1}, {Share: 1, Limit: 64, Batch: 64, Target: 2}, {Share: 1, Limit: 64, Batch: 64, Target: 3}, {Batch: 64, Target: 3}},
		Full:  64,
	}, api.OK, "the greatest")
}

func TestCheckOfNames(t *testing.T) {
	for _, x := range []struct {
		name  string
		valid bool
	}{
		{"", false},
		{"a", true}, {"m", true}, {"z", true},
		{"-", false}, {"0", false}, {"9", false}, {"A", false}, {"Z", false}, {" ", false}, {"\x00", false},
		{"a-", true}, {"a0", true}, {"a9", true}, {"az", true}, {"a--", true}, {"xx100", true}, {"older-first", true},
		{"-a", false}, {"0a", false}, {"9a", false}, {" a", false}, {"a ", false}, {"a b", false},
		{"a,", false}, {"a.", false}, {"a/", false}, {"a:", false}, {"a@", false}, {"a[", false}, {"a_", false}, {"a`", false}, {"a{", false},
		{"`", false}, {"{", false}, {"`a", false}, {"{a", false},
		{"aB", false}, {"aZz", false}, {"Aa", false}, {"a\x00", false}, {"a\n", false}, {"a\x7f", false}, {"a\x80", false}, {"a\xff", false}, {"a\xe1", false},
		{"é", false}, {"aé", false}, {"ａ", false}, {"aａ", false}, {"a٣", false}, {"a–", false}, {"aƚ", false}, {"ßa", false},
		{"abcdefghijklmnop", true}, {"a---------------", true}, {"a000000000000000", true},
		{"abcdefghijklmnopq", false}, {"a----------------", false},
		{"abcdefghijklmn-P", false}, {"abcdefghijklmno_", false}, {"1bcdefghijklmnop", false}, {"abcdefghijklmné", false},
	} {
		wanted := api.ErrName
		if x.valid {
			wanted = api.OK
		}
		expect(t, changed(2, func(c *api.Config) { c.Name = x.name }), wanted, "the name "+x.name)
	}
}

func TestCheckOfEveryByteOfAName(t *testing.T) {
	for b := range 256 {
		isLetter := b >= 97 && b <= 122
		isPermitted := isLetter || b >= 48 && b <= 57 || b == 45
		for length := 1; length <= 16; length++ {
			for at := range length {
				name := []byte(strings.Repeat("k", length))
				name[at] = byte(b)
				wanted := api.ErrName
				if isLetter || at > 0 && isPermitted {
					wanted = api.OK
				}
				expect(t, changed(1, func(c *api.Config) { c.Name = string(name) }), wanted, "one byte of a name")
			}
		}
	}
}

func TestCheckOfTheLengthOfAName(t *testing.T) {
	for _, text := range []string{"q", "7", "-", "Q", "\x00", "é"} {
		for _, length := range []int{0, 1, 2, 15, 16, 17, 18, 32, 255, 256, 257, 1 << 16, 1<<16 + 1} {
			name := "q" + strings.Repeat(text, length)
			for _, part := range []string{name[:length], name[1:], name} {
				c := changed(1, func(c *api.Config) { c.Name = part })
				expect(t, c, wantedCheck(c), "the length of a name")
			}
		}
	}
}

func TestCheckOfTheNumberOfRules(t *testing.T) {
	for n := 1; n <= 9; n++ {
		wanted := api.OK
		if n > 4 {
			wanted = api.ErrBelts
		}
		expect(t, path(n), wanted, "a number of rules")
		expect(t, capped(n), wanted, "a number of rules")
	}
	for _, full := range []int{0, 1, 8, 64, 65} {
		expect(t, api.Config{Name: "a", Full: full}, api.ErrBelts, "nil")
		expect(t, api.Config{Name: "a", Rules: []api.Rule{}, Full: full}, api.ErrBelts, "no rules")
		expect(t, api.Config{Name: "a", Rules: path(4).Rules[:0], Full: full}, api.ErrBelts, "no rules, with others behind the end")
	}
	for _, n := range []int{256, 257, 260, 1 << 16, 1<<16 + 1} {
		expect(t, path(n), api.ErrBelts, "many rules")
	}
	// Rules behind the end do not count.
	expect(t, api.Config{Name: "a", Rules: append(path(1).Rules, api.Rule{Share: -1, Target: -1})[:1], Full: 8}, api.OK, "a bad rule behind the end")
}

func TestCheckOfShares(t *testing.T) {
	for n := 1; n <= 4; n++ {
		for b := range n {
			for _, x := range goodShares {
				// The share of the last rule alone decides what Full has to be.
				c := changed(n, func(c *api.Config) { c.Rules[b].Share = x })
				if b == n-1 && x != 0 {
					c.Full = 0
				}
				expect(t, c, api.OK, "a good share")
			}
			for _, x := range badShares {
				for _, full := range []int{0, 8, 65} {
					expect(t, changed(n, func(c *api.Config) { c.Rules[b].Share, c.Full = x, full }), api.ErrShare, "a bad share")
				}
			}
		}
	}
}

func TestCheckOfLimitsAndBatches(t *testing.T) {
	for n := 1; n <= 4; n++ {
		for b := range n {
			for _, x := range slices.Concat([]int{-1, 0, 1, 2, 63, 64, 65, 66}, farNumbers) {
				limit, batch := api.OK, api.OK
				if x < 0 || x > 64 {
					limit, batch = api.ErrLimit, api.ErrLimit
				}
				if b == n-1 && x != 0 {
					limit = api.ErrLimit
				}
				for _, c := range []api.Config{path(n), capped(n)} {
					kept := c.Rules[b]
					c.Rules[b].Limit = x
					expect(t, c, limit, "a limit")
					c.Rules[b] = kept
					c.Rules[b].Batch = x
					expect(t, c, batch, "a batch")
				}
			}
		}
	}
}

func TestCheckOfTargets(t *testing.T) {
	for _, x := range []struct {
		why     string
		targets []int
		wanted  api.Errno
	}{
		{"itself", []int{0}, api.OK},
		{"below the first", []int{-1}, api.ErrTarget},
		{"the first behind the last", []int{1}, api.ErrTarget},
		{"the example", []int{1, 1}, api.OK},
		{"the example: its own index", []int{0, 1}, api.ErrTarget},
		{"a smaller one for the last", []int{1, 0}, api.ErrTarget},
		{"behind the last", []int{2, 1}, api.ErrTarget},
		{"behind the last for the last", []int{1, 2}, api.ErrTarget},
		{"below the first", []int{-1, 1}, api.ErrTarget},
		{"a path", []int{1, 2, 2}, api.OK},
		{"nothing goes to 1", []int{2, 2, 2}, api.ErrTarget},
		{"its own index", []int{1, 1, 2}, api.ErrTarget},
		{"a smaller one", []int{1, 0, 2}, api.ErrTarget},
		{"behind the last", []int{3, 2, 2}, api.ErrTarget},
		{"behind the last", []int{1, 3, 2}, api.ErrTarget},
		{"a smaller one for the last", []int{1, 2, 1}, api.ErrTarget},
		{"a cycle", []int{1, 2, 0}, api.ErrTarget},
		{"a path", []int{1, 2, 3, 3}, api.OK},
		{"nothing goes to 2", []int{1, 3, 3, 3}, api.ErrTarget},
		{"nothing goes to 1", []int{2, 2, 3, 3}, api.ErrTarget},
		{"nothing goes to 1", []int{2, 3, 3, 3}, api.ErrTarget},
		{"nothing goes to 1 and 2", []int{3, 3, 3, 3}, api.ErrTarget},
		{"its own index", []int{1, 2, 2, 3}, api.ErrTarget},
		{"a smaller one", []int{1, 2, 1, 3}, api.ErrTarget},
		{"behind the last", []int{1, 2, 4, 3}, api.ErrTarget},
		{"behind the last for the last", []int{1, 2, 3, 4}, api.ErrTarget},
	} {
		c := changed(len(x.targets), func(c *api.Config) {
			for b, target := range x.targets {
				c.Rules[b].Target = target
			}
		})
		expect(t, c, x.wanted, x.why)
	}
}

func TestCheckOfFarTargets(t *testing.T) {
	for n := 1; n <= 4; n++ {
		for b := range n {
			for _, target := range slices.Concat([]int{-1, n}, farNumbers) {
				expect(t, changed(n, func(c *api.Config) { c.Rules[b].Target = target }), api.ErrTarget, "a far target")
			}
		}
	}
}

// eachTable calls visit with each table of n numbers from least to greatest; the table is one array.
func eachTable(n, least, greatest int, visit func(table []int)) {
	table := make([]int, n)
	var fill func(at int)
	fill = func(at int) {
		if at == n {
			visit(table)
			return
		}
		for table[at] = least; table[at] <= greatest; table[at]++ {
			fill(at + 1)
		}
	}
	fill(0)
}

func TestCheckOfAllTablesOfTargets(t *testing.T) {
	for n := 1; n <= 4; n++ {
		valid := 0
		eachTable(n, -1, 5, func(targets []int) {
			for _, c := range []api.Config{path(n), capped(n)} {
				for b, target := range targets {
					c.Rules[b].Target = target
				}
				wanted := wantedCheck(c)
				expect(t, c, wanted, "all targets")
				if wanted == api.OK {
					valid++
				}
				// The same with a Full that is not permitted: an error of the targets comes first.
				c.Full = 65
				expect(t, c, wantedCheck(c), "all targets, and Full")
			}
		})
		if valid != 2 {
			t.Error(n, "rules have", valid, "valid configurations")
		}
	}
}

func TestCheckOfFull(t *testing.T) {
	for n := 1; n <= 4; n++ {
		for _, full := range slices.Concat([]int{-1, 0, 1, 2, 63, 64, 65, 66}, farNumbers) {
			withoutCap, withCaps := api.ErrLimit, api.ErrLimit
			if full >= 1 && full <= 64 {
				withoutCap = api.OK
			}
			if full == 0 {
				withCaps = api.OK
			}
			c := path(n)
			c.Full = full
			expect(t, c, withoutCap, "Full, and the last share is 0")
			for _, x := range goodShares[1:] {
				c := capped(n)
				c.Rules[n-1].Share, c.Full = x, full
				expect(t, c, withCaps, "Full, and the last share is not 0")
			}
			// The shares of the other rules do not decide.
			if n > 1 {
				c := path(n)
				c.Rules[0].Share, c.Full = 0, full
				expect(t, c, withoutCap, "Full, and the first and the last share are 0")
				c.Rules[n-1].Share = 1
				expect(t, c, withCaps, "Full, and only the first share is 0")
			}
		}
	}
}

func TestCheckOfAllSmallConfigurations(t *testing.T) {
	var rules [][]api.Rule
	for _, x := range []float64{0, negativeZero, 0.5, 2, math.NaN()} {
		for _, limit := range []int{-1, 0, 1, 65} {
			for _, batch := range []int{-1, 0, 64, 65} {
				for target := -1; target <= 2; target++ {
					rules = append(rules, []api.Rule{{Share: x, Limit: limit, Batch: batch, Target: target}})
				}
			}
		}
	}
	for _, name := range []string{"a", ""} {
		for _, full := range []int{-1, 0, 1, 64, 65} {
			for _, first := range rules {
				c := api.Config{Name: name, Rules: first, Full: full}
				expect(t, c, wantedCheck(c), "one rule")
				for _, second := range rules {
					c := api.Config{Name: name, Rules: slices.Concat(first, second), Full: full}
					expect(t, c, wantedCheck(c), "two rules")
				}
			}
		}
	}
}

// Each step repairs the error that comes first; all later ones stay.
func TestCheckOrderOfErrors(t *testing.T) {
	bad := api.Rule{Share: -1, Limit: -1, Batch: 65, Target: -1}
	c := api.Config{Name: "A", Rules: []api.Rule{bad, bad, bad, bad, bad}, Full: 65}
	for k, x := range []struct {
		wanted api.Errno
		repair func()
	}{
		{api.ErrName, func() { c.Name = "a" }},
		{api.ErrBelts, func() { c.Rules = c.Rules[:4] }},
		{api.ErrShare, func() { c.Rules[0].Share = 0 }},
		{api.ErrLimit, func() { c.Rules[0].Limit = 0 }},
		{api.ErrLimit, func() { c.Rules[0].Batch = 0 }},
		{api.ErrTarget, func() { c.Rules[0].Target = 3 }},
		{api.ErrShare, func() { c.Rules[1].Share = 0 }},
		{api.ErrLimit, func() { c.Rules[1].Batch = 0 }},
		{api.ErrLimit, func() { c.Rules[1].Limit = 0 }},
		{api.ErrTarget, func() { c.Rules[1].Target = 3 }},
		{api.ErrShare, func() { c.Rules[2].Share = 0 }},
		{api.ErrLimit, func() { c.Rules[2].Limit, c.Rules[2].Batch = 64, 64 }},
		{api.ErrTarget, func() { c.Rules[2].Target = 3 }},
		{api.ErrShare, func() { c.Rules[3].Share = 0 }},
		{api.ErrLimit, func() { c.Rules[3].Limit = 1 }},
		{api.ErrLimit, func() { c.Rules[3].Batch = 1 }},
		{api.ErrLimit, func() { c.Rules[3].Limit = 0 }},
		{api.ErrTarget, func() { c.Rules[3].Target = 3 }},
		{api.ErrTarget, func() { c.Rules[0].Target = 1 }},
		{api.ErrTarget, func() { c.Rules[1].Target = 2 }},
		{api.ErrLimit, func() { c.Full = 0 }},
		{api.ErrLimit, func() { c.Full = 64 }},
	} {
		if got := config.Check(c); got != x.wanted {
			t.Fatal("error", k, got, x.wanted)
		}
		expect(t, c, x.wanted, "the order of errors")
		x.repair()
	}
	expect(t, c, api.OK, "all repaired")
}

// Of two errors of different kinds the one that the promise names first is returned, wherever the other one is.
func TestCheckOfEveryTwoErrors(t *testing.T) {
	const n = 4
	errors := []func(c *api.Config){
		func(c *api.Config) { c.Name = "1" },
		func(c *api.Config) { c.Rules = append(c.Rules, api.Rule{Target: n}) },
		func(c *api.Config) { c.Full = 65 },
		func(c *api.Config) { c.Rules[0].Target = 2 },
		func(c *api.Config) { c.Rules[1].Target = 3 },
	}
	for b := range n {
		errors = append(errors,
			func(c *api.Config) { c.Rules[b].Share = math.NaN() },
			func(c *api.Config) { c.Rules[b].Limit = 65 },
			func(c *api.Config) { c.Rules[b].Batch = -1 },
			func(c *api.Config) { c.Rules[b].Target = n },
		)
		for target := -1; target < b; target++ {
			errors = append(errors, func(c *api.Config) { c.Rules[b].Target = target })
		}
		if b < n-1 {
			errors = append(errors, func(c *api.Config) { c.Rules[b].Target = b })
		}
	}
	for k, one := range errors {
		for l, other := range errors {
			c := path(n)
			one(&c)
			other(&c)
			wanted := wantedCheck(c)
			if wanted == api.OK {
				t.Fatal("no error", k, l)
			}
			expect(t, c, wanted, "two errors")
		}
	}
	for _, x := range []struct {
		why    string
		change func(c *api.Config)
		wanted api.Errno
	}{
		{"the name before no rules", func(c *api.Config) { c.Name, c.Rules = "", nil }, api.ErrName},
		{"no rules before Full", func(c *api.Config) { c.Rules, c.Full = nil, 65 }, api.ErrBelts},
		{"the target of 0 before the share of 1", func(c *api.Config) { c.Rules[0].Target, c.Rules[1].Share = 0, 2 }, api.ErrTarget},
		{"the own target of 1 before the share of 2", func(c *api.Config) { c.Rules[1].Target, c.Rules[2].Share = 1, 2 }, api.ErrTarget},
		{"the smaller target of 2 before the limit of 3", func(c *api.Config) { c.Rules[2].Target, c.Rules[3].Limit = 1, 1 }, api.ErrTarget},
		{"the limit of 0 before the share of 1", func(c *api.Config) { c.Rules[0].Limit, c.Rules[1].Share = 65, 2 }, api.ErrLimit},
		{"the share of 0 before the limit of 1", func(c *api.Config) { c.Rules[0].Share, c.Rules[1].Limit = 2, 65 }, api.ErrShare},
		{"the share of 3 before nothing that goes to 1", func(c *api.Config) { c.Rules[0].Target, c.Rules[3].Share = 2, 2 }, api.ErrShare},
		{"the limit of the last rule before nothing that goes to 1", func(c *api.Config) { c.Rules[0].Target, c.Rules[3].Limit = 2, 1 }, api.ErrLimit},
		{"nothing that goes to 1 before Full", func(c *api.Config) { c.Rules[0].Target, c.Full = 2, 0 }, api.ErrTarget},
		{"the limit of the last rule before its target", func(c *api.Config) { c.Rules[3].Limit, c.Rules[3].Target = 1, 0 }, api.ErrLimit},
		{"the target of the last rule before Full", func(c *api.Config) { c.Rules[3].Target, c.Full = 0, 0 }, api.ErrTarget},
		{"the share of the last rule before Full", func(c *api.Config) { c.Rules[3].Share, c.Full = negativeZero, 0 }, api.ErrShare},
	} {
		expect(t, changed(n, x.change), x.wanted, x.why)
	}
}

// P12.2

func TestComplete(t *testing.T) {
	for n := 1; n <= 4; n++ {
		if c := path(n); !config.Complete(c) {
			t.Error("not complete", n)
		}
		for _, x := range goodShares[1:] {
			c := capped(n)
			c.Rules[n-1].Share = x
			if config.Complete(c) {
				t.Error("complete with the last share", n, x)
			}
			// The shares of other rules do not decide.
			for b := range n - 1 {
				c.Rules[b].Share = 0
			}
			if config.Complete(c) {
				t.Error("complete with the other shares 0", n, x)
			}
			c = path(n)
			for b := range n - 1 {
				c.Rules[b].Share = x
			}
			if !config.Complete(c) {
				t.Error("not complete with the other shares", n, x)
			}
		}
	}
	for n := 1; n <= 4; n++ {
		for _, change := range []func(c *api.Config){
			func(c *api.Config) { c.Name = "" },
			func(c *api.Config) { c.Rules[n-1].Share = negativeZero },
			func(c *api.Config) { c.Rules[n-1].Batch = 65 },
			func(c *api.Config) { c.Rules[n-1].Limit = 1 },
			func(c *api.Config) { c.Rules[n-1].Target = n },
			func(c *api.Config) { c.Full = 0 },
			func(c *api.Config) { c.Rules = nil },
		} {
			if c := changed(n, change); config.Complete(c) {
				t.Errorf("complete: %+v", c)
			}
		}
	}
}

func TestCapOfKnownShares(t *testing.T) {
	// The product of 1.0/3 and 6 is less than 2, though a float64 would round it up to 2.
	c := api.Config{Name: "a", Rules: []api.Rule{{Share: 0.25, Target: 1}, {Share: 1.0 / 3, Target: 2}, {Share: 1, Target: 3}, {Target: 3}}, Full: 1}
	for _, x := range []struct{ b, n, wanted int }{
		{0, 1, 1}, {0, 2, 1}, {0, 7, 1}, {0, 8, 2}, {0, 10, 2}, {0, 11, 2}, {0, 12, 3}, {0, 16, 4}, {0, 63, 15}, {0, 64, 16},
		{1, 1, 1}, {1, 6, 1}, {1, 7, 2}, {1, 64, 21},
		{2, 1, 1}, {2, 2, 2}, {2, 63, 63}, {2, 64, 64},
		{3, 1, 0}, {3, 2, 0}, {3, 64, 0},
	} {
		if got, err := config.Cap(c, x.b, x.n); got != x.wanted || err != api.OK {
			t.Error("Cap", x, got, err)
		}
	}
}

// wantedFrames says how many of n frames k sixty-fourths of them are.
func wantedFrames(k, n int) int {
	if k == 0 {
		return 0
	}
	return max(1, k*n/64)
}

func TestCapOfAllFrames(t *testing.T) {
	for length := 1; length <= 4; length++ {
		for k := range 65 {
			c := capped(length)
			for b := range length {
				// Each rule has a share of its own, so that the one of rule b is told from all others.
				c.Rules[b].Share = float64((k+b)%65) / 64
			}
			if c.Rules[length-1].Share == 0 {
				c.Full = 1
			}
			for b := range length {
				for n := 1; n <= 64; n++ {
					wanted := wantedFrames((k+b)%65, n)
					if got, err := config.Cap(c, b, n); got != wanted || err != api.OK {
						t.Fatalf("Cap(%+v, %d, %d) = %d, %d, wanted %d", c, b, n, got, err, wanted)
					}
				}
			}
		}
	}
}

func TestCapOfBadArguments(t *testing.T) {
	bad := slices.Concat([]int{-1, 65, 66}, farNumbers)
	for length := 1; length <= 4; length++ {
		for _, c := range []api.Config{path(length), capped(length)} {
			for b := -1; b <= 6; b++ {
				for n := -1; n <= 66; n++ {
					got, err := config.Cap(c, b, n)
					isPermitted := b >= 0 && b < length && n >= 1 && n <= 64
					if isPermitted != (err == api.OK) || !isPermitted && (got != 0 || err != api.ErrArg) {
						t.Fatalf("Cap(%+v, %d, %d) = %d, %d", c, b, n, got, err)
					}
				}
				for _, n := range bad {
					if got, err := config.Cap(c, b, n); got != 0 || err != api.ErrArg {
						t.Fatalf("Cap(%+v, %d, %d) = %d, %d", c, b, n, got, err)
					}
				}
			}
			for _, b := range bad {
				for _, n := range slices.Concat([]int{0, 1, 64, 65}, bad) {
					if got, err := config.Cap(c, b, n); got != 0 || err != api.ErrArg {
						t.Fatalf("Cap(%+v, %d, %d) = %d, %d", c, b, n, got, err)
					}
				}
			}
		}
	}
}

// A configuration that is not valid has api.ErrArg whatever its own error is, for rules that would have a cap too.
func TestCapOfBadConfigurations(t *testing.T) {
	for k, change := range []func(c *api.Config){
		func(c *api.Config) { c.Name = "" },
		func(c *api.Config) { c.Name = "x_" },
		func(c *api.Config) { c.Rules = nil },
		func(c *api.Config) { c.Rules = path(5).Rules },
		func(c *api.Config) { c.Rules[0].Share = 2 },
		func(c *api.Config) { c.Rules[2].Share = math.NaN() },
		func(c *api.Config) { c.Rules[1].Limit = -1 },
		func(c *api.Config) { c.Rules[1].Batch = 65 },
		func(c *api.Config) { c.Rules[2].Limit = 1 },
		func(c *api.Config) { c.Rules[1].Target = 1 },
		func(c *api.Config) { c.Rules[0].Target = 2 },
		func(c *api.Config) { c.Full = 0 },
		func(c *api.Config) { c.Rules[2].Share = 0.5 },
	} {
		c := changed(3, change)
		for b := -1; b <= 5; b++ {
			for _, n := range []int{0, 1, 8, 64, 65} {
				if got, err := config.Cap(c, b, n); got != 0 || err != api.ErrArg {
					t.Error("Cap", k, b, n, got, err)
				}
			}
		}
	}
}

// Arguments stay, also the rules behind the end of those that are given.
func TestArgumentsStay(t *testing.T) {
	guard := api.Rule{Share: -7, Limit: -7, Batch: -7, Target: -7}
	for n := 1; n <= 5; n++ {
		for _, full := range []int{0, 8, 65} {
			for _, target := range []int{-1, 0, n - 1, n} {
				c := path(n)
				c.Rules[0].Target, c.Full = target, full
				memory := append(c.Rules, guard, guard)
				c.Rules = memory[:n]
				kept := slices.Clone(memory)
				config.Check(c)
				config.Complete(c)
				for b := -1; b <= n; b++ {
					config.Cap(c, b, 8)
					config.Cap(c, b, 0)
				}
				if !slices.Equal(memory, kept) {
					t.Fatal("an argument has changed", n, full, target)
				}
			}
		}
	}
}

// Consequences and examples

func TestTargetsLeadToTheLastBelt(t *testing.T) {
	for n := 1; n <= 4; n++ {
		eachTable(n, -1, 5, func(targets []int) {
			c := path(n)
			for b, target := range targets {
				c.Rules[b].Target = target
			}
			if config.Check(c) != api.OK {
				return
			}
			for b := range n {
				if (targets[b] == b) != (b == n-1) {
					t.Error("a belt that is its own target", targets, b)
				}
				at := b
				for range n {
					at = targets[at]
				}
				if at != n-1 {
					t.Error("a belt that does not lead to the last one", targets, b)
				}
			}
		})
	}
}

func TestExamples(t *testing.T) {
	complete := api.Config{Name: "x", Rules: []api.Rule{{Share: 0.25, Target: 1}, {Share: 0, Target: 1}}, Full: 8}
	if config.Check(complete) != api.OK || !config.Complete(complete) {
		t.Error("two rules with the shares 0.25 and 0")
	}
	complete.Rules[0].Target = 0
	if err := config.Check(complete); err != api.ErrTarget || config.Complete(complete) {
		t.Error("two rules with the targets 0 and 1", err)
	}
	// Example 1 of the document: 25%/0/1>1, 25%/0/1>2, all/0/0>2 in 16 frames of 8 words is closed with 32 words.
	xx100 := api.Config{Name: "xx100", Rules: []api.Rule{{Share: 0.25, Batch: 1, Target: 1}, {Share: 0.25, Batch: 1, Target: 2}, {Target: 2}}, Full: 8}
	for b, wanted := range []int{4, 4, 0} {
		if got, err := config.Cap(xx100, b, 16); got != wanted || err != api.OK {
			t.Error("xx100", b, got, err)
		}
	}
}
