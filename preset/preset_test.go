package preset_test

import (
	"fmt"
	"math"
	"slices"
	"strings"
	"testing"
	"unsafe"

	"beltway/api"
	"beltway/config"
	"beltway/notation"
	"beltway/preset"
)

// wantedNames are the names in their order, as the promise lists them.
var wantedNames = []string{"semispace", "appel", "fixed", "older-first", "xx", "xx100"}

// badPercents are not from 1 to 100; conversions of some of them to fewer bits, and their absolute values, would be.
var badPercents = []int{
	0, -1, 101, 102, -2, -25, -50, -99, -100, -101, 110, 127, 128, 199, 200, 255, 256, 257, 281, 356, 1000, 2500, 10000, -231, -255, -256,
	1 << 16, 1<<16 + 1, 1<<16 + 25, 1<<31 - 1, 1 << 31, 1<<31 + 25, 1 << 32, 1<<32 + 1, 1<<32 + 25, 1<<32 + 100, 1 << 62, 1<<62 + 25, math.MaxInt - 1, math.MaxInt,
	-1 << 16, 25 - 1<<16, 25 - 1<<32, -1 << 31, -1 << 32, -1 << 62, math.MinInt, math.MinInt + 1, math.MinInt + 25, math.MinInt + 100,
}

// somePercents are good and bad ones.
var somePercents = []int{25, 1, 100, 0, -1, 101, math.MinInt, math.MaxInt}

// wantedConfig returns the preset with this name and a good percentage, as the promise lists it.
func wantedConfig(name string, percent int) api.Config {
	x := float64(percent) / 100
	full, rules := 0, []api.Rule(nil)
	switch name {
	case "semispace":
		full, rules = 1, []api.Rule{{Share: 0, Limit: 0, Batch: 0, Target: 0}}
	case "appel":
		full, rules = 8, []api.Rule{{Share: 0, Limit: 0, Batch: 0, Target: 1}, {Share: 0, Limit: 0, Batch: 0, Target: 1}}
	case "fixed":
		full, rules = 8, []api.Rule{{Share: x, Limit: 1, Batch: 0, Target: 1}, {Share: 0, Limit: 0, Batch: 0, Target: 1}}
	case "older-first":
		full, rules = 0, []api.Rule{{Share: x, Limit: 0, Batch: 1, Target: 0}}
	case "xx":
		full, rules = 0, []api.Rule{{Share: x, Limit: 0, Batch: 1, Target: 1}, {Share: x, Limit: 0, Batch: 1, Target: 1}}
	case "xx100":
		full, rules = 8, []api.Rule{{Share: x, Limit: 0, Batch: 1, Target: 1}, {Share: x, Limit: 0, Batch: 1, Target: 2}, {Share: 0, Limit: 0, Batch: 0, Target: 2}}
	}
	return api.Config{Name: name, Rules: rules, Full: full}
}

// wantedText returns the text of the preset by chapter 13, as the promise lists it.
func wantedText(name string, percent int) string {
	texts := map[string]string{
		"semispace":   "semispace full 1: all/0/0>0",
		"appel":       "appel full 8: all/0/0>1, all/0/0>1",
		"fixed":       "fixed full 8: x/1/0>1, all/0/0>1",
		"older-first": "older-first full 0: x/0/1>0",
		"xx":          "xx full 0: x/0/1>1, x/0/1>1",
		"xx100":       "xx100 full 8: x/0/1>1, x/0/1>2, all/0/0>2",
	}
	before, rules, _ := strings.Cut(texts[name], ": ")
	return before + ": " + strings.ReplaceAll(rules, "x", fmt.Sprintf("%d%%", percent))
}

// isSame compares all fields, shares by their bits.
func isSame(c, d api.Config) bool {
	return c.Name == d.Name && c.Full == d.Full && slices.EqualFunc(c.Rules, d.Rules, func(r, s api.Rule) bool {
		return math.Float64bits(r.Share) == math.Float64bits(s.Share) && r.Limit == s.Limit && r.Batch == s.Batch && r.Target == s.Target
	})
}

// expect compares Get with what is wanted, whole configurations beside errors too.
func expect(t *testing.T, name string, percent int, wanted api.Config, wantedErr api.Errno) {
	t.Helper()
	if got, err := preset.Get(name, percent); err != wantedErr || !isSame(got, wanted) {
		t.Fatalf("Get(%.40q, %d) = %+v, %d, wanted %+v, %d", name, percent, got, err, wanted, wantedErr)
	}
}

// expectNoName compares Get with ErrName, at good percentages and at bad ones, unless the name is one of the six.
func expectNoName(t *testing.T, name string) {
	t.Helper()
	if slices.Contains(wantedNames, name) {
		return
	}
	for _, percent := range somePercents {
		expect(t, name, percent, api.Config{}, api.ErrName)
	}
}

// P14.1

func TestNamesInTheirOrder(t *testing.T) {
	if got := preset.Names(); !slices.Equal(got, wantedNames) {
		t.Error("Names", got)
	}
}

func TestNamesAreNewMemory(t *testing.T) {
	first, second := preset.Names(), preset.Names()
	for i := range first {
		first[i] = "changed"
	}
	_ = append(first[:2], "behind", "the", "end", "of", "a", "part")
	_ = append(first, "behind", "the", "end")
	if !slices.Equal(second, wantedNames) {
		t.Error("two answers share their names", second)
	}
	if got := preset.Names(); !slices.Equal(got, wantedNames) {
		t.Error("a later answer shows what was changed", got)
	}
	for _, name := range wantedNames {
		expect(t, name, 25, wantedConfig(name, 25), api.OK)
	}
	expectNoName(t, "changed")
}

func TestNamesAreThoseOfGet(t *testing.T) {
	for _, name := range preset.Names() {
		if c, err := preset.Get(name, 25); err != api.OK || c.Name != name {
			t.Error("Get", name, c, err)
		}
	}
}

// P14.2

func TestGetWithWrittenOutResults(t *testing.T) {
	type row struct {
		share                float64
		limit, batch, target int
	}
	for _, x := range []struct {
		name    string
		percent int
		full    int
		rows    []row
	}{
		{"semispace", 1, 1, []row{{0, 0, 0, 0}}},
		{"semispace", 25, 1, []row{{0, 0, 0, 0}}},
		{"semispace", 99, 1, []row{{0, 0, 0, 0}}},
		{"semispace", 100, 1, []row{{0, 0, 0, 0}}},
		{"appel", 1, 8, []row{{0, 0, 0, 1}, {0, 0, 0, 1}}},
		{"appel", 25, 8, []row{{0, 0, 0, 1}, {0, 0, 0, 1}}},
		{"appel", 99, 8, []row{{0, 0, 0, 1}, {0, 0, 0, 1}}},
		{"appel", 100, 8, []row{{0, 0, 0, 1}, {0, 0, 0, 1}}},
		{"fixed", 1, 8, []row{{0.01, 1, 0, 1}, {0, 0, 0, 1}}},
		{"fixed", 25, 8, []row{{0.25, 1, 0, 1}, {0, 0, 0, 1}}},
		{"fixed", 99, 8, []row{{0.99, 1, 0, 1}, {0, 0, 0, 1}}},
		{"fixed", 100, 8, []row{{1, 1, 0, 1}, {0, 0, 0, 1}}},
		{"older-first", 1, 0, []row{{0.01, 0, 1, 0}}},
		{"older-first", 25, 0, []row{{0.25, 0, 1, 0}}},
		{"older-first", 99, 0, []row{{0.99, 0, 1, 0}}},
		{"older-first", 100, 0, []row{{1, 0, 1, 0}}},
		{"xx", 1, 0, []row{{0.01, 0, 1, 1}, {0.01, 0, 1, 1}}},
		{"xx", 25, 0, []row{{0.25, 0, 1, 1}, {0.25, 0, 1, 1}}},
		{"xx", 99, 0, []row{{0.99, 0, 1, 1}, {0.99, 0, 1, 1}}},
		{"xx", 100, 0, []row{{1, 0, 1, 1}, {1, 0, 1, 1}}},
		{"xx100", 1, 8, []row{{0.01, 0, 1, 1}, {0.01, 0, 1, 2}, {0, 0, 0, 2}}},
		{"xx100", 25, 8, []row{{0.25, 0, 1, 1}, {0.25, 0, 1, 2}, {0, 0, 0, 2}}},
		{"xx100", 99, 8, []row{{0.99, 0, 1, 1}, {0.99, 0, 1, 2}, {0, 0, 0, 2}}},
		{"xx100", 100, 8, []row{{1, 0, 1, 1}, {1, 0, 1, 2}, {0, 0, 0, 2}}},
	} {
		wanted := api.Config{Name: x.name, Full: x.full}
		for _, r := range x.rows {
			wanted.Rules = append(wanted.Rules, api.Rule{Share: r.share, Limit: r.limit, Batch: r.batch, Target: r.target})
		}
		expect(t, x.name, x.percent, wanted, api.OK)
	}
}

// The bits of the quotients are written out, so that no division of the test has to be trusted.
func TestGetOfSharesToTheBit(t *testing.T) {
	for _, x := range []struct {
		percent int
		bits    uint64
	}{
		{1, 0x3f847ae147ae147b}, {25, 0x3fd0000000000000}, {29, 0x3fd28f5c28f5c28f}, {50, 0x3fe0000000000000}, {57, 0x3fe23d70a3d70a3d}, {58, 0x3fe28f5c28f5c28f}, {99, 0x3fefae147ae147ae}, {100, 0x3ff0000000000000},
	} {
		for _, y := range []struct {
			name   string
			shares []uint64
		}{
			{"semispace", []uint64{0}}, {"appel", []uint64{0, 0}}, {"fixed", []uint64{x.bits, 0}}, {"older-first", []uint64{x.bits}}, {"xx", []uint64{x.bits, x.bits}}, {"xx100", []uint64{x.bits, x.bits, 0}},
		} {
			c, err := preset.Get(y.name, x.percent)
			var shares []uint64
			for _, rule := range c.Rules {
				shares = append(shares, math.Float64bits(rule.Share))
			}
			if err != api.OK || !slices.Equal(shares, y.shares) {
				t.Errorf("Get(%q, %d): shares %x, %d, wanted %x", y.name, x.percent, shares, err, y.shares)
			}
		}
	}
}

func TestGetAtEveryPercentage(t *testing.T) {
	for _, name := range wantedNames {
		for percent := 1; percent <= 100; percent++ {
			expect(t, name, percent, wantedConfig(name, percent), api.OK)
			c, _ := preset.Get(name, percent)
			if text, err := notation.Print(c); err != api.OK || text != wantedText(name, percent) {
				t.Errorf("the text of Get(%q, %d) = %q, %d, wanted %q", name, percent, text, err, wantedText(name, percent))
			}
		}
	}
}

func TestGetOfPresetsThatDoNotDependOnThePercentage(t *testing.T) {
	for _, name := range wantedNames {
		first, _ := preset.Get(name, 1)
		for percent := 2; percent <= 100; percent++ {
			c, _ := preset.Get(name, percent)
			if isSame(first, c) != (name == "semispace" || name == "appel") {
				t.Errorf("Get(%q, %d) = %+v, and at 1 %+v", name, percent, c, first)
			}
		}
	}
}

func TestGetAtBadPercentages(t *testing.T) {
	for _, name := range wantedNames {
		for _, percent := range badPercents {
			expect(t, name, percent, api.Config{}, api.ErrShare)
		}
		for percent := -1000; percent <= 1000; percent++ {
			if percent < 1 || percent > 100 {
				expect(t, name, percent, api.Config{}, api.ErrShare)
			}
		}
		for bit := 7; bit < 64; bit++ {
			for percent := range 101 {
				expect(t, name, percent|1<<bit, api.Config{}, api.ErrShare)
			}
		}
	}
}

func TestGetOrderOfErrors(t *testing.T) {
	for _, name := range []string{"", "x", "XX", "semi", "xx1000", "older_first", "\x00"} {
		for _, percent := range badPercents {
			expect(t, name, percent, api.Config{}, api.ErrName)
		}
		for percent := 1; percent <= 100; percent++ {
			expect(t, name, percent, api.Config{}, api.ErrName)
		}
	}
}

func TestGetOfNoByte(t *testing.T) {
	expectNoName(t, "")
	expectNoName(t, "xx"[2:])
}

func TestGetOfPartsOfNames(t *testing.T) {
	for _, name := range wantedNames {
		for start := range name {
			for end := start; end <= len(name); end++ {
				// xx is a part of xx100, and is found.
				if part := name[start:end]; slices.Contains(wantedNames, part) {
					expect(t, part, 25, wantedConfig(part, 25), api.OK)
				} else {
					expectNoName(t, part)
				}
				expectNoName(t, name[:start]+name[end:])
			}
		}
	}
	// xx100 without its end is xx again.
	expect(t, "xx100"[:2], 25, wantedConfig("xx", 25), api.OK)
}

func TestGetOfNamesWithAByteMore(t *testing.T) {
	for _, name := range wantedNames {
		for at := range len(name) + 1 {
			for b := range 256 {
				expectNoName(t, name[:at]+string([]byte{byte(b)})+name[at:])
			}
		}
	}
}

func TestGetOfNamesWithAnotherByte(t *testing.T) {
	for _, name := range wantedNames {
		for at := range len(name) {
			for b := range 256 {
				expectNoName(t, name[:at]+string([]byte{byte(b)})+name[at+1:])
			}
		}
	}
}

func TestGetOfNamesWithUpperCaseLetters(t *testing.T) {
	for _, name := range wantedNames {
		for choice := range 1 << len(name) {
			text := []byte(name)
			for at := range text {
				if choice>>at&1 == 1 && text[at] >= 'a' && text[at] <= 'z' {
					text[at] -= 'a' - 'A'
				}
			}
			expectNoName(t, string(text))
		}
	}
}

func TestGetOfNamesWithSpaces(t *testing.T) {
	for _, name := range wantedNames {
		for _, space := range []string{" ", "  ", "\t", "\n", "\r\n", "\x00", "\u00a0", "\u200b", "\ufeff"} {
			for at := range len(name) + 1 {
				expectNoName(t, name[:at]+space+name[at:])
			}
			expectNoName(t, space+name+space)
			expectNoName(t, space)
		}
	}
}

func TestGetOfOtherNames(t *testing.T) {
	for _, name := range []string{
		"olderfirst", "older first", "older_first", "older–first", "first-older", "older-last", "oldest-first", "xx10", "xx50", "xx1000", "xx0100", "xx-100", "x.x", "X.X", "X.X.100", "xx.100", "100", "semi-space", "semispaces", "apple", "appell", "fixd", "ｘｘ", "хх", "xх", "ſemispace", "default", "all", "x", "xxx", "nil",
		"semispace full 1: all/0/0>0", "xx full 0: 25%/0/1>1, 25%/0/1>1", "semispace,appel", "\xff", "\xc3", "é",
	} {
		expectNoName(t, name)
	}
	for _, first := range wantedNames {
		for _, second := range wantedNames {
			for _, between := range []string{"", " ", ",", "-", "\x00"} {
				expectNoName(t, first+between+second)
			}
		}
		text := []byte(first)
		slices.Reverse(text)
		expectNoName(t, string(text))
	}
}

func TestGetOfVeryLongNames(t *testing.T) {
	for _, name := range wantedNames {
		for _, length := range []int{2, 16, 17, 255, 256, 257, 1 << 16, 1<<20 - len(name)} {
			for _, text := range []string{"\x00", " ", "x", "0", "-"} {
				expectNoName(t, name+strings.Repeat(text, length))
				expectNoName(t, strings.Repeat(text, length)+name)
			}
		}
		expectNoName(t, strings.Repeat(name, 1<<15))
	}
}

func TestGetKeepsItsArgument(t *testing.T) {
	for _, name := range wantedNames {
		for _, percent := range []int{25, 0} {
			text := []byte(" " + name + " ")
			argument := unsafe.String(&text[1], len(name))
			got, err := preset.Get(argument, percent)
			if string(text) != " "+name+" " {
				t.Fatalf("Get(%q, %d) changed its argument to %q", name, percent, text)
			}
			// What the caller does to the memory of the argument later shows in no answer.
			for i := range text {
				text[i] = '?'
			}
			wanted, wantedErr := wantedConfig(name, 25), api.OK
			if percent == 0 {
				wanted, wantedErr = api.Config{}, api.ErrShare
			}
			if err != wantedErr || !isSame(got, wanted) {
				t.Fatalf("Get(%q, %d) retains its argument: %+v, %d", name, percent, got, err)
			}
			expect(t, name, 25, wantedConfig(name, 25), api.OK)
		}
	}
}

func TestGetAnswersAreNewMemory(t *testing.T) {
	for _, name := range wantedNames {
		for _, percent := range []int{1, 25, 100} {
			first, _ := preset.Get(name, percent)
			second, _ := preset.Get(name, percent)
			for b := range first.Rules {
				first.Rules[b] = api.Rule{Share: -1, Limit: -1, Batch: -1, Target: -1}
			}
			bad := api.Rule{Share: 2, Limit: 99, Batch: 99, Target: 99}
			_ = append(first.Rules[:1], bad, bad, bad, bad)
			_ = append(first.Rules, bad, bad, bad, bad)
			first.Name, first.Full = "changed", 65
			if !isSame(second, wantedConfig(name, percent)) {
				t.Errorf("two answers of Get(%q, %d) share their rules: %+v", name, percent, second)
			}
			for _, other := range wantedNames {
				expect(t, other, percent, wantedConfig(other, percent), api.OK)
			}
		}
	}
	if got := preset.Names(); !slices.Equal(got, wantedNames) {
		t.Error("Names", got)
	}
}

func TestGetDoesNotDependOnEarlierCalls(t *testing.T) {
	type call struct {
		name    string
		percent int
		wanted  api.Config
		err     api.Errno
	}
	var calls []call
	for _, name := range wantedNames {
		calls = append(calls, call{name, 1, wantedConfig(name, 1), api.OK}, call{name, 99, wantedConfig(name, 99), api.OK}, call{name, 0, api.Config{}, api.ErrShare})
	}
	calls = append(calls, call{"x", 25, api.Config{}, api.ErrName})
	for _, before := range calls {
		for _, after := range calls {
			expect(t, before.name, before.percent, before.wanted, before.err)
			expect(t, after.name, after.percent, after.wanted, after.err)
		}
	}
}

// Consequences

func TestPresetsAreValid(t *testing.T) {
	for _, name := range wantedNames {
		for percent := 1; percent <= 100; percent++ {
			if c, err := preset.Get(name, percent); err != api.OK || config.Check(c) != api.OK {
				t.Errorf("Get(%q, %d) = %+v, %d: Check says %d", name, percent, c, err, config.Check(c))
			}
		}
	}
}

func TestCompletePresets(t *testing.T) {
	for _, x := range []struct {
		name       string
		isComplete bool
	}{
		{"semispace", true}, {"appel", true}, {"fixed", true}, {"xx100", true},
		{"older-first", false}, {"xx", false},
	} {
		for percent := 1; percent <= 100; percent++ {
			if c, err := preset.Get(x.name, percent); err != api.OK || config.Complete(c) != x.isComplete {
				t.Errorf("Get(%q, %d) = %+v, %d: Complete says %t", x.name, percent, c, err, config.Complete(c))
			}
		}
	}
}

func TestPresetsAreThoseOfTheirTexts(t *testing.T) {
	for _, name := range wantedNames {
		for percent := 1; percent <= 100; percent++ {
			wanted, err := notation.Parse(wantedText(name, percent))
			if err != api.OK {
				t.Fatalf("Parse(%q): %d", wantedText(name, percent), err)
			}
			expect(t, name, percent, wanted, api.OK)
		}
	}
}

// Examples

func TestExamples(t *testing.T) {
	c, err := preset.Get("xx", 25)
	if err != api.OK || len(c.Rules) != 2 || c.Rules[0].Share != 0.25 || c.Rules[1].Share != 0.25 {
		t.Error("the example of chapter 14", c, err)
	}
	// Example 1 of the document, which has a heap of 16 frames of 8 words.
	c, _ = preset.Get("xx100", 25)
	if text, err := notation.Print(c); text != "xx100 full 8: 25%/0/1>1, 25%/0/1>2, all/0/0>2" || err != api.OK {
		t.Error("the text of the example of the document", text, err)
	}
	for b, wanted := range []int{4, 4, 0} {
		if frames, err := config.Cap(c, b, 16); frames != wanted || err != api.OK {
			t.Error("the example of the document", b, frames, err)
		}
	}
}
