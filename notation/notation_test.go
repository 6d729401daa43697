package notation_test

import (
	"fmt"
	"math"
	"regexp"
	"slices"
	"strconv"
	"strings"
	"testing"
	"unsafe"

	"beltway/api"
	"beltway/config"
	"beltway/notation"
)

// The grammar, as the promise lists it.
const (
	numberForm = `(0|[1-9][0-9]{0,3})`
	ruleForm   = `(?:all|([1-9]|[1-9][0-9]|100)%)/` + numberForm + `/` + numberForm + `>` + numberForm
)

var (
	textPattern = regexp.MustCompile(`\A([a-z0-9-]{1,16}) full ` + numberForm + `: ` + ruleForm + `(?:, ` + ruleForm + `)*\z`)
	rulePattern = regexp.MustCompile(`\A` + ruleForm + `\z`)
)

// longestText is a valid configuration whose text no other one exceeds.
const longestText = "a-0123456789-xyz full 64: 100%/64/64>1, 100%/64/64>2, 100%/64/64>3, all/0/64>3"

// whole returns the number that the digits, if there are any, stand for.
func whole(digits string) int {
	n, _ := strconv.Atoi(digits)
	return n
}

// wantedParse says what Parse returns, as the promise lists it.
func wantedParse(s string) (api.Config, api.Errno) {
	if len(s) > 1024 {
		return api.Config{}, api.ErrLimit
	}
	m := textPattern.FindStringSubmatch(s)
	if m == nil {
		return api.Config{}, api.ErrSyntax
	}
	c := api.Config{Name: m[1], Full: whole(m[2])}
	_, rules, _ := strings.Cut(s, ": ")
	for _, text := range strings.Split(rules, ", ") {
		m := rulePattern.FindStringSubmatch(text)
		c.Rules = append(c.Rules, api.Rule{Share: float64(whole(m[1])) / 100, Limit: whole(m[2]), Batch: whole(m[3]), Target: whole(m[4])})
	}
	if err := config.Check(c); err != api.OK {
		return api.Config{}, err
	}
	return c, api.OK
}

// wantedPrint says what Print returns, as the promise lists it.
func wantedPrint(c api.Config) (string, api.Errno) {
	if err := config.Check(c); err != api.OK {
		return "", err
	}
	text := fmt.Sprintf("%s full %d: ", c.Name, c.Full)
	for b, r := range c.Rules {
		share := ""
		for p := 1; p <= 100; p++ {
			if r.Share == float64(p)/100 {
				share = fmt.Sprintf("%d%%", p)
			}
		}
		if r.Share == 0 {
			share = "all"
		}
		if share == "" {
			return "", api.ErrShare
		}
		if b > 0 {
			text += ", "
		}
		text += fmt.Sprintf("%s/%d/%d>%d", share, r.Limit, r.Batch, r.Target)
	}
	return text, api.OK
}

// isSame compares all fields, shares by their bits.
func isSame(c, d api.Config) bool {
	return c.Name == d.Name && c.Full == d.Full && slices.EqualFunc(c.Rules, d.Rules, func(r, s api.Rule) bool {
		return math.Float64bits(r.Share) == math.Float64bits(s.Share) && r.Limit == s.Limit && r.Batch == s.Batch && r.Target == s.Target
	})
}

// expectParse calls Parse, and Print for its answer.
func expectParse(t *testing.T, s string, wanted api.Config, wantedErr api.Errno) {
	t.Helper()
	got, err := notation.Parse(s)
	if err != wantedErr || !isSame(got, wanted) {
		t.Fatalf("Parse(%q) = %+v, %d, wanted %+v, %d", s, got, err, wanted, wantedErr)
	}
	if err != api.OK {
		return
	}
	if back, err := notation.Print(got); back != s || err != api.OK {
		t.Fatalf("Print of Parse(%q) = %q, %d", s, back, err)
	}
}

// expectPrint calls Print, and Parse for its answer.
func expectPrint(t *testing.T, c api.Config, wanted string, wantedErr api.Errno) {
	t.Helper()
	got, err := notation.Print(c)
	if err != wantedErr || got != wanted {
		t.Fatalf("Print(%+v) = %q, %d, wanted %q, %d", c, got, err, wanted, wantedErr)
	}
	if err != api.OK {
		return
	}
	if back, err := notation.Parse(got); !isSame(back, c) || err != api.OK {
		t.Fatalf("Parse of Print(%+v) = %+v, %d", c, back, err)
	}
}

// compareParse compares Parse with the promise, and returns the error.
func compareParse(t *testing.T, s string) api.Errno {
	t.Helper()
	wanted, err := wantedParse(s)
	expectParse(t, s, wanted, err)
	return err
}

// comparePrint compares Print with the promise, and returns the error.
func comparePrint(t *testing.T, c api.Config) api.Errno {
	t.Helper()
	wanted, err := wantedPrint(c)
	expectPrint(t, c, wanted, err)
	return err
}

// path returns the valid configuration of n belts whose last one has no cap.
func path(n int) api.Config {
	c := api.Config{Name: "a", Full: 8}
	for b := range n - 1 {
		c.Rules = append(c.Rules, api.Rule{Share: 0.25, Limit: 3, Batch: 2, Target: b + 1})
	}
	c.Rules = append(c.Rules, api.Rule{Target: n - 1})
	return c
}

// withShare returns path(n) with this share in rule b, and a Full that goes with it.
func withShare(n, b int, x float64) api.Config {
	c := path(n)
	c.Rules[b].Share = x
	if c.Rules[n-1].Share != 0 {
		c.Full = 0
	}
	return c
}

// pairs are configurations with their texts, written out.
var pairs = []struct {
	c api.Config
	s string
}{
	{api.Config{Name: "xx100", Rules: []api.Rule{{Share: 0.25, Batch: 1, Target: 1}, {Share: 0.25, Batch: 1, Target: 2}, {Target: 2}}, Full: 8}, "xx100 full 8: 25%/0/1>1, 25%/0/1>2, all/0/0>2"},
	{api.Config{Name: "a", Rules: []api.Rule{{}}, Full: 1}, "a full 1: all/0/0>0"},
	{api.Config{Name: "z", Rules: []api.Rule{{Batch: 64}}, Full: 64}, "z full 64: all/0/64>0"},
	{api.Config{Name: "z", Rules: []api.Rule{{Share: 0.01}}}, "z full 0: 1%/0/0>0"},
	{api.Config{Name: "z", Rules: []api.Rule{{Share: 1, Batch: 1}}}, "z full 0: 100%/0/1>0"},
	{api.Config{Name: "full", Rules: []api.Rule{{}}, Full: 10}, "full full 10: all/0/0>0"},
	{api.Config{Name: "all", Rules: []api.Rule{{Target: 1}, {Target: 1}}, Full: 63}, "all full 63: all/0/0>1, all/0/0>1"},
	{api.Config{Name: "a---------------", Rules: []api.Rule{{Share: 0.99, Limit: 1, Batch: 2, Target: 1}, {Share: 0.1, Batch: 9, Target: 1}}}, "a--------------- full 0: 99%/1/2>1, 10%/0/9>1"},
	{api.Config{Name: "z9", Rules: []api.Rule{{Share: 0, Limit: 64, Batch: 10, Target: 1}, {Share: 0.5, Limit: 10, Batch: 64, Target: 2}, {Share: 0, Limit: 9, Batch: 8, Target: 3}, {Share: 0.09, Limit: 0, Batch: 7, Target: 3}}}, "z9 full 0: all/64/10>1, 50%/10/64>2, all/9/8>3, 9%/0/7>3"},
	{api.Config{Name: "a-0123456789-xyz", Rules: []api.Rule{{Share: 1, Limit: 64, Batch: 64, Target: 1}, {Share: 1, Limit: 64, Batch: 64, Target: 2}, {Share: 1, Limit: 64, Batch: 64, Target: 3}, {Batch: 64, Target: 3}}, Full: 64}, longestText},
}

// P13.1

func TestPrintOfWrittenOutTexts(t *testing.T) {
	for _, x := range pairs {
		expectPrint(t, x.c, x.s, api.OK)
	}
}

func TestPrintOfNames(t *testing.T) {
	const kinds = "-0123456789abcdefghijklmnopqrstuvwxyz"
	for _, kind := range kinds {
		for length := 0; length <= 15; length++ {
			name := "q" + strings.Repeat(string(kind), length)
			c := path(1)
			c.Name = name
			expectPrint(t, c, name+" full 8: all/0/0>0", api.OK)
		}
	}
	for _, name := range []string{"m", "full", "all", "full-8", "all-0-0", "a-full-8", "older-first", "xx100"} {
		c := path(1)
		c.Name = name
		expectPrint(t, c, name+" full 8: all/0/0>0", api.OK)
	}
}

func TestPrintOfFull(t *testing.T) {
	for full := 1; full <= 64; full++ {
		for n := 1; n <= 4; n++ {
			c := path(n)
			c.Full = full
			comparePrint(t, c)
		}
		expectPrint(t, api.Config{Name: "a", Rules: []api.Rule{{}}, Full: full}, "a full "+strconv.Itoa(full)+": all/0/0>0", api.OK)
	}
	expectPrint(t, withShare(1, 0, 0.5), "a full 0: 50%/0/0>0", api.OK)
	expectPrint(t, withShare(2, 1, 0.5), "a full 0: 25%/3/2>1, 50%/0/0>1", api.OK)
}

func TestPrintOfShares(t *testing.T) {
	for n := 1; n <= 4; n++ {
		for b := range n {
			for p := range 101 {
				if err := comparePrint(t, withShare(n, b, float64(p)/100)); err != api.OK {
					t.Error("the percentage", p, "in rule", b, "of", n, err)
				}
			}
		}
	}
	for p := 1; p <= 100; p++ {
		expectPrint(t, withShare(1, 0, float64(p)/100), "a full 0: "+strconv.Itoa(p)+"%/0/0>0", api.OK)
	}
}

// withoutPercentage returns valid shares that are no percentage, many of them beside one.
func withoutPercentage() []float64 {
	shares := []float64{math.SmallestNonzeroFloat64, 0x1p-1022, 1e-9, 0.001, 0.005, 0.0099, 0.0101, 1.0 / 3, 0.255, 0.995, 0.999, float64(float32(0.1))}
	for p := 1; p <= 100; p++ {
		x := float64(p) / 100
		shares = append(shares, math.Nextafter(x, 0), math.Nextafter(math.Nextafter(x, 0), 0), x-0.005, x-0x1p-40)
		if p < 100 {
			shares = append(shares, math.Nextafter(x, 2), math.Nextafter(math.Nextafter(x, 2), 2), x+0x1p-40)
		}
	}
	return shares
}

func TestPrintOfSharesWithoutPercentage(t *testing.T) {
	for n := 1; n <= 4; n++ {
		for b := range n {
			for _, x := range withoutPercentage() {
				expectPrint(t, withShare(n, b, x), "", api.ErrShare)
			}
		}
	}
	// 0.07 * 100 is not 7, and 0.01 * 29 is not 0.29: only the quotient counts.
	for p := 1; p <= 100; p++ {
		one, all := 0.01, float64(p)
		comparePrint(t, withShare(2, 0, min(1, one*all)))
	}
}

func TestPrintOfLimitsBatchesAndTargets(t *testing.T) {
	for n := 1; n <= 4; n++ {
		for b := range n {
			for count := range 65 {
				c := path(n)
				c.Rules[b].Batch = count
				if err := comparePrint(t, c); err != api.OK {
					t.Error("the batch", count, err)
				}
				c = path(n)
				c.Rules[b].Limit = count
				if err := comparePrint(t, c); (err != api.OK) != (b == n-1 && count != 0) {
					t.Error("the limit", count, err)
				}
			}
			for target := -2; target <= 5; target++ {
				c := path(n)
				c.Rules[b].Target = target
				comparePrint(t, c)
			}
		}
	}
	expectPrint(t, path(4), "a full 8: 25%/3/2>1, 25%/3/2>2, 25%/3/2>3, all/0/0>3", api.OK)
}

func TestPrintOfInvalidConfigurations(t *testing.T) {
	for _, x := range []struct {
		why    string
		wanted api.Errno
		change func(c *api.Config)
	}{
		{"no name", api.ErrName, func(c *api.Config) { c.Name = "" }},
		{"a long name", api.ErrName, func(c *api.Config) { c.Name = "abcdefghijklmnopq" }},
		{"a digit first", api.ErrName, func(c *api.Config) { c.Name = "1" }},
		{"- first", api.ErrName, func(c *api.Config) { c.Name = "-a" }},
		{"an upper-case letter", api.ErrName, func(c *api.Config) { c.Name = "aB" }},
		{"a space", api.ErrName, func(c *api.Config) { c.Name = "a full" }},
		{"no rule", api.ErrBelts, func(c *api.Config) { c.Rules = nil }},
		{"no rule", api.ErrBelts, func(c *api.Config) { c.Rules = []api.Rule{} }},
		{"five rules", api.ErrBelts, func(c *api.Config) { c.Rules = path(5).Rules }},
		{"a share above 1", api.ErrShare, func(c *api.Config) { c.Rules[0].Share = 1.01 }},
		{"a share just above 1", api.ErrShare, func(c *api.Config) { c.Rules[0].Share = math.Nextafter(1, 2) }},
		{"a share below 0", api.ErrShare, func(c *api.Config) { c.Rules[1].Share = -0.25 }},
		{"the share -0", api.ErrShare, func(c *api.Config) { c.Rules[2].Share = math.Copysign(0, -1) }},
		{"not a number", api.ErrShare, func(c *api.Config) { c.Rules[2].Share = math.NaN() }},
		{"an infinite share", api.ErrShare, func(c *api.Config) { c.Rules[1].Share = math.Inf(1) }},
		{"a limit below 0", api.ErrLimit, func(c *api.Config) { c.Rules[0].Limit = -1 }},
		{"a limit above 64", api.ErrLimit, func(c *api.Config) { c.Rules[1].Limit = 65 }},
		{"a limit of the last rule", api.ErrLimit, func(c *api.Config) { c.Rules[2].Limit = 1 }},
		{"a batch below 0", api.ErrLimit, func(c *api.Config) { c.Rules[2].Batch = -1 }},
		{"a batch above 64", api.ErrLimit, func(c *api.Config) { c.Rules[2].Batch = 65 }},
		{"a batch of five digits", api.ErrLimit, func(c *api.Config) { c.Rules[0].Batch = 12345 }},
		{"a far batch", api.ErrLimit, func(c *api.Config) { c.Rules[0].Batch = math.MinInt }},
		{"a target below 0", api.ErrTarget, func(c *api.Config) { c.Rules[0].Target = -1 }},
		{"its own index", api.ErrTarget, func(c *api.Config) { c.Rules[0].Target = 0 }},
		{"the target of the last rule", api.ErrTarget, func(c *api.Config) { c.Rules[2].Target = 3 }},
		{"a rule without a source", api.ErrTarget, func(c *api.Config) { c.Rules[0].Target = 2 }},
		{"Full 0", api.ErrLimit, func(c *api.Config) { c.Full = 0 }},
		{"Full 65", api.ErrLimit, func(c *api.Config) { c.Full = 65 }},
		{"Full below 0", api.ErrLimit, func(c *api.Config) { c.Full = -8 }},
		{"Full with a cap", api.ErrLimit, func(c *api.Config) { c.Rules[2].Share = 0.5 }},
	} {
		c := path(3)
		x.change(&c)
		if got, err := notation.Print(c); err != x.wanted || got != "" {
			t.Errorf("%s: Print(%+v) = %q, %d, wanted %d", x.why, c, got, err, x.wanted)
		}
	}
}

// A share without a percentage stands in the first rule; all of config.Check's errors come before it, also those of later rules and of Full.
func TestPrintOrderOfErrors(t *testing.T) {
	c := path(4)
	c.Name, c.Full = "A", 65
	c.Rules[0].Share = 0.005
	c.Rules = append(c.Rules, api.Rule{})
	c.Rules[0].Limit, c.Rules[1].Batch, c.Rules[1].Target, c.Rules[2].Target, c.Rules[3].Share = 65, 65, 1, 3, 2
	for k, x := range []struct {
		wanted api.Errno
		repair func()
	}{
		{api.ErrName, func() { c.Name = "a" }},
		{api.ErrBelts, func() { c.Rules = c.Rules[:4] }},
		{api.ErrLimit, func() { c.Rules[0].Limit = 64 }},
		{api.ErrLimit, func() { c.Rules[1].Batch = 64 }},
		{api.ErrTarget, func() { c.Rules[1].Target = 3 }},
		{api.ErrShare, func() { c.Rules[3].Share = 0 }},
		{api.ErrTarget, func() { c.Rules[1].Target = 2 }},
		{api.ErrLimit, func() { c.Full = 64 }},
		{api.ErrShare, func() { c.Rules[0].Share = 0.01 }},
	} {
		expectPrint(t, c, "", x.wanted)
		if t.Failed() {
			t.Fatal("repair", k)
		}
		x.repair()
	}
	expectPrint(t, c, "a full 64: 1%/64/2>1, 25%/3/64>2, 25%/3/2>3, all/0/0>3", api.OK)
}

func TestPrintOfAllSmallConfigurations(t *testing.T) {
	var rules [][]api.Rule
	for _, x := range []float64{0, 0.01, 0.29, 0.305, 1, 1.01} {
		for _, limit := range []int{-1, 0, 1, 64} {
			for _, batch := range []int{0, 10, 65} {
				for target := range 3 {
					rules = append(rules, []api.Rule{{Share: x, Limit: limit, Batch: batch, Target: target}})
				}
			}
		}
	}
	valid := 0
	for _, name := range []string{"a", ""} {
		for _, full := range []int{0, 9, 65} {
			for _, first := range rules {
				comparePrint(t, api.Config{Name: name, Rules: first, Full: full})
				for _, second := range rules {
					if comparePrint(t, api.Config{Name: name, Rules: slices.Concat(first, second), Full: full}) == api.OK {
						valid++
					}
				}
			}
		}
	}
	// 4 shares, 3 limits and 2 batches of the first rule; 4 shares (each with its Full) and 2 batches of the second one.
	if wanted := 4 * 3 * 2 * 4 * 2; valid != wanted {
		t.Error(valid, "valid configurations of two rules, wanted", wanted)
	}
}

func TestPrintKeepsItsArgument(t *testing.T) {
	for _, x := range pairs {
		rules := append(slices.Clone(x.c.Rules), api.Rule{Share: 7, Limit: 7, Batch: 7, Target: 7})
		c := api.Config{Name: x.c.Name, Rules: rules[:len(rules)-1], Full: x.c.Full}
		expectPrint(t, c, x.s, api.OK)
		c.Rules[0].Share = 0.005
		wanted := slices.Clone(rules)
		if _, err := notation.Print(c); err == api.OK {
			t.Error("a share without a percentage", c)
		}
		if !slices.Equal(rules, wanted) || rules[len(rules)-1].Limit != 7 {
			t.Error("Print has changed rules", rules)
		}
	}
}

// P13.2

func TestParseOfWrittenOutTexts(t *testing.T) {
	for _, x := range pairs {
		expectParse(t, x.s, x.c, api.OK)
	}
}

func TestParseOfNoByte(t *testing.T) {
	expectParse(t, "", api.Config{}, api.ErrSyntax)
}

// ruleList returns a text of the grammar with this many bytes, at least 63, and with more rules than are permitted.
func ruleList(t *testing.T, size int) string {
	text := "a full 1: all/0/0>0"
	for len(text)+11 <= size {
		text += ", all/0/0>0"
	}
	// The last numbers take up the rest.
	for _, digits := range []string{"all/0/0>0", "all/0/0>10", "all/0/10>10", "all/10/10>10", "all/10/10>100", "all/10/10>1000", "all/10/100>1000", "all/10/1000>1000", "all/100/1000>1000", "all/1000/1000>1000", "100%/1000/1000>1000"} {
		if full := strings.TrimSuffix(text, "all/0/0>0") + digits; len(full) == size {
			return full
		}
	}
	t.Fatal("no text of", size, "bytes")
	return ""
}

func TestParseOfLongTexts(t *testing.T) {
	if len(longestText) > 1024 {
		t.Error("the longest text has", len(longestText), "bytes")
	}
	for size := 63; size <= 1030; size++ {
		wanted := api.ErrBelts
		if size > 1024 {
			wanted = api.ErrLimit
		}
		expectParse(t, ruleList(t, size), api.Config{}, wanted)
	}
	for size := 1000; size <= 1030; size++ {
		wanted := api.ErrSyntax
		if size > 1024 {
			wanted = api.ErrLimit
		}
		for _, text := range []string{"a", " ", "0", "\x00", "\xff", ", all/0/0>0"} {
			expectParse(t, strings.Repeat(text, size)[:size], api.Config{}, wanted)
			expectParse(t, ("a full 1: all/0/0>0" + strings.Repeat(text, size))[:size], api.Config{}, wantedOfTail(text, size, wanted))
		}
		expectParse(t, "a full "+strings.Repeat("1", size-len("a full : all/0/0>0"))+": all/0/0>0", api.Config{}, wanted)
		expectParse(t, "a full 1: all/0/0>"+strings.Repeat("0", size-len("a full 1: all/0/0>")), api.Config{}, wanted)
	}
	for _, size := range []int{1 << 11, 1 << 16, 1<<16 + 40, 1 << 20} {
		for _, text := range []string{"a", ", all/0/0>0"} {
			expectParse(t, "a full 1: all/0/0>0"+strings.Repeat(text, size/len(text)), api.Config{}, api.ErrLimit)
		}
	}
}

// wantedOfTail says what Parse returns for a text that goes on with copies of a rule: it is of the grammar where no copy is cut off.
func wantedOfTail(text string, size int, otherwise api.Errno) api.Errno {
	if size > 1024 || text != ", all/0/0>0" {
		return otherwise
	}
	if (size-len("a full 1: all/0/0>0"))%len(text) == 0 {
		return api.ErrBelts
	}
	return otherwise
}

func TestParseOfNames(t *testing.T) {
	for b := range 256 {
		isLetter := b >= 97 && b <= 122
		isPermitted := isLetter || b >= 48 && b <= 57 || b == 45
		for length := 1; length <= 16; length++ {
			for at := range length {
				name := []byte(strings.Repeat("k", length))
				name[at] = byte(b)
				c, wanted := api.Config{}, api.ErrSyntax
				if isPermitted {
					wanted = api.ErrName
				}
				if isLetter || at > 0 && isPermitted {
					c, wanted = path(1), api.OK
					c.Name = string(name)
				}
				expectParse(t, string(name)+" full 8: all/0/0>0", c, wanted)
			}
		}
	}
}

func TestParseOfTheLengthOfAName(t *testing.T) {
	for _, text := range []string{"q", "z", "a", "-", "0", "9", "A", " ", "\x80", "é"} {
		for length := range 40 {
			name := strings.Repeat(text, length)
			c, wanted := api.Config{}, api.ErrSyntax
			if length >= 1 && length <= 16 {
				switch text {
				case "q", "z", "a":
					c, wanted = path(1), api.OK
					c.Name = name
				case "-", "0", "9":
					wanted = api.ErrName
				}
			}
			expectParse(t, name+" full 8: all/0/0>0", c, wanted)
		}
	}
	for _, length := range []int{256, 257, 272, 500} {
		expectParse(t, strings.Repeat("q", length)+" full 8: all/0/0>0", api.Config{}, api.ErrSyntax)
	}
}

// places are texts with one # where a number stands.
var places = []string{
	"a full #: all/0/0>0", "a full #: 5%/0/0>0", "a full #: 5%/0/0>1, all/0/0>1",
	"a full 8: all/#/0>0", "a full 8: all/#/0>1, all/0/0>1", "a full 8: 25%/3/2>1, all/#/0>2, all/0/0>2",
	"a full 8: all/0/#>0", "a full 8: all/0/#>1, all/0/0>1", "a full 8: all/0/0>1, all/0/#>1",
	"a full 8: all/0/0>#", "a full 8: all/0/0>#, all/0/0>1", "a full 8: all/0/0>1, all/0/0>#", "a full 8: all/0/0>1, all/0/0>#, all/0/0>2",
	"a full 8: #%/0/0>1, all/0/0>1", "a full 0: #%/0/0>0", "a full 8: all/0/0>1, #%/0/0>2, all/0/0>2",
}

func TestParseOfAllNumbers(t *testing.T) {
	for _, place := range places {
		read := 0
		for n := range 20000 {
			if compareParse(t, strings.Replace(place, "#", strconv.Itoa(n), 1)) != api.ErrSyntax {
				read++
			}
		}
		wanted := 10000
		if strings.Contains(place, "#%") {
			wanted = 100
		}
		if read != wanted {
			t.Error(place, read, "numbers of the grammar, wanted", wanted)
		}
	}
}

func TestParseOfBadNumbers(t *testing.T) {
	for _, place := range places {
		for _, digits := range []string{
			"", "00", "01", "07", "010", "000", "001", "0000", "0001", "00001", "00000", "064", "0100", "000000000000000000000001",
			"10000", "12345", "99999", "65536", "65537", "100000", "4294967296", "4294967297", "18446744073709551616", "18446744073709551617", strings.Repeat("1", 300),
			"+0", "+1", "-0", "-1", "--1", "1-", "1+", " 1", "1 ", "1 0", "\t1", "1\n", "1.", "1.0", "0.5", ".5", "1,", "1_0", "1e1", "0x1", "0b1", "0o1", "a", "A", "f", "O", "l",
			"/", ":", "1/", "1:", "/1", ":1", "\x001", "1\x00", "\x7f", "\x80", "\xff", "\xb1", "１", "٣", "²", "½",
		} {
			expectParse(t, strings.Replace(place, "#", digits, 1), api.Config{}, api.ErrSyntax)
		}
		// Each byte that is no digit.
		for b := range 256 {
			if b >= 48 && b <= 57 {
				continue
			}
			for _, digits := range []string{string([]byte{byte(b)}), string([]byte{byte(b), '1'}), string([]byte{'1', byte(b)}), string([]byte{'1', byte(b), '1'})} {
				if err := compareParse(t, strings.Replace(place, "#", digits, 1)); err != api.ErrSyntax {
					t.Errorf("%q for a number in %q: %d", digits, place, err)
				}
			}
		}
	}
}

func TestParseOfShares(t *testing.T) {
	for p := range 101 {
		c, wanted := withShare(1, 0, float64(p)/100), api.OK
		if p == 0 {
			c, wanted = api.Config{}, api.ErrSyntax
		}
		expectParse(t, "a full 0: "+strconv.Itoa(p)+"%/0/0>0", c, wanted)
		c, wanted = withShare(2, 0, float64(p)/100), api.OK
		if p == 0 {
			c, wanted = api.Config{}, api.ErrSyntax
		}
		expectParse(t, "a full 8: "+strconv.Itoa(p)+"%/3/2>1, all/0/0>1", c, wanted)
	}
	for _, share := range []string{
		"", "%", "0%", "101%", "102%", "110%", "199%", "200%", "256%", "257%", "999%", "1000%", "1001%", "9999%", "10000%",
		"00%", "01%", "001%", "010%", "0100%", "000%", "+1%", "-1%", "-0%", "1.5%", "5", "25", "100", "0", "5%%", "5 %", " 5%", "5% ", "%5", "5%5", "5%all", "all%", "all5%", "5all", "0all", "all0",
		"al", "a", "l", "ll", "ALL", "All", "aLl", "alL", "alll", "aall", "all ", " all", "allall", "nil", "any", "1/4", "0.25", ".25",
	} {
		for _, place := range []string{"a full 8: #/0/0>0", "a full 0: #/0/0>0", "a full 8: #/0/0>1, all/0/0>1", "a full 8: all/0/0>1, #/0/0>1", "a full 0: 5%/0/0>1, #/0/0>1"} {
			expectParse(t, strings.Replace(place, "#", share, 1), api.Config{}, api.ErrSyntax)
		}
	}
}

// Each part of a text, once less and once more than the definition says.
func TestParseOfTextsBesideTheGrammar(t *testing.T) {
	for _, s := range []string{
		"a", "a ", "a full", "a full ", "a full 1", "a full 1:", "a full 1: ", "a full 1: all", "a full 1: all/", "a full 1: all/0", "a full 1: all/0/", "a full 1: all/0/0", "a full 1: all/0/0>",
		"full 1: all/0/0>0", " full 1: all/0/0>0", "1: all/0/0>0", ": all/0/0>0", "all/0/0>0",
		"afull 1: all/0/0>0", "a full1: all/0/0>0", "afull1: all/0/0>0", "a  full 1: all/0/0>0", "a full  1: all/0/0>0", "a\tfull 1: all/0/0>0", "a full\n1: all/0/0>0",
		"a ful 1: all/0/0>0", "a ull 1: all/0/0>0", "a fulll 1: all/0/0>0", "a Full 1: all/0/0>0", "a FULL 1: all/0/0>0", "a full full 1: all/0/0>0", "a 1: all/0/0>0", "a full all/0/0>0",
		"a full 1 all/0/0>0", "a full 1:all/0/0>0", "a full 1 : all/0/0>0", "a full 1:  all/0/0>0", "a full 1:: all/0/0>0", "a full 1; all/0/0>0", "a full 1, all/0/0>0", "a full 1all/0/0>0",
		"a full 1: all0/0>0", "a full 1: all//0/0>0", "a full 1: /all/0/0>0", "a full 1: all/0>0", "a full 1: all/0/>0", "a full 1: all//0>0", "a full 1: all/0//0>0", "a full 1: all/0/0/0>0", "a full 1: all/0/0/>0", "a full 1: all-0/0>0", "a full 1: all/0-0>0", "a full 1: all/ 0/0>0", "a full 1: all /0/0>0", `a full 1: all\0/0>0`,
		"a full 1: all/0/00", "a full 1: all/0/0>>0", "a full 1: all/0/0->0", "a full 1: all/0/0 > 0", "a full 1: all/0/0> 0", "a full 1: all/0/0 >0", "a full 1: all/0/0<0", "a full 1: all/0>0/0", "a full 1: all>0/0/0", "a full 1: all/0/0>0>0", "a full 1: all/0/0=0",
		"a full 1: all/0/0>1,all/0/0>1", "a full 1: all/0/0>1 all/0/0>1", "a full 1: all/0/0>1all/0/0>1", "a full 1: all/0/0>1,  all/0/0>1", "a full 1: all/0/0>1 , all/0/0>1", "a full 1: all/0/0>1,, all/0/0>1", "a full 1: all/0/0>1, , all/0/0>1", "a full 1: all/0/0>1; all/0/0>1", "a full 1: , all/0/0>0", "a full 1: all/0/0>1: all/0/0>1",
		"a full 1: all/0/0>0,", "a full 1: all/0/0>0, ", "a full 1: all/0/0>0, a", "a full 1: all/0/0>1, all", "a full 1: all/0/0>1, all/0", "a full 1: all/0/0>1, all/0/0", "a full 1: all/0/0>1, all/0/0>", "a full 1: 5%/0/0>1, 5%", "a full 1: all/0/0>1, all/0/0>1,", "a full 1: all/0/0>1, all/0/0>1, ",
		"a full 1: all/0/0>0 ", "a full 1: all/0/0>0\n", "a full 1: all/0/0>0\x00", "a full 1: all/0/0>0.", "a full 1: all/0/0>0;", "a full 1: all/0/0>00", "a full 1: all/0/0>0a", "a full 1: all/0/0>0a full 1: all/0/0>0", "a full 1: all/0/0>0\r\n", "a full 1: all/0/0>0\xff",
		" a full 1: all/0/0>0", "\na full 1: all/0/0>0", "\x00a full 1: all/0/0>0", "\ufeffa full 1: all/0/0>0", ",a full 1: all/0/0>0", "a: full 1: all/0/0>0", "a, full 1: all/0/0>0",
		"A full 1: all/0/0>0", "aA full 1: all/0/0>0", "a b full 1: all/0/0>0", "a_b full 1: all/0/0>0", "é full 1: all/0/0>0",
		"full", " full ", ": ", ", ", "/", "%", ">", "0", "all", "a full 1: 5/0/0>0", "a full 1: %/0/0>0",
	} {
		expectParse(t, s, api.Config{}, api.ErrSyntax)
	}
}

func TestParseOfInvalidConfigurations(t *testing.T) {
	for _, x := range []struct {
		s      string
		wanted api.Errno
	}{
		{"1 full 1: all/0/0>0", api.ErrName}, {"- full 1: all/0/0>0", api.ErrName}, {"-a full 1: all/0/0>0", api.ErrName}, {"0a full 1: all/0/0>0", api.ErrName}, {"9bcdefghijklmnop full 1: all/0/0>0", api.ErrName},
		{"a full 1: all/0/0>1, all/0/0>2, all/0/0>3, all/0/0>4, all/0/0>4", api.ErrBelts}, {"a full 1: all/0/0>0, all/0/0>0, all/0/0>0, all/0/0>0, all/0/0>0, all/0/0>0", api.ErrBelts},
		{"a full 1: all/65/0>1, all/0/0>1", api.ErrLimit}, {"a full 1: all/9999/0>1, all/0/0>1", api.ErrLimit}, {"a full 1: all/0/65>0", api.ErrLimit}, {"a full 1: all/0/9999>0", api.ErrLimit}, {"a full 1: all/0/0>1, all/0/100>1", api.ErrLimit},
		{"a full 1: all/1/0>0", api.ErrLimit}, {"a full 1: all/0/0>1, all/64/0>1", api.ErrLimit},
		{"a full 1: all/0/0>1", api.ErrTarget}, {"a full 1: all/0/0>9999", api.ErrTarget}, {"a full 1: all/0/0>0, all/0/0>1", api.ErrTarget}, {"a full 1: all/0/0>1, all/0/0>0", api.ErrTarget}, {"a full 1: all/0/0>1, all/0/0>2", api.ErrTarget}, {"a full 1: all/0/0>4, all/0/0>1", api.ErrTarget},
		{"a full 1: all/0/0>2, all/0/0>2, all/0/0>2", api.ErrTarget},
		{"a full 0: all/0/0>0", api.ErrLimit}, {"a full 65: all/0/0>0", api.ErrLimit}, {"a full 9999: all/0/0>0", api.ErrLimit}, {"a full 1: 5%/0/0>0", api.ErrLimit}, {"a full 64: all/0/0>1, 100%/0/0>1", api.ErrLimit}, {"a full 0: 100%/0/0>1, all/0/0>1", api.ErrLimit},
	} {
		expectParse(t, x.s, api.Config{}, x.wanted)
	}
}

// Each step repairs the error that comes first; all later ones stay.
func TestParseOrderOfErrors(t *testing.T) {
	long := strings.Repeat(", all/0/0>0", 100)
	for _, x := range []struct {
		s      string
		wanted api.Errno
	}{
		{"1 full 65:: all/65/65>9" + long, api.ErrLimit},
		{"1 full 65: all/65/65>9" + long, api.ErrLimit},
		{"a full 1: all/0/0>0" + long, api.ErrLimit},
		{"1 full 65:: all/65/65>9" + long[:44], api.ErrSyntax},
		{"1 full 065: all/65/65>9" + long[:44], api.ErrSyntax},
		{"1 full 65: 0%/65/65>9" + long[:44], api.ErrSyntax},
		{"1 full 65: all/65/65>9" + long[:44] + " ", api.ErrSyntax},
		{"1 full 65: all/65/65>9" + long[:44], api.ErrName},
		{"a full 65: all/65/65>9" + long[:44], api.ErrBelts},
		{"a full 65: all/65/65>9" + long[:11], api.ErrLimit},
		{"a full 65: all/64/65>9" + long[:11], api.ErrLimit},
		{"a full 65: all/64/64>9" + long[:11], api.ErrTarget},
		{"a full 65: all/64/64>1" + long[:11], api.ErrTarget},
		{"a full 65: all/64/64>1, all/0/0>1", api.ErrLimit},
	} {
		expectParse(t, x.s, api.Config{}, x.wanted)
	}
	c := api.Config{Name: "a", Rules: []api.Rule{{Limit: 64, Batch: 64, Target: 1}, {Target: 1}}, Full: 64}
	expectParse(t, "a full 64: all/64/64>1, all/0/0>1", c, api.OK)
}

func TestParseOfTheNumberOfRules(t *testing.T) {
	text := "a full 8: "
	for n := 1; n <= 40; n++ {
		rules := ""
		for b := range n - 1 {
			rules += "25%/3/2>" + strconv.Itoa(b+1) + ", "
		}
		c, wanted := path(n), api.OK
		if n > 4 {
			c, wanted = api.Config{}, api.ErrBelts
		}
		expectParse(t, text+rules+"all/0/0>"+strconv.Itoa(n-1), c, wanted)
	}
}

// baseTexts are texts around which all others are tried.
func baseTexts() []string {
	texts := []string{"a full 8: 1%/64/0>1, all/0/0>1", "1 full 1: all/0/0>0", "a-1 full 0: 10%/1/2>2, 99%/10/64>1, 100%/0/9999>0"}
	for _, x := range pairs {
		texts = append(texts, x.s)
	}
	return texts
}

func TestParseOfTextsWithOneChange(t *testing.T) {
	for _, s := range baseTexts() {
		for at := range len(s) + 1 {
			compareParse(t, s[:at])
			compareParse(t, s[at:])
			for b := range 256 {
				compareParse(t, s[:at]+string([]byte{byte(b)})+s[at:])
				if at < len(s) {
					compareParse(t, s[:at]+string([]byte{byte(b)})+s[at+1:])
				}
			}
			for end := at + 1; end <= len(s); end++ {
				compareParse(t, s[at:end])
				compareParse(t, s[:at]+s[end:])
				compareParse(t, s[:end]+s[at:])
			}
		}
	}
}

func TestParseOfShortTextsWithTwoChanges(t *testing.T) {
	const letters = "0159aAl -,:/%>"
	// once returns the texts that one change of s makes.
	once := func(s string) []string {
		var changed []string
		for at := range len(s) + 1 {
			for _, b := range letters {
				changed = append(changed, s[:at]+string(b)+s[at:])
				if at < len(s) {
					changed = append(changed, s[:at]+string(b)+s[at+1:])
				}
			}
			if at < len(s) {
				changed = append(changed, s[:at]+s[at+1:])
			}
		}
		return changed
	}
	for _, s := range []string{"a full 1: all/0/0>0", "a full 0: 10%/0/0>0"} {
		for _, changed := range once(s) {
			for _, twice := range once(changed) {
				compareParse(t, twice)
			}
		}
	}
}

func TestParseOfTextsWithTwoChangedParts(t *testing.T) {
	parts := []string{"a", " full ", "8", ": ", "25", "%", "/", "3", "/", "2", ">", "1", ", ", "all", "/", "0", "/", "0", ">", "1"}
	others := []string{"", " ", "a", "A", "9", "-1", "0", "1", "64", "101", "007", "12345", "all", "50%", "%", "/", ">", ": ", ", ", " full ", "all/0/0>1"}
	text := func() string { return strings.Join(parts, "") }
	if err := compareParse(t, text()); err != api.OK {
		t.Fatal(text(), err)
	}
	for first := range parts {
		kept := parts[first]
		for _, x := range others {
			for _, replacement := range []string{x, x + kept, kept + x} {
				parts[first] = replacement
				compareParse(t, text())
				for second := first + 1; second < len(parts); second++ {
					for _, y := range others {
						saved := parts[second]
						parts[second] = y
						compareParse(t, text())
						parts[second] = y + saved
						compareParse(t, text())
						parts[second] = saved
					}
				}
			}
		}
		parts[first] = kept
	}
}

func TestParseAnswersAreNewMemory(t *testing.T) {
	for _, x := range pairs {
		s := strings.Clone(x.s)
		first, _ := notation.Parse(s)
		second, _ := notation.Parse(s)
		for b := range first.Rules {
			first.Rules[b] = api.Rule{Share: 7, Limit: 7, Batch: 7, Target: 7}
		}
		_ = append(second.Rules, api.Rule{Limit: 7})
		if !isSame(second, x.c) || s != x.s {
			t.Error("two answers share their rules", second, s)
		}
		expectParse(t, s, x.c, api.OK)
		// The name is no part of the text, which would retain it.
		start, name := uintptr(unsafe.Pointer(unsafe.StringData(s))), uintptr(unsafe.Pointer(unsafe.StringData(second.Name)))
		if name >= start && name < start+uintptr(len(s)) {
			t.Error("the name lies in the text", s)
		}
	}
}

// Consequences

func TestPrintAndParseAreInverse(t *testing.T) {
	valid := 0
	for n := 1; n <= 4; n++ {
		for _, p := range []int{0, 1, 9, 10, 57, 99, 100} {
			for _, q := range []int{0, 1, 29, 100} {
				for _, count := range []int{0, 1, 9, 10, 63, 64} {
					for _, full := range []int{0, 1, 9, 10, 64} {
						for _, name := range []string{"a", "z-9", "abcdefghijklmnop"} {
							c := path(n)
							c.Name, c.Full = name, full
							for b := range n - 1 {
								c.Rules[b] = api.Rule{Share: float64(p) / 100, Limit: count, Batch: 64 - count, Target: b + 1}
							}
							c.Rules[n-1].Share, c.Rules[n-1].Batch = float64(q)/100, count
							// expectPrint reads the text of each valid one again.
							if comparePrint(t, c) == api.OK {
								valid++
							}
						}
					}
				}
			}
		}
	}
	// With the last share 0 four values of Full are valid, with each other one a single value.
	if wanted := 4 * 7 * (4 + 3) * 6 * 3; valid != wanted {
		t.Error(valid, "valid configurations, wanted", wanted)
	}
}

func TestExamples(t *testing.T) {
	const text = "xx100 full 8: 25%/0/1>1, 25%/0/1>2, all/0/0>2"
	c, err := notation.Parse(text)
	if err != api.OK || !config.Complete(c) || len(c.Rules) != 3 {
		t.Fatal("xx100", c, err)
	}
	for b, wanted := range []int{4, 4, 0} {
		if got, err := config.Cap(c, b, 16); got != wanted || err != api.OK {
			t.Error("xx100", b, got, err)
		}
	}
	if got, err := notation.Print(c); got != text || err != api.OK {
		t.Error("xx100", got, err)
	}
}
