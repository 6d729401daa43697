package notation

import (
	"strings"

	"beltway/api"
	"beltway/share"
)

// maxDigits is how many digits a number may have; a number that Print writes has fewer.
const maxDigits = 4

// reader is a text with a position, up to which it was read. Its methods return whether they have read something. One that has not may have moved on, but for readText and readRun: so only these can be tried where something else may stand.
type reader struct {
	text string
	at   int
}

// readConfig reads a configuration, which need not be a valid one.
func (r *reader) readConfig() (api.Config, bool) {
	name, hasName := r.readRun(isNameByte, api.MaxName)
	full, hasFull := r.readNumberAfter(beforeFull)
	if !hasName || !hasFull || !r.readText(beforeRules) {
		return api.Config{}, false
	}
	rules, ok := r.readRules()
	// A name that is a part of the text would retain all of it.
	return api.Config{Name: strings.Clone(name), Rules: rules, Full: full}, ok
}

// readRules reads one or more rules.
func (r *reader) readRules() ([]api.Rule, bool) {
	var rules []api.Rule
	for {
		rule, ok := r.readRule()
		if !ok {
			return nil, false
		}
		rules = append(rules, rule)
		if !r.readText(betweenRules) {
			return rules, true
		}
	}
}

func (r *reader) readRule() (api.Rule, bool) {
	x, hasShare := r.readShare()
	limit, hasLimit := r.readNumberAfter(beforeLimit)
	batch, hasBatch := r.readNumberAfter(beforeBatch)
	target, hasTarget := r.readNumberAfter(beforeTarget)
	return api.Rule{Share: x, Limit: limit, Batch: batch, Target: target}, hasShare && hasLimit && hasBatch && hasTarget
}

func (r *reader) readShare() (float64, bool) {
	if r.readText(allFrames) {
		return 0, true
	}
	p, ok := r.readNumber()
	// share.Percent takes 0 too, but the share 0 has another text.
	if !ok || p == 0 || !r.readText(afterPercent) {
		return 0, false
	}
	x, err := share.Percent(p)
	return x, err == api.OK
}

// readNumberAfter reads the text before and then a number.
func (r *reader) readNumberAfter(before string) (int, bool) {
	if !r.readText(before) {
		return 0, false
	}
	return r.readNumber()
}

func (r *reader) readNumber() (int, bool) {
	// This keeps leading zeros out: a digit behind this one is refused as what readRun has left is.
	if r.readText("0") {
		return 0, true
	}
	digits, ok := r.readRun(isDigit, maxDigits)
	n := 0
	for k := range len(digits) {
		n = 10*n + int(digits[k]-'0')
	}
	return n, ok
}

// readRun reads one byte or more, up to most, all of which are of one kind. It need not look whether there are more: nothing that may follow a name or a number begins with a byte of its kind.
func (r *reader) readRun(isOfKind func(b byte) bool, most int) (string, bool) {
	start := r.at
	for r.at < len(r.text) && r.at-start < most && isOfKind(r.text[r.at]) {
		r.at++
	}
	return r.text[start:r.at], r.at > start
}

// readText reads just this text.
func (r *reader) readText(text string) bool {
	if !strings.HasPrefix(r.text[r.at:], text) {
		return false
	}
	r.at += len(text)
	return true
}

// isAtEnd reports whether nothing is left to read.
func (r *reader) isAtEnd() bool { return r.at == len(r.text) }

// isNameByte reports whether b may stand anywhere in a name. That a name begins with a letter is left to config.Check, whose error for it is another one.
func isNameByte(b byte) bool { return 'a' <= b && b <= 'z' || isDigit(b) || b == '-' }

func isDigit(b byte) bool { return '0' <= b && b <= '9' }
