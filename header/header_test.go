package header_test

import (
	"math"
	"testing"

	"beltway/api"
	"beltway/header"
)

// maxAddress is the last address of the largest space: 64 frames of 256 words.
const maxAddress = 16383

// farNumbers are outside of every range; the low bits of some of them are inside, and sums or shifts of some wrap around.
var farNumbers = []int{
	math.MinInt, math.MinInt + 1, math.MinInt + 5, -1 << 62, -1 << 56, -1 << 33, -1 << 32, -1<<32 + 5, -1 << 31, -16384, -256, -128,
	128, 128 + 5, 256, 256 + 5, 1 << 16, 1<<16 + 5, 1<<31 - 1, 1 << 31, 1<<31 + 5, 1<<32 - 1, 1 << 32, 1<<32 + 5, 1 << 33, 1<<33 + 5,
	1 << 56, 1 << 62, 1<<62 + 5, math.MaxInt - 5, math.MaxInt - 1, math.MaxInt,
}

// liveWord is the header of P7.1, by sums instead of bits.
func liveWord(refs, data int) uint64 {
	return uint64(2*refs + 256*(1+refs+data))
}

// forwardWord is the header of P7.2, by sums instead of bits.
func forwardWord(a int) uint64 {
	return uint64(2*a + 1)
}

// decoded is what Decode returns without an error.
type decoded struct {
	refs, data, a int
	forwarded     bool
}

// allHeaders returns every word that is a header, with its parts.
func allHeaders() map[uint64]decoded {
	headers := map[uint64]decoded{}
	for refs := 0; refs <= 15; refs++ {
		for data := 0; data <= 32; data++ {
			headers[liveWord(refs, data)] = decoded{refs: refs, data: data}
		}
	}
	for a := 0; a <= maxAddress; a++ {
		headers[forwardWord(a)] = decoded{a: a, forwarded: true}
	}
	return headers
}

// checkDecode compares Decode with the table of all headers.
func checkDecode(t *testing.T, headers map[uint64]decoded, w uint64) {
	t.Helper()
	want, ok := headers[w]
	wantErr := api.ErrHeader
	if ok {
		wantErr = api.OK
	}
	var got decoded
	var err api.Errno
	got.refs, got.data, got.a, got.forwarded, err = header.Decode(w)
	if got != want || err != wantErr {
		t.Errorf("Decode(%#x) = %v, %d, want %v, %d", w, got, err, want, wantErr)
	}
}

func checkNoHeader(t *testing.T, why string, w uint64) {
	t.Helper()
	refs, data, a, forwarded, err := header.Decode(w)
	if err != api.ErrHeader || refs != 0 || data != 0 || a != 0 || forwarded {
		t.Errorf("%s: Decode(%#x) = %d, %d, %d, %v, %d, want ErrHeader", why, w, refs, data, a, forwarded, err)
	}
}

// P7.1

func TestLiveOfAllCounts(t *testing.T) {
	for refs := -20; refs <= 300; refs++ {
		for data := -20; data <= 300; data++ {
			want, wantErr := uint64(0), api.ErrSize
			if 0 <= refs && refs <= 15 && 0 <= data && data <= 32 {
				want, wantErr = liveWord(refs, data), api.OK
			}
			if w, err := header.Live(refs, data); w != want || err != wantErr {
				t.Errorf("Live(%d, %d) = %#x, %d, want %#x, %d", refs, data, w, err, want, wantErr)
			}
		}
	}
}

func TestLiveOfKnownCounts(t *testing.T) {
	for _, x := range []struct {
		refs, data int
		want       uint64
	}{
		{2, 3, 1540}, {0, 0, 0x100}, {1, 0, 0x202}, {0, 1, 0x200}, {15, 0, 0x101e}, {0, 32, 0x2100}, {15, 32, 0x301e},
	} {
		if w, err := header.Live(x.refs, x.data); w != x.want || err != api.OK {
			t.Errorf("Live(%d, %d) = %#x, %d, want %#x", x.refs, x.data, w, err, x.want)
		}
	}
}

func TestLiveHasTheBitsOfTheDocument(t *testing.T) {
	for refs := 0; refs <= api.MaxRefs; refs++ {
		for data := 0; data <= api.MaxData; data++ {
			w, err := header.Live(refs, data)
			if err != api.OK || w&1 != 0 || w>>1&0x7f != uint64(refs) || w>>8&0xff != uint64(1+refs+data) || w>>16 != 0 {
				t.Errorf("Live(%d, %d) = %#x, %d", refs, data, w, err)
			}
		}
	}
}

func TestLiveOfTooManyFields(t *testing.T) {
	check := func(refs, data int) {
		if w, err := header.Live(refs, data); w != 0 || err != api.ErrSize {
			t.Errorf("Live(%d, %d) = %#x, %d, want ErrSize", refs, data, w, err)
		}
	}
	for _, far := range append([]int{-1, 33, 48}, farNumbers...) {
		for _, permitted := range []int{0, 1, 2, 15} {
			check(far, permitted)
			check(permitted, far)
		}
		for _, other := range append([]int{-1, 16, 33}, farNumbers...) {
			check(far, other)
		}
		// These sums are permitted sizes, or wrap around to one.
		check(far, -far)
		check(far, 5-far)
		check(5-far, far)
	}
	for _, x := range [][2]int{{-1, 0}, {-1, 1}, {-1, 32}, {0, -1}, {1, -1}, {15, -1}, {16, 0}, {16, -1}, {16, 31}, {0, 33}, {-1, 33}, {14, 33}, {16, 33}} {
		check(x[0], x[1])
	}
}

// P7.2

func TestForwardToAllAddresses(t *testing.T) {
	for a := -300; a <= maxAddress+70000; a++ {
		want, wantErr := uint64(0), api.ErrRange
		if 0 <= a && a <= maxAddress {
			want, wantErr = forwardWord(a), api.OK
		}
		if w, err := header.Forward(a); w != want || err != wantErr {
			t.Fatalf("Forward(%d) = %#x, %d, want %#x, %d", a, w, err, want, wantErr)
		}
	}
}

func TestForwardToKnownAddresses(t *testing.T) {
	for _, x := range []struct {
		a    int
		want uint64
	}{
		{5, 11}, {0, 1}, {1, 3}, {127, 0xff}, {128, 0x101}, {(api.MaxFrames << api.MaxShift) - 1, 0x7fff},
	} {
		if w, err := header.Forward(x.a); w != x.want || err != api.OK {
			t.Errorf("Forward(%d) = %#x, %d, want %#x", x.a, w, err, x.want)
		}
	}
}

func TestForwardHasTheBitsOfTheDocument(t *testing.T) {
	for a := 0; a <= maxAddress; a++ {
		w, err := header.Forward(a)
		if err != api.OK || w&1 != 1 || w>>1&0xffffffff != uint64(a) || w>>33 != 0 {
			t.Fatalf("Forward(%d) = %#x, %d", a, w, err)
		}
	}
}

func TestForwardOutsideOfEverySpace(t *testing.T) {
	addresses := []int{-1, -2, -maxAddress, api.MaxFrames << api.MaxShift, maxAddress + 2, 2 * maxAddress, 1<<15 + 5}
	for _, far := range farNumbers {
		// Of the far numbers, only these are addresses.
		if far == 128 || far == 128+5 || far == 256 || far == 256+5 {
			continue
		}
		addresses = append(addresses, far)
	}
	for _, a := range addresses {
		if w, err := header.Forward(a); w != 0 || err != api.ErrRange {
			t.Errorf("Forward(%d) = %#x, %d, want ErrRange", a, w, err)
		}
	}
}

// P7.3

func TestDecodeOfWhatLiveReturns(t *testing.T) {
	for refs := 0; refs <= api.MaxRefs; refs++ {
		for data := 0; data <= api.MaxData; data++ {
			w, _ := header.Live(refs, data)
			r, d, a, forwarded, err := header.Decode(w)
			if r != refs || d != data || a != 0 || forwarded || err != api.OK {
				t.Errorf("Decode of Live(%d, %d) = %d, %d, %d, %v, %d", refs, data, r, d, a, forwarded, err)
			}
		}
	}
}

func TestDecodeOfWhatForwardReturns(t *testing.T) {
	for a := 0; a <= maxAddress; a++ {
		w, _ := header.Forward(a)
		refs, data, target, forwarded, err := header.Decode(w)
		if refs != 0 || data != 0 || target != a || !forwarded || err != api.OK {
			t.Fatalf("Decode of Forward(%d) = %d, %d, %d, %v, %d", a, refs, data, target, forwarded, err)
		}
	}
}

func TestDecodeOfKnownHeaders(t *testing.T) {
	for _, x := range []struct {
		w    uint64
		want decoded
	}{
		{1540, decoded{refs: 2, data: 3}},
		{0x100, decoded{}},
		{0x101e, decoded{refs: 15}},
		{0x2100, decoded{data: 32}},
		{0x301e, decoded{refs: 15, data: 32}},
		{11, decoded{a: 5, forwarded: true}},
		{1, decoded{forwarded: true}},
		{0x7fff, decoded{a: 16383, forwarded: true}},
	} {
		var got decoded
		var err api.Errno
		got.refs, got.data, got.a, got.forwarded, err = header.Decode(x.w)
		if got != x.want || err != api.OK {
			t.Errorf("Decode(%#x) = %v, %d, want %v", x.w, got, err, x.want)
		}
	}
}

func TestDecodeOfAllWordsOfEighteenBits(t *testing.T) {
	headers := allHeaders()
	for w := range uint64(1 << 18) {
		checkDecode(t, headers, w)
	}
}

func TestDecodeOfHeadersWithOneBitChanged(t *testing.T) {
	headers := allHeaders()
	for w := range headers {
		for bit := range 64 {
			checkDecode(t, headers, w^1<<bit)
		}
	}
}

func TestNoHeaderHasABitBeyondItsFields(t *testing.T) {
	for w, parts := range allHeaders() {
		// No size and no address is so large that its highest bits are set, so these are tried too.
		beyond := 14
		if parts.forwarded {
			beyond = 15
		}
		for bit := beyond; bit < 64; bit++ {
			checkNoHeader(t, "a bit that no header has", w|1<<bit)
			checkNoHeader(t, "all bits that no header has", w|math.MaxUint64<<bit)
		}
	}
}

func TestDecodeOfWordsThatAreNoHeaders(t *testing.T) {
	for _, x := range []struct {
		why string
		w   uint64
	}{
		{"the zero word", 0},
		{"all bits", math.MaxUint64},
		{"all bits but the mark", math.MaxUint64 - 1},
		{"the highest bit alone", 1 << 63},
		{"the highest bit and the mark", 1<<63 + 1},
		{"references without a size", 2},
		{"the most references without a size", 30},
		{"a size without its reference", 0x102},
		{"a size without all its references", 0x0f1e},
		{"too many data fields", 0x2200},
		{"too many data fields beside references", 0x311e},
		{"too many references", 0x1120},
		{"too many references beside the most data fields", 0x3120},
		{"as many references as the field holds", 0x80fe},
		{"the largest size", 0xff00},
		{"the first bit after the size", 0x10100},
		{"the first address outside", 0x8001},
		{"the greatest address that the field holds", 1<<33 - 1},
		{"the first bit after the address", 1<<33 + 1},
	} {
		checkNoHeader(t, x.why, x.w)
	}
}

// Consequences

func TestDecodeGivesTheArgumentsBack(t *testing.T) {
	accepted := 0
	for w := range uint64(1 << 18) {
		refs, data, a, forwarded, err := header.Decode(w)
		if err != api.OK {
			continue
		}
		accepted++
		back, backErr := header.Live(refs, data)
		if forwarded {
			back, backErr = header.Forward(a)
		}
		if back != w || backErr != api.OK {
			t.Errorf("Decode(%#x) = %d, %d, %d, %v, which make the header %#x, %d", w, refs, data, a, forwarded, back, backErr)
		}
	}
	if want := 16*33 + 16384; accepted != want {
		t.Errorf("Decode accepts %d words, want %d", accepted, want)
	}
}
