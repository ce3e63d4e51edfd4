package bits_test

import (
	"bytes"
	"fmt"
	"math"
	"slices"
	"strconv"
	"strings"
	"testing"

	"kinora/api"
	"kinora/bits"
)

// pack returns the bytes of a text of 0 and 1 (blanks are passed), filled up with 0.
func pack(text string) []byte {
	text = strings.ReplaceAll(text, " ", "")
	text += strings.Repeat("0", (8-len(text)%8)%8)
	b := make([]byte, 0, len(text)/8)
	for i := 0; i < len(text); i += 8 {
		x, err := strconv.ParseUint(text[i:i+8], 2, 8)
		if err != nil {
			panic(err)
		}
		b = append(b, byte(x))
	}
	return b
}

// digits returns the lowest n binary digits of v as text.
func digits(v uint64, n int) string {
	if n == 0 {
		return ""
	}
	return fmt.Sprintf("%064b", v)[64-n:]
}

// numbers returns numbers of at most n binary digits, those beside the bounds among them.
func numbers(n int) []uint64 {
	top := uint64(math.MaxUint64)
	if n < 64 {
		top = 1<<n - 1
	}
	return []uint64{0, 1 & top, top, top - top>>1, top >> 1, 0x9e3779b97f4a7c15 & top, 0xaaaaaaaaaaaaaaaa & top}
}

// scribble writes into b and into its spare capacity.
func scribble(b []byte) {
	b = b[:cap(b)]
	for i := range b {
		b[i] ^= 0x5a
	}
}

// checkHolds compares what w holds with a text of 0 and 1.
func checkHolds(t *testing.T, w *bits.Writer, want string) {
	t.Helper()
	want = strings.ReplaceAll(want, " ", "")
	if w.Len() != len(want) {
		t.Errorf("Len is %d, want %d", w.Len(), len(want))
	}
	if got := w.Bytes(); !bytes.Equal(got, pack(want)) {
		t.Errorf("Bytes is %08b, want %08b", got, pack(want))
	}
}

func put(t *testing.T, w *bits.Writer, v uint64, n int) {
	t.Helper()
	if err := w.Put(v, n); err != api.OK {
		t.Errorf("Put(%#x, %d): error %d", v, n, err)
	}
}

func checkPlace(t *testing.T, r *bits.Reader, at, left int, err api.Errno) {
	t.Helper()
	if r.At() != at || r.Left() != left || r.Err() != err {
		t.Errorf("At %d, Left %d, Err %d; want %d, %d, %d", r.At(), r.Left(), r.Err(), at, left, err)
	}
}

// checkDead calls everything that reads: after the first error none of it may return or change anything.
func checkDead(t *testing.T, r *bits.Reader) {
	t.Helper()
	at, left, err := r.At(), r.Left(), r.Err()
	if err == api.OK {
		t.Error("no error")
	}
	for _, n := range []int{1, 0, -1, 3, 8, 64, 65, math.MaxInt, math.MinInt} {
		if r.Get(n) != 0 || r.Signed(n) != 0 || r.Unary(n) != 0 {
			t.Errorf("a number after the first error (%d)", n)
		}
		r.Align()
		checkPlace(t, r, at, left, err)
	}
}

func TestZeroValueIsAnEmptyWriter(t *testing.T) { // P2.1
	var w bits.Writer
	checkHolds(t, &w, "")
	w.Align()
	checkHolds(t, &w, "")
	if len(new(bits.Writer).Bytes()) != 0 {
		t.Error("bytes of a new Writer")
	}
}

func TestPutWritesTheMostSignificantBitFirst(t *testing.T) { // P2.1
	var w bits.Writer
	put(t, &w, 5, 3)
	checkHolds(t, &w, "101")
	put(t, &w, 0, 0)
	checkHolds(t, &w, "101")
	put(t, &w, 1, 4)
	checkHolds(t, &w, "101 0001")
	put(t, &w, 0x181, 9)
	checkHolds(t, &w, "101 0001 110000001")
	put(t, &w, 0x0123456789abcdef, 64)
	checkHolds(t, &w, "101 0001 110000001"+digits(0x0123456789abcdef, 64))
	put(t, &w, 0, 3)
	checkHolds(t, &w, "101 0001 110000001"+digits(0x0123456789abcdef, 64)+"000")
}

func TestPutOfEachSizeAtEachPlace(t *testing.T) { // P2.1
	for place := range 9 {
		for n := range 65 {
			for _, v := range numbers(n) {
				var w bits.Writer
				before := strings.Repeat("1", place)
				put(t, &w, 1<<place-1, place)
				put(t, &w, v, n)
				put(t, &w, 1, 2)
				checkHolds(t, &w, before+digits(v, n)+"01")
			}
		}
	}
}

func TestPutErrors(t *testing.T) { // P2.1, R5
	var w bits.Writer
	put(t, &w, 2, 3)
	for _, x := range []struct {
		v uint64
		n int
	}{
		{0, -1}, {0, 65}, {0, 72}, {0, math.MinInt}, {0, math.MaxInt}, {1, -1}, {math.MaxUint64, 65},
		{1, 0}, {2, 1}, {4, 2}, {256, 8}, {math.MaxUint64, 63}, {1 << 63, 63}, {1 << 63, 0}, {1 << 8, 0},
	} {
		if err := w.Put(x.v, x.n); err != api.ErrArg {
			t.Errorf("Put(%#x, %d): error %d", x.v, x.n, err)
		}
		checkHolds(t, &w, "010")
	}
	put(t, &w, 1, 1)
	checkHolds(t, &w, "0101")
}

func TestPutRefusesOneDigitMore(t *testing.T) { // P2.1
	for n := range 64 {
		var w bits.Writer
		if err := w.Put(1<<n, n); err != api.ErrArg {
			t.Errorf("%d digits in %d bits: error %d", n+1, n, err)
		}
		checkHolds(t, &w, "")
		put(t, &w, 1<<n, n+1)
		checkHolds(t, &w, digits(1<<n, n+1))
	}
}

func TestWriterUnary(t *testing.T) { // P2.1
	var w bits.Writer
	want := ""
	for _, n := range []int{0, 0, 1, 3, 7, 8, 9, 62, 63, 64, 65, 127, 128, 200, api.MaxUnary - 1, api.MaxUnary, 0} {
		if err := w.Unary(n); err != api.OK {
			t.Errorf("Unary(%d): error %d", n, err)
		}
		want += strings.Repeat("0", n) + "1"
		checkHolds(t, &w, want)
	}
}

func TestWriterUnaryErrors(t *testing.T) { // P2.1, R5
	var w bits.Writer
	put(t, &w, 5, 3)
	for _, n := range []int{-1, -64, math.MinInt, api.MaxUnary + 1, api.MaxUnary + 64, math.MaxInt} {
		if err := w.Unary(n); err != api.ErrArg {
			t.Errorf("Unary(%d): error %d", n, err)
		}
		checkHolds(t, &w, "101")
	}
	if err := w.Unary(1); err != api.OK {
		t.Error(err)
	}
	checkHolds(t, &w, "101 01")
}

func TestWriterAlign(t *testing.T) { // P2.1
	for n := range 25 {
		var w bits.Writer
		want := strings.Repeat("1", n)
		put(t, &w, 1<<n-1, n)
		for len(want)%8 != 0 {
			want += "0"
		}
		w.Align()
		checkHolds(t, &w, want)
		w.Align()
		checkHolds(t, &w, want)
		put(t, &w, 1, 1)
		checkHolds(t, &w, want+"1")
	}
}

func TestBytesIsNew(t *testing.T) { // P2.1, R2
	var w bits.Writer
	put(t, &w, 0x1ff, 9)
	first, second := w.Bytes(), w.Bytes()
	scribble(first)
	if !bytes.Equal(second, pack("111111111")) {
		t.Error("two results share their bytes")
	}
	checkHolds(t, &w, "111111111")
	put(t, &w, 3, 2)
	put(t, &w, 0xffff, 16)
	if !bytes.Equal(second, pack("111111111")) {
		t.Error("a result changes when more is put")
	}
	checkHolds(t, &w, "111111111 11 1111111111111111")
	_ = append(w.Bytes(), 0x77)
	put(t, &w, 0, 5)
	checkHolds(t, &w, "111111111 11 1111111111111111 00000")
}

func TestWritersAreSeparate(t *testing.T) { // P2.1
	var a, b bits.Writer
	put(t, &a, 1, 1)
	put(t, &b, 0, 2)
	checkHolds(t, &a, "1")
	checkHolds(t, &b, "00")
}

func TestGetReadsTheMostSignificantBitFirst(t *testing.T) { // P2.2
	r := bits.New([]byte{0xa3, 0x81, 0x01})
	checkPlace(t, r, 0, 24, api.OK)
	for _, x := range []struct {
		n    int
		want uint64
	}{{3, 5}, {0, 0}, {4, 1}, {9, 0x181}, {8, 1}, {0, 0}} {
		at := r.At()
		if got := r.Get(x.n); got != x.want {
			t.Errorf("Get(%d) at %d is %#x, want %#x", x.n, at, got, x.want)
		}
		checkPlace(t, r, at+x.n, 24-at-x.n, api.OK)
	}
}

func TestGetOfEachSizeAtEachPlace(t *testing.T) { // P2.2
	for place := range 9 {
		for n := range 65 {
			for _, v := range numbers(n) {
				b := pack(strings.Repeat("1", place) + digits(v, n) + "1")
				r := bits.New(b)
				if got := r.Get(place); got != 1<<place-1 {
					t.Errorf("%d bits 1 are %#x", place, got)
				}
				if got := r.Get(n); got != v {
					t.Errorf("Get(%d) at %d is %#x, want %#x", n, place, got, v)
				}
				checkPlace(t, r, place+n, 8*len(b)-place-n, api.OK)
				if r.Get(1) != 1 {
					t.Errorf("the bit behind %d bits at %d", n, place)
				}
			}
		}
	}
}

// signed is two's complement in the document's words: the first bit counts as minus its place.
func signed(text string) int64 {
	var v int64
	for i, c := range text {
		v *= 2
		if c == '1' && i > 0 {
			v++
		}
		if c == '1' && i == 0 {
			v--
		}
	}
	return v
}

func TestSigned(t *testing.T) { // P2.2
	for _, x := range []struct {
		text string
		want int64
	}{
		{"", 0}, {"0", 0}, {"1", -1}, {"01", 1}, {"10", -2}, {"11", -1}, {"011", 3}, {"100", -4}, {"101", -3},
		{"01111111", 127}, {"10000000", -128}, {"11111111", -1}, {"011111111", 255}, {"100000000", -256},
		{digits(math.MaxInt64, 64), math.MaxInt64}, {digits(1<<63, 64), math.MinInt64},
		{digits(math.MaxUint64, 64), -1}, {digits(1<<62, 63), -1 << 62}, {digits(1<<62, 64), 1 << 62},
	} {
		n := len(x.text)
		b := pack("01" + x.text + "1")
		r := bits.New(b)
		r.Get(2)
		if got := r.Signed(n); got != x.want {
			t.Errorf("Signed(%d) of %s is %d, want %d", n, x.text, got, x.want)
		}
		checkPlace(t, r, 2+n, 8*len(b)-2-n, api.OK)
	}
	for n := range 65 {
		for _, v := range numbers(n) {
			text := digits(v, n)
			if got := bits.New(pack(text)).Signed(n); got != signed(text) {
				t.Errorf("Signed(%d) of %s is %d, want %d", n, text, got, signed(text))
			}
		}
	}
}

// gets holds the calls that read a number of n bits.
func gets() map[string]func(*bits.Reader, int) bool {
	return map[string]func(*bits.Reader, int) bool{
		"Get":    func(r *bits.Reader, n int) bool { return r.Get(n) == 0 },
		"Signed": func(r *bits.Reader, n int) bool { return r.Signed(n) == 0 },
	}
}

func TestGetAndSignedErrors(t *testing.T) { // P2.2
	for name, get := range gets() {
		for _, x := range []struct {
			n    int
			want api.Errno
		}{
			{-1, api.ErrArg}, {-8, api.ErrArg}, {math.MinInt, api.ErrArg},
			{65, api.ErrArg}, {72, api.ErrArg}, {math.MaxInt, api.ErrArg},
			{14, api.ErrShort}, {16, api.ErrShort}, {63, api.ErrShort}, {64, api.ErrShort},
		} {
			r := bits.New([]byte{0xff, 0xff})
			r.Get(3)
			if !get(r, x.n) {
				t.Errorf("%s(%d) returns a number", name, x.n)
			}
			checkPlace(t, r, 3, 13, x.want)
			checkDead(t, r)
		}
	}
}

func TestGetAndSignedAtTheEnd(t *testing.T) { // P2.2
	for name, get := range gets() {
		for _, x := range []struct {
			n    int
			want api.Errno
		}{{0, api.OK}, {1, api.ErrShort}, {64, api.ErrShort}, {65, api.ErrArg}, {-1, api.ErrArg}} {
			for _, b := range [][]byte{nil, {}, {0xff}} {
				r := bits.New(b)
				if got := r.Get(8 * len(b)); got != uint64(255*len(b)) {
					t.Errorf("all bits of % x are %d", b, got)
				}
				if !get(r, x.n) {
					t.Errorf("%s(%d) returns a number", name, x.n)
				}
				checkPlace(t, r, 8*len(b), 0, x.want)
			}
		}
	}
}

func TestReaderUnary(t *testing.T) { // P2.2
	sizes := []int{0, 0, 1, 2, 7, 8, 9, 15, 63, 64, 65, 300, api.MaxUnary, api.MaxUnary + 1, 0}
	text := ""
	for _, n := range sizes {
		text += strings.Repeat("0", n) + "1"
	}
	b := pack(text)
	for _, more := range []int{0, 1, math.MaxInt - 10000} {
		r := bits.New(b)
		at := 0
		for _, n := range sizes {
			if got := r.Unary(n + more); got != n {
				t.Errorf("%d is read as %d", n, got)
			}
			at += n + 1
			checkPlace(t, r, at, 8*len(b)-at, api.OK)
		}
	}
}

func TestReaderUnaryErrors(t *testing.T) { // P2.2
	for _, x := range []struct {
		text string
		most int
		want api.Errno
	}{
		{"", 0, api.ErrShort},
		{"", -1, api.ErrShort},
		{"00001", 3, api.ErrForm},
		{"00001", 0, api.ErrForm},
		{"00001", -1, api.ErrForm},
		{"00001", math.MinInt, api.ErrForm},
		{"0000 0000 1", 7, api.ErrForm},
		{"0000 0000", 7, api.ErrForm},
		{"0000 0000", 0, api.ErrForm},
		{"0000 0000", 8, api.ErrShort},
		{"0000 0000", 9, api.ErrShort},
		{"0000 0000", math.MaxInt, api.ErrShort},
		{"0000 0000 0000 0000", 15, api.ErrForm},
		{"0000 0000 0000 0000", 16, api.ErrShort},
		{"0000 0000 0000 0001", 14, api.ErrForm},
	} {
		r := bits.New(append([]byte{0xff}, pack(x.text)...))
		r.Get(8)
		left := r.Left()
		if got := r.Unary(x.most); got != 0 {
			t.Errorf("%s, at most %d: %d", x.text, x.most, got)
		}
		checkPlace(t, r, 8, left, x.want)
		checkDead(t, r)
	}
}

func TestReaderUnaryBelowZeroCountsAsZero(t *testing.T) { // P2.2
	for _, most := range []int{0, -1, -64, math.MinInt} {
		r := bits.New([]byte{0x80})
		if r.Unary(most) != 0 {
			t.Errorf("at most %d: a number above 0", most)
		}
		checkPlace(t, r, 1, 7, api.OK)
	}
}

func TestReaderUnaryStaysAtAnErrorInsideAByte(t *testing.T) { // P2.2
	for place := range 8 {
		for _, most := range []int{0, 2, math.MaxInt} {
			r := bits.New([]byte{0})
			r.Get(place)
			want := api.ErrShort
			if most < 8-place {
				want = api.ErrForm
			}
			if r.Unary(most) != 0 {
				t.Error("a number without its bit 1")
			}
			checkPlace(t, r, place, 8-place, want)
			checkDead(t, r)
		}
	}
}

func TestReaderAlign(t *testing.T) { // P2.2
	for place := range 17 {
		r := bits.New(pack(strings.Repeat("1", place) + strings.Repeat("0", (16-place)%8) + "11111111"))
		r.Get(place)
		all := place + r.Left()
		want := (place + 7) / 8 * 8
		r.Align()
		checkPlace(t, r, want, all-want, api.OK)
		r.Align()
		checkPlace(t, r, want, all-want, api.OK)
		if r.Get(8) != 255 {
			t.Errorf("the byte behind Align at %d", place)
		}
	}
}

func TestReaderAlignAtTheEnds(t *testing.T) { // P2.2
	r := bits.New(nil)
	r.Align()
	checkPlace(t, r, 0, 0, api.OK)
	r = bits.New([]byte{0x80})
	r.Get(1)
	r.Align()
	checkPlace(t, r, 8, 0, api.OK)
	r.Align()
	checkPlace(t, r, 8, 0, api.OK)
	r = bits.New([]byte{0xff})
	r.Align()
	checkPlace(t, r, 0, 8, api.OK)
}

func TestReaderAlignErrors(t *testing.T) { // P2.2
	for place := 1; place < 8; place++ {
		for one := place; one < 8; one++ {
			r := bits.New([]byte{0, 0x80 >> one, 0})
			r.Get(8 + place)
			r.Align()
			checkPlace(t, r, 8+place, 16-place, api.ErrForm)
			checkDead(t, r)
		}
	}
}

func TestTheFirstErrorStays(t *testing.T) { // P2.2, R9
	faults := map[api.Errno]func(*bits.Reader){
		api.ErrArg:   func(r *bits.Reader) { r.Get(-1) },
		api.ErrShort: func(r *bits.Reader) { r.Get(64) },
		api.ErrForm:  func(r *bits.Reader) { r.Align() },
	}
	for want, first := range faults {
		for _, later := range faults {
			r := bits.New([]byte{0xff, 0xff})
			r.Get(3)
			first(r)
			later(r)
			checkPlace(t, r, 3, 13, want)
		}
	}
}

func TestReaderKeepsItsArgument(t *testing.T) { // P2.2, R2
	b := []byte{0xa2, 0xff, 0xee, 0xee}
	r := bits.New(b[:2])
	scribble(b)
	if r.Get(16) != 0xa2ff {
		t.Error("the Reader shares the bytes of its argument")
	}
	if r.Get(1) != 0 || r.Err() != api.ErrShort {
		t.Error("the Reader reads the spare capacity")
	}
	scribble(b)
	if !slices.Equal(b, []byte{0xa2, 0xff, 0xee, 0xee}) {
		t.Error("the Reader changes its argument")
	}
}

// TestWriterAndReader mixes the calls, so that each one begins at each place of a byte.
func TestWriterAndReader(t *testing.T) { // P2.1, P2.2
	const steps = 3000
	seed := uint64(1)
	next := func() uint64 {
		seed = seed*6364136223846793005 + 1442695040888963407
		return seed >> 20
	}
	var w bits.Writer
	var reads []func(r *bits.Reader) bool
	var text strings.Builder
	for range steps {
		n := int(next() % 65)
		v := next() << 20 >> uint(64-n)
		switch next() % 8 {
		case 0:
			for text.Len()%8 != 0 {
				text.WriteByte('0')
			}
			w.Align()
			reads = append(reads, func(r *bits.Reader) bool { r.Align(); return true })
		case 1, 2:
			text.WriteString(strings.Repeat("0", n) + "1")
			w.Unary(n)
			reads = append(reads, func(r *bits.Reader) bool { return r.Unary(64) == n })
		case 3, 4:
			text.WriteString(digits(v, n))
			w.Put(v, n)
			reads = append(reads, func(r *bits.Reader) bool { return r.Signed(n) == signed(digits(v, n)) })
		default:
			text.WriteString(digits(v, n))
			w.Put(v, n)
			reads = append(reads, func(r *bits.Reader) bool { return r.Get(n) == v })
		}
		if w.Len() != text.Len() {
			t.Fatalf("Len is %d, want %d", w.Len(), text.Len())
		}
	}
	checkHolds(t, &w, text.String())
	r := bits.New(w.Bytes())
	for i, read := range reads {
		if !read(r) || r.Err() != api.OK {
			t.Fatalf("read %d, at %d: error %d", i, r.At(), r.Err())
		}
	}
	checkPlace(t, r, w.Len(), 8*len(w.Bytes())-w.Len(), api.OK)
}
