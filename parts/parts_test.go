package parts_test

import (
	"bytes"
	"fmt"
	"math"
	"slices"
	"strconv"
	"strings"
	"testing"

	"kinora/api"
	"kinora/bits"
	"kinora/parts"
)

// allKs returns all that may be the K of a part.
func allKs() []int {
	l := []int{31}
	for k := range 26 {
		l = append(l, k)
	}
	return l
}

// noKs returns numbers that are the K of no part.
func noKs() []int {
	return []int{-1, -2, -26, -31, -32, math.MinInt32, math.MinInt + 1, math.MinInt, 26, 27, 28, 29, 30, 32, 33, 63, 64, 1<<32 + 3, 1<<32 + 31, math.MaxInt32, math.MaxInt - 1, math.MaxInt}
}

// narrow returns numbers that are not wide.
func narrow() []int {
	return []int{1 << 30, 1<<30 + 1, 1 << 31, 1 << 32, 1 << 62, math.MaxInt, -1<<30 - 1, -1<<30 - 2, -1 << 31, -1 << 32, -1 << 62, math.MinInt + 1, math.MinInt}
}

// noRows returns pairs of n and warm of which there are no rows.
func noRows() [][2]int {
	return [][2]int{
		{0, 0}, {0, 1}, {-1, 0}, {-1, -1}, {-4, 0}, {math.MinInt, 0}, {math.MinInt, math.MinInt}, {math.MinInt, math.MaxInt},
		{4097, 0}, {4097, 4097}, {8192, 0}, {1 << 32, 0}, {1<<32 + 4, 0}, {math.MaxInt, 0}, {math.MaxInt, math.MaxInt},
		{1, -1}, {1, 2}, {4, -1}, {4, 5}, {4, math.MaxInt}, {4, math.MinInt}, {4, 1<<32 + 1}, {4096, -1}, {4096, 4097},
	}
}

// isRow says in the document's words whether there is a row.
func isRow(n, warm int) bool {
	return 1 <= n && n <= 4096 && 0 <= warm && warm <= n
}

// sizesOf are the Sizes of a row in the document's words, by counting.
func sizesOf(order, n, warm int) []int {
	if !isRow(n, warm) || order < 0 || order > 8 {
		return nil
	}
	count := 1
	for range order {
		count *= 2
	}
	var l []int
	left := n
	for left > 0 && len(l) < count {
		size := 0
		for size*count < n {
			size++
		}
		if size*count != n || size < warm {
			return nil
		}
		l = append(l, size)
		left -= size
	}
	if len(l) != count || left != 0 {
		return nil
	}
	l[0] -= warm
	return l
}

// digits returns the n lowest binary digits of u.
func digits(u, n int) string {
	if n == 0 {
		return ""
	}
	return fmt.Sprintf("%0*b", n, uint64(u)&(1<<n-1))
}

// fold is Fold of a residual.
func fold(x int) int {
	if x < 0 {
		return -2*x - 1
	}
	return 2 * x
}

// code returns the code of a residual by the parameter k.
func code(k, x int) string {
	u := fold(x)
	if q := u >> k; q < 32 {
		return strings.Repeat("0", q) + "1" + digits(u, k)
	}
	return escape(u)
}

// escape returns the escape and u behind it.
func escape(u int) string {
	return strings.Repeat("0", 32) + "1" + digits(u, 32)
}

// widthOf is the Width of a part.
func widthOf(part []int) int {
	width := 0
	for _, x := range part {
		for x != 0 && (width == 0 || x < -1<<(width-1) || x >= 1<<(width-1)) {
			width++
		}
	}
	return width
}

// partText returns a part by k.
func partText(k int, part []int) string {
	var text strings.Builder
	text.WriteString(digits(k, 5))
	width := widthOf(part)
	if k == 31 {
		text.WriteString(digits(width, 5))
	}
	for _, x := range part {
		if k == 31 {
			text.WriteString(digits(x, width))
		} else {
			text.WriteString(code(k, x))
		}
	}
	return text.String()
}

// partSize is the length of partText.
func partSize(k int, part []int) int {
	if k == 31 {
		return 5 + 5 + widthOf(part)*len(part)
	}
	size := 5
	for _, x := range part {
		if q := fold(x) >> k; q < 32 {
			size += q + 1 + k
		} else {
			size += 32 + 1 + 32
		}
	}
	return size
}

// rowText returns a row as a text of 0 and 1, in the document's words.
func rowText(p api.Parts, n, warm int, l []int) string {
	var text strings.Builder
	text.WriteString(digits(p.Order, 4))
	for i, size := range sizesOf(p.Order, n, warm) {
		text.WriteString(partText(p.Ks[i], l[:size]))
		l = l[size:]
	}
	return text.String()
}

// readPart reads a part from a text, and returns what it takes of it.
func readPart(text string, size int) (int, []int, int, api.Errno) {
	k, at, err := readDigits(text, 0, 5)
	if err != api.OK {
		return 0, nil, 0, err
	}
	if k > 25 && k != 31 {
		return 0, nil, 0, api.ErrForm
	}
	width := 0
	if k == 31 {
		if width, at, err = readDigits(text, at, 5); err != api.OK {
			return 0, nil, 0, err
		}
	}
	var part []int
	for range size {
		x := 0
		if k == 31 {
			x, at, err = readDigits(text, at, width)
			if width > 0 && x>>(width-1) == 1 {
				x -= 1 << width
			}
		} else {
			x, at, err = readCode(text, at, k)
		}
		if err != api.OK {
			return 0, nil, 0, err
		}
		part = append(part, x)
	}
	if k == 31 && widthOf(part) != width {
		return 0, nil, 0, api.ErrForm
	}
	return k, part, at, api.OK
}

// readDigits reads n digits of a text from at on, and returns where they end.
func readDigits(text string, at, n int) (int, int, api.Errno) {
	if len(text)-at < n {
		return 0, 0, api.ErrShort
	}
	u := 0
	for _, c := range text[at : at+n] {
		u = 2*u + int(c-'0')
	}
	return u, at + n, api.OK
}

// readCode reads a code by k from a text, and returns where it ends.
func readCode(text string, at, k int) (int, int, api.Errno) {
	q := 0
	for ; at < len(text) && text[at] == '0'; at++ {
		if q++; q > 32 {
			return 0, 0, api.ErrForm
		}
	}
	if at == len(text) {
		return 0, 0, api.ErrShort
	}
	size := k
	if q == 32 {
		size = 32
	}
	u, at, err := readDigits(text, at+1, size)
	if err != api.OK {
		return 0, 0, err
	}
	if q < 32 {
		u += q << k
	} else if u >= 1<<31 || u>>k < 32 {
		return 0, 0, api.ErrForm
	}
	if u%2 == 1 {
		return -(u + 1) / 2, at, api.OK
	}
	return u / 2, at, api.OK
}

// readRow reads a row from a text, in the document's words, and returns what it takes of it.
func readRow(text string, n, warm int) (api.Parts, []int, int, api.Errno) {
	order, at, err := readDigits(text, 0, 4)
	if err != api.OK {
		return api.Parts{}, nil, 0, err
	}
	sizes := sizesOf(order, n, warm)
	if len(sizes) == 0 {
		return api.Parts{}, nil, 0, api.ErrForm
	}
	p := api.Parts{Order: order}
	var l []int
	for _, size := range sizes {
		k, part, end, err := readPart(text[at:], size)
		if err != api.OK {
			return api.Parts{}, nil, 0, err
		}
		p.Ks = append(p.Ks, k)
		l = append(l, part...)
		at += end
	}
	return p, l, at, api.OK
}

// noise returns n numbers without a pattern, of at most size bits.
func noise(n, size int, seed uint64) []int {
	l := make([]int, n)
	for i := range l {
		seed = seed*6364136223846793005 + 1442695040888963407
		if size > 0 {
			l[i] = int(int64(seed) >> (64 - size))
		}
	}
	return l
}

// someKs returns n Ks of parts without a pattern.
func someKs(n int, seed uint64) []int {
	ks := noise(n, 20, seed)
	all := allKs()
	for i, x := range ks {
		ks[i] = all[(x+1<<20)%len(all)]
	}
	return ks
}

// times returns count times x.
func times(x, count int) []int {
	return slices.Repeat([]int{x}, count)
}

// join removes the blanks of a text.
func join(text string) string {
	return strings.ReplaceAll(text, " ", "")
}

// pack returns the bytes of a text of 0 and 1, filled up with 0.
func pack(text string) []byte {
	text += strings.Repeat("0", (8-len(text)%8)%8)
	b := make([]byte, 0, len(text)/8)
	for i := 0; i < len(text); i += 8 {
		x, err := strconv.ParseUint(text[i:i+8], 2, 8)
		if err != nil {
			panic(err)
		}
		b = append(b, byte(x))
	}
	return b
}

// ending returns a Reader that has read all but the bits of text, which are the last ones.
func ending(t *testing.T, text string) *bits.Reader {
	t.Helper()
	ahead := (8 - len(text)%8) % 8
	r := bits.New(pack(strings.Repeat("1", ahead) + text))
	r.Get(ahead)
	if r.Left() != len(text) {
		t.Fatalf("%d bits are left, want %d", r.Left(), len(text))
	}
	return r
}

// same reports whether two Parts are equal.
func same(p, q api.Parts) bool {
	return p.Order == q.Order && slices.Equal(p.Ks, q.Ks)
}

// checkHolds compares what w holds with a text of 0 and 1.
func checkHolds(t *testing.T, w *bits.Writer, want string) {
	t.Helper()
	if w.Len() != len(want) || !bytes.Equal(w.Bytes(), pack(want)) {
		t.Errorf("%d bits, %08b; want %d bits, %08b", w.Len(), w.Bytes(), len(want), pack(want))
	}
}

// checkRow puts a row, gets it again, and compares its bits and their number with the document's.
func checkRow(t *testing.T, p api.Parts, n, warm int, l []int) {
	t.Helper()
	text := rowText(p, n, warm, l)
	if got := parts.Cost(p, n, warm, l); got != len(text) {
		t.Errorf("Cost of %v, %d, %d is %d, want %d", p, n, warm, got, len(text))
	}
	var w bits.Writer
	w.Put(5, 3)
	if err := parts.Put(&w, p, n, warm, l); err != api.OK {
		t.Errorf("Put of %v, %d, %d: error %d", p, n, warm, err)
		return
	}
	checkHolds(t, &w, "101"+text)
	r := bits.New(pack("101" + text + "11001"))
	r.Get(3)
	checkGet(t, r, n, warm, p, l)
	if r.At() != 3+len(text) || r.Get(5) != 0b11001 {
		t.Errorf("%d bits are read, want %d", r.At(), 3+len(text)+5)
	}
}

// checkGet reads a row and compares it with what it is to be.
func checkGet(t *testing.T, r *bits.Reader, n, warm int, want api.Parts, wantL []int) {
	t.Helper()
	p, l, err := parts.Get(r, n, warm)
	if err != api.OK || !same(p, want) || !slices.Equal(l, wantL) {
		t.Errorf("Get of %d, %d: %v, %d, error %d; want %v, %d", n, warm, p, l, err, want, wantL)
	}
}

// checkNoRow checks that Get returns an error, and nothing beside it.
func checkNoRow(t *testing.T, r *bits.Reader, n, warm int, want api.Errno) {
	t.Helper()
	p, l, err := parts.Get(r, n, warm)
	if err != want || p.Order != 0 || len(p.Ks) != 0 || len(l) != 0 {
		t.Errorf("Get of %d, %d: %v, %d, error %d; want error %d", n, warm, p, l, err, want)
	}
}

// checkReaders checks that Get meets an error of the reader, which the reader keeps.
func checkReaders(t *testing.T, text string, n, warm int, want api.Errno) {
	t.Helper()
	r := ending(t, text)
	checkNoRow(t, r, n, warm, want)
	at, left := r.At(), r.Left()
	checkNoRow(t, r, n, warm, want)
	checkNoRow(t, r, 1, 0, want)
	if r.Get(1) != 0 || r.Err() != want || r.At() != at || r.Left() != left {
		t.Errorf("%s: the reader has error %d, want %d; At %d, Left %d, before %d, %d", text, r.Err(), want, r.At(), r.Left(), at, left)
	}
}

// checkForm checks that Get returns an ErrForm which is not the reader's, and leaves the reader as it was.
func checkForm(t *testing.T, text string, n, warm int) {
	t.Helper()
	r := ending(t, text)
	at, left := r.At(), r.Left()
	for range 2 {
		checkNoRow(t, r, n, warm, api.ErrForm)
		if r.At() != at || r.Left() != left || r.Err() != api.OK {
			t.Errorf("%s: At %d, Left %d, error %d; before %d, %d, 0", text, r.At(), r.Left(), r.Err(), at, left)
		}
	}
	for i := range text {
		if got := r.Get(1); got != uint64(text[i]-'0') {
			t.Errorf("%s: bit %d is %d", text, i, got)
		}
	}
}

func TestSizesOfKnownRows(t *testing.T) { // P6.1
	for _, x := range []struct {
		order, n, warm int
		want           []int
	}{
		{0, 1, 0, []int{1}},
		{0, 1, 1, []int{0}},
		{0, 7, 3, []int{4}},
		{0, 4096, 0, []int{4096}},
		{0, 4096, 4096, []int{0}},
		{1, 6, 0, []int{3, 3}},
		{1, 6, 2, []int{1, 3}},
		{1, 6, 3, []int{0, 3}},
		{1, 6, 4, nil},
		{1, 7, 0, nil},
		{1, 1, 0, nil},
		{1, 1, 1, nil},
		{2, 2, 0, nil},
		{2, 6, 0, nil},
		{2, 8, 1, []int{1, 2, 2, 2}},
		{2, 8, 2, []int{0, 2, 2, 2}},
		{2, 8, 3, nil},
		{3, 8, 0, []int{1, 1, 1, 1, 1, 1, 1, 1}},
		{3, 8, 1, []int{0, 1, 1, 1, 1, 1, 1, 1}},
		{3, 8, 2, nil},
		{4, 8, 0, nil},
	} {
		if got := parts.Sizes(x.order, x.n, x.warm); !slices.Equal(got, x.want) {
			t.Errorf("Sizes(%d, %d, %d) is %d, want %d", x.order, x.n, x.warm, got, x.want)
		}
	}
}

func TestSizesOfManyParts(t *testing.T) { // P6.1
	for _, x := range []struct{ order, n, warm, parts, first, size int }{
		{8, 4096, 0, 256, 16, 16},
		{8, 4096, 15, 256, 1, 16},
		{8, 4096, 16, 256, 0, 16},
		{8, 256, 0, 256, 1, 1},
		{8, 256, 1, 256, 0, 1},
		{8, 3840, 15, 256, 0, 15},
		{7, 4096, 32, 128, 0, 32},
		{5, 4000, 32, 32, 93, 125},
	} {
		got := parts.Sizes(x.order, x.n, x.warm)
		if len(got) != x.parts || got[0] != x.first || !slices.Equal(got[1:], times(x.size, x.parts-1)) {
			t.Errorf("Sizes(%d, %d, %d) is %d", x.order, x.n, x.warm, got)
		}
	}
	for _, x := range [][3]int{{8, 4096, 17}, {8, 255, 0}, {8, 128, 0}, {8, 4095, 0}, {8, 3840, 16}, {9, 4096, 0}, {12, 4096, 0}, {9, 512, 1}} {
		if got := parts.Sizes(x[0], x[1], x[2]); len(got) != 0 {
			t.Errorf("Sizes of %d is %d", x, got)
		}
	}
}

func TestSizesOfAllRows(t *testing.T) { // P6.1
	for order := -2; order <= 10; order++ {
		for n := -2; n <= 66; n++ {
			for warm := -2; warm <= 68; warm++ {
				if got, want := parts.Sizes(order, n, warm), sizesOf(order, n, warm); !slices.Equal(got, want) {
					t.Errorf("Sizes(%d, %d, %d) is %d, want %d", order, n, warm, got, want)
				}
			}
		}
		for n := 3968; n <= 4100; n += 4 {
			for _, warm := range []int{0, 1, 14, 15, 16, 17, 31, 32, 33, 64, 1024, 1025, n / 2, n - 1, n, n + 1} {
				if got, want := parts.Sizes(order, n, warm), sizesOf(order, n, warm); !slices.Equal(got, want) {
					t.Errorf("Sizes(%d, %d, %d) is %d, want %d", order, n, warm, got, want)
				}
			}
		}
	}
}

func TestSizesOutsideTheRanges(t *testing.T) { // P6.1, R1, R7
	for _, x := range noRows() {
		for _, order := range []int{-1, 0, 1, 2, 8, 9, math.MaxInt} {
			if got := parts.Sizes(order, x[0], x[1]); len(got) != 0 {
				t.Errorf("Sizes(%d, %d, %d) is %d", order, x[0], x[1], got)
			}
		}
	}
	for _, order := range []int{-1, -2, -8, -63, -64, -65, math.MinInt32, math.MinInt + 1, math.MinInt, 9, 10, 12, 31, 32, 62, 63, 64, 65, 256, 1 << 32, 1<<32 + 1, math.MaxInt32, math.MaxInt - 1, math.MaxInt} {
		for _, n := range []int{1, 2, 512, 4096} {
			if got := parts.Sizes(order, n, 0); len(got) != 0 {
				t.Errorf("Sizes(%d, %d, 0) is %d", order, n, got)
			}
			p := api.Parts{Order: order, Ks: []int{0}}
			l := make([]int, n)
			if parts.May(p, n, 0) || parts.Cost(p, n, 0, l) != 0 {
				t.Errorf("Order %d may be", order)
			}
		}
	}
}

func TestSizesAreNew(t *testing.T) { // R2
	first := parts.Sizes(1, 8, 1)
	second := parts.Sizes(1, 8, 1)
	scribble(first)
	_ = append(first, 9)
	if !slices.Equal(second, []int{3, 4}) || !slices.Equal(parts.Sizes(1, 8, 1), second) {
		t.Error("two results share their numbers")
	}
}

func TestMayByTheNumberOfKs(t *testing.T) { // P6.1
	for order := range 9 {
		for _, count := range []int{0, 1, 2, 3, 4, 5, 7, 8, 9, 15, 16, 17, 31, 32, 33, 63, 64, 65, 127, 128, 129, 255, 256, 257, 512} {
			for _, k := range []int{0, 25, 31} {
				p := api.Parts{Order: order, Ks: times(k, count)}
				if got, want := parts.May(p, 4096, 3), count == 1<<order; got != want {
					t.Errorf("May of Order %d, %d Ks is %t", order, count, got)
				}
			}
		}
	}
	for _, x := range noRows() {
		for _, p := range []api.Parts{{}, {Ks: []int{0}}, {Order: 1}, {Order: 1, Ks: []int{0, 31}}} {
			if parts.May(p, x[0], x[1]) {
				t.Errorf("May(%v, %d, %d)", p, x[0], x[1])
			}
		}
	}
	for _, x := range []struct {
		p       api.Parts
		n, warm int
		want    bool
	}{
		{api.Parts{Ks: []int{3}}, 1, 0, true},
		{api.Parts{Ks: []int{3}}, 1, 1, true},
		{api.Parts{Ks: []int{3}}, 4096, 4096, true},
		{api.Parts{}, 1, 1, false},
		{api.Parts{Order: 1, Ks: []int{3, 31}}, 2, 0, true},
		{api.Parts{Order: 1, Ks: []int{3, 31}}, 2, 1, true},
		{api.Parts{Order: 1, Ks: []int{3, 31}}, 2, 2, false},
		{api.Parts{Order: 1, Ks: []int{3, 31}}, 3, 1, false},
		{api.Parts{Order: 1, Ks: []int{3, 31}}, 4, 2, true},
		{api.Parts{Order: 1, Ks: []int{3, 31}}, 4, 3, false},
	} {
		if got := parts.May(x.p, x.n, x.warm); got != x.want {
			t.Errorf("May(%v, %d, %d) is %t", x.p, x.n, x.warm, got)
		}
	}
}

func TestMayByEachK(t *testing.T) { // P6.1, R7
	for _, k := range allKs() {
		if !parts.May(api.Parts{Ks: []int{k}}, 5, 1) || !parts.May(api.Parts{Order: 2, Ks: []int{k, 0, 31, k}}, 8, 1) {
			t.Errorf("K %d may not be", k)
		}
	}
	for _, k := range noKs() {
		for _, ks := range [][]int{{k, 0, 0, 0}, {0, k, 31, 0}, {31, 31, 31, k}, {k, k, k, k}} {
			p := api.Parts{Order: 2, Ks: ks}
			if parts.May(p, 8, 2) {
				t.Errorf("Ks %d may be", ks)
			}
			if got := parts.Cost(p, 8, 2, make([]int, 6)); got != 0 {
				t.Errorf("Cost by Ks %d is %d", ks, got)
			}
		}
	}
}

func TestPutOfKnownRows(t *testing.T) { // P6.2
	for _, x := range []struct {
		p       api.Parts
		n, warm int
		l       []int
		want    string
	}{
		{api.Parts{Ks: []int{0}}, 1, 1, nil, "0000 00000"},
		{api.Parts{Ks: []int{25}}, 9, 9, []int{}, "0000 11001"},
		{api.Parts{Ks: []int{31}}, 3, 3, nil, "0000 11111 00000"},
		{api.Parts{Ks: []int{31}}, 5, 2, []int{0, 0, 0}, "0000 11111 00000"},
		{api.Parts{Ks: []int{31}}, 2, 0, []int{0, -1}, "0000 11111 00001 0 1"},
		{api.Parts{Ks: []int{31}}, 2, 0, []int{0, 1}, "0000 11111 00010 00 01"},
		{api.Parts{Ks: []int{31}}, 3, 0, []int{3, -4, -1}, "0000 11111 00011 011 100 111"},
		{api.Parts{Ks: []int{31}}, 2, 0, []int{-1 << 30, 1<<30 - 1}, "0000 11111 11111 1" + strings.Repeat("0", 30) + "0" + strings.Repeat("1", 30)},
		{api.Parts{Ks: []int{2}}, 2, 0, []int{-3, 0}, "0000 00010 0101 100"},
		{api.Parts{Ks: []int{0}}, 3, 1, []int{16, 0}, "0000 00000 " + escape(32) + "1"},
		{api.Parts{Order: 1, Ks: []int{31, 1}}, 4, 0, []int{0, 0, 1, -2}, "0001 11111 00000 00001 010 011"},
		{api.Parts{Order: 1, Ks: []int{31, 31}}, 4, 0, []int{1, 0, -1, -1}, "0001 11111 00010 01 00 11111 00001 1 1"},
		{api.Parts{Order: 2, Ks: []int{7, 31, 31, 0}}, 4, 1, []int{-1, 0, 1}, "0010 00111 11111 00001 1 11111 00000 00000 001"},
	} {
		want := join(x.want)
		if got := parts.Cost(x.p, x.n, x.warm, x.l); got != len(want) {
			t.Errorf("Cost of %v, %d is %d, want %d", x.p, x.l, got, len(want))
		}
		var w bits.Writer
		if err := parts.Put(&w, x.p, x.n, x.warm, x.l); err != api.OK {
			t.Errorf("error %d", err)
		}
		checkHolds(t, &w, want)
		checkRow(t, x.p, x.n, x.warm, x.l)
	}
}

func TestRowsByEachK(t *testing.T) { // P6.2, P6.3
	for _, k := range allKs() {
		for size := range 32 {
			l := noise(15, size, uint64(k*size))
			checkRow(t, api.Parts{Ks: []int{k}}, 16, 1, l)
			checkRow(t, api.Parts{Order: 1, Ks: []int{k, 31}}, 16, 1, l)
			checkRow(t, api.Parts{Order: 2, Ks: []int{31, k, 3, k}}, 16, 1, l)
			checkRow(t, api.Parts{Order: 4, Ks: times(k, 16)}, 16, 1, l)
		}
	}
}

func TestRowsOfEachOrder(t *testing.T) { // P6.2, P6.3
	for order := range 9 {
		for _, n := range []int{256, 768, 4096} {
			for _, warm := range []int{0, 1, n>>order - 1, n >> order} {
				for size := 0; size < 32; size += 5 {
					seed := uint64(order*n + warm + size)
					checkRow(t, api.Parts{Order: order, Ks: someKs(1<<order, seed)}, n, warm, noise(n-warm, size, seed))
				}
			}
		}
	}
}

func TestRowsOfTheBoundsOfEachWidth(t *testing.T) { // P6.2, P6.3
	for width := 1; width <= 31; width++ {
		low, high := -1<<(width-1), 1<<(width-1)-1
		for _, l := range [][]int{{low}, {low, high}, {high, low}, {0, low, 0}, {low, low, -1}} {
			p := api.Parts{Ks: []int{31}}
			checkRow(t, p, len(l), 0, l)
			if got, want := parts.Cost(p, len(l), 0, l), 4+5+5+width*len(l); got != want {
				t.Errorf("Cost of %d is %d, want %d", l, got, want)
			}
		}
		if width > 1 {
			checkRow(t, api.Parts{Ks: []int{31}}, 3, 1, []int{high, 0})
		}
	}
}

func TestRowsOfTheLongestCodes(t *testing.T) { // P6.2, P6.3, R7
	for _, x := range []int{1<<30 - 1, -1 << 30} {
		l := times(x, 4096)
		for _, k := range []int{0, 24, 25} {
			p := api.Parts{Ks: []int{k}}
			if got := parts.Cost(p, 4096, 0, l); got != 4+5+65*4096 {
				t.Errorf("Cost is %d", got)
			}
			checkRow(t, p, 4096, 0, l)
			checkRow(t, api.Parts{Order: 8, Ks: times(k, 256)}, 4096, 0, l)
		}
	}
}

func TestCostAndPutOfNoRow(t *testing.T) { // P6.2, R5
	type row struct {
		p       api.Parts
		n, warm int
		l       []int
	}
	one, two := api.Parts{Ks: []int{0}}, api.Parts{Order: 1, Ks: []int{31, 0}}
	rows := []row{
		{one, 4, 0, []int{1, 2, 3}},
		{one, 4, 0, []int{1, 2, 3, 4, 5}},
		{one, 4, 1, []int{1, 2, 3, 4}},
		{one, 4, 1, []int{1, 2}},
		{one, 4, 4, []int{1}},
		{one, 4, 0, nil},
		{one, 1, 1, []int{0}},
		{two, 4, 1, []int{1, 2}},
		{two, 4, 1, []int{1, 2, 3, 4}},
		{two, 4, 3, []int{1}},
		{two, 5, 1, []int{1, 2, 3, 4}},
		{api.Parts{}, 4, 0, []int{1, 2, 3, 4}},
		{api.Parts{}, 4, 4, nil},
		{api.Parts{Order: 1, Ks: []int{0}}, 4, 0, []int{1, 2, 3, 4}},
		{api.Parts{Ks: []int{0, 0}}, 4, 0, []int{1, 2, 3, 4}},
		{api.Parts{Order: 9, Ks: times(0, 512)}, 512, 0, make([]int, 512)},
		{api.Parts{Order: -1, Ks: []int{0}}, 1, 0, []int{0}},
	}
	for _, k := range noKs() {
		rows = append(rows, row{api.Parts{Ks: []int{k}}, 2, 1, []int{1}}, row{api.Parts{Ks: []int{k}}, 1, 1, nil}, row{api.Parts{Order: 1, Ks: []int{0, k}}, 2, 0, []int{1, 2}})
	}
	for _, x := range narrow() {
		for _, k := range []int{0, 3, 25, 31} {
			rows = append(rows, row{api.Parts{Ks: []int{k}}, 4, 1, []int{x, 1, 2}}, row{api.Parts{Ks: []int{k}}, 4, 1, []int{1, 2, x}}, row{api.Parts{Order: 1, Ks: []int{31, k}}, 4, 1, []int{1, x, 2}})
		}
	}
	for _, x := range noRows() {
		rows = append(rows, row{one, x[0], x[1], nil}, row{one, x[0], x[1], []int{1}}, row{one, x[0], x[1], make([]int, 4)}, row{two, x[0], x[1], make([]int, 4097)})
	}
	var w bits.Writer
	w.Put(22, 5)
	for _, x := range rows {
		if got := parts.Cost(x.p, x.n, x.warm, x.l); got != 0 {
			t.Errorf("Cost of %v, %d, %d is %d", x.p, x.n, x.warm, got)
		}
		if err := parts.Put(&w, x.p, x.n, x.warm, x.l); err != api.ErrArg {
			t.Errorf("Put of %v, %d, %d: error %d", x.p, x.n, x.warm, err)
		}
		checkHolds(t, &w, "10110")
	}
	// It can still be written behind that.
	if err := parts.Put(&w, two, 4, 1, []int{1, 0, -1}); err != api.OK {
		t.Errorf("error %d", err)
	}
	checkHolds(t, &w, join("10110 0001 11111 00010 01 00000 1 01"))
}

func TestPutOfRowAfterRow(t *testing.T) { // P6.2, P6.3
	var w bits.Writer
	text := ""
	type row struct {
		p       api.Parts
		n, warm int
		l       []int
	}
	var rows []row
	for i := range 40 {
		order := i % 4
		n := (i%5 + 1) << order
		warm := i % (n>>order + 1)
		rows = append(rows, row{api.Parts{Order: order, Ks: someKs(1<<order, uint64(i))}, n, warm, noise(n-warm, i%32, uint64(i))})
	}
	for _, x := range rows {
		text += rowText(x.p, x.n, x.warm, x.l)
		if err := parts.Put(&w, x.p, x.n, x.warm, x.l); err != api.OK {
			t.Errorf("error %d", err)
		}
		checkHolds(t, &w, text)
	}
	r := bits.New(w.Bytes())
	at := 0
	for _, x := range rows {
		checkGet(t, r, x.n, x.warm, x.p, x.l)
		at += parts.Cost(x.p, x.n, x.warm, x.l)
		if r.At() != at {
			t.Errorf("%d bits are read, want %d", r.At(), at)
		}
	}
}

func TestGetOfNoRow(t *testing.T) { // P6.3, R5, R6
	for _, x := range noRows() {
		r := bits.New([]byte{0, 0x40})
		checkNoRow(t, r, x[0], x[1], api.ErrArg)
		if r.At() != 0 || r.Err() != api.OK {
			t.Errorf("At %d, error %d", r.At(), r.Err())
		}
		checkGet(t, r, 1, 0, api.Parts{Ks: []int{0}}, []int{0})
		checkNoRow(t, bits.New(nil), x[0], x[1], api.ErrArg)
		r.Get(65)
		checkNoRow(t, r, x[0], x[1], api.ErrArg)
	}
}

func TestGetFromAReaderWithAnError(t *testing.T) { // P6.3, R6, R9
	for _, x := range []struct {
		text string
		fail func(r *bits.Reader)
		want api.Errno
	}{
		{"0000 00000 1 110 111", func(r *bits.Reader) { r.Get(65) }, api.ErrArg},
		{"0000 00000 1 110 111", func(r *bits.Reader) { r.Get(-1) }, api.ErrArg},
		{"0000 00000 1 110 111", func(r *bits.Reader) { r.Get(17) }, api.ErrShort},
		{"0000 00000 1 110 111", func(r *bits.Reader) { r.Unary(3) }, api.ErrForm},
		{"1111 00000 1 110 111", func(r *bits.Reader) { r.Get(9); r.Align() }, api.ErrForm},
		{"", func(r *bits.Reader) { r.Get(1) }, api.ErrShort},
	} {
		r := bits.New(pack(join(x.text)))
		x.fail(r)
		at := r.At()
		for _, row := range [][2]int{{1, 0}, {1, 1}, {4096, 5}} {
			checkNoRow(t, r, row[0], row[1], x.want)
		}
		checkNoRow(t, r, 4097, 5, api.ErrArg)
		if r.At() != at || r.Err() != x.want {
			t.Errorf("At %d, error %d; before %d, %d", r.At(), r.Err(), at, x.want)
		}
	}
}

func TestGetOfRowsCutAtEachBit(t *testing.T) { // P6.3, R9
	for _, x := range []struct {
		p       api.Parts
		n, warm int
		l       []int
	}{
		{api.Parts{Ks: []int{3}}, 1, 1, nil},
		{api.Parts{Ks: []int{31}}, 1, 1, nil},
		{api.Parts{Ks: []int{31}}, 4, 1, []int{0, 0, 0}},
		{api.Parts{Ks: []int{31}}, 4, 1, []int{-9, 100, 0}},
		{api.Parts{Ks: []int{4}}, 4, 1, []int{-9, 100, 0}},
		{api.Parts{Ks: []int{0}}, 3, 1, []int{0, 16}},
		{api.Parts{Order: 2, Ks: []int{0, 31, 5, 31}}, 8, 2, []int{1, -1, 3, 1 << 20, -1 << 20, 0}},
		{api.Parts{Order: 2, Ks: []int{31, 31, 31, 25}}, 8, 1, []int{1<<30 - 1, 1, -1, 0, 0, -1 << 30, 1 << 29}},
		{api.Parts{Order: 3, Ks: times(31, 8)}, 8, 1, make([]int, 7)},
	} {
		text := rowText(x.p, x.n, x.warm, x.l)
		for size := range len(text) {
			checkReaders(t, text[:size], x.n, x.warm, api.ErrShort)
		}
		r := ending(t, text)
		checkGet(t, r, x.n, x.warm, x.p, x.l)
		if r.Left() != 0 || r.Err() != api.OK {
			t.Errorf("%d bits are left, error %d", r.Left(), r.Err())
		}
	}
}

func TestGetOfOrdersWithoutParts(t *testing.T) { // P6.3, R5
	for order := range 16 {
		for _, x := range [][2]int{{1, 0}, {1, 1}, {2, 1}, {2, 2}, {6, 3}, {6, 4}, {8, 0}, {8, 2}, {256, 1}, {256, 2}, {512, 0}, {4095, 0}, {4096, 0}, {4096, 16}, {4096, 17}, {4096, 4096}} {
			n, warm := x[0], x[1]
			if len(sizesOf(order, n, warm)) > 0 {
				checkReaders(t, digits(order, 4), n, warm, api.ErrShort)
				continue
			}
			for _, rest := range []string{"", "0", "00000", "11111", "1101011010", strings.Repeat("10", 300)} {
				checkForm(t, digits(order, 4)+rest, n, warm)
			}
		}
	}
}

func TestGetOfNoKs(t *testing.T) { // P6.3, R5, R6
	for k := 26; k <= 30; k++ {
		for _, rest := range []string{"", "1", "11111", strings.Repeat("1", 90), strings.Repeat("0", 90)} {
			checkForm(t, "0000"+digits(k, 5)+rest, 4, 1)
			checkForm(t, "0000"+digits(k, 5)+rest, 4, 4)
			checkForm(t, join("0001 00000")+digits(k, 5)+rest, 4, 2)
			checkForm(t, join("0001 11111 00000")+digits(k, 5)+rest, 4, 2)
			checkForm(t, join("0001 00000 1 01")+digits(k, 5)+rest, 4, 0)
			checkForm(t, join("0001 11111 00010 01 10")+digits(k, 5)+rest, 4, 0)
		}
		// Bits that are missing ahead of it come first.
		for size := range 5 {
			checkReaders(t, "0000"+digits(k, 5)[:size], 4, 1, api.ErrShort)
			checkReaders(t, join("0001 00000 1 01")+digits(k, 5)[:size], 4, 0, api.ErrShort)
		}
	}
}

func TestGetOfEscapes(t *testing.T) { // P6.3, R5, R9
	for k := range 26 {
		head := "0000" + digits(k, 5)
		bound := 32 << k
		good, wrong, long := escape(bound), escape(bound-1), escape(1<<31)
		if k == 25 {
			// Its quotient is 32 from 2^30 on.
			good = escape(1 << 30)
		}
		want := []int{bound / 2, 0}
		checkGet(t, ending(t, head+good+code(k, 0)), 3, 1, api.Parts{Ks: []int{k}}, want)
		for _, text := range []string{wrong, long, escape(0), escape(1<<32 - 1), escape(31)} {
			for _, rest := range []string{"", code(k, 0), strings.Repeat("0", 40)} {
				checkForm(t, head+text+rest, 3, 1)
				checkForm(t, head+good+text+rest, 3, 1)
				checkForm(t, join("0001 11111 00001 1")+digits(k, 5)+text+rest, 4, 1)
			}
			// What lies behind the row is not read.
			checkGet(t, ending(t, head+good+code(k, 0)+text), 3, 1, api.Parts{Ks: []int{k}}, want)
			checkReaders(t, head+text[:60], 3, 1, api.ErrShort)
		}
		// A bit 0 more is an error of the reader.
		checkReaders(t, head+strings.Repeat("0", 33), 3, 1, api.ErrForm)
		checkReaders(t, head+good+strings.Repeat("0", 33)+"1", 3, 1, api.ErrForm)
		checkReaders(t, head+strings.Repeat("0", 32), 3, 1, api.ErrShort)
	}
}

func TestGetOfOtherWidths(t *testing.T) { // P6.3, R5, R6
	for _, x := range []struct {
		text    string
		n, warm int
	}{
		{"0000 11111 00001", 1, 1},
		{"0000 11111 11111", 1, 1},
		{"0000 11111 00001 0", 1, 0},
		{"0000 11111 00010 00", 1, 0},
		{"0000 11111 00010 11", 1, 0},
		{"0000 11111 00011 001", 1, 0},
		{"0000 11111 00011 110", 1, 0},
		{"0000 11111 00011 001 110", 2, 0},
		{"0000 11111 00011 001 110 000 011", 3, 0},
		{"0000 11111 11111 " + strings.Repeat("0", 31), 1, 0},
		{"0000 11111 11111 " + strings.Repeat("1", 31), 1, 0},
		{"0001 11111 00001 11111 00000", 2, 1},
		{"0001 00000 11111 00001 0", 2, 1},
		{"0001 11111 00010 01 11111 00010 11", 2, 0},
		{"0001 11111 00010 11 11111 00010 01", 2, 0},
		{"0001 11111 00010 11 11110", 2, 0},
		{"0001 11111 00010 11", 2, 0},
	} {
		for _, rest := range []string{"", "1", "0000000", strings.Repeat("1", 70)} {
			checkForm(t, join(x.text)+rest, x.n, x.warm)
		}
	}
	// Whether it is another Width is known only behind all residuals of the part.
	for _, text := range []string{"0000 11111 00011 001 00", "0000 11111 00011 001", "0000 11111 00011 00", "0000 11111 11111", "0000 11111 0001"} {
		checkReaders(t, join(text), 2, 0, api.ErrShort)
	}
	// A Width that is too small for what was meant is that of what it makes of it.
	checkGet(t, ending(t, join("0000 11111 00011 011 1 10 00")), 2, 0, api.Parts{Ks: []int{31}}, []int{3, -2})
	checkGet(t, ending(t, join("0000 11111 00000 111")), 2, 0, api.Parts{Ks: []int{31}}, []int{0, 0})
	checkForm(t, join("0000 11111 00011 001 000 00"), 2, 0)
}

func TestGetOfEachWidth(t *testing.T) { // P6.3
	for width := range 32 {
		for size := range width + 1 {
			l := noise(6, size, uint64(width))
			if size > 0 {
				l[4] = -1 << (size - 1)
			}
			text := "0000" + digits(31, 5) + digits(width, 5)
			for _, x := range l {
				text += digits(x, width)
			}
			if size != width {
				checkForm(t, text+"01", 7, 1)
				continue
			}
			r := ending(t, text+"01")
			checkGet(t, r, 7, 1, api.Parts{Ks: []int{31}}, l)
			if r.Left() != 2 {
				t.Errorf("%d bits are left", r.Left())
			}
		}
	}
}

// checkText compares Get with what the document makes of a text.
func checkText(t *testing.T, text string, n, warm int) {
	t.Helper()
	p, l, size, err := readRow(text, n, warm)
	r := ending(t, text)
	if err != api.OK {
		checkNoRow(t, r, n, warm, err)
		return
	}
	at := r.At()
	checkGet(t, r, n, warm, p, l)
	if r.At() != at+size || r.Err() != api.OK || rowText(p, n, warm, l) != text[:size] {
		t.Errorf("%s: %d bits are read, want %d", text, r.At()-at, size)
	}
}

func TestGetOfAllTexts(t *testing.T) { // P6.3
	for v := range 1 << 13 {
		text := digits(v, 13)
		for _, x := range [][2]int{{1, 0}, {1, 1}, {2, 0}, {2, 1}, {3, 0}} {
			checkText(t, "0000"+text, x[0], x[1])
			checkText(t, "000011111"+text, x[0], x[1])
		}
		for _, x := range [][2]int{{2, 0}, {2, 1}, {4, 2}} {
			checkText(t, "0001"+text+"0110"+text, x[0], x[1])
			checkText(t, "000111111"+text+text+text, x[0], x[1])
		}
		checkText(t, text, 8, 1)
		checkText(t, text+text+text+text+text+text+text+text, 8, 0)
	}
}

func TestGetOfChangedRows(t *testing.T) { // P6.3
	p, l := api.Parts{Order: 2, Ks: []int{1, 31, 0, 31}}, []int{1, -3, 7, -8, 16, 0, -1}
	text := []byte(rowText(p, 8, 1, l))
	for i := range text {
		text[i] ^= 1
		for j := i; j < len(text); j++ {
			if j > i {
				text[j] ^= 1
			}
			checkText(t, string(text), 8, 1)
			checkText(t, string(text)+"0110011", 8, 1)
			if j > i {
				text[j] ^= 1
			}
		}
		text[i] ^= 1
	}
	checkText(t, string(text), 8, 1)
}

// bestOf tries all Ks of all Orders up to most, in the document's words, and returns the cost too.
func bestOf(n, warm, most int, l []int) (api.Parts, int) {
	var best api.Parts
	least := math.MaxInt
	for order := 0; order == 0 || order <= min(most, 8); order++ {
		p, cost := bestOfOrder(order, n, warm, l)
		if cost < least {
			best, least = p, cost
		}
	}
	return best, least
}

// bestOfOrder tries all Ks of the parts of one Order; it costs more than any if there are no such parts.
func bestOfOrder(order, n, warm int, l []int) (api.Parts, int) {
	p, sum := api.Parts{Order: order}, 4
	for _, size := range sizesOf(order, n, warm) {
		k, cost := bestPart(l[:size])
		p.Ks = append(p.Ks, k)
		sum += cost
		l = l[size:]
	}
	if len(p.Ks) == 0 {
		return p, math.MaxInt
	}
	return p, sum
}

// bestPart returns the K that a part gets, and the bits that it takes by it.
func bestPart(part []int) (int, int) {
	best, least := 0, math.MaxInt
	for k := range 26 {
		if cost := partSize(k, part); cost < least {
			best, least = k, cost
		}
	}
	if cost := partSize(31, part); cost < least {
		return 31, cost
	}
	return best, least
}

// checkBest compares Best with the document's, and that what it returns can be put.
func checkBest(t *testing.T, n, warm, most int, l []int) {
	t.Helper()
	want, cost := bestOf(n, warm, most, l)
	if size := len(rowText(want, n, warm, l)); size != cost {
		t.Errorf("%v takes %d bits, not %d", want, size, cost)
	}
	got, err := parts.Best(n, warm, most, l)
	if err != api.OK || !same(got, want) {
		t.Errorf("Best(%d, %d, %d, %d) is %v, error %d; want %v", n, warm, most, l, got, err, want)
		return
	}
	if c := parts.Cost(got, n, warm, l); c != cost || !parts.May(got, n, warm) {
		t.Errorf("Cost of %v is %d, want %d", got, c, cost)
	}
}

func TestBestOfKnownRows(t *testing.T) { // P6.4, R8
	for _, x := range []struct {
		n, warm, most int
		l             []int
		want          api.Parts
	}{
		{1, 1, 8, nil, api.Parts{Ks: []int{0}}},
		{4096, 4096, 8, []int{}, api.Parts{Ks: []int{0}}},
		{2, 1, 8, []int{0}, api.Parts{Ks: []int{0}}},
		{1, 0, 8, []int{-1}, api.Parts{Ks: []int{0}}},         // 2 bits by 0 and by 1
		{1, 0, 8, []int{-2}, api.Parts{Ks: []int{1}}},         // 4 bits by 0, 3 by 1 and 2
		{1, 0, 0, []int{100}, api.Parts{Ks: []int{7}}},        // 9 bits by 7 and 8, 13 as it is
		{5, 0, 8, times(0, 5), api.Parts{Ks: []int{0}}},       // 5 bits by 0 and by RawK
		{6, 0, 8, times(0, 6), api.Parts{Ks: []int{31}}},      // 6 bits by 0, 5 by RawK
		{5, 0, 8, times(-1, 5), api.Parts{Ks: []int{0}}},      // 10 bits by 0, 1 and RawK
		{6, 0, 0, times(-1, 6), api.Parts{Ks: []int{31}}},     // 12 bits by 0, 11 by RawK
		{1, 0, 8, []int{-1 << 29}, api.Parts{Ks: []int{31}}},  // 57 bits by 25, 35 by RawK
		{2, 0, 0, []int{0, 24}, api.Parts{Ks: []int{4}}},      // 13 bits by 4
		{2, 0, 1, []int{0, 24}, api.Parts{Ks: []int{4}}},      // 22 bits by Order 0 and 1
		{10, 0, 1, halves(-3, 0, 5), api.Parts{Ks: []int{1}}}, // 39 bits by Order 0 and 1
		{12, 0, 1, halves(100, -1, 6), parted(31, 31)},        // 110 bits by Order 0, 78 by 1
		{8, 0, 8, halves(0, 1000, 4), parted(0, 10)},          // 101 bits by Order 0, 66 by 1
		{8, 0, 0, halves(0, 1000, 4), api.Parts{Ks: []int{9}}},
		{8, 4, 8, times(1000, 4), api.Parts{Ks: []int{10}}},                   // 57 bits by Order 0, 62 by 1
		{9, 0, 8, append(halves(0, 1000, 4), 1000), api.Parts{Ks: []int{10}}}, // there is no other Order
	} {
		if got, err := parts.Best(x.n, x.warm, x.most, x.l); err != api.OK || !same(got, x.want) {
			t.Errorf("Best(%d, %d, %d, %d) is %v, error %d; want %v", x.n, x.warm, x.most, x.l, got, err, x.want)
		}
		checkBest(t, x.n, x.warm, x.most, x.l)
	}
}

func TestBestOfNoRow(t *testing.T) { // P6.4, R4, R7
	check := func(n, warm int, l []int) {
		t.Helper()
		for _, most := range []int{-1, 0, 3, 8, 9} {
			if p, err := parts.Best(n, warm, most, l); err != api.ErrArg || p.Order != 0 || len(p.Ks) != 0 {
				t.Errorf("Best(%d, %d, %d) of %d numbers is %v, error %d", n, warm, most, len(l), p, err)
			}
		}
	}
	for _, x := range noRows() {
		for _, size := range []int{0, 1, 3, 4, 4096, 4097} {
			check(x[0], x[1], make([]int, size))
		}
	}
	for _, x := range [][3]int{{4, 0, 3}, {4, 0, 5}, {4, 0, 0}, {4, 1, 4}, {4, 1, 2}, {4, 4, 1}, {1, 1, 1}, {1, 0, 0}, {4096, 0, 4095}, {4096, 0, 4097}, {4096, 4096, 4096}} {
		check(x[0], x[1], make([]int, x[2]))
	}
	for _, x := range narrow() {
		check(4, 0, []int{x, 0, 0, 0})
		check(4, 0, []int{0, 0, 0, x})
		check(4, 1, []int{5, x, 0})
		check(1, 0, []int{x})
	}
	for _, x := range []int{1<<30 - 1, -1 << 30} {
		checkBest(t, 4, 1, 8, []int{0, x, 0})
	}
}

func TestBestByMost(t *testing.T) { // P6.4, R7
	var l []int
	for i := range 256 {
		// Zeros, and then what takes many bits, so that each part is unlike the next one.
		l = append(l, noise(16, i%2*20, uint64(i))...)
	}
	for most, want := range map[int]int{-1: 0, -2: 0, math.MinInt: 0, 0: 0, 8: 8, 9: 8, 10: 8, 63: 8, 64: 8, 1 << 32: 8, math.MaxInt: 8} {
		if p, err := parts.Best(4096, 0, most, l); err != api.OK || p.Order != want || len(p.Ks) != 1<<want {
			t.Errorf("most %d: Order %d, error %d; want %d", most, p.Order, err, want)
		}
	}
	for _, most := range []int{-1, 0, 1, 4, 7, 8, 9} {
		checkBest(t, 4096, 0, most, l)
		checkBest(t, 4096, 10, most, l[10:])
		checkBest(t, 4096, 16, most, l[16:])
		checkBest(t, 4096, 17, most, l[17:])
		checkBest(t, 2048, 0, most, l[1024:3072])
		checkBest(t, 4080, 0, most, l[16:])
		checkBest(t, 4095, 0, most, l[1:])
	}
	// From Order 4 on a part has fewer samples than warm.
	if p, err := parts.Best(4096, 300, 8, l[300:]); err != api.OK || p.Order > 3 {
		t.Errorf("Order %d, error %d", p.Order, err)
	}
}

func TestBestTakesTheFirstOfTheSmallest(t *testing.T) { // P6.4, R8
	ks, orders := 0, 0
	for a := -20; a <= 40; a++ {
		for b := -20; b <= 40; b++ {
			for _, size := range []int{1, 2, 5, 6} {
				l := halves(a, b, size)
				checkBest(t, len(l), 0, 3, l)
				p, cost := bestOf(len(l), 0, 3, l)
				for order := p.Order + 1; order <= 3; order++ {
					if _, c := bestOfOrder(order, len(l), 0, l); c == cost {
						orders++
					}
				}
			}
		}
		for size := range 12 {
			l := times(a, size)
			checkBest(t, size+1, 1, 0, l)
			if k, cost := bestPart(l); k != 31 && partSize(31, l) == cost {
				ks++
			}
		}
	}
	if ks < 20 || orders < 20 {
		t.Errorf("RawK cost as much in %d rows, a greater Order in %d", ks, orders)
	}
}

func TestBestOfRowsWithoutAPattern(t *testing.T) { // P6.4
	for i := range 400 {
		n := []int{1, 2, 3, 4, 6, 8, 12, 16, 24, 30, 32, 48, 64, 96}[i%14]
		warm := []int{0, 1, 2, 3, 0}[i%5] % (n + 1)
		seed := uint64(i)
		checkBest(t, n, warm, i%10-1, noise(n-warm, i%32, seed))
		l := append(noise(n, i%32, seed), noise(n, i%7, seed+1)...)
		l = append(l, append(make([]int, n), noise(n, i%13, seed+2)...)...)
		checkBest(t, 4*n, warm, i%10-1, l[warm:])
	}
}

func TestBestIsPut(t *testing.T) { // P6.2, P6.3, P6.4
	for i := range 200 {
		order := i % 5
		n := (i%7 + 1) << order
		warm := i % (n>>order + 1)
		l := append(noise(n/2, i%32, uint64(i)), noise(n-n/2, i/7, uint64(i+1))...)[warm:]
		p, err := parts.Best(n, warm, 8, l)
		if err != api.OK {
			t.Fatalf("error %d", err)
		}
		checkRow(t, p, n, warm, l)
		other := api.Parts{Order: order, Ks: someKs(1<<order, uint64(i))}
		if cost := parts.Cost(other, n, warm, l); cost < parts.Cost(p, n, warm, l) {
			t.Errorf("%v costs %d, the best costs more: %v", other, cost, p)
		}
	}
}

func TestArgumentsStay(t *testing.T) { // R2, R3
	array := []int{9, 1, 0, -40, 1 << 20, 7, 8, -9, math.MaxInt}
	before := slices.Clone(array)
	l := array[1:7]
	ks := []int{99, 4, 31, 2, 0, 77}
	ksBefore := slices.Clone(ks)
	p := api.Parts{Order: 2, Ks: ks[1:5]}
	want := rowText(p, 8, 2, l)
	var w bits.Writer
	for range 2 {
		if !parts.May(p, 8, 2) || parts.Cost(p, 8, 2, l) != len(want) {
			t.Errorf("Cost is %d", parts.Cost(p, 8, 2, l))
		}
		w = bits.Writer{}
		if err := parts.Put(&w, p, 8, 2, l); err != api.OK {
			t.Errorf("error %d", err)
		}
		checkHolds(t, &w, want)
		checkBest(t, 8, 2, 8, l)
	}
	if err := parts.Put(&w, p, 8, 2, array[3:9]); err != api.ErrArg {
		t.Errorf("error %d", err)
	}
	if !slices.Equal(array, before) || !slices.Equal(ks, ksBefore) {
		t.Error("an argument, or what lies beside it, was changed")
	}
	scribble(l)
	scribble(p.Ks)
	checkHolds(t, &w, want)
}

func TestResultsAreNew(t *testing.T) { // R2
	p, l := parted(31, 2), []int{1, -2, 3, 0, 5}
	b := pack(rowText(p, 6, 1, l) + rowText(p, 6, 1, l))
	r := bits.New(b)
	q, m, _ := parts.Get(r, 6, 1)
	scribble(q.Ks)
	scribble(m)
	_, _ = append(q.Ks, 1), append(m, 2)
	checkGet(t, r, 6, 1, p, l)
	first, _ := parts.Best(8, 0, 8, halves(0, 1000, 4))
	second, _ := parts.Best(8, 0, 8, halves(0, 1000, 4))
	scribble(first.Ks)
	_ = append(first.Ks, 1)
	if !same(second, parted(0, 10)) {
		t.Error("two results share their Ks")
	}
}

// halves returns size times a and size times b.
func halves(a, b, size int) []int {
	return append(times(a, size), times(b, size)...)
}

// parted returns two parts.
func parted(k, m int) api.Parts {
	return api.Parts{Order: 1, Ks: []int{k, m}}
}

// scribble writes into l and into its spare capacity.
func scribble(l []int) {
	l = l[:cap(l)]
	for i := range l {
		l[i] ^= 0x5a
	}
}
