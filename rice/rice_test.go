package rice_test

import (
	"bytes"
	"fmt"
	"math"
	"slices"
	"strconv"
	"strings"
	"testing"

	"kinora/api"
	"kinora/bits"
	"kinora/rice"
)

// noParameters returns numbers by which there are no codes.
func noParameters() []int {
	return []int{-1, -2, -25, -64, math.MinInt32, math.MinInt + 1, math.MinInt, 26, 27, 31, 32, 63, 64, 65, 256, 1<<32 + 3, math.MaxInt32, math.MaxInt - 1, math.MaxInt}
}

// narrow returns numbers that are not wide.
func narrow() []int {
	return []int{1 << 30, 1<<30 + 1, 1<<31 - 1, 1 << 31, 1 << 32, 1<<32 + 1, 1 << 62, math.MaxInt - 1, math.MaxInt, -1<<30 - 1, -1<<30 - 2, -1 << 31, -1 << 32, -1<<32 - 1, -1 << 62, math.MinInt + 1, math.MinInt}
}

// fold is Fold of a wide number in the document's words.
func fold(x int) int {
	if x < 0 {
		return -2*x - 1
	}
	return 2 * x
}

// unfold is the number from which fold makes u.
func unfold(u int) int {
	x := u / 2
	if fold(x) != u {
		x = -x - 1
	}
	return x
}

// power is 2 to the power k.
func power(k int) int {
	p := 1
	for range k {
		p *= 2
	}
	return p
}

// digits returns u as n binary digits.
func digits(u, n int) string {
	if n == 0 {
		return ""
	}
	return fmt.Sprintf("%0*b", n, u)
}

// code returns the code of a residual by k as a text of 0 and 1.
func code(k, x int) string {
	u := fold(x)
	q, low := u/power(k), u%power(k)
	if q < 32 {
		return strings.Repeat("0", q) + "1" + digits(low, k)
	}
	return escape(u)
}

// codes returns the codes of a row.
func codes(k int, l []int) string {
	text := ""
	for _, x := range l {
		text += code(k, x)
	}
	return text
}

// escape returns the escape and u behind it.
func escape(u int) string {
	return strings.Repeat("0", 32) + "1" + digits(u, 32)
}

// edges returns residuals at the bounds of the codes by k: quotients of 0, 1 and around the escape, and the bounds of
// wide numbers.
func edges(k int) []int {
	l := []int{0, -1, 1, 1<<30 - 1, -1 << 30}
	for _, q := range []int{1, 2, 15, 31, 32, 33} {
		for _, u := range []int{q*power(k) - 1, q * power(k), q*power(k) + 1} {
			l = append(l, unfold(u))
		}
	}
	return l
}

// noise returns n numbers without a pattern, of at most size bits.
func noise(n, size int, seed uint64) []int {
	l := make([]int, n)
	for i := range l {
		seed = seed*6364136223846793005 + 1442695040888963407
		l[i] = int(int64(seed) >> (64 - size))
	}
	return l
}

// pack returns the bytes of a text of 0 and 1, filled up with 0.
func pack(text string) []byte {
	text += strings.Repeat("0", (8-len(text)%8)%8)
	b := make([]byte, 0, len(text)/8)
	for i := 0; i < len(text); i += 8 {
		x, err := strconv.ParseUint(text[i:i+8], 2, 8)
		if err != nil {
			panic(err)
		}
		b = append(b, byte(x))
	}
	return b
}

// ending returns a Reader that has read all but the bits of text, which are the last ones.
func ending(t *testing.T, text string) *bits.Reader {
	t.Helper()
	ahead := (8 - len(text)%8) % 8
	r := bits.New(pack(strings.Repeat("1", ahead) + text))
	r.Get(ahead)
	if r.Left() != len(text) {
		t.Fatalf("%d bits are left, want %d", r.Left(), len(text))
	}
	return r
}

// checkHolds compares what w holds with a text of 0 and 1.
func checkHolds(t *testing.T, w *bits.Writer, want string) {
	t.Helper()
	if w.Len() != len(want) || !bytes.Equal(w.Bytes(), pack(want)) {
		t.Errorf("%d bits, %08b; want %d bits, %08b", w.Len(), w.Bytes(), len(want), pack(want))
	}
}

// checkGet reads n residuals and compares them, and an error, with what they are to be.
func checkGet(t *testing.T, r *bits.Reader, k, n int, want []int, wantErr api.Errno) {
	t.Helper()
	got, err := rice.Get(r, k, n)
	if err != wantErr || !slices.Equal(got, want) {
		t.Errorf("Get of %d by %d: %d, error %d; want %d, error %d", n, k, got, err, want, wantErr)
	}
}

func TestFoldCountsFrom0(t *testing.T) { // P5.1
	x := 0
	for u := range 5000 {
		if got := rice.Fold(x); got != uint64(u) {
			t.Errorf("Fold(%d) is %d, want %d", x, got, u)
		}
		if got := rice.Unfold(uint64(u)); got != x {
			t.Errorf("Unfold(%d) is %d, want %d", u, got, x)
		}
		// 0, -1, 1, -2, 2, ..
		x = -x
		if u%2 == 0 {
			x--
		}
	}
}

func TestFoldAndUnfoldAtTheBounds(t *testing.T) { // P5.1
	for _, x := range []struct {
		x int
		u uint64
	}{
		{0, 0},
		{-1, 1},
		{1, 2},
		{1<<29 - 1, 1<<30 - 2},
		{-1 << 29, 1<<30 - 1},
		{1 << 29, 1 << 30},
		{1<<30 - 2, 1<<31 - 4},
		{-1<<30 + 1, 1<<31 - 3},
		{api.MaxWide - 1, 2*api.MaxWide - 2},
		{-api.MaxWide, 2*api.MaxWide - 1},
	} {
		if got := rice.Fold(x.x); got != x.u {
			t.Errorf("Fold(%d) is %d, want %d", x.x, got, x.u)
		}
		if got := rice.Unfold(x.u); got != x.x {
			t.Errorf("Unfold(%d) is %d, want %d", x.u, got, x.x)
		}
	}
}

func TestFoldOfNumbersThatAreNotWide(t *testing.T) { // P5.1, R7
	for _, x := range narrow() {
		if got := rice.Fold(x); got != 0 {
			t.Errorf("Fold(%d) is %d", x, got)
		}
	}
}

func TestUnfoldOfNumbersThatFoldDoesNotMake(t *testing.T) { // P5.1, R7
	for _, u := range []uint64{1 << 31, 1<<31 + 1, 1<<31 + 2, 1<<32 - 1, 1 << 32, 1<<32 + 1, 1<<32 + 2, 1 << 33, 1<<63 - 1, 1 << 63, 1<<63 + 1, math.MaxUint64 - 1, math.MaxUint64} {
		if got := rice.Unfold(u); got != 0 {
			t.Errorf("Unfold(%d) is %d", u, got)
		}
	}
}

func TestUnfoldIsTheInverse(t *testing.T) { // P5.1
	for size := 1; size <= 31; size++ {
		for _, x := range noise(500, size, uint64(size)) {
			u := rice.Fold(x)
			if u != uint64(fold(x)) || rice.Unfold(u) != x {
				t.Errorf("Fold(%d) is %d, of which Unfold makes %d", x, u, rice.Unfold(u))
			}
		}
	}
}

func TestCostOfKnownCodes(t *testing.T) { // P5.2
	for _, x := range []struct{ k, x, want int }{
		{2, -3, 4}, // 01 01
		{2, 0, 3},  // 1 00
		{2, 5, 5},
		{0, 0, 1},
		{0, -1, 2},
		{0, 1, 3},
		{0, 15, 31},
		{0, -16, 32},
		{0, 16, 65},
		{0, -17, 65},
		{0, 1<<30 - 1, 65},
		{1, 31, 33},
		{1, -32, 33},
		{1, 32, 65},
		{24, -1 << 28, 24 + 32},
		{24, 1 << 28, 65},
		{25, 0, 26},
		{25, 1<<24 - 1, 26},
		{25, 1 << 24, 27},
		{25, 1<<29 - 1, 25 + 32},
		{25, -1 << 29, 25 + 32},
		{25, 1 << 29, 65},
		{25, 1<<30 - 1, 65},
		{25, -1 << 30, 65},
	} {
		if got := rice.Cost(x.k, x.x); got != x.want {
			t.Errorf("Cost(%d, %d) is %d, want %d", x.k, x.x, got, x.want)
		}
	}
}

func TestCostAroundTheEscapeOfEachParameter(t *testing.T) { // P5.1, P5.2
	for k := range api.MaxK + 1 {
		bound := api.Quot * power(k)
		for _, x := range []struct{ u, want int }{
			{0, k + 1},
			{power(k) - 1, k + 1},
			{power(k), k + 2},
			{bound - power(k) - 1, k + 31},
			{bound - power(k), k + 32},
			{bound - 1, k + 32},
			{bound, 65},
			{bound + power(k) - 1, 65},
			{bound + power(k), 65},
			{2*api.MaxWide - 2, 65},
			{2*api.MaxWide - 1, 65},
		} {
			if got := rice.Cost(k, unfold(x.u)); got != x.want {
				t.Errorf("Cost(%d, %d) is %d, want %d", k, unfold(x.u), got, x.want)
			}
		}
	}
}

func TestCostIsTheLengthOfTheCode(t *testing.T) { // P5.2
	for k := range api.MaxK + 1 {
		for size := 1; size <= 31; size++ {
			for _, x := range append(noise(20, size, uint64(k)), edges(k)...) {
				if got, want := rice.Cost(k, x), len(code(k, x)); got != want {
					t.Errorf("Cost(%d, %d) is %d, want %d", k, x, got, want)
				}
			}
		}
	}
}

func TestCostAndSumByNoParameter(t *testing.T) { // P5.2, R1, R7
	for _, k := range noParameters() {
		for _, x := range append(narrow(), 0, 1, -1, 1<<30-1, -1<<30) {
			if got := rice.Cost(k, x); got != 0 {
				t.Errorf("Cost(%d, %d) is %d", k, x, got)
			}
			if got := rice.Sum(k, []int{x, 0, x, 3}); got != 0 {
				t.Errorf("Sum(%d) of %d is %d", k, x, got)
			}
		}
		if got := rice.Sum(k, nil); got != 0 {
			t.Errorf("Sum(%d) of nothing is %d", k, got)
		}
	}
}

func TestCostAndSumOfNumbersThatAreNotWide(t *testing.T) { // P5.2, R1, R7
	for k := range api.MaxK + 1 {
		for _, x := range narrow() {
			if got := rice.Cost(k, x); got != 0 {
				t.Errorf("Cost(%d, %d) is %d", k, x, got)
			}
			if got, want := rice.Sum(k, []int{-5, x, 7}), len(codes(k, []int{-5, 7})); got != want {
				t.Errorf("Sum(%d) beside %d is %d, want %d", k, x, got, want)
			}
		}
		if got := rice.Sum(k, narrow()); got != 0 {
			t.Errorf("Sum(%d) is %d", k, got)
		}
	}
}

func TestSumIsTheSumOfTheCosts(t *testing.T) { // P5.2
	for k := range api.MaxK + 1 {
		if rice.Sum(k, nil) != 0 || rice.Sum(k, []int{}) != 0 {
			t.Errorf("Sum(%d) of nothing", k)
		}
		for size := 1; size <= 31; size++ {
			l := append(noise(40, size, uint64(k+size)), edges(k)...)
			if got, want := rice.Sum(k, l), len(codes(k, l)); got != want {
				t.Errorf("Sum(%d) of %d is %d, want %d", k, l, got, want)
			}
		}
	}
	if got := rice.Sum(0, []int{0, -1, 1, 16}); got != 1+2+3+65 {
		t.Errorf("Sum is %d", got)
	}
}

func TestBestOfKnownRows(t *testing.T) { // P5.2, R8
	for _, x := range []struct {
		l    []int
		want int
	}{
		{nil, 0},
		{[]int{}, 0},
		{[]int{0}, 0},
		{[]int{0, 0, 0}, 0},
		{[]int{-1}, 0},    // 2 bits by 0 and by 1
		{[]int{1}, 0},     // 3 bits by 0, 1 and 2
		{[]int{-2}, 1},    // 4 bits by 0, 3 by 1 and 2
		{[]int{2}, 1},     // 5 bits by 0, 4 by 1, 2 and 3
		{[]int{-16}, 4},   // 6 bits by 4 and 5
		{[]int{100}, 7},   // 9 bits by 7 and 8
		{[]int{-1, 1}, 0}, // 5 bits by 0 and 1
		{[]int{-1, -1, 0}, 0},
		{[]int{1, 1, -2}, 1},         // 10 bits by 0, 9 by 1 and 2
		{[]int{1<<28 - 1}, 25},       // 56 bits by 24, 41 by 25
		{[]int{1<<29 - 1}, 25},       // an escape by all but 25
		{[]int{-1 << 29}, 25},        // so too
		{[]int{1 << 29}, 0},          // an escape by all
		{[]int{-1 << 30}, 0},         // so too
		{[]int{1 << 29, 5, 5, 5}, 2}, // 80 bits by 2, 3 and 4
		{[]int{-1 << 29, -1 << 29, -1 << 29, 0}, 0},             // 196 bits by 0, 197 by 25
		{[]int{-1 << 29, -1 << 29, -1 << 29, -1 << 29, 0}, 25},  // 261 bits by 0, 254 by 25
		{[]int{1 << 30, math.MaxInt, math.MinInt}, 0},           // no codes
		{[]int{1 << 30, 100, math.MaxInt, 0, -1<<30 - 1, 0}, 5}, // 24 bits by 5 and 6
	} {
		if got := rice.Best(x.l); got != x.want {
			t.Errorf("Best(%d) is %d, want %d", x.l, got, x.want)
		}
	}
}

// checkBest compares Best with what all parameters make of a row.
func checkBest(t *testing.T, l []int) {
	t.Helper()
	wide := slices.DeleteFunc(slices.Clone(l), func(x int) bool { return x < -1<<30 || x >= 1<<30 })
	want, least := -1, math.MaxInt
	for k := range api.MaxK + 1 {
		if size := len(codes(k, wide)); size < least {
			want, least = k, size
		}
	}
	if got := rice.Best(l); got != want {
		t.Errorf("Best(%d) is %d, want %d", l, got, want)
	}
}

func TestBestIsTheSmallestOfTheShortest(t *testing.T) { // P5.2, P5.4, R8
	for u := range 300 {
		checkBest(t, []int{unfold(u)})
		for v := range 40 {
			checkBest(t, []int{unfold(u), unfold(v)})
			checkBest(t, []int{unfold(v), 0, unfold(u), unfold(v)})
		}
	}
	for k := range api.MaxK + 1 {
		for _, x := range edges(k) {
			checkBest(t, []int{x})
			checkBest(t, []int{x, 0})
			checkBest(t, []int{x, x, -1, x, x, x})
		}
	}
	for small := 1; small <= 31; small++ {
		for large := small; large <= 36; large++ {
			l := append(noise(12, small, uint64(small)), noise(4, large, uint64(large))...)
			checkBest(t, l)
		}
	}
}

func TestPutOfKnownCodes(t *testing.T) { // P5.1, P5.3
	for _, x := range []struct {
		k    int
		l    []int
		want string
	}{
		{0, nil, ""},
		{25, []int{}, ""},
		{2, []int{-3, 0}, "0101 100"},
		{0, []int{0, -1, 1, -2}, "1 01 001 0001"},
		{1, []int{5, -5}, "000001 0 00001 1"},
		{3, []int{-40, 4, 0}, "0000000001 111 01 000 1 000"},
		{0, []int{-16, 16}, "00000000000000000000000000000001 000000000000000000000000000000001 00000000000000000000000000100000"},
		{25, []int{1 << 24, -1}, "01 0000000000000000000000000 1 0000000000000000000000001"},
		{25, []int{-1 << 30}, "000000000000000000000000000000001 01111111111111111111111111111111"},
		{25, []int{1<<30 - 1}, "000000000000000000000000000000001 01111111111111111111111111111110"},
	} {
		want := strings.ReplaceAll(x.want, " ", "")
		var w bits.Writer
		if err := rice.Put(&w, x.k, x.l); err != api.OK {
			t.Errorf("Put of %d by %d: error %d", x.l, x.k, err)
		}
		checkHolds(t, &w, want)
		checkGet(t, ending(t, want), x.k, len(x.l), x.l, api.OK)
	}
}

func TestPutByEachParameterAtEachPlace(t *testing.T) { // P5.1, P5.3, P5.4
	for k := range api.MaxK + 1 {
		for place := range 9 {
			l := append(edges(k), noise(5, 31, uint64(k))...)
			want := strings.Repeat("1", place)
			var w bits.Writer
			w.Put(1<<place-1, place)
			if err := rice.Put(&w, k, nil); err != api.OK {
				t.Errorf("Put of nothing by %d: error %d", k, err)
			}
			checkHolds(t, &w, want)
			if err := rice.Put(&w, k, l); err != api.OK {
				t.Errorf("Put by %d: error %d", k, err)
			}
			want += codes(k, l)
			checkHolds(t, &w, want)
			w.Put(2, 2)
			checkHolds(t, &w, want+"10")
		}
	}
}

func TestPutErrors(t *testing.T) { // P5.3, R5
	var w bits.Writer
	w.Put(5, 3)
	for _, k := range noParameters() {
		for _, l := range [][]int{nil, {}, {0}, {1, -1}, {1 << 30}, {math.MinInt}} {
			if err := rice.Put(&w, k, l); err != api.ErrArg {
				t.Errorf("Put of %d by %d: error %d", l, k, err)
			}
			checkHolds(t, &w, "101")
		}
	}
	for k := range api.MaxK + 1 {
		for _, x := range narrow() {
			for _, l := range [][]int{{x}, {0, x}, {x, 0}, {3, -1 << 30, 1<<30 - 1, x}, {1, x, 2, x}} {
				if err := rice.Put(&w, k, l); err != api.ErrArg {
					t.Errorf("Put of %d by %d: error %d", l, k, err)
				}
				checkHolds(t, &w, "101")
			}
		}
	}
	if err := rice.Put(&w, 0, []int{1}); err != api.OK {
		t.Errorf("error %d", err)
	}
	checkHolds(t, &w, "101001")
}

func TestPutAndGet(t *testing.T) { // P5.4
	for k := range api.MaxK + 1 {
		for size := 1; size <= 31; size++ {
			l := append(noise(30, size, uint64(31*k+size)), edges(k)...)
			var w bits.Writer
			if err := rice.Put(&w, k, l); err != api.OK {
				t.Errorf("Put by %d: error %d", k, err)
			}
			if got, want := w.Len(), rice.Sum(k, l); got != want {
				t.Errorf("Put by %d writes %d bits, Sum is %d", k, got, want)
			}
			r := bits.New(w.Bytes())
			checkGet(t, r, k, len(l), l, api.OK)
			if r.At() != w.Len() || r.Err() != api.OK {
				t.Errorf("Get by %d reads %d bits of %d", k, r.At(), w.Len())
			}
		}
	}
}

func TestGetReadsNoMoreThanItsCodes(t *testing.T) { // P5.3
	for k := range api.MaxK + 1 {
		for _, x := range edges(k) {
			first, second := code(k, x), code(k, -3)
			r := ending(t, "10"+first+second+"0110")
			at := r.At()
			checkGet(t, r, k, 0, nil, api.OK)
			if r.At() != at {
				t.Error("Get of 0 residuals reads")
			}
			if got := r.Get(2); got != 2 {
				t.Errorf("%d ahead of the codes", got)
			}
			checkGet(t, r, k, 1, []int{x}, api.OK)
			if r.At() != at+2+len(first) {
				t.Errorf("the code of %d by %d ends at %d, want %d", x, k, r.At()-at, 2+len(first))
			}
			checkGet(t, r, k, 1, []int{-3}, api.OK)
			if got := r.Get(4); got != 6 || r.Left() != 0 || r.Err() != api.OK {
				t.Errorf("%d behind the codes, %d bits left, error %d", got, r.Left(), r.Err())
			}
		}
	}
}

// reader returns a Reader with an error.
func reader(err api.Errno) *bits.Reader {
	r := bits.New([]byte{0, 0x80, 0xff})
	switch err {
	case api.ErrArg:
		r.Get(65)
	case api.ErrShort:
		r.Get(25)
	case api.ErrForm:
		r.Unary(3)
	}
	return r
}

func TestGetOfWrongArguments(t *testing.T) { // P5.3, R4, R6
	for _, err := range []api.Errno{api.OK, api.ErrArg, api.ErrShort, api.ErrForm} {
		for _, k := range noParameters() {
			for _, n := range []int{0, 1, 2, api.MaxTrack, -1, api.MaxTrack + 1, math.MinInt, math.MaxInt} {
				checkGet(t, reader(err), k, n, nil, api.ErrArg)
			}
		}
		for k := range api.MaxK + 1 {
			for _, n := range []int{-1, -2, math.MinInt + 1, math.MinInt, api.MaxTrack + 1, 1 << 32, 1<<32 + 1, math.MaxInt - 1, math.MaxInt} {
				checkGet(t, reader(err), k, n, nil, api.ErrArg)
			}
		}
	}
	checkGet(t, bits.New(nil), api.MaxK, -1, nil, api.ErrArg)
	checkGet(t, bits.New(nil), api.MaxK+1, 0, nil, api.ErrArg)
}

func TestGetFromAReaderWithAnError(t *testing.T) { // P5.3, R4, R9
	for _, err := range []api.Errno{api.ErrArg, api.ErrShort, api.ErrForm} {
		for k := range api.MaxK + 1 {
			for _, n := range []int{0, 1, 2, 30, api.MaxTrack} {
				r := reader(err)
				at, left := r.At(), r.Left()
				checkGet(t, r, k, n, nil, err)
				if r.At() != at || r.Left() != left || r.Err() != err {
					t.Errorf("At %d, Left %d, Err %d; want %d, %d, %d", r.At(), r.Left(), r.Err(), at, left, err)
				}
			}
		}
	}
}

func TestGetOfCodesThatAreCut(t *testing.T) { // P5.3, R4
	for _, k := range []int{0, 1, 2, 7, 13, 24, 25} {
		for _, x := range []int{0, -1, 1, unfold(15*power(k) + 1), unfold(32*power(k) - 1), unfold(32 * power(k)), -1 << 30} {
			text := code(k, x)
			for n := range len(text) {
				checkGet(t, ending(t, text[:n]), k, 1, nil, api.ErrShort)
				r := ending(t, code(k, 9)+text[:n])
				checkGet(t, r, k, 2, nil, api.ErrShort)
				if r.Err() != api.ErrShort {
					t.Errorf("the reader's error is %d", r.Err())
				}
			}
			checkGet(t, ending(t, text), k, 1, []int{x}, api.OK)
			checkGet(t, ending(t, text), k, 2, nil, api.ErrShort)
			checkGet(t, ending(t, text+code(k, x)), k, 2, []int{x, x}, api.OK)
		}
	}
}

func TestGetOfMoreZerosThanTheEscape(t *testing.T) { // P5.3, R4, R6
	zeros := strings.Repeat("0", 32)
	for k := range api.MaxK + 1 {
		checkGet(t, ending(t, zeros), k, 1, nil, api.ErrShort)
		for _, rest := range []string{"0", "01", "00", "01" + digits(1<<30, 32), strings.Repeat("0", 100)} {
			r := ending(t, zeros+rest)
			checkGet(t, r, k, 1, nil, api.ErrForm)
			if r.Err() != api.ErrForm {
				t.Errorf("the reader's error is %d", r.Err())
			}
		}
		checkGet(t, ending(t, code(k, -7)+zeros+"0"), k, 2, nil, api.ErrForm)
	}
}

func TestGetOfNumbersBehindAnEscape(t *testing.T) { // P5.3, R4
	for k := range api.MaxK + 1 {
		bound := api.Quot * power(k)
		for _, u := range []int{bound, bound + 1, 1<<30 + 1, 2*api.MaxWide - 2, 2*api.MaxWide - 1} {
			checkGet(t, ending(t, escape(u)), k, 1, []int{unfold(u)}, api.OK)
			checkGet(t, ending(t, code(k, 4)+escape(u)+code(k, -4)), k, 3, []int{4, unfold(u), -4}, api.OK)
		}
		for _, u := range []int{0, 1, power(k), bound - power(k), bound - 2, bound - 1, 2 * api.MaxWide, 2*api.MaxWide + 1, 1<<32 - 2, 1<<32 - 1} {
			checkGet(t, ending(t, escape(u)), k, 1, nil, api.ErrForm)
			checkGet(t, ending(t, escape(u)), k, 2, nil, api.ErrForm)
			checkGet(t, ending(t, code(k, 4)+escape(u)+code(k, -4)), k, 3, nil, api.ErrForm)
			checkGet(t, ending(t, escape(u)[:64]), k, 1, nil, api.ErrShort)
		}
	}
}

func TestGetReturnsTheFirstErrorOfTheBits(t *testing.T) { // P5.3, R6
	for k := range api.MaxK + 1 {
		wrong, long, good := escape(1<<31), strings.Repeat("0", 33), code(k, 1<<20)
		for _, n := range []int{2, 3, 100, api.MaxTrack} {
			checkGet(t, ending(t, good+wrong), k, n, nil, api.ErrForm)
			checkGet(t, ending(t, good+long), k, n, nil, api.ErrForm)
			checkGet(t, ending(t, good+wrong[:50]), k, n, nil, api.ErrShort)
			checkGet(t, ending(t, good+long[:32]), k, n, nil, api.ErrShort)
		}
		// What is wrong behind the codes that are asked for is not read.
		checkGet(t, ending(t, good+wrong), k, 1, []int{1 << 20}, api.OK)
		checkGet(t, ending(t, good+long), k, 1, []int{1 << 20}, api.OK)
		checkGet(t, ending(t, wrong), k, 0, nil, api.OK)
	}
}

func TestGetOfManyResiduals(t *testing.T) { // P5.3
	b := bytes.Repeat([]byte{0xff}, api.MaxTrack/8)
	r := bits.New(append(b, 0x40))
	checkGet(t, r, 0, api.MaxTrack, make([]int, api.MaxTrack), api.OK)
	if r.At() != api.MaxTrack || r.Left() != 8 {
		t.Errorf("At %d, Left %d", r.At(), r.Left())
	}
	checkGet(t, r, 0, 1, []int{-1}, api.OK)
	checkGet(t, bits.New(b), 0, api.MaxTrack+1, nil, api.ErrArg)
	checkGet(t, bits.New(b[1:]), 0, api.MaxTrack, nil, api.ErrShort)
	for k := range api.MaxK + 1 {
		checkGet(t, bits.New(nil), k, 0, nil, api.OK)
		checkGet(t, bits.New(nil), k, 1, nil, api.ErrShort)
		checkGet(t, bits.New(nil), k, api.MaxTrack, nil, api.ErrShort)
		checkGet(t, bits.New(b[:16]), k, 129, nil, api.ErrShort)
	}
	checkGet(t, bits.New(b[:16]), 0, 128, make([]int, 128), api.OK)
}

// readCode reads a code by k from a text, and returns its length too, in the document's words.
func readCode(text string, k int) (int, int, api.Errno) {
	q := 0
	for ; text[q:] != "" && text[q] == '0'; q++ {
		if q == 32 {
			return 0, 0, api.ErrForm
		}
	}
	size := q + 1 + k
	if q == 32 {
		size = q + 1 + 32
	}
	if len(text) < size {
		return 0, 0, api.ErrShort
	}
	u := 0
	for _, c := range text[q+1 : size] {
		u = 2*u + int(c-'0')
	}
	if q < 32 {
		return unfold(q*power(k) + u), size, api.OK
	}
	if u >= 1<<31 || u/power(k) < 32 {
		return 0, 0, api.ErrForm
	}
	return unfold(u), size, api.OK
}

func TestGetOfAllTexts(t *testing.T) { // P5.1, P5.3
	for v := range 1 << 12 {
		for _, text := range []string{digits(v, 12) + "0110", strings.Repeat("0", 28) + digits(v, 12) + digits(v*v, 24)} {
			b := pack(text)
			for k := range api.MaxK + 1 {
				r := bits.New(b)
				x, size, err := readCode(text, k)
				if err != api.OK {
					checkGet(t, r, k, 1, nil, err)
					continue
				}
				checkGet(t, r, k, 1, []int{x}, api.OK)
				if r.At() != size || code(k, x) != text[:size] {
					t.Errorf("%s by %d: %d bits read, want %d", text, k, r.At(), size)
				}
			}
		}
	}
}

// scribble writes into l and into its spare capacity.
func scribble(l []int) {
	l = l[:cap(l)]
	for i := range l {
		l[i] ^= 0x5a
	}
}

func TestArgumentsStay(t *testing.T) { // R2, R3
	array := []int{9, 1, 0, -40, 1 << 20, 7, math.MaxInt}
	before := slices.Clone(array)
	l := array[1:5]
	want := codes(3, l)
	var w bits.Writer
	for range 2 {
		if rice.Best(l) != 4 || rice.Sum(3, l) != len(want) {
			t.Errorf("Best is %d, Sum is %d", rice.Best(l), rice.Sum(3, l))
		}
		w = bits.Writer{}
		if err := rice.Put(&w, 3, l); err != api.OK {
			t.Errorf("error %d", err)
		}
		checkHolds(t, &w, want)
	}
	if err := rice.Put(&w, 3, array); err != api.ErrArg {
		t.Errorf("error %d", err)
	}
	if !slices.Equal(array, before) {
		t.Error("an argument, or what lies beside it, was changed")
	}
	scribble(l)
	checkHolds(t, &w, want)
}

func TestResultsAreNew(t *testing.T) { // R2
	b := pack(code(1, 5) + code(1, -6) + code(1, 7) + code(1, -8))
	r := bits.New(b)
	first, _ := rice.Get(r, 1, 2)
	second, _ := rice.Get(r, 1, 2)
	scribble(first)
	_ = append(first, 3, 4)
	if !slices.Equal(second, []int{7, -8}) {
		t.Error("two results share their residuals")
	}
	checkGet(t, bits.New(b), 1, 4, []int{5, -6, 7, -8}, api.OK)
}
