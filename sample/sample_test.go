package sample_test

import (
	"bytes"
	"encoding/binary"
	"math"
	"math/big"
	"slices"
	"testing"

	"kinora/api"
	"kinora/sample"
)

// noSizes returns numbers of bits of which there are no samples.
func noSizes() []int {
	return []int{0, -1, -2, -4, -8, -31, -32, -64, math.MinInt32, math.MinInt + 1, math.MinInt, 32, 33, 63, 64, 65, 96, 256 + 8, 1<<32 + 8, math.MaxInt32, math.MaxInt - 1, math.MaxInt}
}

// low is the lowest sample of n bits in the document's words, for n from 1 on.
func low(n int) int {
	x := -1
	for range n - 1 {
		x *= 2
	}
	return x
}

// high is the highest one.
func high(n int) int {
	return -low(n) - 1
}

// noise returns n samples without a pattern, of at most size bits.
func noise(n, size int, seed uint64) []int {
	l := make([]int, n)
	for i := range l {
		seed = seed*6364136223846793005 + 1442695040888963407
		l[i] = int(int64(seed) >> (64 - size))
	}
	return l
}

// checkRow compares a row and an error with what they are to be.
func checkRow(t *testing.T, what string, got []int, err api.Errno, want []int, wantErr api.Errno) {
	t.Helper()
	if err != wantErr || !slices.Equal(got, want) {
		t.Errorf("%s: %d, error %d; want %d, error %d", what, got, err, want, wantErr)
	}
}

// checkBytes compares bytes and an error with what they are to be.
func checkBytes(t *testing.T, l []int, bits int, want []byte, wantErr api.Errno) {
	t.Helper()
	got, err := sample.Pack(l, bits)
	if err != wantErr || !bytes.Equal(got, want) {
		t.Errorf("Pack(%d, %d): % x, error %d; want % x, error %d", l, bits, got, err, want, wantErr)
	}
}

// checkSamples compares the samples of b, and an error, with what they are to be.
func checkSamples(t *testing.T, b []byte, bits int, want []int, wantErr api.Errno) {
	t.Helper()
	got, err := sample.Unpack(b, bits)
	if err != wantErr || !slices.Equal(got, want) {
		t.Errorf("Unpack(% x, %d): %d, error %d; want %d, error %d", b, bits, got, err, want, wantErr)
	}
}

func TestLowAndHighOfKnownSizes(t *testing.T) { // P4.1
	for _, x := range []struct{ bits, low, high int }{
		{1, -1, 0},
		{2, -2, 1},
		{3, -4, 3},
		{4, -8, 7},
		{8, -128, 127},
		{12, -2048, 2047},
		{16, -32768, 32767},
		{24, -8388608, 8388607},
		{25, -16777216, 16777215},
		{30, -536870912, 536870911},
		{31, -1073741824, 1073741823},
	} {
		if n, m := sample.Low(x.bits), sample.High(x.bits); n != x.low || m != x.high {
			t.Errorf("%d bits are from %d to %d, want from %d to %d", x.bits, n, m, x.low, x.high)
		}
	}
}

func TestLowAndHighOfEachSize(t *testing.T) { // P4.1
	for bits := 1; bits <= 31; bits++ {
		if n, m := sample.Low(bits), sample.High(bits); n != low(bits) || m != high(bits) {
			t.Errorf("%d bits are from %d to %d, want from %d to %d", bits, n, m, low(bits), high(bits))
		}
	}
	if sample.Low(31) != -api.MaxWide || sample.High(31) != api.MaxWide-1 {
		t.Error("the samples of 31 bits are not the wide numbers")
	}
}

func TestLowAndHighOfNoSize(t *testing.T) { // P4.1, R1, R7
	for _, bits := range noSizes() {
		if n, m := sample.Low(bits), sample.High(bits); n != 0 || m != 0 {
			t.Errorf("%d bits are from %d to %d", bits, n, m)
		}
	}
}

func TestFitsAtTheBounds(t *testing.T) { // P4.1
	for bits := 1; bits <= 31; bits++ {
		for _, x := range []int{low(bits), low(bits) + 1, -1, 0, high(bits) - 1, high(bits)} {
			if !sample.Fits(x, bits) {
				t.Errorf("%d does not fit %d bits", x, bits)
			}
		}
		for _, x := range []int{low(bits) - 1, high(bits) + 1, 2 * low(bits), -low(bits), math.MinInt, math.MinInt + 1, math.MaxInt, 1 << 32, -1 << 32, 1 << 62} {
			if sample.Fits(x, bits) {
				t.Errorf("%d fits %d bits", x, bits)
			}
		}
	}
}

func TestFitsOfSmallNumbers(t *testing.T) { // P4.1
	for bits := 1; bits <= 10; bits++ {
		for x := -600; x <= 600; x++ {
			if got, want := sample.Fits(x, bits), x >= low(bits) && x <= high(bits); got != want {
				t.Errorf("%d in %d bits: %t", x, bits, got)
			}
		}
	}
}

func TestNothingFitsNoSize(t *testing.T) { // P4.1, R1, R7
	for _, bits := range noSizes() {
		for _, x := range []int{0, 1, -1, 7, 1 << 30, -1 << 30, 1 << 31, math.MaxInt, math.MinInt} {
			if sample.Fits(x, bits) {
				t.Errorf("%d fits %d bits", x, bits)
			}
		}
	}
}

func TestWidthOfKnownSamples(t *testing.T) { // P4.1
	for _, x := range []struct {
		l    []int
		want int
	}{
		{nil, 0},
		{[]int{}, 0},
		{[]int{0}, 0},
		{[]int{0, 0, 0}, 0},
		{[]int{-1}, 1},
		{[]int{0, -1}, 1},
		{[]int{-1, 0, 0}, 1},
		{[]int{1}, 2},
		{[]int{-2}, 2},
		{[]int{1, -1, 0}, 2},
		{[]int{-3}, 3},
		{[]int{3, -4}, 3},
		{[]int{-4, 4}, 4},
		{[]int{4, -4}, 4},
		{[]int{127, -128}, 8},
		{[]int{128}, 9},
		{[]int{0, -129, 0}, 9},
		{[]int{1 << 29}, 31},
		{[]int{-1 << 29}, 30},
		{[]int{1<<30 - 1}, 31},
		{[]int{-1 << 30}, 31},
		{[]int{1 << 30}, 32},
		{[]int{-1<<30 - 1}, 32},
		{[]int{1 << 31}, 32},
		{[]int{1 << 32}, 32},
		{[]int{1 << 40, 0}, 32},
		{[]int{0, -1 << 40}, 32},
		{[]int{math.MaxInt}, 32},
		{[]int{math.MinInt}, 32},
		{[]int{math.MinInt, math.MaxInt, 5}, 32},
		{[]int{5, math.MaxInt}, 32},
	} {
		if got := sample.Width(x.l); got != x.want {
			t.Errorf("Width(%d) is %d, want %d", x.l, got, x.want)
		}
	}
}

func TestWidthAtTheBoundsOfEachSize(t *testing.T) { // P4.1
	for bits := 2; bits <= 31; bits++ {
		for _, x := range []struct{ x, want int }{{low(bits), bits}, {high(bits), bits}, {low(bits) - 1, bits + 1}, {high(bits) + 1, bits + 1}} {
			for _, l := range [][]int{{x.x}, {0, x.x}, {x.x, 0, -1}, {-1, x.x, x.x}} {
				if got := sample.Width(l); got != x.want {
					t.Errorf("Width(%d) is %d, want %d", l, got, x.want)
				}
			}
		}
	}
}

// enough reports whether all samples of l fit n bits, of which none are enough for 0.
func enough(l []int, n int) bool {
	for _, x := range l {
		if x != 0 && (n == 0 || x < low(n) || x > high(n)) {
			return false
		}
	}
	return true
}

func TestWidthIsTheSmallest(t *testing.T) { // P4.1
	for x := -70; x <= 70; x++ {
		for y := -70; y <= 70; y++ {
			l := []int{x, y}
			want := 0
			for !enough(l, want) {
				want++
			}
			if got := sample.Width(l); got != want {
				t.Fatalf("Width(%d) is %d, want %d", l, got, want)
			}
		}
	}
}

func TestPackOfKnownSamples(t *testing.T) { // P4.2
	for _, x := range []struct {
		l    []int
		bits int
		b    []byte
	}{
		{nil, 4, nil},
		{[]int{}, 16, []byte{}},
		{nil, 24, nil},
		{[]int{0}, 4, []byte{0}},
		{[]int{-8, 7, -1, 1}, 4, []byte{0xf8, 0x07, 0xff, 0x01}},
		{[]int{-16, 15}, 5, []byte{0xf0, 0x0f}},
		{[]int{-64, 63}, 7, []byte{0xc0, 0x3f}},
		{[]int{-128, 127, -1, 0}, 8, []byte{0x80, 0x7f, 0xff, 0x00}},
		{[]int{-256, 255}, 9, []byte{0x00, 0xff, 0xff, 0x00}},
		{[]int{-2048, 2047, 1}, 12, []byte{0x00, 0xf8, 0xff, 0x07, 0x01, 0x00}},
		{[]int{-32768, 32767, 0x1234, -2}, 16, []byte{0x00, 0x80, 0xff, 0x7f, 0x34, 0x12, 0xfe, 0xff}},
		{[]int{-65536, 65535}, 17, []byte{0x00, 0x00, 0xff, 0xff, 0xff, 0x00}},
		{[]int{-524288, 524287}, 20, []byte{0x00, 0x00, 0xf8, 0xff, 0xff, 0x07}},
		{[]int{-8388608, 8388607, 0x123456, -3}, 24, []byte{0x00, 0x00, 0x80, 0xff, 0xff, 0x7f, 0x56, 0x34, 0x12, 0xfd, 0xff, 0xff}},
	} {
		checkBytes(t, x.l, x.bits, x.b, api.OK)
		checkSamples(t, x.b, x.bits, x.l, api.OK)
	}
}

// sizeOf is the number of bytes of a sample: 1 up to 8 bits, 2 up to 16, 3 up to 24.
func sizeOf(bits int) int {
	switch {
	case bits <= 8:
		return 1
	case bits <= 16:
		return 2
	}
	return 3
}

// lowest returns the lowest size bytes of x in two's complement.
func lowest(x, size int) []byte {
	return binary.LittleEndian.AppendUint64(nil, uint64(x))[:size]
}

func TestPackOfEachSize(t *testing.T) { // P4.2
	for bits := api.MinBits; bits <= api.MaxBits; bits++ {
		l := append([]int{low(bits), low(bits) + 1, -2, -1, 0, 1, 2, high(bits) - 1, high(bits)}, noise(50, bits, uint64(bits))...)
		var all []byte
		for _, x := range l {
			b := lowest(x, sizeOf(bits))
			checkBytes(t, []int{x}, bits, b, api.OK)
			checkSamples(t, b, bits, []int{x}, api.OK)
			all = append(all, b...)
		}
		checkBytes(t, l, bits, all, api.OK)
		checkSamples(t, all, bits, l, api.OK)
	}
}

func TestPackOfManySamples(t *testing.T) { // P4.2
	l := noise(100000, 24, 3)
	b, err := sample.Pack(l, 24)
	if err != api.OK || len(b) != 3*len(l) {
		t.Fatalf("%d bytes, error %d", len(b), err)
	}
	back, err := sample.Unpack(b, 24)
	if err != api.OK || !slices.Equal(back, l) {
		t.Errorf("%d samples, error %d", len(back), err)
	}
}

func TestPackAndUnpackOfNoSize(t *testing.T) { // P4.2, R4, R6
	for _, bits := range append(noSizes(), 1, 2, api.MinBits-1, api.MaxBits+1, 30, 31) {
		for _, l := range [][]int{nil, {0}, {-1, 0}, {99}, {math.MaxInt, math.MinInt}} {
			checkBytes(t, l, bits, nil, api.ErrArg)
		}
		for _, b := range [][]byte{nil, {0}, {1, 2}, {1, 2, 3}, {0x80}, {0xff, 0xff, 0xff, 0x7f}} {
			checkSamples(t, b, bits, nil, api.ErrArg)
		}
	}
}

func TestPackOfSamplesThatDoNotFit(t *testing.T) { // P4.2, R4, R7
	for bits := api.MinBits; bits <= api.MaxBits; bits++ {
		for _, x := range []int{low(bits) - 1, high(bits) + 1, 2*high(bits) + 1, 1 << (8 * sizeOf(bits)), 1<<32 + 1, math.MinInt, math.MaxInt} {
			for _, l := range [][]int{{x}, {x, 0, 0}, {0, x, 0}, {1, -1, x}} {
				checkBytes(t, l, bits, nil, api.ErrRange)
			}
		}
	}
}

func TestUnpackOfOddLengths(t *testing.T) { // P4.2, R4, R6
	for bits := api.MinBits; bits <= api.MaxBits; bits++ {
		size := sizeOf(bits)
		for n := range 14 {
			// These are samples only of 8, 16 and 24 bits, but that a byte is missing is told first.
			full := bytes.Repeat([]byte{0x7f}, n)
			zeros := make([]byte, n)
			if n%size != 0 {
				checkSamples(t, full, bits, nil, api.ErrShort)
				checkSamples(t, zeros, bits, nil, api.ErrShort)
				continue
			}
			checkSamples(t, zeros, bits, make([]int, n/size), api.OK)
			if n > 0 && bits%8 != 0 {
				checkSamples(t, full, bits, nil, api.ErrRange)
			}
		}
	}
}

// checkInverse reads b as one sample: it is that whose bytes Pack makes b, if there is one.
func checkInverse(t *testing.T, b []byte, bits int) {
	t.Helper()
	var n uint64
	for i, c := range b {
		n |= uint64(c) << (8 * i)
	}
	above := 64 - 8*len(b)
	x := int(int64(n<<above) >> above)
	want, wantErr := []int{x}, api.OK
	if x < low(bits) || x > high(bits) {
		want, wantErr = nil, api.ErrRange
	}
	got, err := sample.Unpack(b, bits)
	if err != wantErr || !slices.Equal(got, want) {
		t.Fatalf("Unpack(% x, %d): %d, error %d; want %d, error %d", b, bits, got, err, want, wantErr)
	}
	if packed, err := sample.Pack([]int{x}, bits); (err == api.OK) != (wantErr == api.OK) || err == api.OK && !bytes.Equal(packed, b) {
		t.Fatalf("Pack(%d, %d): % x, error %d", x, bits, packed, err)
	}
}

func TestUnpackIsTheInverse(t *testing.T) { // P4.2
	for bits := api.MinBits; bits <= 8; bits++ {
		for n := range 1 << 8 {
			checkInverse(t, []byte{byte(n)}, bits)
		}
	}
	for bits := 9; bits <= 16; bits++ {
		for n := range 1 << 16 {
			checkInverse(t, []byte{byte(n), byte(n >> 8)}, bits)
		}
	}
	for bits := 17; bits <= api.MaxBits; bits++ {
		for top := range 1 << 8 {
			for _, n := range []int{0, 1, 0x7f, 0x80, 0xff, 0x100, 0x7fff, 0x8000, 0xff00, 0xfffe, 0xffff} {
				checkInverse(t, []byte{byte(n), byte(n >> 8), byte(top)}, bits)
			}
		}
	}
}

func TestUnpackOfBytesThatPackDoesNotWrite(t *testing.T) { // P4.2, R4
	for _, x := range []struct {
		b    []byte
		bits int
	}{
		{[]byte{8}, 4},
		{[]byte{0xf7}, 4},
		{[]byte{0x0f}, 4},
		{[]byte{0, 0, 0x10}, 4},
		{[]byte{0x80, 0}, 7},
		{[]byte{0x40}, 7},
		{[]byte{0xff, 0x01}, 9},
		{[]byte{0xff, 0x0f}, 12},
		{[]byte{0x00, 0x08}, 12},
		{[]byte{0xff, 0xf7}, 12},
		{[]byte{0, 0, 0x00, 0x08, 0, 0}, 12},
		{[]byte{0x00, 0x00, 0x08}, 20},
		{[]byte{0xff, 0xff, 0x0f}, 20},
		{[]byte{1, 0, 0, 0xff, 0xff, 0xbf}, 23},
	} {
		checkSamples(t, x.b, x.bits, nil, api.ErrRange)
	}
}

func TestWastedOfKnownSamples(t *testing.T) { // P4.3
	for _, x := range []struct {
		l    []int
		want int
	}{
		{nil, 0},
		{[]int{}, 0},
		{[]int{0}, 0},
		{[]int{0, 0, 0}, 0},
		{[]int{1}, 0},
		{[]int{-1}, 0},
		{[]int{2}, 1},
		{[]int{-2}, 1},
		{[]int{4, -8}, 2},
		{[]int{-8, 4}, 2},
		{[]int{8, 12, 16, 0}, 2},
		{[]int{0, 6}, 1},
		{[]int{6, 0}, 1},
		{[]int{1 << 20, 3}, 0},
		{[]int{1 << 20, -1 << 10}, 10},
		{[]int{-3 << 7, 5 << 7}, 7},
		{[]int{1, math.MinInt}, 0},
		{[]int{math.MaxInt}, 0},
		{[]int{math.MinInt}, 30},
		{[]int{math.MinInt, 0}, 30},
		{[]int{1 << 40, -1 << 62}, 30},
		{[]int{1 << 40, 1 << 29}, 29},
	} {
		if got := sample.Wasted(x.l); got != x.want {
			t.Errorf("Wasted(%d) is %d, want %d", x.l, got, x.want)
		}
	}
}

func TestWastedOfEachNumberOfDigits(t *testing.T) { // P4.3
	for n := range 63 {
		want := min(n, 30)
		for _, odd := range []int{1, -1, 3, -5, 2001} {
			for _, l := range [][]int{{odd << n}, {0, odd << n, 0}, {odd << n, 1 << 62, math.MinInt}} {
				if got := sample.Wasted(l); got != want {
					t.Errorf("Wasted(%d) is %d, want %d", l, got, want)
				}
			}
		}
	}
}

func TestDownAndUpOfKnownSamples(t *testing.T) { // P4.3
	for _, x := range []struct {
		up   []int
		n    int
		down []int
	}{
		{nil, 0, nil},
		{nil, 30, nil},
		{[]int{}, 5, []int{}},
		{[]int{0, 0}, 30, []int{0, 0}},
		{[]int{7, -7, 0}, 0, []int{7, -7, 0}},
		{[]int{4, -8}, 2, []int{1, -2}},
		{[]int{4, -8}, 1, []int{2, -4}},
		{[]int{-6, 0, 10}, 1, []int{-3, 0, 5}},
		{[]int{-1 << 30, 0}, 30, []int{-1, 0}},
		{[]int{-1 << 30, 1 << 29}, 29, []int{-2, 1}},
		{[]int{-1 << 30, 1<<30 - 1}, 0, []int{-1 << 30, 1<<30 - 1}},
		{[]int{1<<30 - 2}, 1, []int{1<<29 - 1}},
	} {
		down, err := sample.Down(x.up, x.n)
		checkRow(t, "Down", down, err, x.down, api.OK)
		up, err := sample.Up(x.down, x.n)
		checkRow(t, "Up", up, err, x.up, api.OK)
	}
}

func TestDownAndUpOfNoPower(t *testing.T) { // P4.3, R4, R6
	for _, n := range []int{-1, -2, -30, -64, math.MinInt + 1, math.MinInt, 31, 32, 63, 64, 128, 1 << 32, math.MaxInt - 1, math.MaxInt} {
		for _, l := range [][]int{nil, {0}, {0, 0}, {1, 2}, {1 << 30}, {-1<<30 - 1}, {math.MinInt}, {math.MaxInt, 1}} {
			down, err := sample.Down(l, n)
			checkRow(t, "Down", down, err, nil, api.ErrArg)
			up, err := sample.Up(l, n)
			checkRow(t, "Up", up, err, nil, api.ErrArg)
		}
	}
}

func TestDownOfSamplesWithARest(t *testing.T) { // P4.3, R4
	for n := 1; n <= 30; n++ {
		for _, x := range []int{1 << (n - 1), -1 << (n - 1), 1, -1, 3 << (n - 1), 1<<30 - 1, 1 - 1<<30} {
			for _, l := range [][]int{{x}, {0, x}, {x, 0, 0}, {-1 << 30, x}, {0, x, -1 << 30}} {
				down, err := sample.Down(l, n)
				checkRow(t, "Down", down, err, nil, api.ErrRange)
			}
		}
	}
}

func TestDownByWhatIsWasted(t *testing.T) { // P4.3
	for _, l := range [][]int{{4, -8}, {5, 6}, {-1 << 30}, {1 << 29, -1 << 30}, {48, 0, -80}, {-3 << 20, 1 << 28}} {
		for n := range 31 {
			down, err := sample.Down(l, n)
			if n > sample.Wasted(l) {
				checkRow(t, "Down", down, err, nil, api.ErrRange)
				continue
			}
			want := make([]int, len(l))
			for i, x := range l {
				want[i] = x / (1 << n)
			}
			checkRow(t, "Down", down, err, want, api.OK)
			up, err := sample.Up(down, n)
			checkRow(t, "Up", up, err, l, api.OK)
		}
	}
}

func TestDownAndUpOfSamplesThatAreNotWide(t *testing.T) { // P4.3, R4, R7
	for _, x := range []int{1 << 30, -1<<30 - 1, 1 << 31, -1 << 31, 1 << 32, 1 << 34, 1 << 60, -1 << 60, 1<<33 + 1, math.MinInt, math.MaxInt} {
		for n := range 31 {
			for _, l := range [][]int{{x}, {0, x}, {x, 0, 0}} {
				down, err := sample.Down(l, n)
				checkRow(t, "Down", down, err, nil, api.ErrRange)
				up, err := sample.Up(l, n)
				checkRow(t, "Up", up, err, nil, api.ErrRange)
			}
		}
	}
}

func TestUpAtTheBounds(t *testing.T) { // P4.3, R4
	for n := range 31 {
		lowest, highest := -api.MaxWide/(1<<n), (api.MaxWide-1)/(1<<n)
		up, err := sample.Up([]int{lowest, highest}, n)
		checkRow(t, "Up", up, err, []int{-api.MaxWide, highest * (1 << n)}, api.OK)
		for _, l := range [][]int{{lowest - 1}, {highest + 1}, {0, lowest - 1}, {highest + 1, 0}} {
			up, err := sample.Up(l, n)
			checkRow(t, "Up", up, err, nil, api.ErrRange)
		}
	}
}

func TestUpIsTheMultiple(t *testing.T) { // P4.3, R7
	for n := range 31 {
		for size := 1; size <= 64; size++ {
			for _, x := range noise(4, size, uint64(64*n+size)) {
				many := new(big.Int).Lsh(big.NewInt(int64(x)), uint(n))
				bound := big.NewInt(api.MaxWide)
				fits := x >= -api.MaxWide && x < api.MaxWide && many.Cmp(bound) < 0 && many.Cmp(bound.Neg(bound)) >= 0
				want, wantErr := []int(nil), api.ErrRange
				if fits {
					want, wantErr = []int{int(many.Int64())}, api.OK
				}
				up, err := sample.Up([]int{x}, n)
				checkRow(t, "Up", up, err, want, wantErr)
			}
		}
	}
}

// scribble writes into l and into its spare capacity.
func scribble[T byte | int](l []T) {
	l = l[:cap(l)]
	for i := range l {
		l[i] ^= 0x5a
	}
}

func TestArgumentsStay(t *testing.T) { // R2, R3
	array := []int{1, 2, 4, -8, 12, 100, 3}
	before := slices.Clone(array)
	l := array[1:5]
	b := []byte{9, 1, 0, 0xff, 0xff, 9, 9}
	packed := b[1:5]
	keptBytes := bytes.Clone(b)
	for range 2 {
		checkBytes(t, l, 8, []byte{2, 4, 0xf8, 12}, api.OK)
		checkBytes(t, l, 4, nil, api.ErrRange)
		checkSamples(t, packed, 16, []int{1, -1}, api.OK)
		for n := range 3 {
			sample.Down(l, n)
			sample.Up(l, n)
		}
		sample.Up(l, 30)
		if sample.Wasted(l) != 1 || sample.Width(l) != 5 {
			t.Error("a result changes")
		}
	}
	if !slices.Equal(array, before) || !bytes.Equal(b, keptBytes) {
		t.Error("an argument, or what lies beside it, was changed")
	}
}

// checkNew calls what makes a row of l twice, and writes into the first result.
func checkNew(t *testing.T, l []int, change func(l []int) []int) {
	t.Helper()
	before := slices.Clone(l)
	first, second := change(l), change(l)
	want := slices.Clone(second)
	scribble(first)
	if !slices.Equal(second, want) || !slices.Equal(l, before) {
		t.Error("a result shares its samples")
	}
	scribble(l)
	if !slices.Equal(second, want) {
		t.Error("a result changes with the argument")
	}
}

func TestResultsAreNew(t *testing.T) { // R2
	for n := range 3 {
		for _, change := range []func(l []int, n int) ([]int, api.Errno){sample.Down, sample.Up} {
			checkNew(t, []int{4, -8, 0, 12}, func(l []int) []int {
				row, err := change(l, n)
				if err != api.OK || len(row) != len(l) {
					t.Errorf("%d, error %d", row, err)
				}
				return row
			})
		}
	}
	l := []int{1, 2, 3}
	first, _ := sample.Pack(l, 8)
	second, _ := sample.Pack(l, 8)
	scribble(first)
	if !bytes.Equal(second, []byte{1, 2, 3}) {
		t.Error("two results share their bytes")
	}
	one, _ := sample.Unpack(second, 8)
	two, _ := sample.Unpack(second, 8)
	scribble(one)
	scribble(second)
	if !slices.Equal(two, l) {
		t.Error("a row shares its samples or hangs on the bytes")
	}
}
