package sums_test

import (
	"bytes"
	"hash/crc32"
	"math"
	"math/big"
	"math/bits"
	"slices"
	"testing"

	"kinora/sums"
)

const (
	prime = 1<<61 - 1
	base  = 1000003
)

// check is a CRC with what the document says of it.
type check struct {
	name  string
	sum   func(b []byte) uint64
	width int
	poly  uint64 // its most significant digit stands for the greatest power
	start uint64
	low   bool // the least significant bit of a byte is processed first
}

func checks() []check {
	return []check{
		{"Eight", func(b []byte) uint64 { return uint64(sums.Eight(b)) }, 8, 0x07, 0, false},
		{"Sixteen", func(b []byte) uint64 { return uint64(sums.Sixteen(b)) }, 16, 0x8005, 0, false},
		{"ThirtyTwo", func(b []byte) uint64 { return uint64(sums.ThirtyTwo(b)) }, 32, 0x04c11db7, 0xffffffff, true},
	}
}

// mask returns the mask of the bit of a byte that is the i-th one processed.
func (c check) mask(i int) byte {
	if c.low {
		return 1 << i
	}
	return 0x80 >> i
}

// divide returns the checksum by long division of b, as a polynomial, by that of the CRC.
func (c check) divide(b []byte) uint64 {
	dividend := make([]uint64, 8*len(b)+c.width)
	for i := range 8 * len(b) {
		if b[i/8]&c.mask(i%8) != 0 {
			dividend[i] = 1
		}
	}
	digit := func(of uint64, i int) uint64 { return of >> (c.width - 1 - i) & 1 }
	for i := range c.width {
		dividend[i] ^= digit(c.start, i)
	}
	for i := range 8 * len(b) {
		if dividend[i] == 0 {
			continue
		}
		for j := range c.width {
			dividend[i+1+j] ^= digit(c.poly, j)
		}
	}
	var rest uint64
	for _, x := range dividend[8*len(b):] {
		rest = rest<<1 | x
	}
	if c.low {
		return uint64(^bits.Reverse32(uint32(rest)))
	}
	return rest
}

// noise returns n bytes without a pattern.
func noise(n int, seed uint64) []byte {
	b := make([]byte, n)
	for i := range b {
		seed = seed*6364136223846793005 + 1442695040888963407
		b[i] = byte(seed >> 56)
	}
	return b
}

// messages returns byte strings: nothing, each single byte, equal bytes, and others.
func messages() [][]byte {
	l := [][]byte{nil, {}, []byte("123456789")}
	for c := range 256 {
		l = append(l, []byte{byte(c)}, []byte{0, byte(c)}, []byte{byte(c), 0})
	}
	for n := range 40 {
		l = append(l, make([]byte, n), bytes.Repeat([]byte{0xff}, n), bytes.Repeat([]byte{0x80}, n), noise(n, uint64(n)))
	}
	return append(l, noise(1000, 1), noise(4097, 2))
}

func TestChecksOfKnownBytes(t *testing.T) { // P3.1
	for _, x := range []struct {
		b         []byte
		eight     byte
		sixteen   uint16
		thirtyTwo uint32
	}{
		{nil, 0, 0, 0},
		{[]byte{}, 0, 0, 0},
		{[]byte{0}, 0, 0, 0xd202ef8d},
		{[]byte{1}, 0x07, 0x8005, 0xa505df1b},
		{[]byte{0x80}, 0x89, 0x8303, 0x3fba6cad},
		{[]byte{0xff}, 0xf3, 0x0202, 0xff000000},
		{[]byte{0, 0, 0, 0}, 0, 0, 0x2144df1c},
		{[]byte{0xff, 0xff, 0xff, 0xff}, 0xde, 0x8029, 0xffffffff},
		{[]byte("123456789"), 0xf4, 0xfee8, 0xcbf43926},
	} {
		if n := sums.Eight(x.b); n != x.eight {
			t.Errorf("Eight of % x is %#02x, want %#02x", x.b, n, x.eight)
		}
		if n := sums.Sixteen(x.b); n != x.sixteen {
			t.Errorf("Sixteen of % x is %#04x, want %#04x", x.b, n, x.sixteen)
		}
		if n := sums.ThirtyTwo(x.b); n != x.thirtyTwo {
			t.Errorf("ThirtyTwo of % x is %#08x, want %#08x", x.b, n, x.thirtyTwo)
		}
	}
}

func TestChecksAreRestsOfDivisions(t *testing.T) { // P3.1
	for _, c := range checks() {
		for _, b := range messages() {
			if got, want := c.sum(b), c.divide(b); got != want {
				t.Fatalf("%s of % x is %#x, want %#x", c.name, b, got, want)
			}
		}
	}
}

func TestThirtyTwoIsThatOfTheLibrary(t *testing.T) { // P3.1
	for _, b := range messages() {
		if got, want := sums.ThirtyTwo(b), crc32.ChecksumIEEE(b); got != want {
			t.Fatalf("ThirtyTwo of % x is %#x, want %#x", b, got, want)
		}
	}
}

func TestZerosInFront(t *testing.T) { // P3.1
	b := []byte("kinora")
	longer := append(make([]byte, 5), b...)
	if sums.Eight(longer) != sums.Eight(b) || sums.Sixteen(longer) != sums.Sixteen(b) {
		t.Error("bytes 0 in front change a checksum that starts with 0")
	}
	if sums.ThirtyTwo(longer) == sums.ThirtyTwo(b) {
		t.Error("bytes 0 in front leave a checksum that starts with ffffffff")
	}
}

// flip returns b with a burst: bit i of pattern changes the bit that is processed i places behind the place at.
func (c check) flip(b []byte, at int, pattern uint64) []byte {
	b = bytes.Clone(b)
	for ; pattern != 0; pattern >>= 1 {
		if pattern&1 == 1 {
			b[at/8] ^= c.mask(at % 8)
		}
		at++
	}
	return b
}

// checkBursts sets the patterns, which begin with a bit 1, at every place of b that has room for them.
func (c check) checkBursts(t *testing.T, b []byte, patterns []uint64) {
	t.Helper()
	sum := c.sum(b)
	for at := range 8 * len(b) {
		for _, pattern := range patterns {
			if at+bits.Len64(pattern) > 8*len(b) {
				continue
			}
			if changed := c.flip(b, at, pattern); c.sum(changed) == sum {
				t.Fatalf("%s of % x and of % x is %#x", c.name, b, changed, sum)
			}
		}
	}
}

// bursts returns all bursts of at most width bits.
func bursts(width int) []uint64 {
	var l []uint64
	for pattern := uint64(1); pattern < 1<<width; pattern += 2 {
		l = append(l, pattern)
	}
	return l
}

// someBursts returns, of every length from 1 to 32 bits, bursts with few changes, with many, and with those of noise.
func someBursts() []uint64 {
	l := bursts(6)
	for n := 1; n <= 32; n++ {
		ends := 1 | uint64(1)<<(n-1)
		all := uint64(1)<<n - 1
		l = append(l, ends, all)
		for i := range n {
			l = append(l, ends|1<<i, (all&^(1<<i))|ends)
		}
		for i := range 20 {
			var x uint64
			for _, c := range noise(4, uint64(32*i+n)) {
				x = x<<8 | uint64(c)
			}
			l = append(l, x&all|ends)
		}
	}
	return l
}

func TestBurstsOfEightBits(t *testing.T) { // P3.3
	for _, b := range [][]byte{{0}, {0x5a}, {0xff, 0}, noise(3, 7), noise(20, 8), make([]byte, 9)} {
		for _, c := range checks() {
			c.checkBursts(t, b, bursts(8))
		}
	}
}

func TestBurstsOfSixteenBits(t *testing.T) { // P3.3
	for _, b := range [][]byte{{0x5a}, {0, 0}, noise(4, 9)} {
		for _, c := range checks()[1:] {
			c.checkBursts(t, b, bursts(16))
		}
	}
}

func TestBurstsOfThirtyTwoBits(t *testing.T) { // P3.3
	c := checks()[2]
	for _, b := range [][]byte{{0x5a}, {0, 0}, noise(3, 10), noise(4, 11), noise(9, 12), make([]byte, 12)} {
		c.checkBursts(t, b, someBursts())
	}
}

func TestOneBitInManyBytes(t *testing.T) { // P3.3
	for _, c := range checks() {
		c.checkBursts(t, noise(300, 13), []uint64{1})
	}
}

// A multiple of the polynomial changes no checksum; the shortest one has a bit more than a burst may have.
func TestTheShortestChangeThatIsNotSeen(t *testing.T) { // P3.1, P3.3
	for _, c := range checks() {
		b := noise(12, 14)
		pattern := 1 | bits.Reverse64(c.poly)>>(64-c.width)<<1
		for at := range 8*len(b) - c.width {
			if c.sum(c.flip(b, at, pattern)) != c.sum(b) {
				t.Errorf("%s: the polynomial at %d changes the checksum", c.name, at)
			}
		}
	}
}

func whole(n uint64) *big.Int { return new(big.Int).SetUint64(n) }

// hash returns the Print that follows h when b is appended.
func hash(h uint64, b []byte) uint64 {
	x := whole(h)
	for _, c := range b {
		x.Mul(x, whole(base))
		x.Add(x, whole(uint64(c)))
		x.Add(x, whole(1))
		x.Mod(x, whole(prime))
	}
	return x.Uint64()
}

// power returns base to the power n modulo prime, for n of at least 0.
func power(n int) uint64 {
	return new(big.Int).Exp(whole(base), big.NewInt(int64(n)), whole(prime)).Uint64()
}

// beside returns 14 bytes whose Print is last - 0x7e, modulo prime.
func beside(last byte) []byte {
	return []byte{0x87, 0x86, 0x7d, 0x8f, 0x82, 0x79, 0x8a, 0x78, 0x79, 0x7a, 0x7d, 0x82, 0x7a, last}
}

func TestPrintOfKnownBytes(t *testing.T) { // P3.2
	for _, x := range []struct {
		b    []byte
		want uint64
	}{
		{nil, 0},
		{[]byte{}, 0},
		{[]byte{0}, 1},
		{[]byte{254}, 255},
		{[]byte{255}, 256},
		{[]byte{0, 0}, base + 1},
		{[]byte{1, 2}, 2*base + 3},
		{[]byte{255, 255}, 256*base + 256},
		{[]byte{0, 0, 0}, base*base + base + 1},
		{[]byte{255, 255, 255}, 256*base*base + 256*base + 256},
		{beside(0x7c), prime - 2},
		{beside(0x7d), prime - 1},
		{beside(0x7e), 0},
		{beside(0x7f), 1},
		{beside(0), prime - 0x7e},
		{beside(255), 255 - 0x7e},
		{[]byte{0x8a, 0x87, 0x79, 0x7d, 0x79, 0x7a, 0x7f, 0x82, 0x77, 0x86, 0x84, 0x81, 0x80, 0x8b}, prime - 256},
	} {
		if n := sums.Print(x.b); n != x.want {
			t.Errorf("Print of % x is %d, want %d", x.b, n, x.want)
		}
	}
}

func TestPrintIsTheHash(t *testing.T) { // P3.2
	for _, b := range messages() {
		if got, want := sums.Print(b), hash(0, b); got != want {
			t.Fatalf("Print of % x is %d, want %d", b, got, want)
		}
	}
}

func TestPrintGoesOnFromHashesNearPrime(t *testing.T) { // P3.2, R7
	for last := range 256 {
		h := (prime + uint64(last) - 0x7e) % prime
		for c := range 256 {
			b := append(beside(byte(last)), byte(c))
			if got, want := sums.Print(b), hash(h, []byte{byte(c)}); got != want {
				t.Fatalf("Print of % x is %d, want %d", b, got, want)
			}
		}
	}
}

func TestPowerBySteps(t *testing.T) { // P3.2
	want := whole(1)
	for n := range 2000 {
		if got := sums.Power(n); got != want.Uint64() {
			t.Fatalf("Power(%d) is %d, want %d", n, got, want)
		}
		want.Mul(want, whole(base))
		want.Mod(want, whole(prime))
	}
}

func TestPowerOfKnownNumbers(t *testing.T) { // P3.2
	for _, x := range []struct {
		n    int
		want uint64
	}{
		{math.MinInt, 1},
		{math.MinInt + 1, 1},
		{-prime, 1},
		{-2, 1},
		{-1, 1},
		{0, 1},
		{1, base},
		{2, base * base},
		{3, base * base * base},
		// base to the power prime - 1 is 1, since prime is a prime number.
		{prime - 1, 1},
		{prime, base},
		{2*prime - 2, 1},
		{4*prime - 4, 1},
		{4*prime - 2, base * base},
	} {
		if got := sums.Power(x.n); got != x.want {
			t.Errorf("Power(%d) is %d, want %d", x.n, got, x.want)
		}
	}
}

func TestPowerOfGreatNumbers(t *testing.T) { // P3.2, R1, R7
	l := []int{math.MaxInt, math.MaxInt - 1, math.MaxInt32, prime - 2, prime + 1, 1234567890123456789}
	for i := range 63 {
		l = append(l, 1<<i-1, 1<<i, 1<<i+1)
	}
	for _, n := range l {
		if got, want := sums.Power(n), power(n); got != want {
			t.Errorf("Power(%d) is %d, want %d", n, got, want)
		}
	}
}

func TestJoinOfPrints(t *testing.T) { // P3.2
	for _, all := range [][]byte{nil, {0}, {0, 0}, []byte("one and another one"), noise(100, 15), append(beside(0x7d), beside(0x7d)...), append(beside(0x7e), 0, 0)} {
		for cut := range len(all) + 1 {
			a, b := all[:cut], all[cut:]
			got, ok := sums.Join(sums.Print(a), sums.Print(b), len(b))
			if want := sums.Print(all); !ok || got != want {
				t.Errorf("% x and % x: %d, %t, want %d", a, b, got, ok, want)
			}
		}
	}
}

func TestJoinOfThreePrints(t *testing.T) { // P3.2
	a, b, c := noise(33, 16), noise(7, 17), noise(20, 18)
	right, _ := sums.Join(sums.Print(b), sums.Print(c), 20)
	right, _ = sums.Join(sums.Print(a), right, 27)
	left, _ := sums.Join(sums.Print(a), sums.Print(b), 7)
	left, _ = sums.Join(left, sums.Print(c), 20)
	if want := sums.Print(slices.Concat(a, b, c)); left != want || right != want {
		t.Errorf("%d, %d, want %d", left, right, want)
	}
}

func TestJoinOfKnownNumbers(t *testing.T) { // P3.2
	for _, x := range []struct {
		a, b uint64
		n    int
		want uint64
	}{
		{0, 0, 0, 0},
		{0, 0, math.MaxInt, 0},
		{5, 7, 0, 12},
		{5, 7, 1, 5*base + 7},
		{0, prime - 1, 9, prime - 1},
		{prime - 1, 0, 0, prime - 1},
		{1, prime - 2, 0, prime - 1},
		{1, prime - 1, 0, 0},
		{prime - 1, 1, 0, 0},
		{prime - 1, prime - 1, 0, prime - 2},
		// prime - 1 is -1 here.
		{prime - 1, base, 1, 0},
		{prime - 1, base - 1, 1, prime - 1},
		{prime - 1, prime - 1, 1, prime - base - 1},
		{prime - 1, prime - 1, prime - 1, prime - 2},
	} {
		if got, ok := sums.Join(x.a, x.b, x.n); !ok || got != x.want {
			t.Errorf("Join(%d, %d, %d) is %d, %t, want %d", x.a, x.b, x.n, got, ok, x.want)
		}
	}
}

func TestJoinNearItsBounds(t *testing.T) { // P3.2, R7
	near := []uint64{0, 1, 2, base, 1<<60 - 1, 1 << 60, prime / 3, prime - base, prime - 2, prime - 1}
	for _, n := range []int{0, 1, 2, 3, 4, 64, 1000, math.MaxInt32, prime - 2, prime - 1, prime, math.MaxInt - 1, math.MaxInt} {
		for _, a := range near {
			for _, b := range near {
				want := new(big.Int).Mul(whole(a), whole(power(n)))
				want.Add(want, whole(b))
				want.Mod(want, whole(prime))
				if got, ok := sums.Join(a, b, n); !ok || got != want.Uint64() {
					t.Errorf("Join(%d, %d, %d) is %d, %t, want %d", a, b, n, got, ok, want)
				}
			}
		}
	}
}

func TestJoinOfInvalidNumbers(t *testing.T) { // P3.2, R4
	beyond := []uint64{prime, prime + 1, prime + base, 2 * prime, 1 << 62, math.MaxInt64, 1 << 63, math.MaxUint64}
	valid := []uint64{0, 1, 12345, prime - 1}
	refuse := func(a, b uint64, n int) {
		t.Helper()
		if got, ok := sums.Join(a, b, n); ok || got != 0 {
			t.Errorf("Join(%d, %d, %d) is %d, %t", a, b, n, got, ok)
		}
	}
	for _, x := range beyond {
		for _, y := range slices.Concat(valid, beyond) {
			for _, n := range []int{math.MinInt, -1, 0, 1, 5, math.MaxInt} {
				refuse(x, y, n)
				refuse(y, x, n)
			}
		}
	}
	for _, n := range []int{-1, -2, -prime, math.MinInt + 1, math.MinInt} {
		for _, a := range valid {
			for _, b := range valid {
				refuse(a, b, n)
			}
		}
	}
}

func TestArgumentsStay(t *testing.T) { // R2, R3
	array := noise(64, 19)
	before := bytes.Clone(array)
	b := array[8:24]
	for range 2 {
		sums.Eight(b)
		sums.Sixteen(b)
		sums.ThirtyTwo(b)
		sums.Print(b)
		if !bytes.Equal(array, before) {
			t.Error("an argument, or what lies beside it, was changed")
		}
	}
	for _, c := range checks() {
		if c.sum(b) != c.sum(bytes.Clone(b)) {
			t.Errorf("%s hangs on more than the bytes", c.name)
		}
	}
	if sums.Print(b) != sums.Print(bytes.Clone(b)) {
		t.Error("Print hangs on more than the bytes")
	}
}
