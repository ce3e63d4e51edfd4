package octet_test

import (
	"bytes"
	"encoding/binary"
	"math"
	"slices"
	"strings"
	"testing"

	"kinora/api"
	"kinora/octet"
)

// edges holds the numbers beside each power of two, where a byte more is needed or a sign changes.
func edges() []uint64 {
	l := []uint64{0, 5, 300, math.MaxUint64}
	for i := range 64 {
		l = append(l, 1<<i-1, 1<<i, 1<<i+1)
	}
	return l
}

// nines is a varint of nine bytes that another one follows, and then tail.
func nines(tail ...byte) []byte {
	return append(bytes.Repeat([]byte{0xff}, 9), tail...)
}

// spare returns b in a longer array whose other bytes are known.
func spare(b ...byte) []byte {
	return append(b, 0xee, 0xee, 0xee, 0xee)[:len(b)]
}

// scribble writes into b and into its spare capacity.
func scribble(b []byte) {
	b = b[:cap(b)]
	for i := range b {
		b[i] = 0x55
	}
}

func checkSpare(t *testing.T, b, want []byte) {
	t.Helper()
	if !bytes.Equal(b, want) || !bytes.Equal(b[:cap(b)][len(b):len(b)+4], []byte{0xee, 0xee, 0xee, 0xee}) {
		t.Errorf("the argument became % x", b[:cap(b)])
	}
}

func checkPlace(t *testing.T, r *octet.Reader, at, left int, err api.Errno) {
	t.Helper()
	if r.At() != at || r.Left() != left || r.Err() != err {
		t.Errorf("At %d, Left %d, Err %d; want %d, %d, %d", r.At(), r.Left(), r.Err(), at, left, err)
	}
}

// checkDead calls everything that reads: after the first error none of it may return or change anything.
func checkDead(t *testing.T, r *octet.Reader) {
	t.Helper()
	at, left, err := r.At(), r.Left(), r.Err()
	if err == api.OK {
		t.Error("no error")
	}
	for range 2 {
		if r.Num(math.MaxUint64) != 0 || r.Big(1) != 0 || r.Small(1) != 0 || r.Big(8) != 0 || r.Small(8) != 0 {
			t.Error("a number after the first error")
		}
		if len(r.Take(1)) != 0 || len(r.Take(0)) != 0 || len(r.Lump(math.MaxInt)) != 0 || len(r.Lump(0)) != 0 {
			t.Error("bytes after the first error")
		}
		checkPlace(t, r, at, left, err)
	}
}

func TestPutWritesTheBytesOfTheDocument(t *testing.T) { // P1.1
	for _, x := range []struct {
		l    []uint64
		want []byte
	}{
		{nil, nil},
		{[]uint64{0}, []byte{0}},
		{[]uint64{1}, []byte{1}},
		{[]uint64{127}, []byte{0x7f}},
		{[]uint64{128}, []byte{0x80, 1}},
		{[]uint64{300, 1}, []byte{0xac, 2, 1}},
		{[]uint64{16383}, []byte{0xff, 0x7f}},
		{[]uint64{16384}, []byte{0x80, 0x80, 1}},
		{[]uint64{0, 128, 0}, []byte{0, 0x80, 1, 0}},
		{[]uint64{1<<63 - 1}, []byte{0xff, 0xff, 0xff, 0xff, 0xff, 0xff, 0xff, 0xff, 0x7f}},
		{[]uint64{1 << 63}, []byte{0x80, 0x80, 0x80, 0x80, 0x80, 0x80, 0x80, 0x80, 0x80, 1}},
		{[]uint64{math.MaxUint64}, nines(1)},
	} {
		if got := octet.Put(x.l...); !bytes.Equal(got, x.want) {
			t.Errorf("Put(%v) is % x, want % x", x.l, got, x.want)
		}
	}
}

func TestPutIsTheShortestVarint(t *testing.T) { // P1.1
	var all []byte
	for _, n := range edges() {
		want := binary.AppendUvarint(nil, n)
		if got := octet.Put(n); !bytes.Equal(got, want) {
			t.Errorf("Put(%d) is % x, want % x", n, got, want)
		}
		all = append(all, want...)
	}
	if !bytes.Equal(octet.Put(edges()...), all) {
		t.Error("Put of several numbers is not the numbers one after another")
	}
}

func TestPutKeepsItsArguments(t *testing.T) { // P1.1, R2
	l := append([]uint64{300, 1}, 9)[:2]
	a := octet.Put(l...)
	scribble(a)
	if !slices.Equal(l[:3], []uint64{300, 1, 9}) {
		t.Error(l[:3])
	}
	if !bytes.Equal(octet.Put(l...), []byte{0xac, 2, 1}) {
		t.Error("a result shares its bytes with a later one")
	}
}

func TestZigAndZag(t *testing.T) { // P1.1
	for _, x := range []struct {
		n int64
		u uint64
	}{
		{0, 0}, {-1, 1}, {1, 2}, {-2, 3}, {2, 4}, {-64, 127}, {64, 128},
		{math.MaxInt32, 1<<32 - 2}, {math.MinInt32, 1<<32 - 1},
		{math.MaxInt64 - 1, 1<<64 - 4}, {math.MinInt64 + 1, 1<<64 - 3},
		{math.MaxInt64, 1<<64 - 2}, {math.MinInt64, 1<<64 - 1},
	} {
		if octet.Zig(x.n) != x.u {
			t.Errorf("Zig(%d) is %d, want %d", x.n, octet.Zig(x.n), x.u)
		}
		if octet.Zag(x.u) != x.n {
			t.Errorf("Zag(%d) is %d, want %d", x.u, octet.Zag(x.u), x.n)
		}
	}
	for _, u := range edges() {
		if octet.Zig(octet.Zag(u)) != u || octet.Zag(octet.Zig(int64(u))) != int64(u) {
			t.Errorf("Zig and Zag are not inverse at %d", u)
		}
	}
}

func TestLump(t *testing.T) { // P1.1
	for _, size := range []int{0, 1, 2, 127, 128, 300, 16383, 16384} {
		b := []byte(strings.Repeat("k", size))
		want := append(binary.AppendUvarint(nil, uint64(size)), b...)
		if got := octet.Lump(b); !bytes.Equal(got, want) {
			t.Errorf("Lump of %d bytes begins with % x", size, got[:min(len(got), 4)])
		}
	}
	if !bytes.Equal(octet.Lump(nil), []byte{0}) || !bytes.Equal(octet.Lump([]byte{}), []byte{0}) {
		t.Error("Lump of nothing")
	}
}

func TestLumpKeepsItsArgument(t *testing.T) { // P1.1, R2
	b := spare(7, 8)
	scribble(octet.Lump(b))
	checkSpare(t, b, []byte{7, 8})
	got := octet.Lump(b)
	scribble(b)
	if !bytes.Equal(got, []byte{2, 7, 8}) {
		t.Error("Lump shares the bytes of its argument")
	}
}

func TestBigAndSmall(t *testing.T) { // P1.2
	for _, n := range append(edges(), 0x0102030405060708, 0xf0e0d0c0b0a09080) {
		big := binary.BigEndian.AppendUint64(nil, n)
		small := binary.LittleEndian.AppendUint64(nil, n)
		for size := range 9 {
			if got := octet.Big(n, size); !bytes.Equal(got, big[8-size:]) {
				t.Errorf("Big(%x, %d) is % x", n, size, got)
			}
			if got := octet.Small(n, size); !bytes.Equal(got, small[:size]) {
				t.Errorf("Small(%x, %d) is % x", n, size, got)
			}
		}
	}
}

func TestSizesOutOfRange(t *testing.T) { // P1.2
	const n = 0x0102030405060708
	for _, size := range []int{-1, -8, -9, math.MinInt} {
		if len(octet.Big(n, size)) != 0 || len(octet.Small(n, size)) != 0 {
			t.Errorf("size %d does not count as 0", size)
		}
	}
	for _, size := range []int{9, 16, 1 << 20, math.MaxInt} {
		if !bytes.Equal(octet.Big(n, size), []byte{1, 2, 3, 4, 5, 6, 7, 8}) {
			t.Errorf("Big: size %d does not count as 8", size)
		}
		if !bytes.Equal(octet.Small(n, size), []byte{8, 7, 6, 5, 4, 3, 2, 1}) {
			t.Errorf("Small: size %d does not count as 8", size)
		}
	}
}

func TestNumReadsWhatPutWrites(t *testing.T) { // P1.3
	b := octet.Put(edges()...)
	r := octet.New(b)
	at := 0
	for _, n := range edges() {
		if got := r.Num(n); got != n {
			t.Errorf("%d is read as %d", n, got)
		}
		at += len(octet.Put(n))
		checkPlace(t, r, at, len(b)-at, api.OK)
	}
	if r.Num(9) != 0 {
		t.Error("a number after the end")
	}
	checkPlace(t, r, len(b), 0, api.ErrShort)
	checkDead(t, r)
}

func TestNumErrors(t *testing.T) { // P1.3
	const top = math.MaxUint64
	for _, x := range []struct {
		name string
		b    []byte
		most uint64
		want api.Errno
	}{
		{"nothing", nil, top, api.ErrShort},
		{"one byte that another must follow", []byte{0x80}, top, api.ErrShort},
		{"nine bytes that another must follow", nines(), top, api.ErrShort},
		{"short, and above most", []byte{0xff, 0xff}, 1, api.ErrShort},
		{"tenth byte 2", nines(2), top, api.ErrForm},
		{"tenth byte 127", nines(127), top, api.ErrForm},
		{"tenth byte 128 at the end", nines(0x80), top, api.ErrForm},
		{"tenth byte 129 and more bytes", nines(0x81, 0, 1), top, api.ErrForm},
		{"tenth byte 0", nines(0), top, api.ErrForm},
		{"second byte 0", []byte{0x80, 0}, top, api.ErrForm},
		{"second byte 0 after digits", []byte{0xff, 0, 1}, top, api.ErrForm},
		{"third byte 0", []byte{0x81, 0x80, 0}, top, api.ErrForm},
		{"last byte 0, and above most", []byte{0xff, 0x80, 0}, 1, api.ErrForm},
		{"tenth byte 2, and above most", nines(2), 0, api.ErrForm},
		{"1 above 0", []byte{1}, 0, api.ErrLong},
		{"128 above 127", []byte{0x80, 1}, 127, api.ErrLong},
		{"the greatest number above the next one", nines(1), top - 1, api.ErrLong},
	} {
		r := octet.New(x.b)
		if n := r.Num(x.most); n != 0 {
			t.Errorf("%s: %d", x.name, n)
		}
		if r.Err() != x.want {
			t.Errorf("%s: error %d, want %d", x.name, r.Err(), x.want)
		}
		checkPlace(t, r, 0, len(x.b), x.want)
		checkDead(t, r)
	}
}

func TestNumAtItsBounds(t *testing.T) { // P1.3
	for _, x := range []struct {
		b    []byte
		most uint64
	}{
		{[]byte{0}, 0},
		{[]byte{0, 0}, 0},
		{[]byte{0x7f}, 127},
		{[]byte{0x80, 1}, 128},
		{[]byte{0x80, 0x80, 1}, 16384},
		{nines(1), math.MaxUint64},
	} {
		r := octet.New(x.b)
		if r.Num(x.most) != x.most || r.Err() != api.OK {
			t.Errorf("% x: error %d", x.b, r.Err())
		}
	}
}

func TestReaderBigAndSmall(t *testing.T) { // P1.3
	b := []byte{1, 2, 3, 4, 5, 6, 7, 8, 0xff}
	for size := range 9 {
		var padded [8]byte
		copy(padded[8-size:], b)
		r := octet.New(b)
		if got := r.Big(size); got != binary.BigEndian.Uint64(padded[:]) {
			t.Errorf("Big(%d) is %x", size, got)
		}
		checkPlace(t, r, size, 9-size, api.OK)

		padded = [8]byte{}
		copy(padded[:size], b)
		r = octet.New(b)
		if got := r.Small(size); got != binary.LittleEndian.Uint64(padded[:]) {
			t.Errorf("Small(%d) is %x", size, got)
		}
		checkPlace(t, r, size, 9-size, api.OK)
	}
}

func TestReaderSizesOutOfRange(t *testing.T) { // P1.3
	b := []byte{1, 2, 3, 4, 5, 6, 7, 8, 9}
	for _, size := range []int{-1, math.MinInt} {
		r := octet.New(b)
		if r.Big(size) != 0 || r.Small(size) != 0 {
			t.Errorf("size %d does not count as 0", size)
		}
		checkPlace(t, r, 0, 9, api.OK)
	}
	for _, size := range []int{9, math.MaxInt} {
		r := octet.New(b)
		if r.Big(size) != 0x0102030405060708 {
			t.Errorf("Big: size %d does not count as 8", size)
		}
		checkPlace(t, r, 8, 1, api.OK)
		r = octet.New(b)
		if r.Small(size) != 0x0807060504030201 {
			t.Errorf("Small: size %d does not count as 8", size)
		}
		checkPlace(t, r, 8, 1, api.OK)
	}
}

func TestFixedSizesThatAreShort(t *testing.T) { // P1.3
	for _, size := range []int{3, 8, 9, math.MaxInt} {
		for _, read := range []func(*octet.Reader, int) uint64{(*octet.Reader).Big, (*octet.Reader).Small} {
			r := octet.New([]byte{1, 2, 3})
			r.Take(1)
			if n := read(r, size); n != 0 {
				t.Errorf("size %d: %d", size, n)
			}
			checkPlace(t, r, 1, 2, api.ErrShort)
			checkDead(t, r)
		}
	}
}

func TestNothingIsReadAtTheEnd(t *testing.T) { // P1.3
	r := octet.New([]byte{5})
	r.Take(1)
	if r.Big(0) != 0 || r.Small(0) != 0 || len(r.Take(0)) != 0 || len(r.Take(-1)) != 0 {
		t.Error("something was read")
	}
	checkPlace(t, r, 1, 0, api.OK)
}

func TestTake(t *testing.T) { // P1.3
	r := octet.New([]byte{1, 2, 3, 4})
	if !bytes.Equal(r.Take(3), []byte{1, 2, 3}) {
		t.Error("Take(3)")
	}
	checkPlace(t, r, 3, 1, api.OK)
	for _, n := range []int{0, -1, math.MinInt} {
		if len(r.Take(n)) != 0 {
			t.Errorf("Take(%d)", n)
		}
		checkPlace(t, r, 3, 1, api.OK)
	}
	if !bytes.Equal(r.Take(1), []byte{4}) {
		t.Error("the last byte")
	}
	checkPlace(t, r, 4, 0, api.OK)
}

func TestTakeThatIsShort(t *testing.T) { // P1.3
	for _, n := range []int{3, 4, math.MaxInt} {
		r := octet.New([]byte{1, 2, 3})
		r.Take(1)
		if b := r.Take(n); len(b) != 0 {
			t.Errorf("Take(%d) is % x", n, b)
		}
		checkPlace(t, r, 1, 2, api.ErrShort)
		checkDead(t, r)
	}
}

func TestReaderLump(t *testing.T) { // P1.3
	for _, size := range []int{0, 1, 127, 128, 300} {
		content := []byte(strings.Repeat("k", size))
		b := append(octet.Lump(content), 9)
		for _, most := range []int{size, size + 1, math.MaxInt} {
			r := octet.New(b)
			if !bytes.Equal(r.Lump(most), content) {
				t.Errorf("Lump of %d bytes, at most %d", size, most)
			}
			checkPlace(t, r, len(b)-1, 1, api.OK)
		}
	}
}

func TestReaderLumpErrors(t *testing.T) { // P1.3
	for _, x := range []struct {
		name string
		b    []byte
		most int
		want api.Errno
	}{
		{"nothing", nil, 9, api.ErrShort},
		{"no end of the number", []byte{0x80}, 9, api.ErrShort},
		{"no bytes", []byte{1}, 9, api.ErrShort},
		{"a byte too few", []byte{3, 1, 2}, 3, api.ErrShort},
		{"tenth byte 0", nines(0), math.MaxInt, api.ErrForm},
		{"the greatest length", append(octet.Put(math.MaxInt), 1), math.MaxInt, api.ErrShort},
		{"padded number", []byte{0x81, 0, 1}, 9, api.ErrForm},
		{"above most", []byte{3, 1, 2, 3}, 2, api.ErrLong},
		{"above most and too few", []byte{3, 1}, 2, api.ErrLong},
		{"above 0", []byte{1, 1}, 0, api.ErrLong},
		{"above most below 0", []byte{1, 1}, -1, api.ErrLong},
		{"above the least most", []byte{1, 1}, math.MinInt, api.ErrLong},
		{"above every int", append(octet.Put(math.MaxUint64), 1), math.MaxInt, api.ErrLong},
		{"above every int, most below 0", append(octet.Put(math.MaxUint64), 1), -1, api.ErrLong},
	} {
		r := octet.New(append([]byte{7}, x.b...))
		r.Take(1)
		if b := r.Lump(x.most); len(b) != 0 {
			t.Errorf("%s: % x", x.name, b)
		}
		if r.Err() != x.want {
			t.Errorf("%s: error %d, want %d", x.name, r.Err(), x.want)
		}
		checkPlace(t, r, 1, len(x.b), x.want)
		checkDead(t, r)
	}
}

func TestEmptyLumpWithMostBelowZero(t *testing.T) { // P1.3
	for _, most := range []int{0, -1, math.MinInt} {
		r := octet.New([]byte{0, 5})
		if len(r.Lump(most)) != 0 {
			t.Errorf("Lump(%d)", most)
		}
		checkPlace(t, r, 1, 1, api.OK)
	}
}

func TestReaderMixed(t *testing.T) { // P1.3
	b := slices.Concat(octet.Put(300), octet.Big(0x0a0b0c, 3), octet.Lump([]byte("kin")), octet.Small(0x0a0b, 2), []byte("ora"), octet.Put(octet.Zig(-5)))
	r := octet.New(b)
	if r.Num(300) != 300 || r.Big(3) != 0x0a0b0c || string(r.Lump(3)) != "kin" || r.Small(2) != 0x0a0b || string(r.Take(3)) != "ora" || octet.Zag(r.Num(9)) != -5 {
		t.Error("what was put is not what is read")
	}
	checkPlace(t, r, len(b), 0, api.OK)
}

func TestFirstErrorStays(t *testing.T) { // P1.3, R9
	r := octet.New([]byte{4, 200, 1, 2})
	r.Num(4)
	if r.Num(9) != 0 {
		t.Error("a number above most")
	}
	checkPlace(t, r, 1, 3, api.ErrLong)
	checkDead(t, r)
	if len(r.Take(9)) != 0 || r.Err() != api.ErrLong {
		t.Error("a later error replaced the first one")
	}
}

func TestReaderOwnsItsBytes(t *testing.T) { // P1.3, R2
	b := spare(1, 2, 1, 7, 3)
	r := octet.New(b)
	first := r.Take(2)
	scribble(first)
	checkSpare(t, b, []byte{1, 2, 1, 7, 3})
	scribble(b)
	second := r.Lump(9)
	if !bytes.Equal(second, []byte{7}) {
		t.Error("the Reader shares the bytes of its argument or of a result")
	}
	scribble(second)
	if r.Num(9) != 3 {
		t.Error("the Reader shares the bytes of a Lump")
	}
	if first[0] != 0x55 {
		t.Error("two results share their bytes")
	}
}

func TestReadersAreApart(t *testing.T) { // P1.3, R3
	b := []byte{1, 2, 3}
	p, q := octet.New(b), octet.New(b)
	p.Take(9)
	checkPlace(t, p, 0, 3, api.ErrShort)
	if q.Num(9) != 1 {
		t.Error("one Reader changed another")
	}
	checkPlace(t, q, 1, 2, api.OK)
	checkPlace(t, octet.New(nil), 0, 0, api.OK)
}
