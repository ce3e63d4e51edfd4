package block_test

import (
	"bytes"
	"fmt"
	"math"
	"math/big"
	"slices"
	"testing"

	"kinora/api"
	"kinora/block"
)

// far returns numbers far from every limit, and those around the limits of Go's numbers.
func far() []int {
	return []int{math.MinInt, math.MinInt + 1, math.MinInt32 - 1, math.MinInt32, -1 << 20, -256, -4, -2, -1, math.MaxInt32, math.MaxInt32 + 1, 1<<32 + 8, 1<<40 + 1, math.MaxInt - 1, math.MaxInt}
}

// noRates, noCounts and noBits return the Rates, Channels and Bits that no format has.
func noRates() []int  { return append(far(), 0, 1<<20+1, 1<<20+2, 1<<21) }
func noCounts() []int { return append(far(), 0, 9, 10, 16, 24, 256, 1<<20) }
func noBits() []int   { return append(far(), 0, 1, 2, 3, 25, 26, 31, 32, 33, 64, 256) }

// format returns a format of so many channels and bits.
func format(channels, bits int) api.Format {
	return api.Format{Rate: 8000, Channels: channels, Bits: bits}
}

// low and high are the bounds of the samples of so many bits, in the document's words.
func low(bits int) int  { return -int(math.Pow(2, float64(bits-1))) }
func high(bits int) int { return int(math.Pow(2, float64(bits-1))) - 1 }

// noise returns n samples of so many bits without a pattern.
func noise(n, bits int, seed uint64) []int {
	l := make([]int, n)
	for i := range l {
		seed = seed*6364136223846793005 + 1442695040888963407
		l[i] = int(int64(seed) >> (64 - bits))
	}
	return l
}

// noisy returns a block of samples without a pattern.
func noisy(channels, n, bits int, seed uint64) api.Block {
	b := api.Block{Bits: bits}
	for c := range channels {
		b.Chans = append(b.Chans, noise(n, bits, seed+uint64(c)))
	}
	return b
}

// sound returns a block of the channels.
func sound(bits int, channels ...[]int) api.Block {
	return api.Block{Bits: bits, Chans: channels}
}

// still returns a block of samples 0.
func still(channels, n, bits int) api.Block {
	b := api.Block{Bits: bits}
	for range channels {
		b.Chans = append(b.Chans, make([]int, n))
	}
	return b
}

// same reports whether two blocks hold the same.
func same(a, b api.Block) bool {
	return a.Bits == b.Bits && slices.EqualFunc(a.Chans, b.Chans, slices.Equal[[]int])
}

// isZero reports whether b is the zero value.
func isZero(b api.Block) bool {
	return b.Bits == 0 && len(b.Chans) == 0
}

// clone returns a copy of b that shares nothing with it.
func clone(b api.Block) api.Block {
	c := api.Block{Bits: b.Bits}
	for _, channel := range b.Chans {
		c.Chans = append(c.Chans, slices.Clone(channel))
	}
	return c
}

// noBlocks returns blocks that are not valid, each by one thing only where that can be.
func noBlocks() map[string]api.Block {
	m := map[string]api.Block{
		"zero":                     {},
		"no channel":               {Bits: 8},
		"a list of no channels":    {Bits: 8, Chans: [][]int{}},
		"a nil channel":            {Bits: 8, Chans: [][]int{nil}},
		"an empty channel":         {Bits: 8, Chans: [][]int{{}}},
		"two empty channels":       {Bits: 8, Chans: [][]int{{}, nil}},
		"nine channels":            still(9, 1, 8),
		"many channels":            still(100, 2, 8),
		"nine empty channels":      still(9, 0, 8),
		"the first shorter":        sound(8, []int{1}, []int{1, 2}),
		"the second shorter":       sound(8, []int{1, 2}, []int{1}),
		"the last shorter":         sound(8, []int{1, 2}, []int{1, 2}, []int{1, 2}, []int{1}),
		"the middle one longer":    sound(8, []int{1, 2}, []int{1, 2, 3}, []int{1, 2}),
		"the first empty":          sound(8, nil, []int{1}),
		"the last empty":           sound(8, []int{1}, nil),
		"one sample too many":      still(1, 4097, 8),
		"too many in two":          still(2, 4097, 8),
		"far too many":             still(1, 1<<17, 8),
		"the second too long":      sound(8, make([]int, 4096), make([]int, 4097)),
		"a sample too high":        sound(4, []int{8}),
		"a sample too low":         sound(4, []int{-9}),
		"the last one too high":    sound(8, []int{0, 0, 0}, []int{0, 0, 128}),
		"the first one too low":    sound(8, []int{-129, 0, 0}, []int{0, 0, 0}),
		"the middle one too high":  sound(12, []int{0, 2048, 0}),
		"the least int":            sound(24, []int{0, math.MinInt}),
		"the greatest int":         sound(24, []int{math.MaxInt, 0}),
		"a sample of 32 bits more": sound(8, []int{1 << 32}),
		"the greatest of 31 bits":  sound(24, []int{1<<30 - 1}),
	}
	for _, bits := range noBits() {
		m[fmt.Sprint("bits ", bits)] = still(1, 1, bits)
	}
	return m
}

// checkBlock compares a block and an error with what they are to be.
func checkBlock(t *testing.T, what string, got api.Block, err api.Errno, want api.Block, wantErr api.Errno) {
	t.Helper()
	if err != wantErr || !same(got, want) {
		t.Errorf("%s: %v, error %d; want %v, error %d", what, got, err, want, wantErr)
	}
}

// checkNone checks that there is the error and no block.
func checkNone(t *testing.T, what string, got api.Block, err, want api.Errno) {
	t.Helper()
	if err != want || !isZero(got) {
		t.Errorf("%s: error %d, %d bits, %d channels; want error %d", what, err, got.Bits, len(got.Chans), want)
	}
}

func TestRightByTheRate(t *testing.T) { // P9.1, R7
	for _, rate := range []int{1, 2, 8000, 44100, 48000, 192000, 1<<20 - 1, 1 << 20} {
		if !block.Right(api.Format{Rate: rate, Channels: 2, Bits: 16}) {
			t.Error(rate, "is not right")
		}
	}
	for _, rate := range noRates() {
		if block.Right(api.Format{Rate: rate, Channels: 2, Bits: 16}) {
			t.Error(rate, "is right")
		}
	}
}

func TestRightByTheChannels(t *testing.T) { // P9.1, R7
	for channels := 1; channels <= 8; channels++ {
		if !block.Right(format(channels, 16)) {
			t.Error(channels, "are not right")
		}
	}
	for _, channels := range noCounts() {
		if block.Right(format(channels, 16)) {
			t.Error(channels, "are right")
		}
	}
}

func TestRightByTheBits(t *testing.T) { // P9.1, R7
	for bits := 4; bits <= 24; bits++ {
		if !block.Right(format(2, bits)) {
			t.Error(bits, "are not right")
		}
	}
	for _, bits := range noBits() {
		if block.Right(format(2, bits)) {
			t.Error(bits, "are right")
		}
	}
}

func TestRightAtAllBounds(t *testing.T) { // P9.1
	for _, rate := range []int{0, 1, 1 << 20, 1<<20 + 1} {
		for _, channels := range []int{0, 1, 8, 9} {
			for _, bits := range []int{3, 4, 24, 25} {
				want := rate != 0 && rate != 1<<20+1 && channels != 0 && channels != 9 && bits != 3 && bits != 25
				f := api.Format{Rate: rate, Channels: channels, Bits: bits}
				if block.Right(f) != want {
					t.Errorf("%+v is right: %v", f, !want)
				}
			}
		}
	}
}

func TestMayOfEachShape(t *testing.T) { // P9.1
	for channels := range 11 {
		for _, n := range []int{0, 1, 2, 3, 100, 4095, 4096, 4097, 5000} {
			want := channels >= 1 && channels <= 8 && n >= 1 && n <= 4096
			if block.May(still(channels, n, 16)) != want {
				t.Errorf("%d channels of %d samples may be: %v", channels, n, !want)
			}
		}
	}
}

func TestMayOfNoBlock(t *testing.T) { // P9.1, R1, R7
	for what, b := range noBlocks() {
		if block.May(b) {
			t.Error(what)
		}
	}
}

func TestMayByEachLength(t *testing.T) { // P9.1
	for channels := 2; channels <= 8; channels++ {
		for c := range channels {
			for _, n := range []int{0, 1, 4, 6, 4096} {
				b := still(channels, 5, 8)
				b.Chans[c] = make([]int, n)
				if block.May(b) {
					t.Errorf("channel %d of %d with %d samples, the others with 5", c, channels, n)
				}
			}
		}
	}
}

func TestMayAtTheBoundsOfEachSize(t *testing.T) { // P9.1
	for bits := 4; bits <= 24; bits++ {
		within := []int{low(bits), low(bits) + 1, -1, 0, 1, high(bits) - 1, high(bits)}
		if !block.May(sound(bits, within, make([]int, len(within)))) {
			t.Error(bits, "bits")
		}
		for _, x := range append(far(), low(bits)-1, high(bits)+1, 2*low(bits), 2*high(bits)) {
			if x >= low(bits) && x <= high(bits) {
				continue
			}
			for at := range 6 {
				b := still(2, 3, bits)
				b.Chans[at/3][at%3] = x
				if block.May(b) {
					t.Errorf("a sample %d of %d bits", x, bits)
				}
			}
		}
	}
}

func TestLen(t *testing.T) { // P9.1
	for _, x := range []struct {
		b    api.Block
		want int
	}{
		{api.Block{}, 0},
		{api.Block{Bits: 8, Chans: [][]int{}}, 0},
		{sound(8, nil), 0},
		{sound(8, nil, []int{1, 2, 3}), 0},
		{sound(8, []int{5}), 1},
		{sound(8, []int{5, 6, 7}, []int{1, 2, 3}), 3},
		{sound(-1, []int{5, 6, 7}, nil), 3},
		{sound(8, []int{1, 2}, []int{1, 2, 3}), 2},
		{sound(4, []int{math.MinInt, math.MaxInt, 9, 9}), 4},
		{still(1, 4096, 8), 4096},
		{still(2, 4097, 8), 4097},
		{still(20, 1<<16, 8), 1 << 16},
	} {
		if n := block.Len(x.b); n != x.want {
			t.Errorf("Len is %d, want %d", n, x.want)
		}
	}
}

// woven interleaves the channels of b in the document's words: for each index, the samples of all channels at it.
func woven(b api.Block) []int {
	l := make([]int, len(b.Chans)*len(b.Chans[0]))
	for c, channel := range b.Chans {
		for i, x := range channel {
			l[i*len(b.Chans)+c] = x
		}
	}
	return l
}

func TestWeaveOfKnownBlocks(t *testing.T) { // P9.2
	for _, x := range []struct {
		b    api.Block
		want []int
	}{
		{sound(8, []int{7}), []int{7}},
		{sound(8, []int{1, -2, 3}), []int{1, -2, 3}},
		{sound(8, []int{1, 2, 3}, []int{-1, -2, -3}), []int{1, -1, 2, -2, 3, -3}},
		{sound(8, []int{1, 2}, []int{3, 4}, []int{5, 6}), []int{1, 3, 5, 2, 4, 6}},
		{sound(4, []int{1}, []int{2}, []int{3}, []int{4}, []int{5}, []int{6}, []int{7}, []int{-8}), []int{1, 2, 3, 4, 5, 6, 7, -8}},
		{sound(24, []int{-1 << 23, 0}, []int{1, 1<<23 - 1}), []int{-1 << 23, 1, 0, 1<<23 - 1}},
	} {
		if l := block.Weave(x.b); !slices.Equal(l, x.want) {
			t.Errorf("%v is woven %v, want %v", x.b, l, x.want)
		}
		b, err := block.Part(x.want, format(len(x.b.Chans), x.b.Bits))
		checkBlock(t, "Part", b, err, x.b, api.OK)
	}
}

func TestWeaveAndPartOfEachShape(t *testing.T) { // P9.2
	for channels := 1; channels <= 8; channels++ {
		for _, n := range []int{1, 2, 3, 7, 8, 9, 1000, 4095, 4096} {
			b := noisy(channels, n, 4+(n+channels)%21, uint64(n))
			l := block.Weave(b)
			if !slices.Equal(l, woven(b)) {
				t.Errorf("%d channels of %d samples are woven otherwise", channels, n)
			}
			parted, err := block.Part(l, format(channels, b.Bits))
			checkBlock(t, "Part of Weave", parted, err, b, api.OK)
		}
	}
}

func TestWeaveOfPart(t *testing.T) { // P9.2
	for channels := 1; channels <= 8; channels++ {
		for n := 1; n <= 80; n++ {
			l := noise(n, 9, uint64(n))
			b, err := block.Part(l, format(channels, 9))
			if n%channels != 0 {
				checkNone(t, "a part of an index", b, err, api.ErrShort)
				continue
			}
			if err != api.OK || !block.May(b) || b.Bits != 9 || len(b.Chans) != channels || !slices.Equal(block.Weave(b), l) {
				t.Errorf("%d samples of %d channels: %v, error %d", n, channels, b, err)
			}
		}
	}
}

func TestWeaveOfNoBlock(t *testing.T) { // P9.2, R4
	for what, b := range noBlocks() {
		if l := block.Weave(b); len(l) != 0 {
			t.Errorf("%s: %d samples", what, len(l))
		}
	}
}

// noFormats returns formats that are not right.
func noFormats() []api.Format {
	l := []api.Format{{}, {Rate: 1}, {Channels: 1}, {Bits: 8}, {Rate: 1, Channels: 1}}
	for _, rate := range noRates() {
		l = append(l, api.Format{Rate: rate, Channels: 2, Bits: 16})
	}
	for _, channels := range noCounts() {
		l = append(l, format(channels, 16))
	}
	for _, bits := range noBits() {
		l = append(l, format(2, bits))
	}
	return l
}

func TestPartWithNoFormat(t *testing.T) { // P9.2, R1, R6
	for _, f := range noFormats() {
		// Each list has, with a right format, another error or none.
		for _, l := range [][]int{nil, {}, {1}, {1, 2}, {1, 2, 3}, {math.MinInt, math.MaxInt}, make([]int, 2*4097)} {
			b, err := block.Part(l, f)
			checkNone(t, fmt.Sprintf("%+v", f), b, err, api.ErrArg)
		}
	}
}

func TestErrorsOfPart(t *testing.T) { // P9.2, R4, R6
	for _, x := range []struct {
		what           string
		l              []int
		channels, bits int
		want           api.Errno
	}{
		{"nil", nil, 1, 8, api.ErrNone},
		{"empty", []int{}, 8, 24, api.ErrNone},
		{"one of two", []int{1}, 2, 8, api.ErrShort},
		{"seven of eight", make([]int, 7), 8, 8, api.ErrShort},
		{"nine of eight", make([]int, 9), 8, 8, api.ErrShort},
		{"one more than an index", make([]int, 4), 3, 8, api.ErrShort},
		{"short, of a sample that does not fit", []int{128}, 2, 8, api.ErrShort},
		{"short and too long", make([]int, 2*4096+1), 2, 8, api.ErrShort},
		{"short and far too long", make([]int, 2*5000+1), 2, 8, api.ErrShort},
		{"short, too long, and of a sample that does not fit", append(make([]int, 2*4097), 128), 2, 8, api.ErrShort},
		{"one too many", make([]int, 4097), 1, 8, api.ErrLong},
		{"one too many in two", make([]int, 2*4097), 2, 8, api.ErrLong},
		{"one too many in eight", make([]int, 8*4097), 8, 8, api.ErrLong},
		{"far too many", make([]int, 1<<18), 1, 8, api.ErrLong},
		{"too many, and the first does not fit", append([]int{128}, make([]int, 4096)...), 1, 8, api.ErrLong},
		{"too many, and the last does not fit", append(make([]int, 4096), -129), 1, 8, api.ErrLong},
		{"the only one does not fit", []int{8}, 1, 4, api.ErrRange},
		{"the first does not fit", []int{-9, 0}, 2, 4, api.ErrRange},
		{"the last does not fit", []int{0, 0, 0, 1 << 23}, 2, 24, api.ErrRange},
		{"the least int", []int{0, math.MinInt}, 1, 24, api.ErrRange},
		{"the greatest int", []int{math.MaxInt, 0}, 2, 24, api.ErrRange},
		{"the last of the most", append(make([]int, 8*4096-1), 128), 8, 8, api.ErrRange},
	} {
		b, err := block.Part(x.l, format(x.channels, x.bits))
		checkNone(t, x.what, b, err, x.want)
	}
}

func TestPartOfSamplesAtTheBounds(t *testing.T) { // P9.2
	for bits := 4; bits <= 24; bits++ {
		l := []int{low(bits), 0, high(bits), -1}
		b, err := block.Part(l, format(2, bits))
		checkBlock(t, "Part", b, err, sound(bits, []int{l[0], l[2]}, []int{l[1], l[3]}), api.OK)
		for _, x := range []int{low(bits) - 1, high(bits) + 1} {
			for at := range l {
				changed := slices.Clone(l)
				changed[at] = x
				b, err := block.Part(changed, format(2, bits))
				checkNone(t, fmt.Sprint(changed), b, err, api.ErrRange)
			}
		}
	}
}

func TestPartOfTheMostSamples(t *testing.T) { // P9.2
	for channels := 1; channels <= 8; channels++ {
		b, err := block.Part(make([]int, channels*4096), format(channels, 8))
		checkBlock(t, "Part", b, err, still(channels, 4096, 8), api.OK)
		b, err = block.Part(make([]int, channels*4097), format(channels, 8))
		checkNone(t, "Part", b, err, api.ErrLong)
	}
}

func TestPartHoldsNothingOfTheRate(t *testing.T) { // P9.2
	l := []int{1, 2}
	for _, rate := range []int{1, 44100, 1 << 20} {
		b, err := block.Part(l, api.Format{Rate: rate, Channels: 2, Bits: 8})
		checkBlock(t, "Part", b, err, sound(8, []int{1}, []int{2}), api.OK)
	}
}

func TestCutAtEachPlace(t *testing.T) { // P9.3
	for channels := 1; channels <= 8; channels++ {
		const n = 6
		b := noisy(channels, n, 12, 5)
		for from := -2; from <= n+2; from++ {
			for to := -2; to <= n+2; to++ {
				what := fmt.Sprintf("%d to %d", from, to)
				cut, err := block.Cut(b, api.Span{From: from, To: to})
				if from < 0 || from >= to || to > n {
					checkNone(t, what, cut, err, api.ErrRange)
					continue
				}
				want := api.Block{Bits: 12}
				for _, channel := range b.Chans {
					want.Chans = append(want.Chans, channel[from:to])
				}
				checkBlock(t, what, cut, err, want, api.OK)
			}
		}
	}
}

func TestCutFarOutside(t *testing.T) { // P9.3, R1, R7
	b := noisy(2, 5, 8, 1)
	for _, x := range far() {
		for _, y := range append(far(), 0, 1, 5, 6) {
			cut, err := block.Cut(b, api.Span{From: x, To: y})
			checkNone(t, "Cut", cut, err, api.ErrRange)
			cut, err = block.Cut(b, api.Span{From: y, To: x})
			checkNone(t, "Cut", cut, err, api.ErrRange)
		}
	}
}

func TestCutOfTheMost(t *testing.T) { // P9.3
	b := noisy(3, 4096, 24, 7)
	cut, err := block.Cut(b, api.Span{From: 0, To: 4096})
	checkBlock(t, "all", cut, err, b, api.OK)
	cut, err = block.Cut(b, api.Span{From: 4095, To: 4096})
	checkBlock(t, "the last", cut, err, sound(24, b.Chans[0][4095:], b.Chans[1][4095:], b.Chans[2][4095:]), api.OK)
	cut, err = block.Cut(b, api.Span{From: 4095, To: 4097})
	checkNone(t, "one more", cut, err, api.ErrRange)
}

func TestCutOfNoBlock(t *testing.T) { // P9.3, R6
	for what, b := range noBlocks() {
		for _, s := range []api.Span{{}, {From: 0, To: 1}, {From: 1, To: 0}, {From: -1, To: 1}, {From: 0, To: 4097}, {From: math.MinInt, To: math.MaxInt}} {
			cut, err := block.Cut(b, s)
			checkNone(t, what, cut, err, api.ErrArg)
		}
	}
}

func TestJoinOfKnownBlocks(t *testing.T) { // P9.3
	one, two := sound(8, []int{1, 2}, []int{-1, -2}), sound(8, []int{3}, []int{-3})
	b, err := block.Join(one, two)
	checkBlock(t, "Join", b, err, sound(8, []int{1, 2, 3}, []int{-1, -2, -3}), api.OK)
	b, err = block.Join(two, one)
	checkBlock(t, "Join", b, err, sound(8, []int{3, 1, 2}, []int{-3, -1, -2}), api.OK)
	b, err = block.Join(two, two)
	checkBlock(t, "of a block and itself", b, err, sound(8, []int{3, 3}, []int{-3, -3}), api.OK)
}

func TestJoinOfTwoCuts(t *testing.T) { // P9.3
	for channels := 1; channels <= 8; channels++ {
		for _, n := range []int{2, 3, 10, 4096} {
			b := noisy(channels, n, 16, uint64(n))
			for _, at := range []int{1, n / 2, n - 1} {
				head, err := block.Cut(b, api.Span{From: 0, To: at})
				if err != api.OK {
					t.Fatal(err)
				}
				tail, err := block.Cut(b, api.Span{From: at, To: n})
				if err != api.OK {
					t.Fatal(err)
				}
				joined, err := block.Join(head, tail)
				checkBlock(t, "Join of two Cuts", joined, err, b, api.OK)
			}
		}
	}
}

func TestCutsOfAJoin(t *testing.T) { // P9.3
	for n := 1; n <= 6; n++ {
		for m := 1; m <= 6; m++ {
			a, b := noisy(2, n, 10, uint64(n)), noisy(2, m, 10, uint64(m+9))
			joined, err := block.Join(a, b)
			if err != api.OK || !block.May(joined) || block.Len(joined) != n+m {
				t.Errorf("%d and %d samples: %d, error %d", n, m, block.Len(joined), err)
			}
			head, err := block.Cut(joined, api.Span{From: 0, To: n})
			checkBlock(t, "the head", head, err, a, api.OK)
			tail, err := block.Cut(joined, api.Span{From: n, To: n + m})
			checkBlock(t, "the tail", tail, err, b, api.OK)
		}
	}
}

func TestJoinOfDifferentBlocks(t *testing.T) { // P9.3, R6
	for bits := 4; bits <= 24; bits++ {
		for other := 4; other <= 24; other++ {
			if bits == other {
				continue
			}
			b, err := block.Join(still(2, 3, bits), still(2, 3, other))
			checkNone(t, "of other bits", b, err, api.ErrForm)
		}
	}
	for channels := 1; channels <= 8; channels++ {
		for other := 1; other <= 8; other++ {
			if channels == other {
				continue
			}
			b, err := block.Join(still(channels, 3, 8), still(other, 3, 8))
			checkNone(t, "of other channels", b, err, api.ErrForm)
			b, err = block.Join(still(channels, 4096, 8), still(other, 4096, 8))
			checkNone(t, "of other channels, and too long", b, err, api.ErrForm)
		}
	}
	b, err := block.Join(still(1, 4096, 8), still(1, 1, 9))
	checkNone(t, "of other bits, and too long", b, err, api.ErrForm)
}

func TestJoinOfNoBlock(t *testing.T) { // P9.3, R6
	// By their lengths, bits or channels each of the right ones has another error beside most of the others.
	for _, right := range []api.Block{still(1, 1, 8), still(2, 4096, 24), still(8, 3, 4)} {
		for what, b := range noBlocks() {
			joined, err := block.Join(right, b)
			checkNone(t, what, joined, err, api.ErrArg)
			joined, err = block.Join(b, right)
			checkNone(t, what, joined, err, api.ErrArg)
			joined, err = block.Join(b, b)
			checkNone(t, what, joined, err, api.ErrArg)
		}
	}
}

func TestJoinOfTheMost(t *testing.T) { // P9.3
	for _, n := range []int{1, 2, 2048, 4094, 4095} {
		a, b := noisy(2, n, 8, 3), noisy(2, 4096-n, 8, 4)
		joined, err := block.Join(a, b)
		want := sound(8, slices.Concat(a.Chans[0], b.Chans[0]), slices.Concat(a.Chans[1], b.Chans[1]))
		checkBlock(t, "just as many", joined, err, want, api.OK)
		joined, err = block.Join(a, still(2, 4097-n, 8))
		checkNone(t, "one more", joined, err, api.ErrLong)
	}
	joined, err := block.Join(still(1, 4096, 8), still(1, 4096, 8))
	checkNone(t, "twice as many", joined, err, api.ErrLong)
}

// packed returns the bytes of a block in the document's words.
func packed(b api.Block) []byte {
	var l []byte
	for _, x := range woven(b) {
		for i := 0; i < b.Bits; i += 8 {
			l = append(l, byte(x>>i))
		}
	}
	return l
}

// printOf is the Print of bytes in the document's words.
func printOf(l []byte) uint64 {
	p := new(big.Int).Sub(new(big.Int).Lsh(big.NewInt(1), 61), big.NewInt(1))
	h := new(big.Int)
	for _, c := range l {
		h.Mul(h, big.NewInt(1000003))
		h.Add(h, big.NewInt(int64(c)+1))
		h.Mod(h, p)
	}
	return h.Uint64()
}

func TestPackOfKnownBlocks(t *testing.T) { // P9.4
	for _, x := range []struct {
		b     api.Block
		want  []byte
		print uint64
	}{
		{sound(4, []int{0}), []byte{0}, 1},
		{sound(4, []int{-8}, []int{7}), []byte{0xf8, 7}, 0xf9*1000003 + 8},
		{sound(8, []int{1, 2, 3}, []int{-1, -2, -3}), []byte{1, 255, 2, 254, 3, 253}, 0},
		{sound(9, []int{-1, 255}), []byte{255, 255, 255, 0}, 0},
		{sound(16, []int{-32768}, []int{0x1234}), []byte{0, 0x80, 0x34, 0x12}, 0},
		{sound(17, []int{1, -2}), []byte{1, 0, 0, 254, 255, 255}, 0},
		{sound(24, []int{0x123456, -1 << 23}), []byte{0x56, 0x34, 0x12, 0, 0, 0x80}, 0},
	} {
		l, err := block.Pack(x.b)
		if err != api.OK || !bytes.Equal(l, x.want) {
			t.Errorf("Pack(%v): % x, error %d; want % x", x.b, l, err, x.want)
		}
		b, err := block.Unpack(x.want, format(len(x.b.Chans), x.b.Bits))
		checkBlock(t, "Unpack", b, err, x.b, api.OK)
		want := printOf(x.want)
		if x.print != 0 && x.print != want {
			t.Errorf("the Print of % x is %d, not %d", x.want, x.print, want)
		}
		if p := block.Print(x.b); p != want {
			t.Errorf("Print(%v) is %d, want %d", x.b, p, want)
		}
	}
}

func TestPackUnpackAndPrintOfEachShape(t *testing.T) { // P9.4
	for bits := 4; bits <= 24; bits++ {
		for channels := 1; channels <= 8; channels++ {
			for _, n := range []int{1, 2, 5, 64} {
				b := noisy(channels, n, bits, uint64(bits))
				b.Chans[0][0], b.Chans[channels-1][n-1] = low(bits), high(bits)
				l, err := block.Pack(b)
				want := packed(b)
				if err != api.OK || !bytes.Equal(l, want) {
					t.Errorf("%d channels of %d samples of %d bits: % x, error %d; want % x", channels, n, bits, l, err, want)
				}
				if block.Print(b) != printOf(want) {
					t.Errorf("%d channels of %d samples of %d bits have another Print", channels, n, bits)
				}
				unpacked, err := block.Unpack(l, format(channels, bits))
				checkBlock(t, "Unpack of Pack", unpacked, err, b, api.OK)
			}
		}
	}
}

func TestPackAndUnpackOfTheMost(t *testing.T) { // P9.4
	for _, bits := range []int{4, 16, 24} {
		b := noisy(8, 4096, bits, 11)
		l, err := block.Pack(b)
		if err != api.OK || !bytes.Equal(l, packed(b)) || block.Print(b) != printOf(l) {
			t.Errorf("the most samples of %d bits: error %d", bits, err)
		}
		unpacked, err := block.Unpack(l, format(8, bits))
		checkBlock(t, "Unpack", unpacked, err, b, api.OK)
		unpacked, err = block.Unpack(append(l, make([]byte, 8*((bits+7)/8))...), format(8, bits))
		checkNone(t, "one more of each", unpacked, err, api.ErrLong)
	}
}

func TestPackAndPrintOfNoBlock(t *testing.T) { // P9.4, R4
	for what, b := range noBlocks() {
		l, err := block.Pack(b)
		if err != api.ErrArg || len(l) != 0 {
			t.Errorf("%s: % x, error %d", what, l, err)
		}
		if p := block.Print(b); p != 0 {
			t.Errorf("%s: Print %d", what, p)
		}
	}
}

func TestUnpackWithNoFormat(t *testing.T) { // P9.4, R1, R6
	for _, f := range noFormats() {
		for _, l := range [][]byte{nil, {1}, {1, 2}, {1, 2, 3}, {1, 2, 3, 4}, {255, 127, 0, 128}, make([]byte, 1<<16)} {
			b, err := block.Unpack(l, f)
			checkNone(t, fmt.Sprintf("%+v", f), b, err, api.ErrArg)
		}
	}
}

func TestErrorsOfUnpack(t *testing.T) { // P9.4, R4, R6
	long := func(n int, ends ...byte) []byte { return append(make([]byte, n), ends...) }
	for _, x := range []struct {
		what           string
		l              []byte
		channels, bits int
		want           api.Errno
	}{
		{"nil", nil, 1, 8, api.ErrNone},
		{"empty", []byte{}, 8, 24, api.ErrNone},
		{"one byte of two", []byte{1}, 1, 9, api.ErrShort},
		{"one byte too many", []byte{1, 0, 2}, 1, 16, api.ErrShort},
		{"two bytes too many", []byte{1, 0, 0, 2, 0}, 1, 24, api.ErrShort},
		{"one byte too few", []byte{1, 0, 0, 2, 0}, 2, 17, api.ErrShort},
		{"one sample of two", []byte{1}, 2, 8, api.ErrShort},
		{"one sample of two, of two bytes", []byte{1, 0}, 2, 16, api.ErrShort},
		{"three samples of two, of three bytes", make([]byte, 9), 2, 24, api.ErrShort},
		{"half a sample, behind one that does not fit", []byte{0, 0x80, 0}, 1, 12, api.ErrShort},
		{"too many, and half a sample", long(2*4097, 0), 1, 12, api.ErrShort},
		{"no multiple, and too many", long(2*4097, 0), 2, 8, api.ErrShort},
		{"no multiple, and a sample that does not fit", []byte{8}, 2, 4, api.ErrRange},
		{"too many", make([]byte, 4097), 1, 8, api.ErrLong},
		{"too many of two bytes", make([]byte, 2*2*4097), 2, 16, api.ErrLong},
		{"too many, and a sample that does not fit", long(4096, 8), 1, 4, api.ErrRange},
		{"no multiple, too many, and a sample that does not fit", long(2*4097, 8), 2, 4, api.ErrRange},
		{"too high", []byte{8}, 1, 4, api.ErrRange},
		{"too low", []byte{0, 0xf7}, 2, 4, api.ErrRange},
		{"too high in two bytes", []byte{0, 8}, 1, 12, api.ErrRange},
		{"the high digits of another sign", []byte{0, 0x01}, 1, 8 + 1, api.ErrRange},
		{"too low in three bytes", []byte{0xff, 0xff, 0xfe}, 1, 17, api.ErrRange},
	} {
		b, err := block.Unpack(x.l, format(x.channels, x.bits))
		checkNone(t, x.what, b, err, x.want)
	}
}

func TestUnpackOfBytesCutAndLengthened(t *testing.T) { // P9.4
	for _, bits := range []int{4, 8, 9, 16, 17, 24} {
		size := (bits + 7) / 8
		for channels := 1; channels <= 8; channels++ {
			l, _ := block.Pack(noisy(channels, 3, bits, 2))
			l = append(l, make([]byte, channels*size)...)
			for n := range len(l) + 1 {
				b, err := block.Unpack(l[:n], format(channels, bits))
				switch {
				case n == 0:
					checkNone(t, "no bytes", b, err, api.ErrNone)
				case n%(size*channels) != 0:
					checkNone(t, "cut", b, err, api.ErrShort)
				case err != api.OK || block.Len(b) != n/size/channels:
					t.Errorf("%d bytes of %d channels of %d bits: %d samples, error %d", n, channels, bits, block.Len(b), err)
				default:
					again, err := block.Pack(b)
					if err != api.OK || !bytes.Equal(again, l[:n]) {
						t.Errorf("Pack of Unpack of % x: % x, error %d", l[:n], again, err)
					}
				}
			}
		}
	}
}

func TestUnpackOfAllShortBytes(t *testing.T) { // P9.4
	for bits := 4; bits <= 16; bits++ {
		for n := range 1 << 16 {
			l := []byte{byte(n), byte(n >> 8)}
			var want []int
			if bits <= 8 {
				want = []int{int(int8(n)), int(int8(n >> 8))}
			} else {
				want = []int{int(int16(n))}
			}
			b, err := block.Unpack(l, format(len(want), bits))
			if slices.Min(want) < low(bits) || slices.Max(want) > high(bits) {
				if err != api.ErrRange || !isZero(b) {
					t.Fatalf("% x of %d bits: %v, error %d", l, bits, b, err)
				}
				continue
			}
			if err != api.OK || b.Bits != bits || !slices.Equal(woven(b), want) {
				t.Fatalf("% x of %d bits: %v, error %d", l, bits, b, err)
			}
		}
	}
}

func TestPrintChangesWithEachSample(t *testing.T) { // P9.4
	b := noisy(3, 20, 8, 13)
	first := block.Print(b)
	for _, channel := range b.Chans {
		for i := range channel {
			channel[i] ^= 1
			if block.Print(b) == first {
				t.Error("another sample, the same Print")
			}
			channel[i] ^= 1
		}
	}
	if block.Print(b) != first {
		t.Error("the same samples, another Print")
	}
}

// adjacent returns a block whose channels lie one behind the other in one array, each in the spare capacity of the one before.
func adjacent(channels, n, bits int) api.Block {
	all := noise((channels+1)*n, bits, 21)
	b := api.Block{Bits: bits, Chans: make([][]int, channels, channels+2)}
	for c := range channels {
		b.Chans[c] = all[c*n : (c+1)*n]
	}
	return b
}

// whole returns what lies in a channel and behind it.
func whole(b api.Block) []int {
	return slices.Clone(b.Chans[0][:cap(b.Chans[0])])
}

func TestArgumentsStay(t *testing.T) { // R2, R3
	a, b := adjacent(3, 5, 16), adjacent(3, 4, 16)
	wasA, wasB := whole(a), whole(b)
	l := noise(20, 16, 2)
	wasL := slices.Clone(l)
	data, err := block.Pack(a)
	if err != api.OK {
		t.Fatal(err)
	}
	wasData := slices.Clone(data)
	for range 2 {
		joined, err := block.Join(a, b)
		checkBlock(t, "Join", joined, err, sound(16, slices.Concat(a.Chans[0], b.Chans[0]), slices.Concat(a.Chans[1], b.Chans[1]), slices.Concat(a.Chans[2], b.Chans[2])), api.OK)
		cut, err := block.Cut(a, api.Span{From: 1, To: 3})
		checkBlock(t, "Cut", cut, err, sound(16, a.Chans[0][1:3], a.Chans[1][1:3], a.Chans[2][1:3]), api.OK)
		parted, err := block.Part(l[:15], format(3, 16))
		if err != api.OK || !slices.Equal(woven(parted), l[:15]) {
			t.Error("Part")
		}
		unpacked, err := block.Unpack(data[:24], format(3, 16))
		if err != api.OK || !slices.Equal(woven(unpacked), woven(a)[:12]) {
			t.Error("Unpack")
		}
		if !block.May(a) || block.Len(a) != 5 || !slices.Equal(block.Weave(a), woven(a)) || block.Print(a) != printOf(data) {
			t.Error("a")
		}
		again, err := block.Pack(a)
		if err != api.OK || !bytes.Equal(again, data) {
			t.Error("Pack")
		}
	}
	if !slices.Equal(whole(a), wasA) || !slices.Equal(whole(b), wasB) || !slices.Equal(l, wasL) || !bytes.Equal(data, wasData) {
		t.Error("an argument, or what lies behind it, was changed")
	}
	for _, c := range [][][]int{a.Chans, b.Chans} {
		if c = c[:cap(c)]; c[3] != nil || c[4] != nil {
			t.Error("the spare capacity of the channels was changed")
		}
	}
}

// scribble writes into a slice and behind it.
func scribble[T int | byte](l []T) {
	l = l[:cap(l)]
	for i := range l {
		l[i] = 0x55
	}
}

// checkApart checks that writing into one channel of a result, and behind it, changes no other.
func checkApart(t *testing.T, what string, b api.Block, err api.Errno) {
	t.Helper()
	if err != api.OK || len(b.Chans) < 2 {
		t.Fatalf("%s: %d channels, error %d", what, len(b.Chans), err)
	}
	for c := range b.Chans {
		was := clone(b)
		was.Chans[c] = nil
		scribble(b.Chans[c])
		now := clone(b)
		now.Chans[c] = nil
		if !same(was, now) {
			t.Errorf("%s: channel %d shares its samples", what, c)
		}
	}
	chans := b.Chans[:cap(b.Chans)]
	for c := range chans {
		chans[c] = nil
	}
}

func TestResultsAreNew(t *testing.T) { // R2
	a, b := adjacent(3, 5, 16), adjacent(3, 4, 16)
	wasA, wasB := clone(a), clone(b)
	l := noise(15, 16, 2)
	wasL := slices.Clone(l)
	data, _ := block.Pack(a)
	wasData := slices.Clone(data)
	keep, err := block.Cut(a, api.Span{From: 0, To: 5})
	if err != api.OK {
		t.Fatal(err)
	}
	cut, err := block.Cut(a, api.Span{From: 0, To: 5})
	checkApart(t, "Cut", cut, err)
	joined, err := block.Join(a, b)
	checkApart(t, "Join", joined, err)
	twice, err := block.Join(b, b)
	checkApart(t, "Join of a block and itself", twice, err)
	parted, err := block.Part(l, format(3, 16))
	checkApart(t, "Part", parted, err)
	unpacked, err := block.Unpack(data, format(3, 16))
	checkApart(t, "Unpack", unpacked, err)
	scribble(block.Weave(a))
	again, _ := block.Pack(a)
	scribble(again)
	if !same(a, wasA) || !same(b, wasB) || !same(keep, wasA) || !slices.Equal(l, wasL) || !bytes.Equal(data, wasData) {
		t.Error("a result shares its slices with an argument or another result")
	}
}

func TestWeaveAndPartOfOneChannelAreNew(t *testing.T) { // P9.2, R2
	b := sound(8, []int{1, 2, 3})
	scribble(block.Weave(b))
	l := []int{1, 2, 3}
	parted, err := block.Part(l, format(1, 8))
	if err != api.OK {
		t.Fatal(err)
	}
	scribble(parted.Chans[0])
	if !same(b, sound(8, []int{1, 2, 3})) || !slices.Equal(l, []int{1, 2, 3}) {
		t.Error("a result shares its samples with the argument")
	}
}

func TestChannelsThatAreOneSlice(t *testing.T) { // P9.3, R2
	channel := []int{1, 2, 3}
	b := sound(8, channel, channel)
	cut, err := block.Cut(b, api.Span{From: 0, To: 2})
	checkApart(t, "Cut", cut, err)
	joined, err := block.Join(b, b)
	checkApart(t, "Join", joined, err)
	if !slices.Equal(channel, []int{1, 2, 3}) {
		t.Error("a result shares its samples with the argument")
	}
}
