package arith_test

import (
	"bytes"
	"fmt"
	"math"
	"math/big"
	"slices"
	"testing"

	"kinora/api"
	"kinora/arith"
)

// model is a Coder in the document's words.
type model struct {
	low           *big.Int
	width, shifts int
	odds          []int
}

func newModel(contexts int) *model {
	return &model{big.NewInt(0), 1<<32 - 1, 0, firstOdds(contexts)}
}

// firstOdds returns the Odds of so many contexts before the first bit.
func firstOdds(contexts int) []int {
	odds := make([]int, contexts)
	for ctx := range odds {
		odds[ctx] = 2048
	}
	return odds
}

// encode changes Low and Width by a bit.
func (m *model) encode(bound, bit int) {
	if bit == 0 {
		m.width = bound
	} else {
		m.low.Add(m.low, big.NewInt(int64(bound)))
		m.width -= bound
	}
	for m.width < 1<<24 {
		m.low.Mul(m.low, big.NewInt(256))
		m.width *= 256
		m.shifts++
	}
}

func (m *model) put(ctx, bit int) {
	m.encode(m.width/4096*m.odds[ctx], bit)
	m.odds[ctx] = learnt(m.odds[ctx], bit)
}

// learnt returns what Odds become by a bit.
func learnt(odds, bit int) int {
	if bit == 0 {
		return odds + (4096-odds)/32
	}
	return odds - odds/32
}

func (m *model) raw(v uint64, n int) {
	for _, digit := range digits(v, n) {
		m.encode(m.width/2, int(digit-'0'))
	}
}

func (m *model) number(ctx int, v uint64) {
	behind := digitsBehindFirst(v + 1)
	for i := range len(behind) {
		m.put(ctx+i, 1)
	}
	if len(behind) < 32 {
		m.put(ctx+len(behind), 0)
	}
	for _, digit := range behind {
		m.encode(m.width/2, int(digit-'0'))
	}
}

// digits returns v as n binary digits.
func digits(v uint64, n int) string {
	if n == 0 {
		return ""
	}
	return fmt.Sprintf("%0*b", n, v)
}

// digitsBehindFirst returns the binary digits of v but the first one.
func digitsBehindFirst(v uint64) string {
	return fmt.Sprintf("%b", v)[1:]
}

func (m *model) bytes() []byte {
	return m.low.FillBytes(make([]byte, 4+m.shifts))
}

// reading is a Decoder in the document's words. An error in the midst of a number leaves it anywhere.
type reading struct {
	b               []byte
	at              int
	value, width    int
	odds            []int
	err             api.Errno
	promisesNothing bool // about Odds and Left
}

func newReading(b []byte, contexts int) *reading {
	value := int(b[0])<<24 + int(b[1])<<16 + int(b[2])<<8 + int(b[3])
	return &reading{b: b, at: 4, value: value, width: 1<<32 - 1, odds: firstOdds(contexts)}
}

// decode returns a bit, or false if there is no next byte.
func (r *reading) decode(bound int) (int, bool) {
	bit, value, width, at := 0, r.value, bound, r.at
	if r.value >= bound {
		bit, value, width = 1, r.value-bound, r.width-bound
	}
	for width < 1<<24 {
		if at == len(r.b) {
			return 0, false
		}
		value = 256*value + int(r.b[at])
		width *= 256
		at++
	}
	r.value, r.width, r.at = value, width, at
	return bit, true
}

func (r *reading) get(ctx int) int {
	if r.err != api.OK {
		return 0
	}
	if ctx < 0 || ctx >= len(r.odds) {
		r.err = api.ErrArg
		return 0
	}
	bit, ok := r.decode(r.width / 4096 * r.odds[ctx])
	if !ok {
		r.err = api.ErrShort
		return 0
	}
	r.odds[ctx] = learnt(r.odds[ctx], bit)
	return bit
}

func (r *reading) raw(n int) uint64 {
	if r.err != api.OK {
		return 0
	}
	if n < 0 || n > 32 {
		r.err, r.promisesNothing = api.ErrArg, true
		return 0
	}
	v := uint64(0)
	for range n {
		bit, ok := r.decode(r.width / 2)
		if !ok {
			r.err, r.promisesNothing = api.ErrShort, true
			return 0
		}
		v = 2*v + uint64(bit)
	}
	return v
}

func (r *reading) number(ctx int, most uint64) uint64 {
	if r.err != api.OK {
		return 0
	}
	v := uint64(0)
	if ctx < 0 || ctx >= len(r.odds)-32 {
		r.err = api.ErrArg
	} else {
		d := 0
		for d < 32 && r.get(ctx+d) == 1 {
			d++
		}
		v = 1<<d + r.raw(d) - 1
	}
	if r.err == api.OK && v > most {
		r.err = api.ErrForm
	}
	if r.err != api.OK {
		r.promisesNothing = true
		return 0
	}
	return v
}

func (r *reading) left() int { return len(r.b) - r.at }

// The kinds of steps.
const (
	oneBit = iota
	rawBits
	aNumber
)

// step is a call of a Coder, and the one of a Decoder that reads what it wrote.
type step struct {
	kind int
	ctx  int // of a bit or a number
	v    uint64
	n    int // of raw bits
}

// told returns the error with which a Coder answers a step.
func (s step) told(c *arith.Coder) api.Errno {
	switch s.kind {
	case oneBit:
		return c.Put(s.ctx, int(s.v))
	case rawBits:
		return c.Raw(s.v, s.n)
	}
	return c.Number(s.ctx, s.v)
}

func (s step) toldModel(m *model) {
	switch s.kind {
	case oneBit:
		m.put(s.ctx, int(s.v))
	case rawBits:
		m.raw(s.v, s.n)
	default:
		m.number(s.ctx, s.v)
	}
}

// asked returns what a Decoder answers a step.
func (s step) asked(d *arith.Decoder, most uint64) uint64 {
	switch s.kind {
	case oneBit:
		return uint64(d.Get(s.ctx))
	case rawBits:
		return d.Raw(s.n)
	}
	return d.Number(s.ctx, most)
}

func (s step) askedReading(r *reading, most uint64) uint64 {
	switch s.kind {
	case oneBit:
		return uint64(r.get(s.ctx))
	case rawBits:
		return r.raw(s.n)
	}
	return r.number(s.ctx, most)
}

// draws are numbers without a pattern.
type draws struct{ seed uint64 }

func (d *draws) below(n int) int {
	d.seed = d.seed*6364136223846793005 + 1442695040888963407
	return int(d.seed >> 33 % uint64(n))
}

// bits returns a number of at most n digits, of as few of them as there may be as well.
func (d *draws) bits(n int) uint64 {
	v := uint64(d.below(1<<16))<<16 + uint64(d.below(1<<16))
	return v >> (32 - d.below(n+1))
}

// mixed returns n steps of all kinds; of 16 bits, so many are 1.
func mixed(n, contexts, ones int, d *draws) []step {
	steps := make([]step, n)
	for i := range steps {
		s := step{kind: d.below(3)}
		if s.kind == aNumber && contexts < 33 {
			s.kind = oneBit
		}
		switch s.kind {
		case oneBit:
			s.ctx = d.below(contexts)
			if d.below(16) < ones {
				s.v = 1
			}
		case rawBits:
			s.n = d.below(33)
			s.v = d.bits(s.n)
		case aNumber:
			s.ctx = d.below(contexts - 32)
			s.v = d.bits(32)
		}
		steps[i] = s
	}
	return steps
}

// bitsOf returns a step for each bit of a text of 0 and 1, all in one context.
func bitsOf(ctx int, text string) []step {
	var steps []step
	for _, digit := range text {
		steps = append(steps, step{kind: oneBit, ctx: ctx, v: uint64(digit - '0')})
	}
	return steps
}

// newCoder returns a Coder of so many contexts.
func newCoder(t *testing.T, contexts int) *arith.Coder {
	t.Helper()
	c, err := arith.NewCoder(contexts)
	if err != api.OK || c == nil {
		t.Fatalf("NewCoder(%d): %v, error %d", contexts, c, err)
	}
	return c
}

// newDecoder returns a Decoder of so many contexts.
func newDecoder(t *testing.T, b []byte, contexts int) *arith.Decoder {
	t.Helper()
	d, err := arith.NewDecoder(b, contexts)
	if err != api.OK || d == nil {
		t.Fatalf("NewDecoder(%x, %d): %v, error %d", b, contexts, d, err)
	}
	if d.Left() != len(b)-4 || d.Err() != api.OK {
		t.Fatalf("NewDecoder(%x, %d): Left %d, Err %d", b, contexts, d.Left(), d.Err())
	}
	return d
}

// coded returns a Coder that was told steps.
func coded(t *testing.T, contexts int, steps []step) *arith.Coder {
	t.Helper()
	c := newCoder(t, contexts)
	for i, s := range steps {
		if err := s.told(c); err != api.OK {
			t.Fatalf("step %d, %+v: error %d", i, s, err)
		}
	}
	return c
}

// modelled returns a model that was told steps.
func modelled(contexts int, steps []step) *model {
	m := newModel(contexts)
	for _, s := range steps {
		s.toldModel(m)
	}
	return m
}

// oddsOf returns the Odds of so many contexts of a Coder or a Decoder.
func oddsOf(x interface{ Odds(int) int }, contexts int) []int {
	odds := make([]int, contexts)
	for ctx := range odds {
		odds[ctx] = x.Odds(ctx)
	}
	return odds
}

// checkLike compares a Coder with a model.
func checkLike(t *testing.T, c *arith.Coder, m *model) {
	t.Helper()
	if got, want := c.Bytes(), m.bytes(); !bytes.Equal(got, want) {
		t.Errorf("Bytes are %x, want %x", got, want)
	}
	checkOdds(t, c, m.odds)
}

// checkOdds compares the Odds of a Coder or a Decoder with those of all contexts.
func checkOdds(t *testing.T, x interface{ Odds(int) int }, want []int) {
	t.Helper()
	if got := oddsOf(x, len(want)); !slices.Equal(got, want) {
		t.Errorf("Odds are %d, want %d", got, want)
	}
	for _, ctx := range noContexts(len(want)) {
		if x.Odds(ctx) != 0 {
			t.Errorf("Odds(%d) of %d contexts is %d", ctx, len(want), x.Odds(ctx))
		}
	}
}

// checkBack has a Decoder read what a Coder was told.
func checkBack(t *testing.T, c *arith.Coder, contexts int, steps []step) {
	t.Helper()
	b := c.Bytes()
	d := newDecoder(t, b, contexts)
	r := newReading(b, contexts)
	for i, s := range steps {
		if got := s.asked(d, math.MaxUint32); got != s.v || d.Err() != api.OK {
			t.Fatalf("step %d, %+v: %d, error %d", i, s, got, d.Err())
		}
		s.askedReading(r, math.MaxUint32)
		if d.Left() != r.left() {
			t.Fatalf("step %d, %+v: Left is %d, want %d", i, s, d.Left(), r.left())
		}
	}
	if d.Left() != 0 {
		t.Errorf("Left is %d at the end", d.Left())
	}
	checkOdds(t, d, oddsOf(c, contexts))
}

// checkSame compares a Decoder with a reading after the same calls.
func checkSame(t *testing.T, d *arith.Decoder, r *reading) {
	t.Helper()
	if d.Err() != r.err {
		t.Fatalf("Err is %d, want %d", d.Err(), r.err)
	}
	if r.promisesNothing {
		return
	}
	if d.Left() != r.left() {
		t.Errorf("Left is %d, want %d", d.Left(), r.left())
	}
	checkOdds(t, d, r.odds)
}

// checkDead calls everything that reads: after the first error none of it may return or change anything.
func checkDead(t *testing.T, d *arith.Decoder, contexts int) {
	t.Helper()
	left, err, odds := d.Left(), d.Err(), oddsOf(d, contexts)
	if err == api.OK {
		t.Error("no error")
	}
	for _, x := range []int{0, 1, contexts - 33, contexts - 1, contexts, -1, 8, 32, 33, math.MaxInt, math.MinInt} {
		if d.Get(x) != 0 || d.Raw(x) != 0 || d.Number(x, math.MaxUint64) != 0 || d.Number(x, 0) != 0 {
			t.Errorf("something is read after the first error (%d)", x)
		}
		if d.Left() != left || d.Err() != err {
			t.Errorf("Left %d, Err %d after the first error; want %d, %d", d.Left(), d.Err(), left, err)
		}
		checkOdds(t, d, odds)
	}
}

// scribble writes into b and into its spare capacity.
func scribble(b []byte) {
	b = b[:cap(b)]
	for i := range b {
		b[i] ^= 0x5a
	}
}

// noContexts returns numbers that no context of so many has.
func noContexts(contexts int) []int {
	return []int{-1, -2, -32, -33, -contexts, -1 << 32, math.MinInt32, math.MinInt + 1, math.MinInt, contexts, contexts + 1, contexts + 31, contexts + 32, 1 << 16, 1 << 31, 1 << 32, 1<<32 + 1, math.MaxInt - 33, math.MaxInt - 32, math.MaxInt - 31, math.MaxInt - 1, math.MaxInt}
}

// noNumbersOfContexts returns numbers of contexts that there cannot be.
func noNumbersOfContexts() []int {
	return []int{0, -1, -2, -4096, math.MinInt32, math.MinInt + 1, math.MinInt, 4097, 4098, 8192, 1 << 16, 1<<16 + 1, 1 << 32, 1<<32 + 1, math.MaxInt - 1, math.MaxInt}
}

func TestNewCoder(t *testing.T) { // P8.1
	for _, contexts := range []int{1, 2, 3, 32, 33, 429, 4095, 4096} {
		c := newCoder(t, contexts)
		checkLike(t, c, newModel(contexts))
		if !bytes.Equal(c.Bytes(), []byte{0, 0, 0, 0}) {
			t.Errorf("Bytes of a new Coder are %x", c.Bytes())
		}
	}
	for _, contexts := range noNumbersOfContexts() {
		if c, err := arith.NewCoder(contexts); c != nil || err != api.ErrArg {
			t.Errorf("NewCoder(%d): %v, error %d", contexts, c, err)
		}
	}
}

// TestFirstBytes computes Low by hand.
func TestFirstBytes(t *testing.T) { // P8.1, P8.2
	for _, x := range []struct {
		steps []step
		odds  int
		want  []byte
	}{
		{bitsOf(0, "0"), 2112, []byte{0, 0, 0, 0}},
		// The 4096th part of ffffffff is fffff; times 800 this is 7ffff800, which leaves a Width of 800007ff.
		{bitsOf(0, "1"), 1984, []byte{0x7f, 0xff, 0xf8, 0x00}},
		{bitsOf(0, "10"), 2050, []byte{0x7f, 0xff, 0xf8, 0x00}},
		// Its 4096th part is 80000; times 7c0 this is 3e000000.
		{bitsOf(0, "11"), 1922, []byte{0xbd, 0xff, 0xf8, 0x00}},
		// The 4096th part of 7ffff800 is 7ffff; times 840 this is 41fff7c0.
		{bitsOf(0, "01"), 2046, []byte{0x41, 0xff, 0xf7, 0xc0}},
		{[]step{{kind: rawBits, v: 1, n: 1}}, 2048, []byte{0x7f, 0xff, 0xff, 0xff}},
		{[]step{{kind: rawBits, v: 3, n: 2}}, 2048, []byte{0xbf, 0xff, 0xff, 0xff}},
		{[]step{{kind: rawBits, v: 1, n: 2}}, 2048, []byte{0x3f, 0xff, 0xff, 0xff}},
		{[]step{{kind: aNumber, v: 0}}, 2112, []byte{0, 0, 0, 0}},
	} {
		contexts := 33
		c := coded(t, contexts, x.steps)
		if !bytes.Equal(c.Bytes(), x.want) || c.Odds(0) != x.odds {
			t.Errorf("%+v: %x, Odds %d; want %x, %d", x.steps, c.Bytes(), c.Odds(0), x.want, x.odds)
		}
	}
}

func TestEachTextOfBits(t *testing.T) { // P8.1, P8.4
	for n := range 13 {
		for v := range uint64(1) << n {
			steps := bitsOf(0, digits(v, n))
			c := coded(t, 1, steps)
			checkLike(t, c, modelled(1, steps))
			checkBack(t, c, 1, steps)
		}
	}
}

func TestPutRefuses(t *testing.T) { // P8.1, R5
	contexts := 40
	d := &draws{1}
	before, behind := mixed(50, contexts, 8, d), mixed(50, contexts, 8, d)
	c := coded(t, contexts, before)
	m := modelled(contexts, before)
	refused := func(ctx, bit int) {
		t.Helper()
		if err := c.Put(ctx, bit); err != api.ErrArg {
			t.Errorf("Put(%d, %d): error %d", ctx, bit, err)
		}
		checkLike(t, c, m)
	}
	for _, ctx := range noContexts(contexts) {
		for _, bit := range []int{0, 1, 2, -1} {
			refused(ctx, bit)
		}
	}
	for _, bit := range []int{2, 3, -1, -2, 255, 256, 257, 1 << 32, 1<<32 + 1, math.MinInt, math.MinInt + 1, math.MaxInt, math.MaxInt - 1} {
		for _, ctx := range []int{0, 1, contexts - 1} {
			refused(ctx, bit)
		}
	}
	// Width has not changed either.
	for _, s := range behind {
		s.told(c)
		s.toldModel(m)
	}
	checkLike(t, c, m)
	checkBack(t, c, contexts, slices.Concat(before, behind))
}

func TestOddsOfManyBits(t *testing.T) { // P8.1
	for _, x := range []struct {
		bit   int
		first []int
		last  int
	}{
		{0, []int{2048, 2112, 2174, 2234}, 4065},
		{1, []int{2048, 1984, 1922, 1862}, 31},
	} {
		c := newCoder(t, 3)
		var odds []int
		for range 1000 {
			odds = append(odds, c.Odds(1))
			if err := c.Put(1, x.bit); err != api.OK {
				t.Fatalf("Put(1, %d): error %d", x.bit, err)
			}
			checkOdds(t, c, []int{2048, c.Odds(1), 2048})
		}
		if !slices.Equal(odds[:len(x.first)], x.first) || odds[999] != x.last || c.Odds(1) != x.last {
			t.Errorf("Odds after bits %d are %d, .., %d; want %d, .., %d", x.bit, odds[:len(x.first)], c.Odds(1), x.first, x.last)
		}
		// From there all the way to the other end.
		for range 1000 {
			want := learnt(c.Odds(1), 1-x.bit)
			if err := c.Put(1, 1-x.bit); err != api.OK || c.Odds(1) != want {
				t.Fatalf("Odds are %d, want %d", c.Odds(1), want)
			}
		}
		if c.Odds(1) != 4065+31-x.last {
			t.Errorf("Odds end at %d", c.Odds(1))
		}
	}
}

func TestContextsLearnAlone(t *testing.T) { // P8.1
	contexts := api.MaxContexts
	c := newCoder(t, contexts)
	m := newModel(contexts)
	for _, ctx := range []int{0, 1, 4095, 4094, 4095, 0, 0, 2048} {
		for bit := range 2 {
			for range ctx%3 + 1 {
				if err := c.Put(ctx, bit); err != api.OK {
					t.Errorf("Put(%d, %d): error %d", ctx, bit, err)
				}
				m.put(ctx, bit)
			}
		}
	}
	checkLike(t, c, m)
}

func TestCodersAreApart(t *testing.T) { // P8.1, R3
	one, other := newCoder(t, 4), newCoder(t, 4)
	steps := mixed(200, 4, 5, &draws{2})
	for _, s := range steps {
		s.told(one)
	}
	checkLike(t, other, newModel(4))
	for _, s := range steps {
		s.told(other)
	}
	if !bytes.Equal(one.Bytes(), other.Bytes()) {
		t.Error("two Coders that were told the same differ")
	}
	b := one.Bytes()
	first, second := newDecoder(t, b, 4), newDecoder(t, b, 4)
	for _, s := range steps {
		s.asked(first, math.MaxUint32)
	}
	if second.Left() != len(b)-4 {
		t.Errorf("Left of a new Decoder is %d", second.Left())
	}
	checkOdds(t, second, firstOdds(4))
}

// TestWidthAtItsLeast halves Width exactly to 2^24 and to one less.
func TestWidthAtItsLeast(t *testing.T) { // P8.1, P8.2, P8.3
	for _, x := range []struct {
		v      uint64
		n      int
		shifts int
	}{
		{0x00, 7, 0}, // 2^25 - 1
		{0x00, 8, 1}, // 2^24 - 1
		{0x7f, 7, 0}, // 2^25
		{0xff, 8, 0}, // 2^24
		{0xfe, 8, 0}, // 2^24
		{0x7f, 8, 0}, // 2^24, as 2^31 - 1 has an odd half
		{0x1fe, 9, 1},
		{0x1ff, 9, 1}, // 2^23
		{0x3ff, 10, 1},
	} {
		steps := []step{{kind: rawBits, v: x.v, n: x.n}}
		c := coded(t, 1, steps)
		if len(c.Bytes()) != 4+x.shifts {
			t.Errorf("Raw(%#x, %d): %d bytes, want %d", x.v, x.n, len(c.Bytes()), 4+x.shifts)
		}
		checkLike(t, c, modelled(1, steps))
		checkBack(t, c, 1, steps)
		// The Decoder asks for a byte when the Coder was shifted, no earlier.
		r := newDecoder(t, c.Bytes()[:4], 1)
		got := r.Raw(x.n)
		if x.shifts == 0 && (got != x.v || r.Err() != api.OK) || x.shifts > 0 && (got != 0 || r.Err() != api.ErrShort) {
			t.Errorf("Raw(%d) of %x: %#x, error %d", x.n, c.Bytes()[:4], got, r.Err())
		}
	}
}

// towards returns n steps after each of which Low is still below edge, and Low and Width together are not, so that Low
// comes ever closer to it. (When the Coder is shifted, edge is multiplied by 256 as well.)
func towards(edge *big.Int, n int, next func(i int) step) []step {
	m := newModel(1)
	var steps []step
	for i := range n {
		s := next(i)
		bound := m.width / 2
		if s.kind == oneBit {
			bound = m.width / 4096 * m.odds[0]
		}
		at := new(big.Int).Lsh(edge, uint(8*m.shifts))
		if at.Sub(at, m.low).Cmp(big.NewInt(int64(bound))) > 0 {
			s.v = 1
		}
		s.toldModel(m)
		steps = append(steps, s)
	}
	return steps
}

// carried returns the number of digits that change from ff to 00.
func carried(before, after []byte) int {
	n := 0
	for i := range before {
		if before[i] == 0xff && after[i] == 0 {
			n++
		}
	}
	return n
}

// TestCarry has Low come close to a number from below, digit by digit ff, and then go beyond it.
func TestCarry(t *testing.T) { // P8.1, P8.2, P8.4
	nexts := []func(i int) step{
		func(int) step { return step{kind: oneBit} },
		func(int) step { return step{kind: rawBits, n: 1} },
		func(i int) step { return step{kind: i / 3 % 2, n: i / 3 % 2} },
	}
	longest := 0
	for _, first := range []int64{1, 0x01000000, 0x80000000, 0x7fff0000, 0xff000000, 0xfffffffe, 0x00010000} {
		for _, next := range nexts {
			for _, n := range []int{0, 1, 5, 9, 20, 50, 100, 200} {
				steps := towards(big.NewInt(first), n, next)
				c := coded(t, 1, steps)
				before := c.Bytes()
				for range 20 {
					s := next(0)
					s.v = 1
					steps = append(steps, s)
					s.told(c)
					checkLike(t, c, modelled(1, steps))
					if after := c.Bytes(); after[0] != before[0] {
						longest = max(longest, carried(before, after))
					}
				}
				checkBack(t, c, 1, steps)
			}
		}
	}
	if longest < 10 {
		t.Errorf("the longest carry up to the first digit ran through %d digits", longest)
	}
}

func TestRaw(t *testing.T) { // P8.2, P8.3, P8.4
	ahead := bitsOf(2, "0110")
	for n := range 33 {
		top := uint64(1)<<n - 1
		for _, v := range []uint64{0, 1 & top, top, top >> 1, top - top>>1, 0x9e3779b9 & top, 0xaaaaaaaa & top} {
			steps := append(slices.Clone(ahead), step{kind: rawBits, v: v, n: n})
			c := coded(t, 3, steps)
			checkLike(t, c, modelled(3, steps))
			checkBack(t, c, 3, steps)
			one := slices.Clone(ahead)
			for _, digit := range digits(v, n) {
				one = append(one, step{kind: rawBits, v: uint64(digit - '0'), n: 1})
			}
			if !bytes.Equal(coded(t, 3, one).Bytes(), c.Bytes()) {
				t.Errorf("Raw(%#x, %d) differs from its bits", v, n)
			}
			checkOdds(t, c, []int{2048, 2048, coded(t, 3, ahead).Odds(2)})
		}
	}
}

func TestRawRefuses(t *testing.T) { // P8.2, R5
	contexts := 2
	before := mixed(30, contexts, 8, &draws{3})
	c := coded(t, contexts, before)
	m := modelled(contexts, before)
	refused := func(v uint64, n int) {
		t.Helper()
		if err := c.Raw(v, n); err != api.ErrArg {
			t.Errorf("Raw(%#x, %d): error %d", v, n, err)
		}
		checkLike(t, c, m)
	}
	for n := range 33 {
		for _, v := range []uint64{1 << n, 1<<n + 1, 1 << 32, 1<<32 + 1, 1 << 63, math.MaxUint64} {
			refused(v, n)
		}
	}
	for _, n := range noNumbersOfBits() {
		for _, v := range []uint64{0, 1, 1<<32 - 1, 1 << 32, math.MaxUint64} {
			refused(v, n)
		}
	}
	s := step{kind: rawBits, v: 5, n: 3}
	s.told(c)
	s.toldModel(m)
	checkLike(t, c, m)
}

// noNumbersOfBits returns how many raw bits there cannot be.
func noNumbersOfBits() []int {
	return []int{-1, -2, -32, -33, -1 << 32, math.MinInt32, math.MinInt + 1, math.MinInt, 33, 34, 63, 64, 65, 256, 1 << 32, 1<<32 + 8, math.MaxInt - 1, math.MaxInt}
}

// numbers returns numbers below 2^32: those around each power of 2.
func numbers() []uint64 {
	l := []uint64{0, 1, 2, 3, 1<<32 - 1, 1<<32 - 2, 1<<32 - 3, 0x9e3779b9, 0xaaaaaaaa}
	for n := 2; n < 32; n++ {
		l = append(l, 1<<n-2, 1<<n-1, 1<<n, 1<<n+1)
	}
	return l
}

func TestNumber(t *testing.T) { // P8.2, P8.3, P8.4
	contexts := 40
	ahead := mixed(20, contexts, 8, &draws{4})
	for _, v := range numbers() {
		for _, ctx := range []int{0, 1, 7} {
			steps := append(slices.Clone(ahead), step{kind: aNumber, ctx: ctx, v: v}, step{kind: aNumber, ctx: ctx, v: v})
			c := coded(t, contexts, steps)
			checkLike(t, c, modelled(contexts, steps))
			checkBack(t, c, contexts, steps)
		}
	}
}

// TestNumberIsBits holds a number against the bits of which it consists.
func TestNumberIsBits(t *testing.T) { // P8.2
	for _, x := range []struct {
		v   uint64
		are []step
	}{
		{0, bitsOf(5, "0")},
		{1, []step{{v: 1, ctx: 5}, {ctx: 6}, {kind: rawBits, v: 0, n: 1}}},
		{2, []step{{v: 1, ctx: 5}, {ctx: 6}, {kind: rawBits, v: 1, n: 1}}},
		{3, []step{{v: 1, ctx: 5}, {v: 1, ctx: 6}, {ctx: 7}, {kind: rawBits, v: 0, n: 2}}},
		{12, []step{{v: 1, ctx: 5}, {v: 1, ctx: 6}, {v: 1, ctx: 7}, {ctx: 8}, {kind: rawBits, v: 5, n: 3}}},
	} {
		c, bits := coded(t, 40, []step{{kind: aNumber, ctx: 5, v: x.v}}), coded(t, 40, x.are)
		if !bytes.Equal(c.Bytes(), bits.Bytes()) {
			t.Errorf("Number of %d: %x, its bits: %x", x.v, c.Bytes(), bits.Bytes())
		}
		checkOdds(t, c, oddsOf(bits, 40))
	}
	// The greatest number fills all 32 contexts, and none behind them.
	for v := uint64(1<<32 - 2); v < 1<<32; v++ {
		c := coded(t, 40, []step{{kind: aNumber, ctx: 5, v: v}})
		want := firstOdds(40)
		for ctx := 5; ctx < 37; ctx++ {
			want[ctx] = 1984
		}
		if v < 1<<32-1 {
			want[36] = 2112
		}
		checkOdds(t, c, want)
	}
}

func TestNumberRefuses(t *testing.T) { // P8.2, R5
	for _, contexts := range []int{1, 2, 31, 32, 33, 34, 40, 4096} {
		before := mixed(30, contexts, 8, &draws{5})
		c := coded(t, contexts, before)
		m := modelled(contexts, before)
		refused := func(ctx int, v uint64) {
			t.Helper()
			if err := c.Number(ctx, v); err != api.ErrArg {
				t.Errorf("Number(%d, %d) of %d contexts: error %d", ctx, v, contexts, err)
			}
			if !bytes.Equal(c.Bytes(), m.bytes()) || !slices.Equal(oddsOf(c, contexts), m.odds) {
				t.Errorf("Number(%d, %d) of %d contexts has changed something", ctx, v, contexts)
			}
		}
		for _, ctx := range append(noContexts(contexts), contexts-32, contexts-31, contexts-2, contexts-1) {
			for _, v := range []uint64{0, 1, 1<<32 - 2, 1<<32 - 1, 1 << 32, math.MaxUint64} {
				refused(ctx, v)
			}
		}
		for _, v := range []uint64{1 << 32, 1<<32 + 1, 1 << 33, 1 << 63, math.MaxUint64 - 1, math.MaxUint64} {
			for _, ctx := range []int{0, contexts - 33} {
				refused(ctx, v)
			}
		}
		if contexts < 33 {
			continue
		}
		for _, s := range []step{{kind: aNumber, ctx: contexts - 33, v: 1<<32 - 1}, {kind: aNumber, v: 1<<32 - 1}} {
			if err := s.told(c); err != api.OK {
				t.Errorf("%+v of %d contexts: error %d", s, contexts, err)
			}
			s.toldModel(m)
		}
		checkLike(t, c, m)
	}
}

func TestBytesInTheMidst(t *testing.T) { // P8.2, R2
	contexts := 35
	c := newCoder(t, contexts)
	m := newModel(contexts)
	for _, s := range mixed(300, contexts, 4, &draws{6}) {
		s.told(c)
		s.toldModel(m)
		b := c.Bytes()
		scribble(b)
		_ = append(b[:1], make([]byte, cap(b))...)
		checkLike(t, c, m)
		twice := c.Bytes()
		scribble(c.Bytes())
		if !bytes.Equal(twice, m.bytes()) {
			t.Fatal("the Bytes of two calls share memory")
		}
		kept := c.Bytes()
		c.Put(0, 1)
		m.put(0, 1)
		if !bytes.Equal(kept, twice) {
			t.Fatal("a further bit has changed earlier Bytes")
		}
	}
	checkLike(t, c, m)
}

func TestMixedSteps(t *testing.T) { // P8.1, P8.2, P8.4
	for _, contexts := range []int{1, 5, 33, 50, 429, 4096} {
		for ones := range 17 {
			steps := mixed(300, contexts, ones, &draws{uint64(100*contexts + ones)})
			c := coded(t, contexts, steps)
			checkLike(t, c, modelled(contexts, steps))
			checkBack(t, c, contexts, steps)
		}
	}
}

// TestLongRows: equal bits, bits as different as can be, and bits each of which is the one that Odds expect less.
func TestLongRows(t *testing.T) { // P8.1, P8.4
	d := &draws{7}
	least := newModel(2)
	for _, bitAt := range []func(i int) int{
		func(int) int { return 0 },
		func(int) int { return 1 },
		func(i int) int { return i % 2 },
		func(i int) int { return i / 500 % 2 },
		func(int) int { return d.below(2) },
		func(int) int { return min(d.below(40), 1) },
		func(int) int {
			bit := 0
			if least.odds[1] > 2048 {
				bit = 1
			}
			least.odds[1] = learnt(least.odds[1], bit)
			return bit
		},
	} {
		var steps []step
		for i := range 20000 {
			steps = append(steps, step{kind: oneBit, ctx: 1, v: uint64(bitAt(i))})
		}
		c := coded(t, 2, steps)
		checkLike(t, c, modelled(2, steps))
		checkBack(t, c, 2, steps)
	}
}

func TestEqualBitsTakeLittle(t *testing.T) { // P8.1
	for bit := range 2 {
		c := newCoder(t, 1)
		for range 20000 {
			c.Put(0, bit)
		}
		// Each takes some 31 of 4096 parts, which are 0.011 bits.
		if len(c.Bytes()) > 50 {
			t.Errorf("20000 bits %d take %d bytes", bit, len(c.Bytes()))
		}
	}
}

func TestNewDecoderRefuses(t *testing.T) { // P8.3, R6
	none := bytes.Repeat([]byte{0xff}, 9)
	check := func(b []byte, contexts int, want api.Errno) {
		t.Helper()
		if d, err := arith.NewDecoder(b, contexts); d != nil || err != want {
			t.Errorf("NewDecoder(%x, %d): %v, error %d, want %d", b, contexts, d, err, want)
		}
	}
	for _, contexts := range noNumbersOfContexts() {
		for _, b := range [][]byte{nil, {1, 2, 3}, {1, 2, 3, 4}, none, none[:4], none[:3]} {
			check(b, contexts, api.ErrArg)
		}
	}
	for _, contexts := range []int{1, 2, 4096} {
		for n := range 4 {
			check(none[:n], contexts, api.ErrShort)
			check(make([]byte, n), contexts, api.ErrShort)
		}
		for n := 4; n < len(none); n++ {
			check(none[:n], contexts, api.ErrForm)
		}
		check([]byte{0xff, 0xff, 0xff, 0xff, 0, 0}, contexts, api.ErrForm)
	}
	check(nil, 1, api.ErrShort)
}

func TestNewDecoder(t *testing.T) { // P8.3
	for _, contexts := range []int{1, 2, 33, 4096} {
		for _, b := range [][]byte{{0, 0, 0, 0}, {0xff, 0xff, 0xff, 0xfe}, {0xff, 0xff, 0xfe, 0xff, 0xff}, {0xff, 0xfe, 0xff, 0xff, 7, 8}, {0xfe, 0xff, 0xff, 0xff, 0xff, 0xff, 0xff}} {
			d := newDecoder(t, b, contexts)
			checkOdds(t, d, firstOdds(contexts))
			r := newReading(b, contexts)
			for i := 0; d.Err() == api.OK; i++ {
				if got, want := d.Get(i%contexts), r.get(i%contexts); got != want {
					t.Fatalf("bit %d of %x is %d, want %d", i, b, got, want)
				}
				checkSame(t, d, r)
			}
			checkDead(t, d, contexts)
		}
	}
}

// TestBoundOfAValue reads Values just below a Bound, at it and just above it.
func TestBoundOfAValue(t *testing.T) { // P8.3
	for _, x := range []struct {
		b    []byte
		want string
	}{
		{[]byte{0x7f, 0xff, 0xf7, 0xff}, "01"},
		{[]byte{0x7f, 0xff, 0xf8, 0x00}, "10"},
		{[]byte{0x7f, 0xff, 0xf8, 0x01}, "10"},
		{[]byte{0xbd, 0xff, 0xf7, 0xff}, "10"},
		{[]byte{0xbd, 0xff, 0xf8, 0x00}, "11"},
		{[]byte{0x41, 0xff, 0xf7, 0xbf}, "00"},
		{[]byte{0x41, 0xff, 0xf7, 0xc0}, "01"},
	} {
		d := newDecoder(t, x.b, 1)
		if got := fmt.Sprint(d.Get(0), d.Get(0)); got != x.want[:1]+" "+x.want[1:] || d.Err() != api.OK {
			t.Errorf("%x: %s, want %s", x.b, got, x.want)
		}
	}
	for _, x := range []struct {
		b    []byte
		want uint64
	}{
		{[]byte{0x7f, 0xff, 0xff, 0xfe}, 0}, {[]byte{0x7f, 0xff, 0xff, 0xff}, 1}, {[]byte{0xff, 0xff, 0xff, 0xfe}, 1},
	} {
		if got := newDecoder(t, x.b, 1).Raw(1); got != x.want {
			t.Errorf("raw bit of %x is %d", x.b, got)
		}
	}
}

// TestAnyBytes reads bytes that no Coder wrote.
func TestAnyBytes(t *testing.T) { // P8.3, R1
	for seed := range uint64(600) {
		draw := &draws{seed}
		b := make([]byte, 4+draw.below(60))
		kind := draw.below(4)
		for i := range b {
			switch kind {
			case 0:
				b[i] = 0
			case 1:
				b[i] = 0xff
			default:
				b[i] = byte(draw.below(256))
			}
		}
		b[3] &= 0xfe
		contexts := []int{1, 34, 60}[draw.below(3)]
		d, r := newDecoder(t, b, contexts), newReading(b, contexts)
		for r.err == api.OK {
			s := mixed(1, contexts, 8, draw)[0]
			most := uint64(math.MaxUint64) >> draw.below(64)
			if got, want := s.asked(d, most), s.askedReading(r, most); got != want {
				t.Fatalf("%+v, most %d: %d, want %d", s, most, got, want)
			}
			checkSame(t, d, r)
		}
		checkDead(t, d, contexts)
	}
}

// TestCutBytes reads the bytes of a Coder up to each place.
func TestCutBytes(t *testing.T) { // P8.3, R4, R9
	contexts := 40
	for ones := range 9 {
		steps := mixed(40, contexts, 2*ones, &draws{uint64(ones)})
		b := coded(t, contexts, steps).Bytes()
		for n := 4; n < len(b); n++ {
			d, r := newDecoder(t, b[:n], contexts), newReading(b[:n], contexts)
			for i, s := range steps {
				got, want := s.asked(d, math.MaxUint32), s.askedReading(r, math.MaxUint32)
				if got != want || r.err == api.OK && got != s.v {
					t.Fatalf("step %d of %d bytes, %+v: %d, want %d", i, n, s, got, want)
				}
				checkSame(t, d, r)
			}
			if d.Err() != api.ErrShort {
				t.Errorf("%d of %d bytes: error %d", n, len(b), d.Err())
			}
			checkDead(t, d, contexts)
		}
	}
}

// TestShortBitChangesNothing holds what is left after a Get without a next byte against what was before it.
func TestShortBitChangesNothing(t *testing.T) { // P8.3
	for _, first := range []byte{0, 0x7f, 0x80, 0xfe} {
		for n := 4; n < 9; n++ {
			b := bytes.Repeat([]byte{first}, n)
			d := newDecoder(t, b, 2)
			for d.Err() == api.OK {
				left, odds := d.Left(), oddsOf(d, 2)
				bit := d.Get(1)
				if d.Err() == api.OK {
					continue
				}
				if bit != 0 || d.Err() != api.ErrShort || d.Left() != left || left != 0 {
					t.Errorf("%x: a bit %d, error %d, Left %d, which was %d", b, bit, d.Err(), d.Left(), left)
				}
				checkOdds(t, d, odds)
			}
			checkDead(t, d, 2)
		}
	}
}

func TestGetOfNoContext(t *testing.T) { // P8.3, R9
	steps := bitsOf(1, "10110")
	b := coded(t, 3, steps).Bytes()
	for _, ctx := range noContexts(3) {
		for n := range steps {
			d, r := newDecoder(t, b, 3), newReading(b, 3)
			for _, s := range steps[:n] {
				s.asked(d, 0)
				s.askedReading(r, 0)
			}
			if bit := d.Get(ctx); bit != 0 || d.Err() != api.ErrArg {
				t.Errorf("Get(%d): %d, error %d", ctx, bit, d.Err())
			}
			r.get(ctx)
			checkSame(t, d, r)
			checkDead(t, d, 3)
		}
	}
	// The context comes first, the missing byte second.
	d := newDecoder(t, []byte{0, 0, 0, 0}, 1)
	d.Raw(7)
	if d.Get(1); d.Err() != api.ErrArg {
		t.Errorf("Get(1) at the end: error %d", d.Err())
	}
}

func TestDecoderRawRefuses(t *testing.T) { // P8.3, R6, R9
	for _, n := range noNumbersOfBits() {
		for _, b := range [][]byte{{1, 2, 3, 4}, {1, 2, 3, 4, 5, 6, 7, 8, 9}} {
			d := newDecoder(t, b, 2)
			if v := d.Raw(n); v != 0 || d.Err() != api.ErrArg {
				t.Errorf("Raw(%d): %d, error %d", n, v, d.Err())
			}
			checkDead(t, d, 2)
		}
	}
	// No bits are there even if nothing else is.
	d := newDecoder(t, []byte{0, 0, 0, 0}, 1)
	if d.Raw(7) != 0 || d.Raw(0) != 0 || d.Err() != api.OK || d.Left() != 0 {
		t.Errorf("error %d of no bits", d.Err())
	}
	if d.Raw(1) != 0 || d.Err() != api.ErrShort {
		t.Errorf("error %d behind the end", d.Err())
	}
	checkDead(t, d, 1)
}

func TestDecoderNumberOfMost(t *testing.T) { // P8.3
	for _, v := range numbers() {
		b := coded(t, 34, []step{{kind: aNumber, ctx: 1, v: v}}).Bytes()
		for _, most := range []uint64{v, v + 1, 1<<32 - 1, 1 << 32, 1 << 63, math.MaxUint64} {
			if most < v {
				continue
			}
			d := newDecoder(t, b, 34)
			if got := d.Number(1, most); got != v || d.Err() != api.OK || d.Left() != 0 {
				t.Errorf("Number(1, %d): %d, error %d, want %d", most, got, d.Err(), v)
			}
		}
		for _, most := range []uint64{0, v / 2, v - 1} {
			if most >= v {
				continue
			}
			d := newDecoder(t, b, 34)
			if got := d.Number(1, most); got != 0 || d.Err() != api.ErrForm {
				t.Errorf("Number(1, %d) of %d: %d, error %d", most, v, got, d.Err())
			}
			checkDead(t, d, 34)
		}
	}
}

// TestNumberThatNoCoderWrites reads one with 32 bits 1 in its contexts and raw bits that are not all 0.
func TestNumberThatNoCoderWrites(t *testing.T) { // P8.3
	for _, low := range []uint64{0, 1, 1<<32 - 1} {
		var steps []step
		for ctx := range 32 {
			steps = append(steps, step{ctx: ctx, v: 1})
		}
		b := coded(t, 33, append(steps, step{kind: rawBits, v: low, n: 32})).Bytes()
		v := 1<<32 - 1 + low
		for _, most := range []uint64{v - 1, v, math.MaxUint64} {
			d := newDecoder(t, b, 33)
			got := d.Number(0, most)
			if most >= v && (got != v || d.Err() != api.OK) || most < v && (got != 0 || d.Err() != api.ErrForm) {
				t.Errorf("Number(0, %d) of %d: %d, error %d", most, v, got, d.Err())
			}
		}
	}
}

func TestDecoderNumberErrorsInOrder(t *testing.T) { // P8.3, R6
	b := coded(t, 40, []step{{kind: aNumber, ctx: 1, v: 1 << 20}}).Bytes()
	for _, ctx := range append(noContexts(40), 8, 9, 39) {
		for _, end := range []int{4, len(b)} {
			for _, most := range []uint64{0, 1 << 20, math.MaxUint64} {
				d := newDecoder(t, b[:end], 40)
				if v := d.Number(ctx, most); v != 0 || d.Err() != api.ErrArg {
					t.Errorf("Number(%d, %d) of %d bytes: %d, error %d", ctx, most, end, v, d.Err())
				}
				checkDead(t, d, 40)
			}
		}
	}
	// A number that is above most for sure is short all the same if bits of it are missing.
	for end := 4; end < len(b); end++ {
		for _, most := range []uint64{0, 1, 1<<20 - 1, 1 << 20, math.MaxUint64} {
			d := newDecoder(t, b[:end], 40)
			if v := d.Number(1, most); v != 0 || d.Err() != api.ErrShort {
				t.Errorf("Number(1, %d) of %d bytes: %d, error %d", most, end, v, d.Err())
			}
			checkDead(t, d, 40)
		}
	}
	if d := newDecoder(t, b, 32); d.Number(0, 9) != 0 || d.Err() != api.ErrArg {
		t.Errorf("a number of 32 contexts: error %d", d.Err())
	}
	if d := newDecoder(t, b, 33); d.Number(0, math.MaxUint64) == 0 || d.Err() != api.OK {
		t.Errorf("a number of 33 contexts: error %d", d.Err())
	}
}

func TestFirstErrorStays(t *testing.T) { // P8.3, R9
	long := coded(t, 40, []step{{kind: aNumber, v: 1000}}).Bytes()
	for _, x := range []struct {
		fail func(d *arith.Decoder)
		b    []byte
		want api.Errno
	}{
		{func(d *arith.Decoder) { d.Get(40) }, long, api.ErrArg},
		{func(d *arith.Decoder) { d.Raw(33) }, long, api.ErrArg},
		{func(d *arith.Decoder) { d.Number(8, 5) }, long, api.ErrArg},
		{func(d *arith.Decoder) { d.Number(0, 999) }, long, api.ErrForm},
		{func(d *arith.Decoder) { d.Number(0, 999) }, long[:4], api.ErrShort},
		{func(d *arith.Decoder) { d.Raw(32) }, long[:4], api.ErrShort},
		{func(d *arith.Decoder) { d.Raw(7); d.Get(0) }, []byte{0, 0, 0, 0}, api.ErrShort},
	} {
		d := newDecoder(t, x.b, 40)
		x.fail(d)
		if d.Err() != x.want {
			t.Errorf("error %d, want %d", d.Err(), x.want)
		}
		checkDead(t, d, 40)
		if d.Err() != x.want {
			t.Errorf("error %d became %d", x.want, d.Err())
		}
	}
}

func TestArgumentsStay(t *testing.T) { // R2
	contexts := 40
	steps := mixed(60, contexts, 6, &draws{8})
	b := coded(t, contexts, steps).Bytes()
	room := append(slices.Clone(b), 1, 2, 3, 4, 5, 6, 7, 8)
	before := slices.Clone(room)
	d := newDecoder(t, room[:len(b)], contexts)
	for _, s := range steps[:30] {
		s.asked(d, math.MaxUint32)
	}
	if !bytes.Equal(room, before) {
		t.Error("a Decoder has changed its bytes")
	}
	// What becomes of them is nothing to the Decoder.
	scribble(room)
	for i, s := range steps[30:] {
		if got := s.asked(d, math.MaxUint32); got != s.v || d.Err() != api.OK {
			t.Fatalf("step %d: %d, error %d, want %d", i, got, d.Err(), s.v)
		}
	}
	if d.Left() != 0 {
		t.Errorf("Left is %d", d.Left())
	}
}
