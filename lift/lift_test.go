package lift_test

import (
	"fmt"
	"math"
	"slices"
	"testing"

	"kinora/api"
	"kinora/lift"
)

// far returns numbers far from every limit, and those around the limits of Go's numbers.
func far() []int {
	return []int{math.MinInt, math.MinInt + 1, math.MinInt32 - 1, math.MinInt32, -1 << 20, -256, -2, -1, math.MaxInt32, math.MaxInt32 + 1, 1 << 32, 1<<32 + 1, 1<<32 + 8, 1<<40 + 2, math.MaxInt - 1, math.MaxInt}
}

// noCounts returns numbers of channels that no sound has.
func noCounts() []int { return append(far(), 0, 9, 10, 16, 256, 1<<20) }

// noGains returns Gains that no step has.
func noGains() []int {
	return []int{1025, 1026, 2048, 1 << 20, 1 << 32, 1<<32 + 256, 1 << 62, math.MaxInt, -1025, -1026, -2048, -1 << 20, -1 << 32, -1<<32 + 256, math.MinInt + 1, math.MinInt}
}

// narrow returns numbers that are not wide.
func narrow() []int {
	return []int{1 << 30, 1<<30 + 1, 1 << 31, 1 << 32, 1<<32 + 5, 1 << 62, math.MaxInt, -1<<30 - 1, -1<<30 - 2, -1 << 31, -1 << 32, -1<<32 + 5, -1 << 62, math.MinInt + 1, math.MinInt}
}

// step returns a step.
func step(from, to, gain int) api.Lift { return api.Lift{From: from, To: to, Gain: gain} }

// steps returns a list of n times the same step.
func steps(n int, s api.Lift) []api.Lift { return slices.Repeat([]api.Lift{s}, n) }

// rows returns n rows of size samples 0.
func rows(n, size int) [][]int {
	c := make([][]int, n)
	for i := range c {
		c[i] = make([]int, size)
	}
	return c
}

// dice returns numbers without a pattern.
type dice uint64

// below returns a number from 0 to n - 1.
func (d *dice) below(n int) int {
	*d = *d*6364136223846793005 + 1442695040888963407
	return int(uint64(*d) >> 33 % uint64(n))
}

// within returns a number from -n to n - 1.
func (d *dice) within(n int) int { return d.below(2*n) - n }

// noise returns n rows of size samples from -most to most - 1.
func (d *dice) noise(n, size, most int) [][]int {
	c := rows(n, size)
	for _, row := range c {
		for i := range row {
			row[i] = d.within(most)
		}
	}
	return c
}

// list returns n steps between channels, of Gains from -gain to gain - 1.
func (d *dice) list(n, channels, gain int) []api.Lift {
	l := make([]api.Lift, n)
	for i := range l {
		from := d.below(channels)
		l[i] = step(from, (from+1+d.below(channels-1))%channels, d.within(gain))
	}
	return l
}

// same reports whether two lists of rows hold the same.
func same(a, b [][]int) bool { return slices.EqualFunc(a, b, slices.Equal[[]int]) }

// clone returns a copy of rows that shares nothing with them.
func clone(c [][]int) [][]int {
	var l [][]int
	for _, row := range c {
		l = append(l, slices.Clone(row))
	}
	return l
}

// checkRows compares rows and an error with what they are to be.
func checkRows(t *testing.T, what string, got [][]int, err api.Errno, want [][]int, wantErr api.Errno) {
	t.Helper()
	if err != wantErr || !same(got, want) {
		t.Errorf("%s: %v, error %d; want %v, error %d", what, got, err, want, wantErr)
	}
}

// checkBoth checks that Do and Undo return the error and nothing else.
func checkBoth(t *testing.T, what string, c [][]int, l []api.Lift, want api.Errno) {
	t.Helper()
	done, err := lift.Do(c, l)
	checkRows(t, "Do: "+what, done, err, nil, want)
	undone, err := lift.Undo(c, l)
	checkRows(t, "Undo: "+what, undone, err, nil, want)
}

// isWide says in the document's words whether a number is wide.
func isWide(x int) bool { return -1073741824 <= x && x <= 1073741823 }

// done is Do in the document's words, and Undo if back.
func done(c [][]int, l []api.Lift, back bool) ([][]int, api.Errno) {
	c = clone(c)
	for i := range l {
		s, sign := l[i], 1
		if back {
			s, sign = l[len(l)-1-i], -1
		}
		for j := range c[s.To] {
			c[s.To][j] += sign * int(math.Floor(float64(s.Gain*c[s.From][j])/256))
			if !isWide(c[s.To][j]) {
				return nil, api.ErrRange
			}
		}
	}
	return c, api.OK
}

// weight is Weight in the document's words.
func weight(c [][]int) int {
	sum := 0
	for _, row := range c {
		for i, x := range row {
			if i < 2 {
				continue
			}
			second := (x - row[i-1]) - (row[i-1] - row[i-2])
			if second < 0 {
				second = -second
			}
			sum += second
		}
	}
	return sum
}

// mode returns the steps of a mode from 0 to 4 in the document's words, between channels a and b.
func mode(n, a, b int) []api.Lift {
	return [][]api.Lift{
		{},
		{{From: a, To: b, Gain: -256}},
		{{From: b, To: a, Gain: -256}},
		{{From: b, To: a, Gain: -256}, {From: a, To: b, Gain: 128}},
		{{From: b, To: a, Gain: -106}, {From: a, To: b, Gain: 181}, {From: b, To: a, Gain: -106}},
	}[n]
}

// best is Best of the channels of a block in the document's words.
func best(c [][]int) []api.Lift {
	var l []api.Lift
	for a := 0; a+1 < len(c); a += 2 {
		least, chosen := math.MaxInt, 0
		for n := range 5 {
			pair, _ := done(c[a:a+2], mode(n, 0, 1), false)
			if w := weight(pair); w < least {
				least, chosen = w, n
			}
		}
		l = append(l, mode(chosen, a, a+1)...)
	}
	return l
}

func TestMayByTheChannels(t *testing.T) { // P10.1, R1, R7
	for channels := 1; channels <= 8; channels++ {
		if !lift.May(nil, channels) || !lift.May([]api.Lift{}, channels) {
			t.Error("no step between", channels)
		}
		if may := lift.May([]api.Lift{step(0, 1, 5)}, channels); may != (channels > 1) {
			t.Error("a step between", channels, "may be:", may)
		}
	}
	for _, channels := range noCounts() {
		for _, l := range [][]api.Lift{nil, {}, {step(0, 1, 0)}, {step(1, 0, 256)}, steps(16, step(0, 1, 1))} {
			if lift.May(l, channels) {
				t.Errorf("%v between %d", l, channels)
			}
		}
	}
}

func TestMayByTheNumberOfSteps(t *testing.T) { // P10.1
	for n := range 40 {
		for channels := 2; channels <= 8; channels++ {
			if may := lift.May(steps(n, step(channels-1, 0, -7)), channels); may != (n <= 16) {
				t.Errorf("%d steps between %d may be: %v", n, channels, may)
			}
		}
	}
	if lift.May(make([]api.Lift, 1<<16), 8) || lift.May(steps(1<<16, step(0, 1, 1)), 8) {
		t.Error("far too many steps")
	}
}

func TestMayByEachPair(t *testing.T) { // P10.1
	for channels := range 11 {
		for from := -2; from <= 11; from++ {
			for to := -2; to <= 11; to++ {
				want := channels >= 1 && channels <= 8 && from >= 0 && from < channels && to >= 0 && to < channels && from != to
				if lift.May([]api.Lift{step(from, to, 256)}, channels) != want {
					t.Errorf("from %d to %d of %d may be: %v", from, to, channels, !want)
				}
			}
		}
	}
	for _, x := range far() {
		for _, y := range append(far(), 0, 1, 7, 8) {
			if lift.May([]api.Lift{step(x, y, 0)}, 8) || lift.May([]api.Lift{step(y, x, 0)}, 8) {
				t.Errorf("%d and %d", x, y)
			}
		}
	}
}

func TestMayByTheGain(t *testing.T) { // P10.1
	for gain := -1100; gain <= 1100; gain++ {
		want := gain >= -1024 && gain <= 1024
		if lift.May([]api.Lift{step(1, 0, gain)}, 2) != want {
			t.Errorf("gain %d may be: %v", gain, !want)
		}
	}
	for _, gain := range noGains() {
		if lift.May([]api.Lift{step(0, 1, gain)}, 8) {
			t.Error("gain", gain)
		}
	}
}

// noSteps returns steps that are not valid between so many channels, from 2 on.
func noSteps(channels int) []api.Lift {
	l := []api.Lift{step(0, 0, 0), step(1, 1, 256), step(channels-1, channels-1, -5), step(-1, -1, 1), step(channels, channels, 1)}
	for _, x := range append(far(), channels, channels+1) {
		if x < 0 || x >= channels {
			l = append(l, step(0, x, 1), step(x, 0, 1), step(channels-1, x, 0), step(x, channels-1, 0))
		}
	}
	for _, gain := range noGains() {
		l = append(l, step(0, channels-1, gain))
	}
	return l
}

func TestMayByEachStep(t *testing.T) { // P10.1
	for channels := 2; channels <= 8; channels++ {
		for _, n := range []int{1, 2, 3, 16} {
			for at := range n {
				for _, s := range noSteps(channels) {
					l := steps(n, step(channels-1, 0, 1024))
					if !lift.May(l, channels) {
						t.Fatal(n, "steps between", channels)
					}
					l[at] = s
					if lift.May(l, channels) {
						t.Errorf("step %d of %d between %d: %v", at, n, channels, s)
					}
				}
			}
		}
	}
}

func TestDoAndUndoOfKnownRows(t *testing.T) { // P10.2
	for _, x := range []struct {
		c [][]int
		l []api.Lift
		d [][]int
	}{
		{[][]int{{5}}, nil, [][]int{{5}}},
		{[][]int{{5, -7, 1 << 29}, {1, 2, 3}}, nil, [][]int{{5, -7, 1 << 29}, {1, 2, 3}}},
		{[][]int{{5}, {7}}, []api.Lift{step(0, 1, 0)}, [][]int{{5}, {7}}},
		{[][]int{{5}, {7}}, []api.Lift{step(0, 1, 256)}, [][]int{{5}, {12}}},
		{[][]int{{5}, {7}}, []api.Lift{step(1, 0, 256)}, [][]int{{12}, {7}}},
		{[][]int{{5}, {7}}, []api.Lift{step(0, 1, -256)}, [][]int{{5}, {2}}},
		{[][]int{{5, -5}, {7, 7}}, []api.Lift{step(0, 1, 1024)}, [][]int{{5, -5}, {27, -13}}},
		{[][]int{{5, -5}, {7, 7}}, []api.Lift{step(0, 1, -1024)}, [][]int{{5, -5}, {-13, 27}}},
		{[][]int{{3, -3, 2, -2}, {0, 0, 0, 0}}, []api.Lift{step(0, 1, 128)}, [][]int{{3, -3, 2, -2}, {1, -2, 1, -1}}},
		{[][]int{{3, -3, 2, -2}, {0, 0, 0, 0}}, []api.Lift{step(0, 1, -128)}, [][]int{{3, -3, 2, -2}, {-2, 1, -1, 1}}},
		{[][]int{{1, -1}, {0, 0}}, []api.Lift{step(0, 1, 1)}, [][]int{{1, -1}, {0, -1}}},
		{[][]int{{1, -1}, {0, 0}}, []api.Lift{step(0, 1, -1)}, [][]int{{1, -1}, {-1, 0}}},
		{[][]int{{255, 256, 257, -255, -256, -257}, rows(1, 6)[0]}, []api.Lift{step(0, 1, 1)}, [][]int{{255, 256, 257, -255, -256, -257}, {0, 1, 1, -1, -1, -2}}},
		// The second step uses what the first one changed.
		{[][]int{{1}, {10}, {100}}, []api.Lift{step(0, 1, 256), step(1, 2, 256)}, [][]int{{1}, {11}, {111}}},
		{[][]int{{1}, {10}, {100}}, []api.Lift{step(1, 2, 256), step(0, 1, 256)}, [][]int{{1}, {11}, {110}}},
		{[][]int{{1}, {10}}, []api.Lift{step(0, 1, 256), step(1, 0, 256)}, [][]int{{12}, {11}}},
		{[][]int{{1}, {10}}, []api.Lift{step(1, 0, 256), step(0, 1, 256)}, [][]int{{11}, {21}}},
		// Three steps exchange two rows, but for a sign.
		{[][]int{{3, 4}, {50, 60}}, []api.Lift{step(0, 1, 256), step(1, 0, -256), step(0, 1, 256)}, [][]int{{-50, -60}, {3, 4}}},
		// The same step again and again.
		{[][]int{{3}, {0}}, steps(16, step(0, 1, 100)), [][]int{{3}, {16}}},
		{[][]int{{-3}, {0}}, steps(16, step(0, 1, 100)), [][]int{{-3}, {-32}}},
		{[][]int{{1}, {1}}, slices.Repeat([]api.Lift{step(0, 1, 256), step(1, 0, 256)}, 8), [][]int{{2584}, {1597}}},
		// Of eight rows, the last and the first.
		{[][]int{{1}, {2}, {3}, {4}, {5}, {6}, {7}, {8}}, []api.Lift{step(7, 0, 256), step(0, 7, -512), step(3, 4, 64)}, [][]int{{9}, {2}, {3}, {4}, {6}, {6}, {7}, {-10}}},
	} {
		d, err := lift.Do(x.c, x.l)
		checkRows(t, fmt.Sprintf("Do(%v, %v)", x.c, x.l), d, err, x.d, api.OK)
		c, err := lift.Undo(x.d, x.l)
		checkRows(t, fmt.Sprintf("Undo(%v, %v)", x.d, x.l), c, err, x.c, api.OK)
	}
}

func TestUndoIsNotDoOfTheOppositeGain(t *testing.T) { // P10.2, R7
	for _, x := range []struct{ from, gain, done, undone int }{
		{3, 128, 11, 9}, {3, -128, 8, 12}, {-3, 128, 8, 12}, {-3, -128, 11, 9},
		{-1, 1, 9, 11}, {1, -1, 9, 11}, {1, 1, 10, 10}, {-1, -1, 10, 10},
		{-5, 1000, -10, 30}, {5, 1000, 29, -9},
	} {
		l := []api.Lift{step(0, 1, x.gain)}
		d, err := lift.Do([][]int{{x.from}, {10}}, l)
		checkRows(t, fmt.Sprint("Do ", x), d, err, [][]int{{x.from}, {x.done}}, api.OK)
		u, err := lift.Undo([][]int{{x.from}, {10}}, l)
		checkRows(t, fmt.Sprint("Undo ", x), u, err, [][]int{{x.from}, {x.undone}}, api.OK)
	}
}

func TestEachGain(t *testing.T) { // P10.2, R7
	from := []int{-1 << 20, -100001, -513, -257, -256, -255, -129, -128, -127, -3, -2, -1, 0, 1, 2, 3, 127, 128, 129, 255, 256, 257, 511, 100001, 1<<20 - 1}
	c := [][]int{from, make([]int, len(from))}
	for gain := -1024; gain <= 1024; gain++ {
		d, err := lift.Do(c, []api.Lift{step(0, 1, gain)})
		if err != api.OK || !slices.Equal(d[0], from) {
			t.Fatal("gain", gain, "error", err)
		}
		u, err := lift.Undo(c, []api.Lift{step(0, 1, gain)})
		if err != api.OK || !slices.Equal(u[0], from) {
			t.Fatal("gain", gain, "error", err)
		}
		for i, x := range from {
			// part is gain * x / 256, rounded down, if and only if this holds.
			part := d[1][i]
			if part*256 > gain*x || (part+1)*256 <= gain*x || u[1][i] != -part {
				t.Errorf("gain %d of %d: Do %d, Undo %d", gain, x, part, u[1][i])
			}
		}
	}
}

func TestDoAndUndoOfNoise(t *testing.T) { // P10.2
	d := dice(1)
	wide, tooWide := 0, 0
	for range 20000 {
		channels, size := 2+d.below(7), d.below(6)
		most := []int{2, 300, 1 << 15, 1 << 24, 1 << 28, 1 << 29, 1 << 30}[d.below(7)]
		c := d.noise(channels, size, most)
		l := d.list(d.below(17), channels, []int{2, 256, 1024}[d.below(3)])
		for _, back := range []bool{false, true} {
			call, other := lift.Do, lift.Undo
			if back {
				call, other = lift.Undo, lift.Do
			}
			want, wantErr := done(c, l, back)
			got, err := call(c, l)
			if err != wantErr || !same(got, want) {
				t.Fatalf("%v by %v, back %v: %v, error %d; want %v, error %d", c, l, back, got, err, want, wantErr)
			}
			if wantErr != api.OK {
				tooWide++
				continue
			}
			wide++
			again, err := other(got, l)
			if err != api.OK || !same(again, c) {
				t.Fatalf("%v by %v, back %v, and again: %v, error %d", c, l, back, again, err)
			}
		}
	}
	if wide < 5000 || tooWide < 5000 {
		t.Errorf("%d were wide, %d were not", wide, tooWide)
	}
}

func TestDoOfTwoLists(t *testing.T) { // P10.2
	d := dice(2)
	for range 500 {
		channels := 2 + d.below(7)
		c := d.noise(channels, 1+d.below(5), 1<<10)
		n := d.below(17)
		l := d.list(16, channels, 300)
		first, err := lift.Do(c, l[:n])
		if err != api.OK {
			t.Fatal(err)
		}
		both, err := lift.Do(first, l[n:])
		if err != api.OK {
			t.Fatal(err)
		}
		once, err := lift.Do(c, l)
		checkRows(t, "both lists as one", once, err, both, api.OK)
		back, err := lift.Undo(both, l[n:])
		checkRows(t, "the second list undone", back, err, first, api.OK)
		back, err = lift.Undo(back, l[:n])
		checkRows(t, "both lists undone", back, err, c, api.OK)
		back, err = lift.Undo(once, l)
		checkRows(t, "both lists undone as one", back, err, c, api.OK)
	}
}

func TestDoAndUndoOfEachShape(t *testing.T) { // P10.2
	for channels := range 12 {
		for _, size := range []int{0, 1, 2, 3, 1000, 4095, 4096, 4097, 5000} {
			what := fmt.Sprintf("%d rows of %d samples", channels, size)
			d := dice(channels + 9)
			c := d.noise(channels, size, 1<<20)
			var l []api.Lift
			if channels > 1 {
				l = d.list(3, channels, 256)
			}
			if channels < 1 || channels > 8 || size > 4096 {
				checkBoth(t, what, c, l, api.ErrArg)
				checkBoth(t, what, c, nil, api.ErrArg)
				continue
			}
			for _, l := range [][]api.Lift{nil, l} {
				want, _ := done(c, l, false)
				got, err := lift.Do(c, l)
				checkRows(t, "Do of "+what, got, err, want, api.OK)
				back, err := lift.Undo(got, l)
				checkRows(t, "Undo of "+what, back, err, c, api.OK)
			}
		}
	}
}

func TestRowsOfNoSample(t *testing.T) { // P10.2
	for channels := 1; channels <= 8; channels++ {
		c := make([][]int, channels)
		c[0] = []int{}
		l := []api.Lift(nil)
		if channels > 1 {
			l = []api.Lift{step(0, channels-1, 1024), step(1, 0, -1024)}
		}
		for _, call := range []func([][]int, []api.Lift) ([][]int, api.Errno){lift.Do, lift.Undo} {
			got, err := call(c, l)
			if err != api.OK || len(got) != channels || weight(got) != 0 || slices.ContainsFunc(got, func(row []int) bool { return len(row) != 0 }) {
				t.Errorf("%d rows: %v, error %d", channels, got, err)
			}
		}
	}
}

// noRows returns what are not rows, each by one thing only where that can be.
func noRows() map[string][][]int {
	m := map[string][][]int{
		"nil":                      nil,
		"empty":                    {},
		"nine rows":                rows(9, 1),
		"nine rows of no sample":   make([][]int, 9),
		"nine rows of three":       rows(9, 3),
		"very many rows":           make([][]int, 1<<16),
		"one sample too many":      rows(1, 4097),
		"too many in two":          rows(2, 4097),
		"too many in eight":        rows(8, 4097),
		"far too many":             rows(2, 1<<17),
		"only the second too long": {make([]int, 4096), make([]int, 4097)},
		"only the first too long":  {make([]int, 4097), make([]int, 4096)},
		"the first longer":         {{1, 2}, {1}},
		"the second longer":        {{1}, {1, 2}},
		"the first of four":        {{1, 2, 4, 8}, {1, 2, 4}},
		"the second of four":       {{1, 2, 4}, {1, 2, 4, 8}},
		"the first without sample": {nil, {1}},
		"the last without sample":  {{1}, {2}, {}},
		"the last shorter":         {{1, 2}, {1, 2}, {1, 2}, {1}},
		"the middle one longer":    {{1, 2}, {1, 2, 3}, {1, 2}},
		"the last of 4096":         append(rows(7, 4096), make([]int, 4095)),
	}
	for _, x := range narrow() {
		m[fmt.Sprint("only ", x)] = [][]int{{x}}
		for at := range 6 {
			c := rows(2, 3)
			c[at/3][at%3] = x
			m[fmt.Sprint(x, " at ", at)] = c
		}
		c := rows(8, 4096)
		c[7][4095] = x
		m[fmt.Sprint(x, " as the very last")] = c
	}
	return m
}

func TestDoAndUndoOfNoRows(t *testing.T) { // P10.2, R1, R4, R6
	for what, c := range noRows() {
		for _, l := range [][]api.Lift{nil, {step(0, 1, 0)}, {step(0, 1, 256), step(1, 0, -1024)}, {step(0, 0, 1)}, {step(-1, 9, math.MaxInt)}, make([]api.Lift, 17)} {
			checkBoth(t, what, c, l, api.ErrArg)
		}
	}
}

func TestDoAndUndoByNoSteps(t *testing.T) { // P10.2, R1, R4, R6
	for channels := 1; channels <= 8; channels++ {
		c := rows(channels, 3)
		empty := make([][]int, channels)
		// With the first of the steps, a sample would become one that is not wide.
		full := rows(channels, 3)
		for _, row := range full {
			row[0], row[2] = 1<<30-1, -1<<30
		}
		bad := [][]api.Lift{make([]api.Lift, 17), steps(17, step(0, 1, 0)), steps(17, step(0, 1, 1024)), steps(1<<16, step(0, 1, 1))}
		for _, s := range noSteps(max(channels, 2)) {
			bad = append(bad, []api.Lift{s}, []api.Lift{step(0, 1, 1024), s}, []api.Lift{step(1, 0, -1024), step(0, 1, 1024), s})
		}
		if channels == 1 {
			bad = append(bad, []api.Lift{step(0, 1, 0)}, []api.Lift{step(1, 0, 0)}, []api.Lift{step(0, 0, 0)}, []api.Lift{{}})
		}
		for _, l := range bad {
			checkBoth(t, fmt.Sprint(l), c, l, api.ErrArg)
			checkBoth(t, fmt.Sprint(l), empty, l, api.ErrArg)
			checkBoth(t, fmt.Sprint(l), full, l, api.ErrArg)
		}
	}
}

func TestSamplesAtBothEndsOfWide(t *testing.T) { // P10.2
	c := [][]int{{-1 << 30, 1<<30 - 1, 0}, {1<<30 - 1, -1 << 30, -1}}
	for _, x := range []struct {
		l []api.Lift
		d [][]int
	}{
		{nil, c},
		{[]api.Lift{step(0, 1, 0)}, c},
		{[]api.Lift{step(0, 1, 256)}, [][]int{c[0], {-1, -1, -1}}},
		{[]api.Lift{step(0, 1, 512)}, [][]int{c[0], {-1<<30 - 1, 1<<30 - 2, -1}}},
		{[]api.Lift{step(0, 1, 511)}, [][]int{c[0], {1<<22 - (1<<30 + 1), 1<<30 - 2 - 1<<22, -1}}},
		{[]api.Lift{step(1, 0, 256), step(0, 1, 1024)}, [][]int{{-1, -1, -1}, {1<<30 - 5, -1<<30 - 4, -5}}},
	} {
		want, wantErr := x.d, api.OK
		if slices.ContainsFunc(slices.Concat(x.d...), func(x int) bool { return !isWide(x) }) {
			want, wantErr = nil, api.ErrRange
		}
		d, err := lift.Do(c, x.l)
		checkRows(t, fmt.Sprint("Do ", x.l), d, err, want, wantErr)
		if wantErr == api.OK {
			u, err := lift.Undo(d, x.l)
			checkRows(t, fmt.Sprint("Undo ", x.l), u, err, c, api.OK)
		}
	}
}

func TestTheFirstThatIsNotWide(t *testing.T) { // P10.2, R4
	for _, x := range []struct {
		to, from, gain int
		do, undo       bool // stays wide
	}{
		{1<<30 - 1, 0, 256, true, true},
		{1<<30 - 1, 1, 256, false, true},
		{1<<30 - 1, -1, 256, true, false},
		{1<<30 - 6, 5, 256, true, true},
		{1<<30 - 6, 6, 256, false, true},
		{1<<30 - 6, -5, 256, true, true},
		{1<<30 - 6, -6, 256, true, false},
		{-1 << 30, 0, 256, true, true},
		{-1 << 30, 1, 256, true, false},
		{-1 << 30, -1, 256, false, true},
		{-1<<30 + 5, -5, 256, true, true},
		{-1<<30 + 5, -6, 256, false, true},
		{-1<<30 + 5, 5, 256, true, true},
		{-1<<30 + 5, 6, 256, true, false},
		// 1 times 1 / 256 is 0, -1 times 1 / 256 is -1.
		{-1 << 30, -1, 1, false, true},
		{-1 << 30, 1, -1, false, true},
		{-1 << 30, 1, 1, true, true},
		{1<<30 - 1, -1, 1, true, false},
		{1<<30 - 1, 1, -1, true, false},
		{1<<30 - 1, 255, 1, true, true},
		{1<<30 - 1, 256, 1, false, true},
		{1<<30 - 1, 1, 1, true, true},
		{1<<30 - 2, -256, 1, true, true},
		{1<<30 - 2, -257, 1, true, false},
		{-1<<30 + 1, -256, 1, true, true},
		{-1<<30 + 1, -257, 1, false, true},
		{0, 1<<30 - 1, 1024, false, false},
		{0, 1<<30 - 1, -1024, false, false},
		{0, -1 << 30, 1024, false, false},
		{0, -1 << 30, -1024, false, false},
		{-1 << 30, 1<<30 - 1, 513, false, false},
		{-1 << 30, 1<<30 - 1, 512, true, false},
		{1<<30 - 1, -1 << 30, -256, false, true},
	} {
		for _, size := range []int{1, 2, 5, 4096} {
			for _, at := range []int{0, size / 2, size - 1} {
				for _, channels := range []int{2, 8} {
					c := rows(channels, size)
					from, to := at%channels, (at+1)%channels
					c[from][at], c[to][at] = x.from, x.to
					what := fmt.Sprintf("%+v at %d of %d", x, at, size)
					for _, back := range []bool{false, true} {
						l := []api.Lift{step(from, to, x.gain)}
						want, wantErr := done(c, l, back)
						if stays := back && x.undo || !back && x.do; stays != (wantErr == api.OK) {
							t.Fatal(what)
						}
						got, err := lift.Do(c, l)
						if back {
							got, err = lift.Undo(c, l)
						}
						if err != wantErr || !same(got, want) {
							t.Errorf("%s, back %v: error %d, want %d", what, back, err, wantErr)
						}
					}
				}
			}
		}
	}
}

func TestNotWideInALaterStep(t *testing.T) { // P10.2, R4
	for n := range 16 {
		// A step of nothing, n times, one that leaves what is not wide, and the opposite one.
		c := [][]int{{1, 2, 1 << 29}, {3, 4, 1 << 29}}
		l := append(steps(n, step(1, 0, 0)), step(0, 1, 256))
		d, err := lift.Do(c, l)
		checkRows(t, fmt.Sprint("Do after ", n), d, err, nil, api.ErrRange)
		if n < 15 {
			d, err = lift.Do(c, append(l, step(0, 1, -256)))
			checkRows(t, fmt.Sprint("Do that would be wide again after ", n), d, err, nil, api.ErrRange)
			d, err = lift.Do(c, append(l, step(0, 1, -1)))
			checkRows(t, fmt.Sprint("Do that would be wide soon after ", n), d, err, nil, api.ErrRange)
		}
		c[1][2] = -1<<29 - 1
		l = append([]api.Lift{step(0, 1, 256)}, steps(n, step(1, 0, 0))...)
		d, err = lift.Undo(c, l)
		checkRows(t, fmt.Sprint("Undo after ", n), d, err, nil, api.ErrRange)
		if n < 15 {
			d, err = lift.Undo(c, append([]api.Lift{step(0, 1, -256)}, l...))
			checkRows(t, fmt.Sprint("Undo that would be wide again after ", n), d, err, nil, api.ErrRange)
		}
	}
}

func TestWideByTheOrderOfTheSteps(t *testing.T) { // P10.2
	c := [][]int{{1 << 29}, {1 << 29}}
	up, down := step(0, 1, 256), step(0, 1, -256)
	d, err := lift.Do(c, []api.Lift{down, up})
	checkRows(t, "Do, down first", d, err, c, api.OK)
	d, err = lift.Do(c, []api.Lift{up, down})
	checkRows(t, "Do, up first", d, err, nil, api.ErrRange)
	d, err = lift.Undo(c, []api.Lift{down, up})
	checkRows(t, "Undo, the last step is up", d, err, c, api.OK)
	d, err = lift.Undo(c, []api.Lift{up, down})
	checkRows(t, "Undo, the last step is down", d, err, nil, api.ErrRange)
}

func TestUndoOfWhatDoDoesNotMake(t *testing.T) { // P10.2
	// Undo needs no rows that Do made: Do makes them of what it returns, if all stays wide.
	l := mode(3, 0, 1)
	c, err := lift.Undo([][]int{{7, -1 << 29}, {8, 0}}, l)
	checkRows(t, "Undo", c, err, [][]int{{12, -1<<29 + 1<<28}, {5, 1 << 28}}, api.OK)
	c, err = lift.Undo([][]int{{1<<30 - 1}, {1<<30 - 1}}, l)
	checkRows(t, "Undo", c, err, nil, api.ErrRange)
}

func TestNamedOfEachMode(t *testing.T) { // P10.3
	for n := -20; n <= 300; n++ {
		var want []api.Lift
		if n >= 0 && n <= 4 {
			want = mode(n, 0, 1)
		}
		if l := lift.Named(n); !slices.Equal(l, want) {
			t.Errorf("mode %d: %v, want %v", n, l, want)
		}
	}
	for _, n := range append(far(), 5, 1<<32+3, 1<<32+4, -1<<32+1) {
		if l := lift.Named(n); len(l) != 0 {
			t.Errorf("mode %d: %v", n, l)
		}
	}
}

func TestNamedMayBe(t *testing.T) { // P10.3
	for n := range 5 {
		for channels := 2; channels <= 8; channels++ {
			if !lift.May(lift.Named(n), channels) {
				t.Errorf("mode %d between %d", n, channels)
			}
		}
	}
}

func TestDoOfEachMode(t *testing.T) { // P10.2, P10.3
	c := [][]int{{10, 2, -7, 100, 0, -100}, {7, 3, -7, 0, 100, 100}}
	for n, want := range [][][]int{
		c,
		{{10, 2, -7, 100, 0, -100}, {-3, 1, 0, -100, 100, 200}},
		{{3, -1, 0, 100, -100, -200}, {7, 3, -7, 0, 100, 100}},
		{{3, -1, 0, 100, -100, -200}, {8, 2, -7, 50, 50, 0}},
		{{2, -2, -1, 71, -71, -142}, {11, 3, -11, 70, 70, -1}},
	} {
		d, err := lift.Do(c, lift.Named(n))
		checkRows(t, fmt.Sprint("Do of mode ", n), d, err, want, api.OK)
		u, err := lift.Undo(d, lift.Named(n))
		checkRows(t, fmt.Sprint("Undo of mode ", n), u, err, c, api.OK)
	}
}

func TestWeightOfKnownRows(t *testing.T) { // P10.4
	for _, x := range []struct {
		c    [][]int
		want int
	}{
		{[][]int{nil}, 0},
		{[][]int{{}, nil}, 0},
		{[][]int{{5}}, 0},
		{[][]int{{5, -900}}, 0},
		{[][]int{{1 << 29}, {-1 << 30}, {7}}, 0},
		{[][]int{{1, 9}, {-9, 1}}, 0},
		{[][]int{{0, 0, 0}}, 0},
		{[][]int{{7, 7, 7, 7}, {-1, -1, -1, -1}}, 0},
		{[][]int{{1, 2, 3, 4}, {10, 0, -10, -20}}, 0},
		{[][]int{{0, 0, 1}}, 1},
		{[][]int{{0, 0, -1}}, 1},
		{[][]int{{0, 1, 0}}, 2},
		{[][]int{{1, 0, 0}}, 1},
		{[][]int{{0, -5, 0}}, 10},
		{[][]int{{0, 1, 4, 9, 16}}, 6},
		{[][]int{{1, 2, 3, 5}, {0, 0, 9, 0}}, 1 + 9 + 18},
		{[][]int{{0, 0, 1}, {0, 0, -1}}, 2},
		{[][]int{{0, 0, 1, 0, 0}}, 4},
		{[][]int{{1, -1, 1, -1}, {0, 0, 0, 5}, {0, 3, 6, 9}}, 4 + 4 + 5},
		{[][]int{{-1 << 30, 1<<30 - 1, -1 << 30}}, 1<<32 - 2},
		{[][]int{{1<<30 - 1, -1 << 30, 1<<30 - 1}}, 1<<32 - 2},
		{[][]int{{-1 << 30, -1 << 30, 1<<30 - 1}}, 1<<31 - 1},
		{[][]int{{-1 << 30, -1 << 30, -1 << 30}, {1<<30 - 1, 1<<30 - 1, 1<<30 - 1}}, 0},
		{[][]int{{0}, {0}, {0}, {0}, {0}, {0}, {0}, {0}}, 0},
		{[][]int{{0, 0, 1}, {0, 0, 2}, {0, 0, 4}, {0, 0, 8}, {0, 0, 16}, {0, 0, 32}, {0, 0, 64}, {0, 0, 128}}, 255},
	} {
		if w := lift.Weight(x.c); w != x.want {
			t.Errorf("Weight(%v) is %d, want %d", x.c, w, x.want)
		}
	}
}

func TestWeightOfTheMost(t *testing.T) { // P10.4, R7
	c := rows(8, 4096)
	for _, row := range c {
		for i := range row {
			row[i] = []int{-1 << 30, 1<<30 - 1}[i%2]
		}
	}
	if w := lift.Weight(c); w != 8*4094*(1<<32-2) {
		t.Error(w)
	}
}

func TestWeightOfNoise(t *testing.T) { // P10.4
	d := dice(3)
	for channels := 1; channels <= 8; channels++ {
		for _, size := range []int{0, 1, 2, 3, 4, 100, 4096} {
			c := d.noise(channels, size, 1<<30)
			if w := lift.Weight(c); w != weight(c) || size < 3 && w != 0 {
				t.Errorf("%d rows of %d samples: %d, want %d", channels, size, w, weight(c))
			}
		}
	}
}

func TestWeightOfNoRows(t *testing.T) { // P10.4, R1
	for what, c := range noRows() {
		if w := lift.Weight(c); w != 0 {
			t.Errorf("%s: %d", what, w)
		}
		for _, row := range c {
			if len(row) > 2 {
				row[1] ^= 50
			}
		}
		if w := lift.Weight(c); w != 0 {
			t.Errorf("%s, with some weight: %d", what, w)
		}
	}
}

// sound returns a block of the channels.
func sound(bits int, channels ...[]int) api.Block {
	return api.Block{Bits: bits, Chans: channels}
}

// checkBest compares the Best of a block with what it is to be.
func checkBest(t *testing.T, b api.Block, want []api.Lift) {
	t.Helper()
	if l := lift.Best(b); !slices.Equal(l, want) {
		t.Errorf("Best of %d bits and %d channels %v: %v, want %v", b.Bits, len(b.Chans), b.Chans, l, want)
	}
}

// pairOf returns two channels for which no mode but n has the smallest Weight.
func pairOf(n int) [][]int {
	return [][][]int{
		{{0, 40, 0, 0, 0, 0, 0}, {0, 0, 0, 0, 30, 0, 0}},
		{{0, 30, -20, 40, 0, 9, -5}, {0, 32, -20, 41, 0, 11, -5}},
		{{0, 32, -20, 41, 0, 11, -5}, {0, 30, -20, 40, 0, 9, -5}},
		{{0, 0, 20, 43, 66, 69, 69}, {0, 0, 20, 37, 54, 51, 51}},
		{{0, 30, -20, 40, 0, 9, -5}, {0, -30, 20, -40, 0, -9, 5}},
	}[n]
}

func TestPairsOfEachMode(t *testing.T) { // P10.4
	for n := range 5 {
		c := pairOf(n)
		d, _ := done(c, mode(n, 0, 1), false)
		for other := range 5 {
			e, _ := done(c, mode(other, 0, 1), false)
			if other != n && weight(e) <= weight(d) {
				t.Fatalf("mode %d: %d, mode %d: %d", n, weight(d), other, weight(e))
			}
		}
		checkBest(t, sound(8, c...), mode(n, 0, 1))
		for m := range 5 {
			two := slices.Concat(c, pairOf(m))
			checkBest(t, sound(8, two...), slices.Concat(mode(n, 0, 1), mode(m, 2, 3)))
			for o := range 5 {
				three := slices.Concat(two, pairOf(o))
				checkBest(t, sound(8, three...), slices.Concat(mode(n, 0, 1), mode(m, 2, 3), mode(o, 4, 5)))
			}
		}
	}
}

func TestBestOfTheMostChannels(t *testing.T) { // P10.4
	for n := range 5 {
		for m := range 5 {
			c := slices.Concat(pairOf(n), pairOf(m), pairOf(m), pairOf(n))
			checkBest(t, sound(8, c...), slices.Concat(mode(n, 0, 1), mode(m, 2, 3), mode(m, 4, 5), mode(n, 6, 7)))
		}
	}
}

func TestBestOfAnOddNumberOfChannels(t *testing.T) { // P10.4
	left := pairOf(4)[1]
	checkBest(t, sound(8, left), nil)
	for n := range 5 {
		c := pairOf(n)
		checkBest(t, sound(8, c[0]), nil)
		checkBest(t, sound(8, c[0], c[1], left), mode(n, 0, 1))
		checkBest(t, sound(8, slices.Concat(pairOf(4), c, [][]int{left})...), slices.Concat(mode(4, 0, 1), mode(n, 2, 3)))
		checkBest(t, sound(8, slices.Concat(pairOf(0), c, pairOf(1), [][]int{left})...), slices.Concat(mode(n, 2, 3), mode(1, 4, 5)))
	}
}

func TestBestTakesTheSmallestOfEqualModes(t *testing.T) { // P10.4, R8
	l := []int{0, 9, -4, 7, 3, -8, 2, 6}
	flat := make([]int, len(l))
	line := []int{0, 1, 2, 3, 4, 5, 6, 7}
	for _, x := range []struct {
		what string
		c    [][]int
		n    int
	}{
		{"all modes, of nothing", [][]int{flat, flat}, 0},
		{"0 and 2, of lines", [][]int{line, line}, 0},
		{"0 and 1", [][]int{flat, l}, 0},
		{"0 and 2", [][]int{l, flat}, 0},
		{"1, 2 and 3", [][]int{l, l}, 1},
		{"all, of one sample", [][]int{{5}, {5}}, 0},
		{"all, of two samples", [][]int{{5, -5}, {5, 5}}, 0},
	} {
		checkBest(t, sound(8, x.c...), mode(x.n, 0, 1))
		checkBest(t, sound(8, slices.Concat([][]int{x.c[0], x.c[0]}, x.c)...), slices.Concat(best([][]int{x.c[0], x.c[0]}), mode(x.n, 2, 3)))
	}
}

func TestBestOfNoise(t *testing.T) { // P10.4
	d := dice(4)
	var found [5]int
	for range 5000 {
		channels, size := 1+d.below(8), 1+d.below(12)
		c := d.noise(channels, size, 1<<(3+d.below(6)))
		for i := 1; i < channels; i++ {
			// Some channels are like the one before, or its opposite.
			sign := d.below(3) - 1
			for j := range c[i] {
				c[i][j] = (c[i][j] + 2*sign*c[i-1][j]) / 4
			}
		}
		l := lift.Best(sound(10, c...))
		if !slices.Equal(l, best(c)) {
			t.Fatalf("%v: %v, want %v", c, l, best(c))
		}
		if !lift.May(l, channels) {
			t.Fatalf("%v: %v may not be", c, l)
		}
		for n := range found {
			if channels == 2 && slices.Equal(l, mode(n, 0, 1)) {
				found[n]++
			}
		}
	}
	if slices.Min(found[:]) == 0 {
		t.Error("not every mode was found:", found)
	}
}

func TestBestOfSamplesAtBothEnds(t *testing.T) { // P10.4, R7
	d := dice(5)
	for _, bits := range []int{4, 8, 16, 23, 24} {
		ends := []int{-1 << (bits - 1), 1<<(bits-1) - 1}
		for range 200 {
			c := rows(8, 3+d.below(20))
			for _, row := range c {
				for i := range row {
					row[i] = ends[d.below(2)]
				}
			}
			checkBest(t, sound(bits, c...), best(c))
		}
		one, other := rows(1, 9)[0], rows(1, 9)[0]
		for i := range one {
			one[i], other[i] = ends[i%2], ends[1-i%2]
		}
		checkBest(t, sound(bits, one, one), mode(1, 0, 1))
		checkBest(t, sound(bits, one, other), mode(4, 0, 1))
		checkBest(t, sound(bits, one, other, one, other, one, other, one, other), slices.Concat(mode(4, 0, 1), mode(4, 2, 3), mode(4, 4, 5), mode(4, 6, 7)))
	}
}

func TestBestOfTheMostSamples(t *testing.T) { // P10.4
	d := dice(6)
	c := d.noise(8, 4096, 1<<23)
	for i := range 4096 {
		c[1][i] = c[0][i] / 2
		c[3][i] = -c[2][i] / 2
		c[5][i] = c[4][i]/2 + c[5][i]/4
	}
	checkBest(t, sound(24, c...), best(c))
}

func TestBestOfNoBlock(t *testing.T) { // P10.4, R1
	c := pairOf(1)
	for _, bits := range append(far(), 0, 1, 2, 3, 25, 26, 31, 32, 64) {
		checkBest(t, sound(bits, c...), nil)
	}
	// Of the right number of bits it is a block: 41 is its greatest sample, which is too much for 6 bits.
	checkBest(t, sound(7, c...), mode(1, 0, 1))
	checkBest(t, sound(6, c...), nil)
	checkBest(t, api.Block{}, nil)
	checkBest(t, sound(8), nil)
	checkBest(t, sound(8, nil, nil), nil)
	checkBest(t, sound(8, c[0], c[1][:5]), nil)
	checkBest(t, sound(8, c[0][:5], c[1]), nil)
	checkBest(t, sound(8, c[0], c[1], nil), nil)
	checkBest(t, sound(8, c[0], c[1], c[0][:5]), nil)
	checkBest(t, sound(8, slices.Concat(c, c, c, c, c[:1])...), nil)
	checkBest(t, sound(8, slices.Concat(c, c, c, c, c)...), nil)
	long := []int{0, 90, 0, 0}
	for len(long) < 4096 {
		long = append(long, 0)
	}
	checkBest(t, sound(8, long, long), mode(1, 0, 1))
	long = append(long, 0)
	checkBest(t, sound(8, long, long), nil)
	for _, x := range append(narrow(), 128, -129, 1<<23, 1<<29) {
		for at := range 6 {
			b := sound(8, slices.Clone(c[0]), slices.Clone(c[1]), slices.Clone(c[0]))
			b.Chans[at%3][at] = x
			checkBest(t, b, nil)
		}
	}
}

// adjacent returns rows that lie one behind the other in one array, each in the spare capacity of the one before.
func adjacent(n, size int) [][]int {
	d := dice(7)
	all := slices.Concat(d.noise(1, (n+1)*size, 1<<15)...)
	c := make([][]int, n, n+2)
	for i := range c {
		c[i] = all[i*size : (i+1)*size]
	}
	return c
}

// whole returns what lies in the first row and behind it.
func whole(c [][]int) []int { return slices.Clone(c[0][:cap(c[0])]) }

func TestArgumentsStay(t *testing.T) { // R2, R3
	c := adjacent(4, 5)
	was := whole(c)
	all := []api.Lift{step(0, 1, 200), step(1, 0, -300), step(2, 3, 128), step(3, 0, 77), step(9, 9, 9), step(-1, 0, 1)}
	wasAll := slices.Clone(all)
	l := all[:4]
	d, err := done(c, l, false)
	if err != api.OK {
		t.Fatal(err)
	}
	u, err := done(c, l, true)
	if err != api.OK {
		t.Fatal(err)
	}
	b := api.Block{Bits: 16, Chans: c}
	for range 2 {
		got, err := lift.Do(c, l)
		checkRows(t, "Do", got, err, d, api.OK)
		got, err = lift.Undo(c, l)
		checkRows(t, "Undo", got, err, u, api.OK)
		if !lift.May(l, 4) || lift.May(all[:5], 4) || lift.Weight(c) != weight(c) {
			t.Error("May or Weight")
		}
		checkBest(t, b, best(c))
		full := [][]int{{1, 1<<30 - 1}, {2, 1<<30 - 1}}
		checkBoth(t, "not wide in the second step", full, []api.Lift{step(0, 1, 0), step(0, 1, 0), step(1, 0, 256), step(0, 1, -1024)}, api.ErrRange)
		checkRows(t, "an argument beside an error", full, api.OK, [][]int{{1, 1<<30 - 1}, {2, 1<<30 - 1}}, api.OK)
	}
	if !slices.Equal(whole(c), was) || !slices.Equal(all, wasAll) {
		t.Error("an argument, or what lies behind it, was changed")
	}
	if c = c[:cap(c)]; c[4] != nil || c[5] != nil {
		t.Error("the spare capacity of the rows was changed")
	}
}

// scribble writes into a slice and behind it.
func scribble[T any](l []T, x T) {
	l = l[:cap(l)]
	for i := range l {
		l[i] = x
	}
}

// checkApart checks that writing into one row of a result, and behind it, changes no other.
func checkApart(t *testing.T, what string, c [][]int, err api.Errno) {
	t.Helper()
	if err != api.OK || len(c) < 2 {
		t.Fatalf("%s: %d rows, error %d", what, len(c), err)
	}
	for i := range c {
		was := clone(c)
		scribble(c[i], 0x55)
		for j := range c {
			if j != i && !slices.Equal(c[j], was[j]) {
				t.Errorf("%s: rows %d and %d share their samples", what, i, j)
			}
		}
	}
	scribble(c, nil)
}

func TestResultsAreNew(t *testing.T) { // R2
	for _, l := range [][]api.Lift{nil, {step(0, 1, 0)}, {step(0, 1, 200), step(1, 2, -300)}} {
		for size := 1; size <= 20; size++ {
			c := adjacent(4, size)
			was := whole(c)
			keepDone, _ := lift.Do(c, l)
			keepUndone, _ := lift.Undo(c, l)
			wantDone, wantUndone := clone(keepDone), clone(keepUndone)
			d, err := lift.Do(c, l)
			checkApart(t, "Do", d, err)
			u, err := lift.Undo(c, l)
			checkApart(t, "Undo", u, err)
			if !slices.Equal(whole(c), was) || !same(keepDone, wantDone) || !same(keepUndone, wantUndone) {
				t.Errorf("a result of %v shares its rows with an argument or another result", l)
			}
			scribble(c[0], 1)
			scribble(c, nil)
			scribble(l, step(5, 5, 5))
			if !same(keepDone, wantDone) || !same(keepUndone, wantUndone) {
				t.Errorf("a result of %v changes with an argument", l)
			}
			copy(l, []api.Lift{step(0, 1, 100), step(1, 0, 5)})
		}
	}
}

func TestRowsThatAreOneSlice(t *testing.T) { // P10.2, R2
	row := []int{1, -2, 3}
	c := [][]int{row, row, row}
	l := []api.Lift{step(0, 1, 256), step(1, 2, -512)}
	d, err := lift.Do(c, l)
	checkRows(t, "Do", d, err, [][]int{{1, -2, 3}, {2, -4, 6}, {-3, 6, -9}}, api.OK)
	checkApart(t, "Do", d, err)
	u, err := lift.Undo(c, l)
	checkRows(t, "Undo", u, err, [][]int{{1, -2, 3}, {0, 0, 0}, {3, -6, 9}}, api.OK)
	checkApart(t, "Undo", u, err)
	d, err = lift.Do(c, nil)
	checkApart(t, "Do of no steps", d, err)
	if !slices.Equal(row, []int{1, -2, 3}) {
		t.Error("a result shares its samples with the argument")
	}
}

func TestStepsOfResultsAreNew(t *testing.T) { // P10.3, P10.4, R2
	b := sound(8, slices.Concat(pairOf(3), pairOf(4), pairOf(1), pairOf(2))...)
	want := slices.Concat(mode(3, 0, 1), mode(4, 2, 3), mode(1, 4, 5), mode(2, 6, 7))
	keep := lift.Best(b)
	scribble(lift.Best(b), step(7, 7, 7))
	for n := range 5 {
		first, second := lift.Named(n), lift.Named(n)
		scribble(first, step(7, 7, 7))
		if !slices.Equal(second, mode(n, 0, 1)) || !slices.Equal(lift.Named(n), mode(n, 0, 1)) {
			t.Errorf("two results of mode %d share their steps", n)
		}
	}
	scribble(b.Chans[0], 5)
	if !slices.Equal(keep, want) {
		t.Errorf("%v, want %v", keep, want)
	}
	scribble(keep, step(7, 7, 7))
	b.Chans[0] = pairOf(3)[0]
	checkBest(t, b, want)
}

func TestTheExampleOfTheDocument(t *testing.T) { // P10.2, P10.3
	d, err := lift.Do([][]int{{10}, {7}}, lift.Named(3))
	checkRows(t, "left 10 and right 7", d, err, [][]int{{3}, {8}}, api.OK)
}
