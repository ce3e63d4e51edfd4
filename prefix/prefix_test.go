package prefix_test

import (
	"bytes"
	"fmt"
	"math"
	"slices"
	"strconv"
	"strings"
	"testing"

	"kinora/api"
	"kinora/bits"
	"kinora/prefix"
)

// noLengths returns numbers that are no length of a word, and no 0.
func noLengths() []int {
	return []int{-1, -2, -24, -25, -1 << 24, -1 << 32, math.MinInt32, math.MinInt + 1, math.MinInt, 25, 26, 30, 31, 32, 63, 64, 65, 1<<32 + 1, 1<<32 + 24, math.MaxInt32, math.MaxInt - 1, math.MaxInt}
}

// isFull says in the document's words whether lens are Full.
func isFull(lens []int) bool {
	if len(lens) == 0 || len(lens) > 1024 {
		return false
	}
	var used []int
	sum := 0
	for _, length := range lens {
		if length < 0 || length > 24 {
			return false
		}
		if length != 0 {
			used = append(used, length)
			sum += powerOf2(24 - length)
		}
	}
	if len(used) == 1 {
		return used[0] == 1
	}
	return len(used) > 1 && sum == powerOf2(24)
}

// powerOf2 returns 2^n.
func powerOf2(n int) int {
	x := 1
	for range n {
		x *= 2
	}
	return x
}

// wordsOf returns the words of the used symbols as texts of 0 and 1, and empty texts, in the document's words.
func wordsOf(lens []int) []string {
	words := make([]string, len(lens))
	last := ""
	for length := 1; length <= 24; length++ {
		for symbol := range lens {
			if lens[symbol] != length {
				continue
			}
			if last == "" {
				last = strings.Repeat("0", length)
			} else {
				last = plus1(last)
				last += strings.Repeat("0", length-len(last))
			}
			words[symbol] = last
		}
	}
	return words
}

// plus1 returns the number behind that of a text of 0 and 1, in as many digits.
func plus1(text string) string {
	at := strings.LastIndex(text, "0")
	if at < 0 {
		panic("no number behind " + text)
	}
	return text[:at] + "1" + strings.Repeat("0", len(text)-at-1)
}

// textOf returns the words of the symbols of l, one after another.
func textOf(lens, l []int) string {
	words := wordsOf(lens)
	var text strings.Builder
	for _, symbol := range l {
		text.WriteString(words[symbol])
	}
	return text.String()
}

// readSymbols reads n symbols from a text, in the document's words, and returns what it takes of it.
func readSymbols(text string, lens []int, n int) ([]int, int, api.Errno) {
	words := wordsOf(lens)
	used := 0
	for _, word := range words {
		used += min(len(word), 1)
	}
	var l []int
	at := 0
	for range n {
		from := at
		for found := false; !found; {
			if at == len(text) {
				return nil, 0, api.ErrShort
			}
			if at++; used == 1 && text[at-1] == '1' {
				return nil, 0, api.ErrForm
			}
			if symbol := slices.Index(words, text[from:at]); symbol >= 0 {
				l = append(l, symbol)
				found = true
			}
		}
	}
	return l, at, api.OK
}

// bundle is an element of a row with all symbols that occur in it.
type bundle struct {
	weight  int
	symbols []int
}

// lengthsOf returns the lengths of the package-merge algorithm, in the document's words.
func lengthsOf(freq []int, most int) []int {
	var coins []bundle
	for symbol, f := range freq {
		if f > 0 {
			coins = insert(coins, bundle{f, []int{symbol}})
		}
	}
	lens := make([]int, len(freq))
	if len(coins) == 1 {
		lens[coins[0].symbols[0]] = 1
		return lens
	}
	row := coins
	for range most - 1 {
		next := slices.Clone(coins)
		for i := 0; i+1 < len(row); i += 2 {
			next = insert(next, bundle{row[i].weight + row[i+1].weight, slices.Concat(row[i].symbols, row[i+1].symbols)})
		}
		row = next
	}
	for _, b := range row[:2*len(coins)-2] {
		for _, symbol := range b.symbols {
			lens[symbol]++
		}
	}
	return lens
}

// insert lays b behind all bundles of a row that are not heavier.
func insert(row []bundle, b bundle) []bundle {
	at := len(row)
	for at > 0 && row[at-1].weight > b.weight {
		at--
	}
	return slices.Insert(row, at, b)
}

// leastTotal returns the smallest Total of lens that are Full and have no length above most: level by level, the
// symbols in descending order of frequency end there or go on.
func leastTotal(freq []int, most int) int {
	var used []int
	for _, f := range freq {
		if f > 0 {
			used = append(used, f)
		}
	}
	if len(used) == 1 {
		return used[0]
	}
	slices.Sort(used)
	slices.Reverse(used)
	known := map[[3]int]int{}
	var least func(level, placed, open int) int
	least = func(level, placed, open int) int {
		if placed == len(used) && open == 0 {
			return 0
		}
		if level == most || open == 0 || open > len(used)-placed {
			return math.MaxInt
		}
		key := [3]int{level, placed, open}
		if total, ok := known[key]; ok {
			return total
		}
		// All that are not placed yet take one bit more.
		best, bit := math.MaxInt, totalOf(used[placed:])
		for end := range 2*open + 1 {
			if placed+end <= len(used) {
				if rest := least(level+1, placed+end, 2*open-end); rest < math.MaxInt {
					best = min(best, bit+rest)
				}
			}
		}
		known[key] = best
		return best
	}
	return least(0, 0, 1)
}

// huffmanTotal returns the smallest Total of lens that are Full, whatever the lengths.
func huffmanTotal(freq []int) int {
	var l []int
	for _, f := range freq {
		if f > 0 {
			l = append(l, f)
		}
	}
	total := 0
	for len(l) > 1 {
		slices.Sort(l)
		l[1] += l[0]
		l = l[1:]
		total += l[0]
	}
	return total
}

// totalOf returns the sum of l.
func totalOf(l []int) int {
	total := 0
	for _, x := range l {
		total += x
	}
	return total
}

// tableText returns the table of lens as a text of 0 and 1, in the document's words.
func tableText(lens []int) string {
	var text strings.Builder
	text.WriteString(digits(len(lens)-1, 10))
	for len(lens) > 0 {
		run := 0
		for run < len(lens) && run < 66 && lens[run] == 0 {
			run++
		}
		if run >= 3 {
			text.WriteString(digits(31, 5) + digits(run-3, 6))
			lens = lens[run:]
		} else {
			text.WriteString(digits(lens[0], 5))
			lens = lens[1:]
		}
	}
	return text.String()
}

// readTable reads a table from a text, in the document's words, and returns what it takes of it.
func readTable(text string) ([]int, int, api.Errno) {
	last, at, err := readDigits(text, 0, 10)
	if err != api.OK {
		return nil, 0, err
	}
	var lens []int
	for len(lens) < last+1 {
		var length, run int
		if length, at, err = readDigits(text, at, 5); err != api.OK {
			return nil, 0, err
		}
		if length != 31 {
			lens = append(lens, length)
			continue
		}
		if run, at, err = readDigits(text, at, 6); err != api.OK {
			return nil, 0, err
		}
		lens = append(lens, make([]int, run+3)...)
	}
	if !isFull(lens) || tableText(lens) != text[:at] {
		return nil, 0, api.ErrForm
	}
	return lens, at, api.OK
}

// readDigits reads n digits of a text from at on, and returns where they end.
func readDigits(text string, at, n int) (int, int, api.Errno) {
	if len(text)-at < n {
		return 0, 0, api.ErrShort
	}
	u := 0
	for _, c := range text[at : at+n] {
		u = 2*u + int(c-'0')
	}
	return u, at + n, api.OK
}

// digits returns the number u in n binary digits.
func digits(u, n int) string {
	return fmt.Sprintf("%0*b", n, u)
}

// noise returns n numbers from 0 to below bound, without a pattern.
func noise(n, bound int, seed uint64) []int {
	l := make([]int, n)
	for i := range l {
		seed = seed*6364136223846793005 + 1442695040888963407
		l[i] = int(seed>>20) % bound
	}
	return l
}

// mixed returns l in another order.
func mixed(l []int, seed uint64) []int {
	l = slices.Clone(l)
	for i, at := range noise(len(l), 1<<30, seed) {
		at %= i + 1
		l[i], l[at] = l[at], l[i]
	}
	return l
}

// times returns count times x.
func times(x, count int) []int {
	return slices.Repeat([]int{x}, count)
}

// zerosTo returns l with lengths 0 behind it, n in all.
func zerosTo(n int, l ...int) []int {
	return append(l, make([]int, n-len(l))...)
}

// chain returns the lengths 1, 2, .., n - 1, n, n.
func chain(n int) []int {
	var l []int
	for i := range n {
		l = append(l, i+1)
	}
	return append(l, n)
}

// split returns Full lengths of used words, at most most bits each, without a pattern: words are split in two.
func split(used, most int, seed uint64) []int {
	l := []int{0}
	for _, x := range noise(1<<16, 1<<30, seed) {
		if len(l) == used {
			return l
		}
		if at := x % len(l); l[at] < most {
			l[at]++
			l = append(l, l[at])
		}
	}
	panic("not so many words")
}

// allOf returns all lists of n numbers from 0 to most.
func allOf(n, most int) [][]int {
	if n == 0 {
		return [][]int{{}}
	}
	var all [][]int
	for _, l := range allOf(n-1, most) {
		for x := range most + 1 {
			all = append(all, append(slices.Clone(l), x))
		}
	}
	return all
}

// fullsOf returns all lens of up to n symbols that are Full and have no length above most.
func fullsOf(n, most int) [][]int {
	var all [][]int
	for size := range n {
		for _, lens := range allOf(size+1, most) {
			if isFull(lens) {
				all = append(all, lens)
			}
		}
	}
	return all
}

// someFulls returns lens that are Full, of all kinds.
func someFulls() [][]int {
	all := fullsOf(4, 3)
	all = append(all, chain(24), times(10, 1024), zerosTo(1024, 1), append(make([]int, 1023), 1), zerosTo(1024, 1, 0, 0, 0, 1))
	for i := range 60 {
		used := noise(1, []int{8, 40, 1023}[i%3], uint64(i))[0] + 2
		n := used + noise(1, 1025-used, uint64(i+1))[0]
		lens := zerosTo(n, split(used, []int{10, 24, 13, 17}[i%4], uint64(i))...)
		if i%2 == 0 {
			lens = mixed(lens, uint64(i))
		}
		all = append(all, lens)
	}
	return all
}

// notFulls returns lens that are not Full, of all kinds.
func notFulls() [][]int {
	all := [][]int{
		nil, {}, {0}, {0, 0}, {2}, {24}, {0, 2}, {2, 0, 0}, {0, 24, 0}, {1, 2}, {2, 2}, {1, 1, 1}, {1, 2, 2, 2}, {1, 2, 3}, {2, 2, 2},
		{1, 24}, {24, 24}, {1, 1, 24}, {1, 2, 2, 24}, {25, 1}, {-1, 1}, {1, 1, 25}, {1, 1, -1}, {1, 1, 31}, {1, -1},
		make([]int, 1024), make([]int, 1025), zerosTo(1025, 1), zerosTo(1025, 1, 1), zerosTo(1026, 1, 1), append(times(10, 1024), 0),
		times(10, 1023), times(10, 1025), times(11, 1024), times(9, 1024), append(times(11, 1023), 0),
		chain(24)[:24], append(chain(24), 24), chain(25), append(chain(24)[:23], 23, 24),
		times(1, 1024), append(times(1, 1<<14), 1), make([]int, 1<<20),
	}
	for _, x := range noLengths() {
		all = append(all, []int{x}, []int{1, x}, []int{x, 1}, []int{1, 1, x}, []int{x, 1, 1}, []int{1, 2, x, 2}, []int{x, x})
	}
	return all
}

// join removes the blanks of a text.
func join(text string) string {
	return strings.ReplaceAll(text, " ", "")
}

// pack returns the bytes of a text of 0 and 1, filled up with 0.
func pack(text string) []byte {
	text += strings.Repeat("0", (8-len(text)%8)%8)
	b := make([]byte, 0, len(text)/8)
	for i := 0; i < len(text); i += 8 {
		x, err := strconv.ParseUint(text[i:i+8], 2, 8)
		if err != nil {
			panic(err)
		}
		b = append(b, byte(x))
	}
	return b
}

// ending returns a Reader that has read all but the bits of text, which are the last ones.
func ending(t *testing.T, text string) *bits.Reader {
	t.Helper()
	ahead := (8 - len(text)%8) % 8
	r := bits.New(pack(strings.Repeat("1", ahead) + text))
	r.Get(ahead)
	if r.Left() != len(text) {
		t.Fatalf("%d bits are left, want %d", r.Left(), len(text))
	}
	return r
}

// broken returns Readers that have an error already, and the errors.
func broken() map[api.Errno]*bits.Reader {
	all := map[api.Errno]*bits.Reader{}
	for range 3 {
		r := bits.New(make([]byte, 300))
		r.Get(3)
		switch len(all) {
		case 0:
			r.Get(65)
		case 1:
			r.Unary(4)
		case 2:
			r.Unary(math.MaxInt)
		}
		all[r.Err()] = r
	}
	return all
}

// checkHolds compares what w holds with a text of 0 and 1.
func checkHolds(t *testing.T, w *bits.Writer, want string) {
	t.Helper()
	if w.Len() != len(want) || !bytes.Equal(w.Bytes(), pack(want)) {
		t.Errorf("%d bits, %08b; want %d bits, %08b", w.Len(), w.Bytes(), len(want), pack(want))
	}
}

// checkLengths compares Lengths with what they are to be.
func checkLengths(t *testing.T, freq []int, most int, want []int) {
	t.Helper()
	if lens, err := prefix.Lengths(freq, most); err != api.OK || !slices.Equal(lens, want) {
		t.Errorf("Lengths of %d, %d: %d, error %d; want %d", freq, most, lens, err, want)
	}
}

// checkNoLengths checks that Lengths returns an error, and nothing beside it.
func checkNoLengths(t *testing.T, freq []int, most int, want api.Errno) {
	t.Helper()
	if lens, err := prefix.Lengths(freq, most); err != want || len(lens) != 0 {
		t.Errorf("Lengths of %d frequencies, %d: %d, error %d; want error %d", len(freq), most, lens, err, want)
	}
}

// checkCodes compares Codes with the document's.
func checkCodes(t *testing.T, lens []int) {
	t.Helper()
	codes, err := prefix.Codes(lens)
	if err != api.OK || len(codes) != len(lens) {
		t.Errorf("Codes of %d: %d of them, error %d", lens, len(codes), err)
		return
	}
	for symbol, word := range wordsOf(lens) {
		want := uint64(0)
		for _, c := range word {
			want = 2*want + uint64(c-'0')
		}
		if codes[symbol] != want {
			t.Errorf("lengths %d: the word of %d is %b, want %s", lens, symbol, codes[symbol], word)
		}
	}
}

// checkSymbols puts symbols, gets them again, and compares their bits with the document's.
func checkSymbols(t *testing.T, lens, l []int) {
	t.Helper()
	text := textOf(lens, l)
	var w bits.Writer
	w.Put(5, 3)
	if err := prefix.Put(&w, lens, l); err != api.OK {
		t.Errorf("Put of %d, %d: error %d", lens, l, err)
		return
	}
	checkHolds(t, &w, "101"+text)
	r := bits.New(pack("101" + text + "11001"))
	r.Get(3)
	checkGet(t, r, lens, l)
	if r.At() != 3+len(text) || r.Get(5) != 0b11001 {
		t.Errorf("%d bits are read, want %d", r.At(), 3+len(text)+5)
	}
}

// checkGet reads symbols and compares them with what they are to be.
func checkGet(t *testing.T, r *bits.Reader, lens, want []int) {
	t.Helper()
	if l, err := prefix.Get(r, lens, len(want)); err != api.OK || !slices.Equal(l, want) {
		t.Errorf("Get of %d, %d: %d, error %d; want %d", lens, len(want), l, err, want)
	}
}

// checkNoSymbols checks that Get returns an error, and nothing beside it.
func checkNoSymbols(t *testing.T, r *bits.Reader, lens []int, n int, want api.Errno) {
	t.Helper()
	if l, err := prefix.Get(r, lens, n); err != want || len(l) != 0 {
		t.Errorf("Get of %d, %d: %d, error %d; want error %d", lens, n, l, err, want)
	}
}

// checkGetTable reads a table and compares it with what it is to be.
func checkGetTable(t *testing.T, r *bits.Reader, want []int) {
	t.Helper()
	if lens, err := prefix.GetTable(r); err != api.OK || !slices.Equal(lens, want) {
		t.Errorf("GetTable: %d, error %d; want %d", lens, err, want)
	}
}

// checkNoTable checks that GetTable returns an error, and nothing beside it.
func checkNoTable(t *testing.T, r *bits.Reader, want api.Errno) {
	t.Helper()
	if lens, err := prefix.GetTable(r); err != want || len(lens) != 0 {
		t.Errorf("GetTable: %d, error %d; want error %d", lens, err, want)
	}
}

// checkTable puts a table, gets it again, and compares its bits with the document's.
func checkTable(t *testing.T, lens []int) {
	t.Helper()
	text := tableText(lens)
	var w bits.Writer
	w.Put(5, 3)
	if err := prefix.PutTable(&w, lens); err != api.OK {
		t.Errorf("PutTable of %d: error %d", lens, err)
		return
	}
	checkHolds(t, &w, "101"+text)
	r := bits.New(pack("101" + text + "11001"))
	r.Get(3)
	checkGetTable(t, r, lens)
	if r.At() != 3+len(text) || r.Get(5) != 0b11001 {
		t.Errorf("%d bits are read, want %d", r.At(), 3+len(text)+5)
	}
}

// checkUntouched checks that a Reader has no error and is before the bits of text, its last ones.
func checkUntouched(t *testing.T, r *bits.Reader, text string) {
	t.Helper()
	if r.Err() != api.OK || r.Left() != len(text) {
		t.Errorf("error %d, Left %d, before %d", r.Err(), r.Left(), len(text))
		return
	}
	for i := range text {
		if got := r.Get(1); got != uint64(text[i]-'0') {
			t.Errorf("%s: bit %d is %d", text, i, got)
			return
		}
	}
}

// checkTextOfTable reads a table from bits that end behind text, and compares it with the document's.
func checkTextOfTable(t *testing.T, text string) {
	t.Helper()
	want, end, err := readTable(text)
	r := ending(t, text)
	at := r.At()
	switch err {
	case api.OK:
		checkGetTable(t, r, want)
		checkUntouched(t, r, text[end:])
	case api.ErrForm:
		checkNoTable(t, r, api.ErrForm)
		if r.At() != at {
			t.Errorf("%s: At %d, before %d", text, r.At(), at)
		}
		checkUntouched(t, r, text)
	default:
		checkNoTable(t, r, err)
		checkFrozen(t, r, err)
		checkNoTable(t, r, err)
	}
}

// checkFrozen checks that a Reader has an error, keeps it, and stays where it is.
func checkFrozen(t *testing.T, r *bits.Reader, want api.Errno) {
	t.Helper()
	at, left := r.At(), r.Left()
	checkNoSymbols(t, r, []int{1}, 0, want)
	checkNoTable(t, r, want)
	if r.Get(1) != 0 || r.Err() != want || r.At() != at || r.Left() != left {
		t.Errorf("the reader has error %d, want %d; At %d, Left %d, before %d, %d", r.Err(), want, r.At(), r.Left(), at, left)
	}
}

func TestFullOfKnownLengths(t *testing.T) { // P7.1
	for _, lens := range [][]int{
		{1}, {0, 1}, {1, 0}, {0, 0, 1, 0}, zerosTo(1024, 1), append(make([]int, 1023), 1),
		{1, 1}, {0, 1, 0, 1}, {1, 2, 2}, {2, 1, 2}, {2, 2, 1}, {2, 2, 2, 2}, {3, 3, 3, 3, 1, 0}, {1, 3, 3, 3, 3},
		chain(24), append(chain(24), make([]int, 999)...), times(10, 1024), append(times(9, 511), 10, 10),
	} {
		if !prefix.Full(lens) {
			t.Errorf("%d is not Full", lens)
		}
	}
	for _, lens := range notFulls() {
		if prefix.Full(lens) {
			t.Errorf("%d is Full", lens)
		}
	}
}

func TestFullByEachLength(t *testing.T) { // P7.1
	for length := 1; length <= 24; length++ {
		// A word of that length and one of each shorter length leave room for one more.
		lens := chain(length)
		if !prefix.Full(lens) || prefix.Full(lens[:length]) != (length == 1) || prefix.Full(append(lens, length)) || prefix.Full(append(lens, 24)) {
			t.Errorf("length %d", length)
		}
		if prefix.Full([]int{length}) != (length == 1) || prefix.Full([]int{0, length, 0}) != (length == 1) {
			t.Errorf("length %d alone", length)
		}
		if length > 1 && prefix.Full(times(length, min(1024, 1<<length))) != (length <= 10) {
			t.Errorf("all of length %d", length)
		}
	}
	// 2^24 - 1 and 2^24 + 1 of the smallest parts.
	most := append(split(1023, 24, 5), 24)
	if isFull(most) || prefix.Full(most) || !prefix.Full(most[:1023]) || len(most) != 1024 {
		t.Error("a sum just above")
	}
	at := slices.Index(chain(24), 24)
	if prefix.Full(slices.Delete(chain(24), at, at+1)) {
		t.Error("a sum just below")
	}
}

func TestFullOfAllShortLists(t *testing.T) { // P7.1
	count := 0
	for n := range 7 {
		for _, lens := range allOf(n, 5) {
			if prefix.Full(lens) != isFull(lens) {
				t.Errorf("Full of %d is %t", lens, prefix.Full(lens))
			}
			if isFull(lens) {
				count++
			}
		}
	}
	if count < 1000 {
		t.Errorf("%d lists are Full", count)
	}
}

func TestFullOfLongLists(t *testing.T) { // P7.1
	for i := range 300 {
		used := 2 + noise(1, 1022, uint64(i))[0]
		lens := mixed(zerosTo(used+i%(1025-used), split(used, []int{10, 12, 24}[i%3], uint64(i))...), uint64(i))
		if !prefix.Full(lens) {
			t.Errorf("%d is not Full", lens)
		}
		at := noise(1, len(lens), uint64(i+7))[0]
		for _, x := range []int{0, 1, lens[at] - 1, lens[at] + 1, 24, 25, -1} {
			other := slices.Clone(lens)
			other[at] = x
			if prefix.Full(other) != isFull(other) {
				t.Errorf("Full of %d is %t", other, prefix.Full(other))
			}
		}
	}
}

func TestTotal(t *testing.T) { // P7.1, R7
	for _, x := range []struct {
		freq, lens []int
		want       int
	}{
		{nil, nil, 0},
		{[]int{5}, nil, 0},
		{nil, []int{5}, 0},
		{[]int{5}, []int{7}, 35},
		{[]int{5, 7, 9}, []int{1, 2}, 19},
		{[]int{5, 7}, []int{1, 2, 3}, 19},
		{[]int{0, 7, 1 << 40}, []int{4, 0, 24}, 24 << 40},
		{times(1<<40, 1024), times(24, 1024), 24 << 50},
		{times(1<<40, 2000), times(24, 1999), 24 * 1999 << 40},
		{[]int{-3, 4}, []int{5, 6}, 9},
		{[]int{3, 4}, []int{-5, 6}, 9},
		{[]int{math.MaxInt}, []int{1}, math.MaxInt},
		{[]int{math.MinInt}, []int{1}, math.MinInt},
		{[]int{math.MaxInt, 5}, []int{-1, 1}, -math.MaxInt + 5},
		{[]int{1 << 31, 1 << 32}, []int{1 << 31, -1 << 30}, 0},
		// What lies between may be above each int.
		{[]int{math.MaxInt, math.MaxInt, math.MinInt}, []int{1, 1, 1}, math.MaxInt - 1},
		{[]int{math.MaxInt, math.MaxInt}, []int{3, -3}, 0},
	} {
		if got := prefix.Total(x.freq, x.lens); got != x.want {
			t.Errorf("Total of %d, %d is %d, want %d", x.freq, x.lens, got, x.want)
		}
	}
	for n := range 40 {
		freq, lens := noise(n, 1<<20, uint64(n)), noise(40-n, 25, uint64(n+1))
		want := 0
		for i := 0; i < n && i < 40-n; i++ {
			want += freq[i] * lens[i]
		}
		if got := prefix.Total(freq, lens); got != want {
			t.Errorf("Total of %d, %d is %d, want %d", freq, lens, got, want)
		}
	}
}

func TestCodesOfKnownLengths(t *testing.T) { // P7.2
	for _, x := range []struct {
		lens []int
		want []uint64
	}{
		{[]int{1}, []uint64{0}},
		{[]int{0, 0, 1, 0}, []uint64{0, 0, 0, 0}},
		{[]int{1, 1}, []uint64{0, 1}},
		{[]int{1, 0, 1}, []uint64{0, 0, 1}},
		{[]int{3, 3, 2, 1}, []uint64{0b110, 0b111, 0b10, 0}},
		{[]int{2, 1, 2}, []uint64{0b10, 0, 0b11}},
		{[]int{2, 2, 2, 2}, []uint64{0b00, 0b01, 0b10, 0b11}},
		{[]int{2, 3, 2, 3, 2}, []uint64{0b00, 0b110, 0b01, 0b111, 0b10}},
		{[]int{4, 4, 4, 4, 1, 4, 4, 4, 4}, []uint64{0b1000, 0b1001, 0b1010, 0b1011, 0, 0b1100, 0b1101, 0b1110, 0b1111}},
		{[]int{5, 2, 5, 2, 5, 5, 2, 5, 5, 0, 5, 5}, []uint64{0b11000, 0b00, 0b11001, 0b01, 0b11010, 0b11011, 0b10, 0b11100, 0b11101, 0, 0b11110, 0b11111}},
	} {
		if got, err := prefix.Codes(x.lens); err != api.OK || !slices.Equal(got, x.want) {
			t.Errorf("Codes of %d: %b, error %d; want %b", x.lens, got, err, x.want)
		}
	}
	codes, err := prefix.Codes(chain(24))
	if err != api.OK || codes[0] != 0 || codes[22] != 1<<23-2 || codes[23] != 1<<24-2 || codes[24] != 1<<24-1 {
		t.Errorf("the longest words: %b, error %d", codes, err)
	}
	codes, err = prefix.Codes(times(10, 1024))
	for i := range 1024 {
		if err != api.OK || codes[i] != uint64(i) {
			t.Errorf("word %d of 10 bits: %b, error %d", i, codes, err)
		}
	}
}

func TestCodesAreTheDocuments(t *testing.T) { // P7.2
	for _, lens := range fullsOf(6, 5) {
		checkCodes(t, lens)
	}
	for _, lens := range someFulls() {
		checkCodes(t, lens)
	}
}

func TestCodesOfNotFull(t *testing.T) { // P7.2, R4
	for _, lens := range notFulls() {
		if codes, err := prefix.Codes(lens); err != api.ErrArg || len(codes) != 0 {
			t.Errorf("Codes of %d: %d, error %d", lens, codes, err)
		}
	}
}

func TestLengthsOfKnownFrequencies(t *testing.T) { // P7.3, R8
	for _, x := range []struct {
		freq []int
		most int
		want []int
	}{
		{[]int{1}, 1, []int{1}},
		{[]int{1 << 40}, 24, []int{1}},
		{[]int{0, 0, 9, 0}, 1, []int{0, 0, 1, 0}},
		{zerosTo(1024, 1), 1, zerosTo(1024, 1)},
		{[]int{7, 1}, 1, []int{1, 1}},
		{[]int{7, 0, 1}, 24, []int{1, 0, 1}},
		{[]int{1, 1, 1}, 2, []int{2, 2, 1}},
		{[]int{1, 1, 1}, 24, []int{2, 2, 1}},
		{[]int{5, 1, 1}, 2, []int{1, 2, 2}},
		{[]int{1, 1, 1, 1}, 2, []int{2, 2, 2, 2}},
		{[]int{1, 1, 1, 1}, 24, []int{2, 2, 2, 2}},
		{[]int{8, 4, 2, 1, 1}, 4, []int{1, 2, 3, 4, 4}},
		{[]int{8, 4, 2, 1, 1}, 3, []int{1, 3, 3, 3, 3}},
		{[]int{1, 1, 1, 1, 1}, 3, []int{3, 3, 2, 2, 2}},
		// A package of 1 and 1 weighs as much as a coin, which comes before it.
		{[]int{1, 1, 2, 2}, 3, []int{2, 2, 2, 2}},
		{[]int{2, 1, 1, 2}, 3, []int{2, 2, 2, 2}},
		{[]int{1, 1, 2, 3}, 3, []int{3, 3, 2, 1}},
		{[]int{1, 1, 1, 2, 2}, 3, []int{3, 3, 2, 2, 2}},
		{[]int{3, 1, 1, 2}, 3, []int{1, 3, 3, 2}},
		{times(1<<40, 1024), 10, times(10, 1024)},
		{times(1<<40, 1024), 24, times(10, 1024)},
		{times(3, 512), 9, times(9, 512)},
	} {
		checkLengths(t, x.freq, x.most, x.want)
	}
}

func TestLengthsByMost(t *testing.T) { // P7.3
	var powers, numbers []int
	for i := range 30 {
		powers = append(powers, 1<<i)
		numbers = append(numbers, 1)
		if i > 1 {
			numbers[i] = numbers[i-1] + numbers[i-2]
		}
	}
	for most := 1; most <= 24; most++ {
		for used := 2; used <= 30; used++ {
			for _, freq := range [][]int{powers[:used], numbers[:used], mixed(powers[:used], uint64(used)), times(7, used)} {
				if used > 1<<most {
					checkNoLengths(t, freq, most, api.ErrRange)
					continue
				}
				checkLengths(t, freq, most, lengthsOf(freq, most))
				if got := slices.Max(lengthsOf(freq, most)); got > most {
					t.Errorf("a length of %d, most %d", got, most)
				}
			}
		}
	}
	// The greatest lengths, and those that are bounded.
	long, err := prefix.Lengths(powers[:25], 24)
	if err != api.OK || long[0] != 24 || long[1] != 24 || long[2] != 23 || long[24] != 1 {
		t.Errorf("%d, error %d", long, err)
	}
	bounded, err := prefix.Lengths(powers, 24)
	if err != api.OK || slices.Max(bounded) != 24 || prefix.Total(powers, bounded) <= huffmanTotal(powers) {
		t.Errorf("%d, error %d", bounded, err)
	}
}

func TestLengthsErrors(t *testing.T) { // P7.3, R4, R6, R7
	mosts := []int{0, -1, -2, -24, -63, -64, math.MinInt32, math.MinInt, 25, 26, 31, 32, 63, 64, 65, 1 << 32, 1<<32 + 5, math.MaxInt32, math.MaxInt}
	for _, most := range mosts {
		for _, freq := range [][]int{{1}, {0, 0}, {5, 6, 7}, times(1, 1024), nil, {-1}} {
			checkNoLengths(t, freq, most, api.ErrArg)
		}
	}
	for most := 1; most <= 24; most++ {
		for _, freq := range [][]int{nil, {}, make([]int, 1025), times(1, 1025), zerosTo(1025, 1), times(1, 1<<16)} {
			checkNoLengths(t, freq, most, api.ErrArg)
		}
		for _, f := range []int{-1, -2, math.MinInt32, math.MinInt + 1, math.MinInt, 1<<40 + 1, 1 << 41, 1 << 62, math.MaxInt} {
			for _, freq := range [][]int{{f}, {f, 1}, {1, f}, {0, f, 0}, {0, 0, f}, append(times(1, 1023), f), append(times(0, 1023), f)} {
				checkNoLengths(t, freq, most, api.ErrArg)
			}
		}
		for _, n := range []int{1, 2, 3, 1023, 1024} {
			checkNoLengths(t, make([]int, n), most, api.ErrNone)
		}
	}
	for most := 1; most <= 9; most++ {
		for used := 1<<most + 1; used <= 1024; used += 1 + used/7 {
			checkNoLengths(t, times(3, used), most, api.ErrRange)
			checkNoLengths(t, mixed(zerosTo(1024, times(3, used)...), 5), most, api.ErrRange)
		}
		checkNoLengths(t, times(1<<40, 1<<most+1), most, api.ErrRange)
	}
}

func TestLengthsAtTheBounds(t *testing.T) { // P7.3, R7
	for most := 1; most <= 10; most++ {
		checkLengths(t, noiseFrom1(1<<most, 1<<40, 3), most, times(most, 1<<most))
		freq := mixed(zerosTo(1024, noiseFrom1(1<<most, 100, 4)...), 9)
		checkLengths(t, freq, most, lengthsOf(freq, most))
	}
	for _, freq := range [][]int{
		append(times(1<<40, 1023), 1), append(times(1, 1023), 1<<40), times(1<<40, 1023), zerosTo(1024, 1<<40, 1<<40, 1),
		noiseFrom1(1024, 1<<40, 1), noiseFrom1(1023, 1<<20, 2), noise(1024, 3, 3), slices.Concat(times(1<<40, 512), times(1, 512)),
	} {
		for _, most := range []int{10, 11, 12, 24} {
			checkLengths(t, freq, most, lengthsOf(freq, most))
		}
	}
}

// noiseFrom1 returns n numbers from 1 to bound, without a pattern.
func noiseFrom1(n, bound int, seed uint64) []int {
	l := noise(n, bound, seed)
	for i := range l {
		l[i]++
	}
	return l
}

func TestLengthsOfAllShortLists(t *testing.T) { // P7.3, P7.6
	fulls := map[string][][]int{}
	for _, lens := range fullsOf(5, 4) {
		fulls[mask(lens)] = append(fulls[mask(lens)], lens)
	}
	for n := 1; n <= 5; n++ {
		for _, freq := range allOf(n, 5) {
			for most := 1; most <= 4; most++ {
				used := len(strings.ReplaceAll(mask(freq), "0", ""))
				if used == 0 {
					checkNoLengths(t, freq, most, api.ErrNone)
					continue
				}
				if used > 1<<most {
					checkNoLengths(t, freq, most, api.ErrRange)
					continue
				}
				checkLengths(t, freq, most, lengthsOf(freq, most))
				checkLeast(t, freq, most, fulls[mask(freq)])
			}
		}
	}
}

// mask tells which symbols are used.
func mask(l []int) string {
	text := ""
	for _, x := range l {
		text += strconv.Itoa(min(x, 1))
	}
	return text
}

// checkLeast checks that no lens of all with no length above most have a smaller Total than Lengths, which are among them.
func checkLeast(t *testing.T, freq []int, most int, all [][]int) {
	t.Helper()
	got, err := prefix.Lengths(freq, most)
	total := prefix.Total(freq, got)
	found := false
	for _, lens := range all {
		if slices.Max(lens) > most {
			continue
		}
		found = found || slices.Equal(lens, got)
		if prefix.Total(freq, lens) < total {
			t.Errorf("Lengths of %d, %d: %d with Total %d, but %d with %d", freq, most, got, total, lens, prefix.Total(freq, lens))
		}
	}
	if err != api.OK || !found {
		t.Errorf("Lengths of %d, %d: %d, error %d", freq, most, got, err)
	}
}

func TestLengthsHaveNoSmallerTotal(t *testing.T) { // P7.3, P7.6
	bounded := 0
	for i := range 300 {
		used := 2 + i%24
		freq := noiseFrom1(used, []int{1 << 40, 2, 5, 1000}[i%4], uint64(i))
		if i%3 == 0 {
			for j := range freq {
				freq[j] = 1 + freq[j]>>(j%40)
			}
		}
		if i%5 == 0 {
			for j := range freq {
				freq[j] = 1<<min(j, 40) + freq[j]%3
			}
		}
		freq = mixed(zerosTo(used+i%9, freq...), uint64(i))
		for _, most := range []int{1, 2, 3, 4, 5, 6, 7, 8, 11, 16, 24} {
			if used > 1<<most {
				continue
			}
			lens, err := prefix.Lengths(freq, most)
			if err != api.OK || !isFull(lens) || mask(lens) != mask(freq) || slices.Max(lens) > most {
				t.Errorf("Lengths of %d, %d: %d, error %d", freq, most, lens, err)
				continue
			}
			want := leastTotal(freq, most)
			if got := prefix.Total(freq, lens); got != want {
				t.Errorf("Lengths of %d, %d: %d with Total %d, want %d", freq, most, lens, got, want)
			}
			if want > huffmanTotal(freq) {
				bounded++
			}
		}
	}
	if bounded < 100 {
		t.Errorf("only %d times most bounds the lengths", bounded)
	}
}

func TestLengthsOfManySymbols(t *testing.T) { // P7.3, P7.6
	for i := range 40 {
		n := 100 + 924*(i%2)
		freq := noise(n, []int{2, 3, 10, 1000, 1 << 30, 1 << 40}[i%6]+1, uint64(i))
		most := []int{10, 11, 13, 24}[i%4]
		lens, err := prefix.Lengths(freq, most)
		if err != api.OK || !slices.Equal(lens, lengthsOf(freq, most)) || !isFull(lens) || mask(lens) != mask(freq) {
			t.Errorf("Lengths of %d, %d: %d, error %d", freq, most, lens, err)
		}
		if total := prefix.Total(freq, lens); total < huffmanTotal(freq) || most == 24 && total != huffmanTotal(freq) {
			t.Errorf("Lengths of %d, %d: %d with Total %d, without a bound %d", freq, most, lens, total, huffmanTotal(freq))
		}
	}
}

func TestPutOfKnownSymbols(t *testing.T) { // P7.4
	for _, x := range []struct {
		lens, l []int
		want    string
	}{
		{[]int{3, 3, 2, 1}, []int{3, 2, 0}, "0 10 110"},
		{[]int{3, 3, 2, 1}, nil, ""},
		{[]int{3, 3, 2, 1}, []int{1, 1, 3, 3, 3, 0}, "111 111 0 0 0 110"},
		{[]int{0, 1}, []int{1, 1, 1}, "0 0 0"},
		{[]int{1}, nil, ""},
		{[]int{4, 4, 4, 4, 1, 4, 4, 4, 4}, []int{0, 4, 8}, "1000 0 1111"},
		{chain(24), []int{24, 0, 23}, strings.Repeat("1", 24) + "0" + strings.Repeat("1", 23) + "0"},
	} {
		var w bits.Writer
		if err := prefix.Put(&w, x.lens, x.l); err != api.OK {
			t.Errorf("error %d", err)
		}
		checkHolds(t, &w, join(x.want))
		checkGet(t, bits.New(pack(join(x.want))), x.lens, x.l)
	}
}

func TestPutAndGet(t *testing.T) { // P7.4
	for i, lens := range someFulls() {
		var used []int
		for symbol, length := range lens {
			if length > 0 {
				used = append(used, symbol)
			}
		}
		checkSymbols(t, lens, nil)
		checkSymbols(t, lens, used)
		slices.Reverse(used)
		checkSymbols(t, lens, used[:min(len(used), 1)])
		var l []int
		for _, x := range noise(50, len(used), uint64(i)) {
			l = append(l, used[x])
		}
		checkSymbols(t, lens, l)
	}
}

func TestPutErrors(t *testing.T) { // P7.4, R5, R6, R7
	var w bits.Writer
	w.Put(0b10110, 5)
	check := func(lens, l []int, want api.Errno) {
		t.Helper()
		if err := prefix.Put(&w, lens, l); err != want {
			t.Errorf("Put of %d, %d: error %d, want %d", lens, l, err, want)
		}
		checkHolds(t, &w, "10110")
	}
	for _, lens := range notFulls() {
		check(lens, nil, api.ErrArg)
		check(lens, []int{0}, api.ErrArg)
		check(lens, []int{-1}, api.ErrArg)
		check(lens, []int{math.MaxInt}, api.ErrArg)
	}
	for _, lens := range [][]int{{0, 1}, {3, 0, 3, 2, 1}, {1, 0, 0, 1}, zerosTo(1024, 1), chain(24)} {
		used := slices.IndexFunc(lens, func(length int) bool { return length > 0 })
		others := []int{-1, -2, -len(lens), math.MinInt32, math.MinInt, len(lens), len(lens) + 1, 1024, 1025, 1 << 32, math.MaxInt}
		if at := slices.Index(lens, 0); at >= 0 {
			others = append(others, at)
		}
		for _, x := range others {
			for _, l := range [][]int{{x}, {x, used}, {used, x}, append(times(used, 1000), x)} {
				check(lens, l, api.ErrRange)
			}
		}
	}
	if err := prefix.Put(&w, []int{1, 1}, []int{1, 0}); err != api.OK {
		t.Errorf("error %d", err)
	}
	checkHolds(t, &w, "1011010")
}

func TestGetOfWrongArguments(t *testing.T) { // P7.4, R5, R6, R7
	text := "0101100111"
	readers := broken()
	readers[api.OK] = ending(t, text)
	for _, r := range readers {
		for _, lens := range notFulls() {
			for _, n := range []int{0, 1, -1, 1 << 22, math.MaxInt} {
				checkNoSymbols(t, r, lens, n, api.ErrArg)
			}
		}
		for _, n := range []int{-1, -2, math.MinInt32, math.MinInt, 1<<22 + 1, 1 << 23, 1 << 32, 1<<32 + 1, math.MaxInt - 1, math.MaxInt} {
			checkNoSymbols(t, r, []int{1}, n, api.ErrArg)
			checkNoSymbols(t, r, []int{3, 3, 2, 1}, n, api.ErrArg)
			checkNoSymbols(t, r, []int{2}, n, api.ErrArg)
		}
	}
	checkUntouched(t, readers[api.OK], text)
}

func TestGetFromAReaderWithAnError(t *testing.T) { // P7.4, P7.5, R6, R9
	for err, r := range broken() {
		for _, n := range []int{0, 1, 2, 1 << 22} {
			checkNoSymbols(t, r, []int{1}, n, err)
			checkNoSymbols(t, r, []int{3, 3, 2, 1}, n, err)
		}
		checkNoTable(t, r, err)
		checkFrozen(t, r, err)
	}
	if len(broken()) != 3 {
		t.Errorf("%d errors", len(broken()))
	}
}

func TestGetOfWordsCutAtEachBit(t *testing.T) { // P7.4, R9
	for _, x := range []struct{ lens, l []int }{
		{[]int{1}, []int{0, 0, 0}},
		{[]int{3, 3, 2, 1}, []int{0, 3, 1, 2}},
		{chain(24), []int{24, 23, 0, 22}},
		{times(10, 1024), []int{1023, 512, 0}},
	} {
		text := textOf(x.lens, x.l)
		for cut := range text {
			r := ending(t, text[:cut])
			checkNoSymbols(t, r, x.lens, len(x.l), api.ErrShort)
			if r.Err() != api.ErrShort {
				t.Errorf("cut %d: the reader has error %d", cut, r.Err())
			}
			checkFrozen(t, r, api.ErrShort)
		}
		r := ending(t, text)
		checkGet(t, r, x.lens, x.l)
		if r.Err() != api.OK || r.Left() != 0 {
			t.Errorf("error %d, Left %d", r.Err(), r.Left())
		}
		checkGet(t, r, x.lens, nil)
		checkNoSymbols(t, r, x.lens, 1, api.ErrShort)
	}
}

func TestGetWhereOnlyOneSymbolIsUsed(t *testing.T) { // P7.4, R5, R6
	for _, lens := range [][]int{{1}, {0, 1}, {1, 0}, {0, 0, 1, 0}, zerosTo(1024, 1), append(make([]int, 1023), 1)} {
		symbol := slices.Index(lens, 1)
		for _, text := range []string{"1", "01", "0010", "00000000001", "0000000001000", "11", "10"} {
			ahead := strings.Index(text, "1")
			for n := range len(text) + 3 {
				r := ending(t, text)
				if n <= ahead {
					checkGet(t, r, lens, times(symbol, n))
					checkUntouched(t, r, text[n:])
					continue
				}
				at := r.At()
				checkNoSymbols(t, r, lens, n, api.ErrForm)
				if r.At() != at {
					t.Errorf("%s: At %d, before %d", text, r.At(), at)
				}
				checkNoSymbols(t, r, lens, n, api.ErrForm)
				checkGet(t, r, lens, times(symbol, ahead))
				checkUntouched(t, r, text[ahead:])
			}
		}
	}
}

func TestGetOfAllTexts(t *testing.T) { // P7.4, R5, R9
	for _, lens := range [][]int{{1}, {0, 1}, {1, 1}, {1, 0, 1}, {3, 3, 2, 1}, {2, 0, 1, 2}, {2, 2, 2, 2}, {1, 3, 3, 3, 3}} {
		for size := range 9 {
			for u := range 1 << size {
				text := digits(u+1<<size, size+1)[1:]
				for n := range 5 {
					want, end, err := readSymbols(text, lens, n)
					r := ending(t, text)
					switch err {
					case api.OK:
						checkGet(t, r, lens, want)
						checkUntouched(t, r, text[end:])
					case api.ErrForm:
						checkNoSymbols(t, r, lens, n, err)
						checkUntouched(t, r, text)
					default:
						checkNoSymbols(t, r, lens, n, err)
						checkFrozen(t, r, err)
					}
				}
			}
		}
	}
}

func TestGetOfManySymbols(t *testing.T) { // P7.4
	const most = 1 << 22
	r := bits.New(make([]byte, most/8))
	l, err := prefix.Get(r, []int{0, 0, 1}, most)
	if err != api.OK || len(l) != most || l[0] != 2 || l[most-1] != 2 || r.Left() != 0 {
		t.Errorf("%d symbols, error %d, Left %d", len(l), err, r.Left())
	}
	checkNoSymbols(t, bits.New(make([]byte, most/8-1)), []int{0, 0, 1}, most, api.ErrShort)
	checkNoSymbols(t, bits.New(nil), []int{0, 0, 1}, most, api.ErrShort)
	// Put has no bound of its own.
	var w bits.Writer
	l = append(times(1, most), 0)
	if err := prefix.Put(&w, []int{1, 2, 2}, l); err != api.OK || w.Len() != 2*most+1 {
		t.Errorf("%d bits, error %d", w.Len(), err)
	}
	r = bits.New(w.Bytes())
	l, err = prefix.Get(r, []int{1, 2, 2}, most)
	if err != api.OK || len(l) != most || slices.Max(l) != 1 || slices.Min(l) != 1 {
		t.Errorf("%d symbols, error %d", len(l), err)
	}
	checkGet(t, r, []int{1, 2, 2}, []int{0})
}

func TestPutTableOfKnownLengths(t *testing.T) { // P7.5
	z := func(n int) []int { return make([]int, n) }
	for _, x := range []struct {
		lens []int
		want string
	}{
		{[]int{1}, "0000000000 00001"},
		{[]int{1, 1}, "0000000001 00001 00001"},
		{[]int{1, 0, 2, 0, 0, 2}, "0000000101 00001 00000 00010 00000 00000 00010"},
		{[]int{1, 0, 0, 0, 1}, "0000000100 00001 11111 000000 00001"},
		{[]int{0, 0, 0, 1}, "0000000011 11111 000000 00001"},
		{[]int{1, 0, 0, 0, 0}, "0000000100 00001 11111 000001"},
		{slices.Concat(z(65), []int{1}), "0001000001 11111 111110 00001"},
		{slices.Concat(z(66), []int{1}), "0001000010 11111 111111 00001"},
		{slices.Concat(z(67), []int{1}), "0001000011 11111 111111 00000 00001"},
		{slices.Concat(z(68), []int{1}), "0001000100 11111 111111 00000 00000 00001"},
		{slices.Concat(z(69), []int{1}), "0001000101 11111 111111 11111 000000 00001"},
		{slices.Concat([]int{1}, z(132)), "0010000100 00001 11111 111111 11111 111111"},
		{slices.Concat([]int{1}, z(133)), "0010000101 00001 11111 111111 11111 111111 00000"},
		{slices.Concat([]int{1}, z(70), []int{1}), "0001000111 00001 11111 111111 11111 000001 00001"},
		{zerosTo(1024, 1), "1111111111 00001" + strings.Repeat("11111 111111", 15) + "11111 011110"},
		{times(10, 1024), "1111111111" + strings.Repeat("01010", 1024)},
		{chain(24), "0000011000 00001 00010 00011 00100 00101 00110 00111 01000 01001 01010 01011 01100 01101 01110 01111 10000 10001 10010 10011 10100 10101 10110 10111 11000 11000"},
	} {
		var w bits.Writer
		if err := prefix.PutTable(&w, x.lens); err != api.OK {
			t.Errorf("PutTable of %d: error %d", x.lens, err)
		}
		checkHolds(t, &w, join(x.want))
		checkGetTable(t, bits.New(pack(join(x.want))), x.lens)
	}
}

func TestTables(t *testing.T) { // P7.5
	for _, lens := range fullsOf(6, 4) {
		checkTable(t, lens)
	}
	for _, lens := range someFulls() {
		checkTable(t, lens)
	}
	for n := range 1021 {
		checkTable(t, slices.Concat(make([]int, n), []int{1}))
		checkTable(t, slices.Concat([]int{1}, make([]int, n), []int{1}))
		checkTable(t, slices.Concat([]int{1, 2, 2}, make([]int, n)))
		checkTable(t, slices.Concat(make([]int, n/3), []int{1}, make([]int, n/2), []int{1}, make([]int, n-n/3-n/2)))
	}
}

func TestPutTableErrors(t *testing.T) { // P7.5, R5
	var w bits.Writer
	w.Put(0b10110, 5)
	for _, lens := range notFulls() {
		if err := prefix.PutTable(&w, lens); err != api.ErrArg {
			t.Errorf("PutTable of %d: error %d", lens, err)
		}
		checkHolds(t, &w, "10110")
	}
}

func TestGetTableCutAtEachBit(t *testing.T) { // P7.5, R9
	for _, lens := range [][]int{
		{1}, {1, 1}, {1, 0, 2, 0, 0, 2}, {1, 0, 0, 0, 1}, {0, 0, 0, 0, 1, 0, 0, 0}, slices.Concat([]int{1}, make([]int, 150), []int{1}),
		zerosTo(1024, 1), chain(24),
	} {
		text := tableText(lens)
		for cut := range text {
			checkTextOfTable(t, text[:cut])
			if _, _, err := readTable(text[:cut]); err != api.ErrShort {
				t.Errorf("cut %d: error %d", cut, err)
			}
		}
	}
	// What is wrong is told only when all of it is there.
	for _, text := range []string{"0000000010 11001 11110 0000", "0000000101 00000 00000 00000 00001 0", "0000000001 00010 0001", "0000000001 11111 11111", "1111111111"} {
		checkTextOfTable(t, join(text))
	}
}

func TestGetTableOfOtherForms(t *testing.T) { // P7.5, R5
	for _, text := range []string{
		// No lens that are Full.
		"0000000000 00000", "0000000000 00010", "0000000000 11000", "0000000000 11001", "0000000000 11110",
		"0000000001 00001 00010", "0000000001 00000 00000", "0000000001 11001 00001", "0000000001 00001 11110", "0000000001 11000 11000",
		"0000000010 00001 00001 00001", "0000000010 00001 00001 11001", "0000000010 00001 00001 11110", "0000000010 11111 000000",
		// Runs past the announced number.
		"0000000000 11111 000000", "0000000001 11111 000000", "0000000001 00001 11111 000000", "0000000010 00001 11111 000000",
		"0000000011 00001 11111 000001", "0000000100 00001 00001 11111 111111", "1111111111" + strings.Repeat("11111 111111", 16),
		// Three lengths 0 that are no run, or not all of it.
		"0000000011 00001 00000 00000 00000", "0000000011 00000 00000 00000 00001", "0000000100 00001 00000 00000 00000 00001",
		"0000000100 00001 00000 11111 000000", "0000000100 00001 11111 000000 00000", "0000000101 00001 00000 00000 11111 000000",
		"0000000110 00001 11111 000000 11111 000000", "0001000011 00000 11111 111111 00001", "0001000100 00001 00000 11111 111111 00001",
		"0001000101 11111 111110 11111 000001 00001", "0001000101 11111 000000 11111 111111 00001", "0001000101 11111 111111 00000 00000 00000 00001",
	} {
		text := join(text)
		if _, _, err := readTable(text); err != api.ErrForm {
			t.Errorf("%s: error %d", text, err)
		}
		checkTextOfTable(t, text)
		checkTextOfTable(t, text+"1011")
	}
}

func TestGetTableOfAllShortForms(t *testing.T) { // P7.5, R5, R9
	steps := []string{"00000", "00001", "00010", "11000", "11001", "11110", "11111000000", "11111000001", "11111111111", "11"}
	tables := 0
	for last := range 6 {
		for count := range 5 {
			for _, l := range allOf(count, len(steps)-1) {
				text := digits(last, 10)
				for _, at := range l {
					text += steps[at]
				}
				checkTextOfTable(t, text)
				if _, _, err := readTable(text); err == api.OK {
					tables++
				}
			}
		}
	}
	if tables < 1000 {
		t.Errorf("%d tables", tables)
	}
}

func TestGetTableOfChangedTables(t *testing.T) { // P7.5
	for i, lens := range append(someFulls(), fullsOf(5, 4)...) {
		if len(lens) > 200 && i%5 != 0 {
			continue
		}
		text := tableText(lens)
		for at := 0; at < len(text); at += 1 + len(text)/100 {
			changed := []byte(text + "00001000100")
			changed[at] ^= 1
			checkTextOfTable(t, string(changed))
			checkTextOfTable(t, text[:at]+"1"+text[at:])
			checkTextOfTable(t, text[:at]+"0"+text[at:])
		}
	}
}

func TestTablesOfLengths(t *testing.T) { // P7.3, P7.4, P7.5
	for i := range 50 {
		l := noise(300, []int{2, 7, 100, 1024}[i%4], uint64(i))
		freq := make([]int, min(slices.Max(l)+1+i%2, 1024))
		for _, symbol := range l {
			freq[symbol]++
		}
		lens, err := prefix.Lengths(freq, 10+i%15)
		if err != api.OK {
			t.Fatalf("error %d", err)
		}
		var w bits.Writer
		if prefix.PutTable(&w, lens) != api.OK || prefix.Put(&w, lens, l) != api.OK {
			t.Fatalf("%d are not put", lens)
		}
		if want := len(tableText(lens)) + prefix.Total(freq, lens); w.Len() != want {
			t.Errorf("%d bits, want %d", w.Len(), want)
		}
		r := bits.New(w.Bytes())
		checkGetTable(t, r, lens)
		checkGet(t, r, lens, l)
		if r.At() != w.Len() {
			t.Errorf("%d bits are read, want %d", r.At(), w.Len())
		}
	}
}

func TestArgumentsStay(t *testing.T) { // R2, R3
	array := []int{77, 1, 0, 2, 3, 3, 0, 99, math.MinInt}
	before := slices.Clone(array)
	list := []int{55, 3, 0, 2, 2, 4, 66, -1}
	listBefore := slices.Clone(list)
	lens, l := array[1:7], list[1:6]
	text, table := textOf(lens, l), tableText(lens)
	for range 2 {
		var w bits.Writer
		if !prefix.Full(lens) || prefix.Total(lens, l) != totalOf([]int{3, 0, 4, 6, 12}) {
			t.Error("Full or Total")
		}
		checkCodes(t, lens)
		checkLengths(t, lens, 3, lengthsOf(lens, 3))
		if err := prefix.Put(&w, lens, l); err != api.OK {
			t.Errorf("error %d", err)
		}
		if err := prefix.PutTable(&w, lens); err != api.OK {
			t.Errorf("error %d", err)
		}
		checkHolds(t, &w, text+table)
		checkGet(t, bits.New(pack(text)), lens, l)
	}
	if err := prefix.Put(&bits.Writer{}, lens, list[1:7]); err != api.ErrRange {
		t.Errorf("error %d", err)
	}
	if !slices.Equal(array, before) || !slices.Equal(list, listBefore) {
		t.Error("an argument, or what lies beside it, was changed")
	}
}

func TestResultsAreNew(t *testing.T) { // R2
	freq, lens, l := []int{4, 0, 2, 1, 1}, []int{1, 0, 2, 3, 3}, []int{0, 2, 3, 4}
	text := textOf(lens, l) + tableText(lens)
	r := bits.New(pack(text + text))
	for range 2 {
		got, _ := prefix.Get(r, lens, len(l))
		if !slices.Equal(got, l) {
			t.Errorf("Get returns %d", got)
		}
		scribble(got)
		got, _ = prefix.GetTable(r)
		if !slices.Equal(got, lens) {
			t.Errorf("GetTable returns %d", got)
		}
		scribble(got)
		first, _ := prefix.Lengths(freq, 24)
		second, _ := prefix.Lengths(freq, 24)
		scribble(first)
		if !slices.Equal(second, lens) {
			t.Errorf("Lengths returns %d", second)
		}
		a, _ := prefix.Codes(lens)
		b, _ := prefix.Codes(lens)
		clear(append(a, 1)[:cap(a)])
		clear(a)
		if !slices.Equal(b, []uint64{0, 0, 0b10, 0b110, 0b111}) {
			t.Errorf("Codes returns %b", b)
		}
	}
}

// scribble writes into l and into its spare capacity.
func scribble(l []int) {
	l = l[:cap(l)]
	for i := range l {
		l[i] ^= 0x5a
	}
}
