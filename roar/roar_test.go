package roar

import (
	"math"
	"math/rand"
	"slices"
	"strconv"
	"strings"
	"testing"

	"tesserae/api"
	"tesserae/varint"
)

// flags tell of each number from 0 to 65535 whether it is there.
type flags [65536]bool

// flagged are the flags of the numbers of l.
func flagged(l []int) *flags {
	var f flags
	for _, n := range l {
		f[n] = true
	}
	return &f
}

// valuesByWords are the numbers that are there, rising.
func valuesByWords(f *flags) []int {
	var l []int
	for n, there := range f {
		if there {
			l = append(l, n)
		}
	}
	return l
}

// arrayByWords are the bytes of what is there of 256 numbers as an array.
func arrayByWords(there []bool) string {
	var b []byte
	for n, is := range there {
		if is {
			b = append(b, byte(n))
		}
	}
	return string(b)
}

// runsByWords are the bytes of what is there of 256 numbers as runs: each begins where the number ahead is not there, and ends where the one behind is not.
func runsByWords(there []bool) string {
	var b []byte
	for first := range 256 {
		if !there[first] || first > 0 && there[first-1] {
			continue
		}
		last := first
		for last < 255 && there[last+1] {
			last++
		}
		b = append(b, byte(first), byte(last-first))
	}
	return string(b)
}

// bitsByWords are the bytes of what is there of 256 numbers as bits: each byte's digits are written out, the greatest one first.
func bitsByWords(there []bool) string {
	var b []byte
	for at := range 32 {
		digits := ""
		for by := range 8 {
			digit := "0"
			if there[8*at+by] {
				digit = "1"
			}
			digits = digit + digits
		}
		n, _ := strconv.ParseUint(digits, 2, 8)
		b = append(b, byte(n))
	}
	return string(b)
}

// contByWords is the container of what is there of 256 numbers, in its best form.
func contByWords(there []bool) api.Cont {
	array, runs := arrayByWords(there), runsByWords(there)
	switch {
	case len(array) <= len(runs) && len(array) <= 32:
		return api.Cont{Form: api.FormArray, Data: array}
	case len(runs) <= 32:
		return api.Cont{Form: api.FormRuns, Data: runs}
	}
	return api.Cont{Form: api.FormBits, Data: bitsByWords(there)}
}

// roarByWords is the bitmap of what is there, as the words say it.
func roarByWords(f *flags) api.Roar {
	var r api.Roar
	for key := range 256 {
		there := f[256*key : 256*key+256]
		if slices.Contains(there, true) {
			r.L = append(r.L, api.Chunk{Key: key, C: contByWords(there)})
		}
	}
	return r
}

// bytesByWords are the bytes of chunks, whatever they are, as the words say them.
func bytesByWords(r api.Roar) string {
	s := varint.Put(uint64(len(r.L)))
	for _, c := range r.L {
		s += string([]byte{byte(c.Key), byte(c.C.Form), byte(len(c.C.Data) - 1)}) + c.C.Data
	}
	return s
}

// numbersByWords are the flags of 256 numbers that a container has, and whether it is one.
func numbersByWords(c api.Cont) ([]bool, bool) {
	there := make([]bool, 256)
	switch c.Form {
	case api.FormArray:
		for at := range len(c.Data) {
			if at > 0 && c.Data[at-1] >= c.Data[at] {
				return nil, false
			}
			there[c.Data[at]] = true
		}
		return there, true
	case api.FormBits:
		for n := range 8 * min(len(c.Data), 32) {
			there[n] = c.Data[n/8]>>(n%8)&1 == 1
		}
		return there, len(c.Data) == 32
	case api.FormRuns:
		behind := -1
		for at := 0; at+1 < len(c.Data); at += 2 {
			first, last := int(c.Data[at]), int(c.Data[at])+int(c.Data[at+1])
			if first <= behind || last > 255 {
				return nil, false
			}
			for n := first; n <= last; n++ {
				there[n] = true
			}
			behind = last + 1
		}
		return there, len(c.Data)%2 == 0
	}
	return nil, false
}

// rightByWords tells whether r is a bitmap: each two of its keys are held against each other, and each container by itself.
func rightByWords(r api.Roar) bool {
	for at, c := range r.L {
		for _, ahead := range r.L[:at] {
			if ahead.Key >= c.Key {
				return false
			}
		}
		there, ok := numbersByWords(c.C)
		if c.Key < 0 || c.Key > 255 || !ok || !slices.Contains(there, true) || contByWords(there) != c.C {
			return false
		}
	}
	return true
}

// decodedByWords is what P7.3 says of s, byte by byte.
func decodedByWords(s string) (api.Roar, string, api.Errno) {
	count, rest, e := varint.Get(s)
	if e != api.OK {
		return api.Roar{}, s, e
	}
	if count > 256 {
		return api.Roar{}, s, api.ErrRoar
	}
	var r api.Roar
	for range count {
		if len(rest) < 4 || len(rest) < 4+int(rest[2]) {
			return api.Roar{}, s, api.ErrMore
		}
		size := int(rest[2]) + 1
		r.L = append(r.L, api.Chunk{Key: int(rest[0]), C: api.Cont{Form: int(rest[1]), Data: rest[3 : 3+size]}})
		rest = rest[3+size:]
	}
	if !rightByWords(r) {
		return api.Roar{}, s, api.ErrRoar
	}
	return r, rest, api.OK
}

// opByWords tells of each number whether it is there behind an operation.
func opByWords(op int, a, b *flags) *flags {
	var f flags
	for n := range f {
		switch op {
		case api.OpAnd:
			f[n] = a[n] && b[n]
		case api.OpOr:
			f[n] = a[n] || b[n]
		case api.OpXor:
			f[n] = a[n] != b[n]
		case api.OpAndNot:
			f[n] = a[n] && !b[n]
		}
	}
	return &f
}

// flippedByWords tells of each number whether it is there behind a Flip.
func flippedByWords(f *flags, from, to int) *flags {
	turned := *f
	for n := range turned {
		if n >= from && n < to {
			turned[n] = !turned[n]
		}
	}
	return &turned
}

// same tells whether two bitmaps have the same chunks.
func same(a, b api.Roar) bool {
	return slices.Equal(a.L, b.L)
}

// ops are the operations.
func ops() []int {
	return []int{api.OpAnd, api.OpOr, api.OpXor, api.OpAndNot}
}

// span are the numbers from from on, by steps, that are less than to.
func span(from, to, step int) []int {
	var l []int
	for n := from; n < to; n += step {
		l = append(l, n)
	}
	return l
}

// some are numbers of chunks each of which is there with a chance of that many percent; so is each number within it.
func some(r *rand.Rand, chunks, numbers int) []int {
	var l []int
	for key := range 256 {
		if r.Intn(100) >= chunks {
			continue
		}
		for n := range 256 {
			if r.Intn(100) < numbers {
				l = append(l, 256*key+n)
			}
		}
	}
	return l
}

// array, runs and bits are chunks of a form.
func array(key int, data string) api.Chunk {
	return api.Chunk{Key: key, C: api.Cont{Form: api.FormArray, Data: data}}
}

func runs(key int, data string) api.Chunk {
	return api.Chunk{Key: key, C: api.Cont{Form: api.FormRuns, Data: data}}
}

func bits(key int, data string) api.Chunk {
	return api.Chunk{Key: key, C: api.Cont{Form: api.FormBits, Data: data}}
}

// chunksOf is the bitmap, if it is one, of chunks.
func chunksOf(l ...api.Chunk) api.Roar {
	return api.Roar{L: l}
}

// everyKey are chunks of the same container with each key that is less than count.
func everyKey(count int, c api.Chunk) []api.Chunk {
	l := make([]api.Chunk, count)
	for key := range l {
		l[key] = api.Chunk{Key: key, C: c.C}
	}
	return l
}

// named is a list of numbers, with its bitmap, written out.
type named struct {
	l    []int
	want api.Roar
}

// names are ordinary lists and such as the edges ask for.
func names() []named {
	evens, odds := strings.Repeat("\x55", 32), strings.Repeat("\xaa", 32)
	return []named{
		{nil, chunksOf()},
		{[]int{}, chunksOf()},
		{[]int{0}, chunksOf(array(0, "\x00"))},
		{[]int{65535}, chunksOf(array(255, "\xff"))},
		{[]int{255}, chunksOf(array(0, "\xff"))},
		{[]int{256}, chunksOf(array(1, "\x00"))},
		{[]int{255, 256}, chunksOf(array(0, "\xff"), array(1, "\x00"))},
		{[]int{256, 255}, chunksOf(array(0, "\xff"), array(1, "\x00"))},
		{[]int{65535, 0}, chunksOf(array(0, "\x00"), array(255, "\xff"))},
		{[]int{65280}, chunksOf(array(255, "\x00"))},
		{[]int{65279}, chunksOf(array(254, "\xff"))},
		{append([]int{1, 9}, span(256, 271, 1)...), chunksOf(array(0, "\x01\x09"), runs(1, "\x00\x0e"))},
		{append(span(256, 271, 1), 9, 1), chunksOf(array(0, "\x01\x09"), runs(1, "\x00\x0e"))},
		{[]int{9, 1, 9, 9, 1, 300, 1, 300}, chunksOf(array(0, "\x01\x09"), array(1, "\x2c"))},
		{[]int{1, 257, 513}, chunksOf(array(0, "\x01"), array(1, "\x01"), array(2, "\x01"))},
		{span(200, 600, 1), chunksOf(runs(0, "\xc8\x37"), runs(1, "\x00\xff"), runs(2, "\x00\x57"))},
		{span(256, 512, 1), chunksOf(runs(1, "\x00\xff"))},
		{span(0, 256, 1), chunksOf(runs(0, "\x00\xff"))},
		{span(65280, 65536, 1), chunksOf(runs(255, "\x00\xff"))},
		{span(512, 768, 2), chunksOf(bits(2, evens))},
		{span(0, 65536, 1), chunksOf(everyKey(256, runs(0, "\x00\xff"))...)},
		{span(0, 65536, 2), chunksOf(everyKey(256, bits(0, evens))...)},
		{span(1, 65536, 2), chunksOf(everyKey(256, bits(0, odds))...)},
		{span(7, 65536, 256), chunksOf(everyKey(256, array(0, "\x07"))...)},
		{append(span(65280, 65536, 1), span(0, 256, 2)...), chunksOf(bits(0, evens), runs(255, "\x00\xff"))},
		{[]int{4096, 4097, 16, 32768, 32769, 32770}, chunksOf(array(0, "\x10"), array(16, "\x00\x01"), runs(128, "\x00\x02"))},
	}
}

// sets are the lists that have a name, and some of each density.
func sets() [][]int {
	var l [][]int
	for _, x := range names() {
		l = append(l, x.l)
	}
	r := rand.New(rand.NewSource(1))
	for _, numbers := range []int{1, 5, 12, 30, 60, 90, 98} {
		l = append(l, some(r, 2, numbers), some(r, 5, numbers), some(r, 50, numbers))
	}
	for at := range 16 {
		l = append(l, []int{1 << at, 1<<at - 1}, span(1<<at, min(2<<at, 1<<at+600), 1))
	}
	return append(l, span(0, 2000, 3), span(60000, 65536, 5), span(1, 65536, 1), span(0, 65535, 1), span(100, 65000, 1))
}

// probes are numbers that a bitmap of l may be asked for: its own, what is next to them, borders, and such as no bitmap has.
func probes(l []int) []int {
	asked := append(outside(), 0, 1, 9, 100, 254, 255, 256, 257, 511, 512, 32767, 32768, 65279, 65280, 65534, 65535)
	for at := 0; at < len(l); at += 1 + len(l)/5 {
		asked = append(asked, l[at], max(l[at]-1, 0), min(l[at]+1, 65535))
	}
	return asked
}

// outside are numbers that no bitmap has: some have the lesser bytes of one that it may have.
func outside() []int {
	return []int{-1, -2, -255, -256, -257, -65535, -65536, 65536, 65537, 65545, 65792, 1 << 17, 1<<32 + 9, 1 << 32, 1<<48 + 300, math.MaxInt, math.MaxInt - 1, math.MinInt, math.MinInt + 1, math.MinInt + 9}
}

// past are numbers that are no end of a span.
func past() []int {
	return slices.DeleteFunc(outside(), func(n int) bool { return n == 65536 })
}

// wrongs are what is no bitmap.
func wrongs() map[string]api.Roar {
	one, evens := array(7, "\x05"), strings.Repeat("\x55", 32)
	all := everyKey(256, one)
	lastTwice := slices.Clone(all)
	lastTwice[255].Key = 254
	return map[string]api.Roar{
		// Keys.
		"a key below 0":                     chunksOf(array(-1, "\x05")),
		"a key far below 0":                 chunksOf(array(math.MinInt, "\x05")),
		"a key below 0 ahead of others":     chunksOf(array(-1, "\x05"), one),
		"a key of 256":                      chunksOf(array(256, "\x05")),
		"a key of 256 behind others":        chunksOf(one, array(256, "\x05")),
		"a great key":                       chunksOf(array(math.MaxInt, "\x05")),
		"a key whose last byte is one":      chunksOf(array(1<<32+7, "\x05")),
		"a chunk twice":                     chunksOf(one, one),
		"a key twice":                       chunksOf(one, array(7, "\x06")),
		"a key twice, another between":      chunksOf(one, array(8, "\x05"), array(7, "\x06")),
		"keys that fall":                    chunksOf(array(8, "\x05"), one),
		"keys that fall first":              chunksOf(array(8, "\x05"), one, array(9, "\x05")),
		"keys that fall last":               chunksOf(one, array(9, "\x05"), array(8, "\x05")),
		"0 twice":                           chunksOf(array(0, "\x05"), array(0, "\x05")),
		"255 twice":                         chunksOf(array(255, "\x05"), array(255, "\x05")),
		"0 behind 255":                      chunksOf(array(255, "\x05"), array(0, "\x05")),
		"all keys, the last but one twice":  chunksOf(lastTwice...),
		"257 chunks":                        chunksOf(everyKey(257, one)...),
		"257 chunks, the last one twice":    chunksOf(append(slices.Clone(all), all[255])...),
		"257 chunks, the first one twice":   chunksOf(append(slices.Clone(all[:1]), all...)...),
		"257 chunks, the first one -1":      chunksOf(append([]api.Chunk{array(-1, "\x05")}, all...)...),
		"a million chunks":                  chunksOf(slices.Repeat([]api.Chunk{one}, 1000000)...),
		"a hundred thousand chunks":         chunksOf(everyKey(100000, one)...),
		"all keys, one container is none":   chunksOf(append(slices.Clone(all[:255]), api.Chunk{Key: 255})...),
		"all keys, the first has no number": chunksOf(append([]api.Chunk{array(0, "")}, all[1:]...)...),
		// Containers that are none.
		"nothing":                           chunksOf(api.Chunk{}),
		"nothing, of a key":                 chunksOf(api.Chunk{Key: 7}),
		"nothing behind others":             chunksOf(one, api.Chunk{Key: 8}),
		"nothing ahead of others":           chunksOf(api.Chunk{Key: 6}, one),
		"no form":                           chunksOf(api.Chunk{Key: 7, C: api.Cont{Data: "\x05"}}),
		"a form behind the last one":        chunksOf(api.Chunk{Key: 7, C: api.Cont{Form: 4, Data: "\x05"}}),
		"a form below 0":                    chunksOf(api.Chunk{Key: 7, C: api.Cont{Form: -1, Data: "\x05"}}),
		"a form whose last byte is one":     chunksOf(api.Chunk{Key: 7, C: api.Cont{Form: 257, Data: "\x05"}}),
		"an array, one twice":               chunksOf(array(7, "\x05\x05")),
		"an array that falls":               chunksOf(array(7, "\x09\x05")),
		"an array of 257 bytes":             chunksOf(array(7, strings.Repeat("\x05", 257))),
		"a long array":                      chunksOf(array(7, strings.Repeat("\x05", 1<<20))),
		"bits of 31 bytes":                  chunksOf(bits(7, evens[1:])),
		"bits of 33 bytes":                  chunksOf(bits(7, evens+"\x00")),
		"bits of none":                      chunksOf(bits(7, "")),
		"runs of one byte":                  chunksOf(runs(7, "\x05")),
		"runs that meet":                    chunksOf(runs(7, "\x05\x03\x09\x03")),
		"runs that fall":                    chunksOf(runs(7, "\x0f\x03\x05\x03")),
		"a run past 255":                    chunksOf(runs(7, "\xf0\x10")),
		"a container that is none, behind":  chunksOf(one, array(8, "\x05\x05")),
		"a container that is none, between": chunksOf(one, array(8, "\x05\x05"), array(9, "\x05")),
		// Containers of no numbers.
		"no numbers, as an array":       chunksOf(array(7, "")),
		"no numbers, as runs":           chunksOf(runs(7, "")),
		"no numbers, as bits":           chunksOf(bits(7, strings.Repeat("\x00", 32))),
		"no numbers, the first":         chunksOf(array(6, ""), one),
		"no numbers, the last":          chunksOf(one, array(8, "")),
		"no numbers, as bits, the last": chunksOf(one, bits(8, strings.Repeat("\x00", 32))),
		// Containers that are not in their best form.
		"one number as a run":             chunksOf(runs(7, "\x05\x00")),
		"one number as bits":              chunksOf(bits(7, "\x01"+strings.Repeat("\x00", 31))),
		"two numbers as a run":            chunksOf(runs(7, "\x05\x01")),
		"three numbers that follow":       chunksOf(array(7, "\x05\x06\x07")),
		"three numbers that follow, last": chunksOf(one, array(8, "\x05\x06\x07")),
		"a run as bits":                   chunksOf(bits(7, strings.Repeat("\xff", 32))),
		"33 numbers as an array":          chunksOf(array(7, arrayByWords(flagged(span(0, 66, 2))[:256]))),
		"32 numbers as bits":              chunksOf(bits(7, bitsByWords(flagged(span(0, 64, 2))[:256]))),
		"17 runs":                         chunksOf(runs(7, runsByWords(flagged(slices.Concat(span(0, 85, 5), span(1, 85, 5), span(2, 85, 5)))[:256]))),
		"16 runs as bits":                 chunksOf(bits(7, bitsByWords(flagged(slices.Concat(span(0, 80, 5), span(1, 80, 5), span(2, 80, 5)))[:256]))),
		"all even ones as an array":       chunksOf(array(7, arrayByWords(flagged(span(0, 256, 2))[:256]))),
		"all 256 as an array":             chunksOf(array(7, arrayByWords(flagged(span(0, 256, 1))[:256]))),
		"all even ones as runs":           chunksOf(runs(7, runsByWords(flagged(span(0, 256, 2))[:256]))),
	}
}

// makeOf is the bitmap of l, that must have one.
func makeOf(t *testing.T, l []int) api.Roar {
	t.Helper()
	r, e := Make(l)
	if e != api.OK {
		t.Fatalf("Make of %d numbers: %v", len(l), e)
	}
	return r
}

func TestP7_1Make(t *testing.T) {
	for _, x := range names() {
		if got, e := Make(x.l); !same(got, x.want) || e != api.OK {
			t.Errorf("Make(%v): %x, %v, not %x", x.l, got, e, x.want)
		}
	}
	for _, l := range sets() {
		if got, e := Make(l); !same(got, roarByWords(flagged(l))) || e != api.OK {
			t.Errorf("Make(%v): %x, %v", l, got, e)
		}
	}
}

func TestP7_1MakeOfEachNumber(t *testing.T) {
	for n := range 65536 {
		want := array(n/256, string([]byte{byte(n % 256)}))
		if got, e := Make([]int{n}); !same(got, chunksOf(want)) || e != api.OK {
			t.Fatalf("Make of %d: %x, %v", n, got, e)
		}
	}
}

func TestP7_1MakeInWhateverOrderAndTwice(t *testing.T) {
	r := rand.New(rand.NewSource(2))
	for _, l := range sets() {
		mixed := slices.Concat(l, l, l[:len(l)/2])
		r.Shuffle(len(mixed), func(a, b int) { mixed[a], mixed[b] = mixed[b], mixed[a] })
		if got, e := Make(mixed); !same(got, roarByWords(flagged(l))) || e != api.OK {
			t.Errorf("Make(%v): %x, %v", mixed, got, e)
		}
	}
	if got, e := Make(slices.Repeat([]int{300, 3}, 100000)); !same(got, chunksOf(array(0, "\x03"), array(1, "\x2c"))) || e != api.OK {
		t.Errorf("Make of many numbers: %x, %v", got, e)
	}
}

func TestP7_1MakeOfNoneOfItsNumbers(t *testing.T) {
	for _, n := range outside() {
		for _, l := range [][]int{{n}, {n, 1, 300}, {1, n, 300}, {1, 300, n}, {n, n}, append(span(0, 65536, 1), n)} {
			if got, e := Make(l); len(got.L) != 0 || e != api.ErrRoar {
				t.Errorf("Make of %d numbers, one of them %d: %x, %v, not ErrRoar", len(l), n, got, e)
			}
		}
	}
}

func TestP7_1Right(t *testing.T) {
	if !Right(api.Roar{}) || !Right(api.Roar{L: []api.Chunk{}}) {
		t.Error("Right of no chunks: false")
	}
	for _, x := range names() {
		if !Right(x.want) {
			t.Errorf("Right(%x): false", x.want)
		}
	}
	for _, l := range sets() {
		if r := roarByWords(flagged(l)); !Right(r) {
			t.Errorf("Right(%x): false", r)
		}
	}
	for name, r := range wrongs() {
		if Right(r) {
			t.Errorf("Right of %s: true", name)
		}
	}
}

func TestP7_1RightOfEachKey(t *testing.T) {
	for key := -300; key < 600; key++ {
		is := key >= 0 && key < 256
		if Right(chunksOf(array(key, "\x05"))) != is || Right(chunksOf(runs(key, "\x05\x09"))) != is {
			t.Errorf("Right of the key %d: %t", key, !is)
		}
		if other := key - 100; Right(chunksOf(array(100, "\x05"), array(key, "\x05"))) != (is && other > 0) {
			t.Errorf("Right of the keys 100 and %d: %t", key, is && other <= 0)
		}
	}
}

// looseCont is a container of few numbers, or something like one.
func looseCont(r *rand.Rand) api.Cont {
	b := make([]byte, 1+r.Intn(5))
	for at := range b {
		b[at] = byte(r.Intn(12))
	}
	if r.Intn(5) > 0 {
		there := make([]bool, 256)
		for _, n := range b {
			there[n] = true
		}
		return contByWords(there)
	}
	if r.Intn(2) == 0 {
		slices.Sort(b)
	}
	return api.Cont{Form: r.Intn(5), Data: string(b[r.Intn(2):])}
}

// loose are chunks that may be wrong.
func loose(r *rand.Rand) api.Roar {
	var l []api.Chunk
	key := r.Intn(20) - 1
	for range r.Intn(4) {
		l = append(l, api.Chunk{Key: key, C: looseCont(r)})
		key += 1 + r.Intn(12)
		switch r.Intn(20) {
		case 0:
			key = 257 - r.Intn(4)
		case 1:
			key = r.Intn(8)
		}
	}
	return api.Roar{L: l}
}

func TestP7_1RightOfLooseChunks(t *testing.T) {
	r := rand.New(rand.NewSource(3))
	told := [4]int{}
	for range 60000 {
		x := loose(r)
		want := rightByWords(x)
		if Right(x) != want {
			t.Fatalf("Right(%x): %t", x, !want)
		}
		if want {
			told[len(x.L)]++
		}
	}
	if slices.Min(told[:]) < 1000 || told[0]+told[1]+told[2]+told[3] > 50000 {
		t.Errorf("%d bitmaps of none, one, two and three chunks alone", told)
	}
}

func TestP7_1OfNoBitmap(t *testing.T) {
	right := makeOf(t, []int{1, 9, 300, 1797, 2000})
	for name, r := range wrongs() {
		if l := Values(r); len(l) != 0 {
			t.Errorf("Values of %s: %v", name, l)
		}
		if n := Count(r); n != 0 {
			t.Errorf("Count of %s: %d", name, n)
		}
		for _, n := range append(probes(nil), 1796, 1797, 1798, 2000, 2053) {
			if Has(r, n) || Rank(r, n) != 0 {
				t.Errorf("%d of %s: Has %t, Rank %d", n, name, Has(r, n), Rank(r, n))
			}
		}
		for _, place := range []int{0, 1, 2, 255, 256, -1, math.MaxInt, math.MinInt} {
			if n, ok := Select(r, place); n != 0 || ok {
				t.Errorf("Select of %s, %d: %d, %t", name, place, n, ok)
			}
		}
		for _, op := range append(ops(), 0, 5) {
			for _, pair := range [][2]api.Roar{{r, right}, {right, r}, {r, r}, {r, {}}, {{}, r}} {
				if got, e := Op(op, pair[0], pair[1]); len(got.L) != 0 || e != api.ErrRoar {
					t.Errorf("Op %d of %s: %x, %v, not ErrRoar", op, name, got, e)
				}
			}
		}
		for _, ends := range [][2]int{{0, 0}, {0, 65536}, {1792, 2048}, {9, 5}, {-1, 5}, {0, 65537}} {
			if got, e := Flip(r, ends[0], ends[1]); len(got.L) != 0 || e != api.ErrRoar {
				t.Errorf("Flip of %s, %v: %x, %v, not ErrRoar", name, ends, got, e)
			}
		}
		if s, e := Encode(r); s != "" || e != api.ErrRoar {
			t.Errorf("Encode of %s: %x, %v, not ErrRoar", name, s, e)
		}
	}
}

func TestP7_1Values(t *testing.T) {
	for _, l := range sets() {
		f := flagged(l)
		if got := Values(roarByWords(f)); !slices.Equal(got, valuesByWords(f)) {
			t.Errorf("Values of %v: %v", l, got)
		}
		if got := Count(roarByWords(f)); got != len(valuesByWords(f)) {
			t.Errorf("Count of %v: %d", l, got)
		}
	}
}

func TestP7_1HasAndRank(t *testing.T) {
	for _, l := range sets() {
		f := flagged(l)
		r := roarByWords(f)
		for _, n := range probes(l) {
			has, rank := n >= 0 && n < 65536 && f[n], 0
			for at := 0; at < 65536 && at <= n; at++ {
				if f[at] {
					rank++
				}
			}
			if Has(r, n) != has || Rank(r, n) != rank {
				t.Fatalf("%d of %v: Has %t, Rank %d, not %t, %d", n, l, Has(r, n), Rank(r, n), has, rank)
			}
		}
	}
}

func TestP7_1HasAndRankOfEachNumber(t *testing.T) {
	l := append(span(250, 260, 2), 511, 512, 513, 65535)
	r := makeOf(t, l)
	rank := 0
	for n := range 65536 {
		has := slices.Contains(l, n)
		if has {
			rank++
		}
		if Has(r, n) != has || Rank(r, n) != rank {
			t.Fatalf("%d: Has %t, Rank %d, not %t, %d", n, Has(r, n), Rank(r, n), has, rank)
		}
	}
}

func TestP7_1Select(t *testing.T) {
	for _, l := range sets() {
		f := flagged(l)
		r, values := roarByWords(f), valuesByWords(f)
		count := len(values)
		places := []int{0, 1, 2, 255, 256, 257, count - 2, count - 1, count, count + 1, 65535, 65536, 1 << 32, math.MaxInt, math.MaxInt - 5}
		places = append(places, -1, -2, -256, -count, -65536, math.MinInt, math.MinInt+1, math.MinInt+257)
		for at := 0; at < count; at += 1 + count/7 {
			places = append(places, at)
		}
		for _, place := range places {
			want, is := 0, place >= 0 && place < count
			if is {
				want = values[place]
			}
			if n, ok := Select(r, place); n != want || ok != is {
				t.Errorf("Select of %v, %d: %d, %t, not %d, %t", l, place, n, ok, want, is)
			}
		}
	}
}

func TestP7_2Op(t *testing.T) {
	table := []struct {
		op         int
		a, b, want []int
	}{
		{api.OpAnd, []int{1, 9, 300}, []int{9, 300, 600}, []int{9, 300}},
		{api.OpOr, []int{1, 9, 300}, []int{9, 300, 600}, []int{1, 9, 300, 600}},
		{api.OpXor, []int{1, 9, 300}, []int{9, 300, 600}, []int{1, 600}},
		{api.OpAndNot, []int{1, 9, 300}, []int{9, 300, 600}, []int{1}},
		{api.OpAnd, span(0, 300, 1), span(290, 700, 1), span(290, 300, 1)},
		{api.OpAnd, span(0, 256, 1), span(256, 512, 1), nil},
		{api.OpOr, span(0, 256, 1), span(256, 512, 1), span(0, 512, 1)},
		{api.OpXor, span(0, 65536, 1), span(0, 65536, 2), span(1, 65536, 2)},
		{api.OpXor, span(0, 600, 1), span(0, 600, 1), nil},
		{api.OpAndNot, span(0, 600, 1), span(256, 512, 1), append(span(0, 256, 1), span(512, 600, 1)...)},
		{api.OpAndNot, []int{65535, 0}, []int{0}, []int{65535}},
	}
	for _, x := range table {
		a, b := makeOf(t, x.a), makeOf(t, x.b)
		if got, e := Op(x.op, a, b); !same(got, roarByWords(flagged(x.want))) || e != api.OK {
			t.Errorf("Op(%d, %x, %x): %x, %v", x.op, a, b, got, e)
		}
	}
}

func TestP7_2OpOfEachTwo(t *testing.T) {
	all := sets()
	r := rand.New(rand.NewSource(4))
	for _, l := range all {
		a := flagged(l)
		for _, m := range [][]int{l, nil, all[r.Intn(len(all))], all[r.Intn(len(all))], some(r, 10, 20), span(r.Intn(400), r.Intn(65536), 1)} {
			b := flagged(m)
			for _, op := range ops() {
				if got, e := Op(op, roarByWords(a), roarByWords(b)); !same(got, roarByWords(opByWords(op, a, b))) || e != api.OK {
					t.Fatalf("Op(%d) of %v and %v: %x, %v", op, l, m, got, e)
				}
			}
		}
	}
}

func TestP7_2OpOfEachTwoSmallOnes(t *testing.T) {
	// Of each of three chunks there is none, the one half of its numbers, the other one, or both.
	small := func(n int) *flags {
		var f flags
		for at, key := range []int{0, 7, 255} {
			for half := range 2 {
				if n>>(2*at+half)&1 == 1 {
					f[256*key+30+half] = true
				}
			}
		}
		return &f
	}
	for n := range 64 {
		for m := range 64 {
			a, b := small(n), small(m)
			for _, op := range ops() {
				want := []int{n & m, n | m, n ^ m, n &^ m}[op-1]
				if got, e := Op(op, roarByWords(a), roarByWords(b)); !same(got, roarByWords(small(want))) || e != api.OK {
					t.Fatalf("Op(%d) of %v and %v: %x, %v", op, valuesByWords(a), valuesByWords(b), got, e)
				}
			}
		}
	}
}

func TestP7_2OpOfNone(t *testing.T) {
	for _, op := range []int{0, 5, 6, -1, 257, 1<<32 + 1, math.MaxInt, math.MinInt} {
		for _, l := range [][]int{nil, {1, 9}, {1, 300, 65535}, span(0, 65536, 1)} {
			for _, m := range [][]int{nil, l, {9, 65535}} {
				if got, e := Op(op, makeOf(t, l), makeOf(t, m)); len(got.L) != 0 || e != api.ErrRoar {
					t.Errorf("Op(%d): %x, %v, not ErrRoar", op, got, e)
				}
			}
		}
	}
}

// ends are ends of spans: borders within a chunk, and between two.
func ends() []int {
	return []int{0, 1, 2, 5, 33, 254, 255, 256, 257, 271, 511, 512, 513, 768, 32768, 65279, 65280, 65281, 65534, 65535, 65536}
}

func TestP7_2Span(t *testing.T) {
	for _, x := range []struct {
		from, to int
		want     api.Roar
	}{
		{0, 0, chunksOf()}, {256, 256, chunksOf()}, {300, 300, chunksOf()}, {65536, 65536, chunksOf()}, {65535, 65535, chunksOf()},
		{1, 0, chunksOf()}, {300, 290, chunksOf()}, {300, 256, chunksOf()}, {300, 200, chunksOf()}, {512, 256, chunksOf()}, {65536, 0, chunksOf()},
		{0, 1, chunksOf(array(0, "\x00"))},
		{65535, 65536, chunksOf(array(255, "\xff"))},
		{255, 257, chunksOf(array(0, "\xff"), array(1, "\x00"))},
		{256, 271, chunksOf(runs(1, "\x00\x0e"))},
		{256, 512, chunksOf(runs(1, "\x00\xff"))},
		{255, 512, chunksOf(array(0, "\xff"), runs(1, "\x00\xff"))},
		{256, 513, chunksOf(runs(1, "\x00\xff"), array(2, "\x00"))},
		{200, 600, chunksOf(runs(0, "\xc8\x37"), runs(1, "\x00\xff"), runs(2, "\x00\x57"))},
		{300, 303, chunksOf(runs(1, "\x2c\x02"))},
		{300, 302, chunksOf(array(1, "\x2c\x2d"))},
		{0, 65536, chunksOf(everyKey(256, runs(0, "\x00\xff"))...)},
	} {
		if got, e := Span(x.from, x.to); !same(got, x.want) || e != api.OK {
			t.Errorf("Span(%d, %d): %x, %v, not %x", x.from, x.to, got, e, x.want)
		}
	}
	for _, from := range ends() {
		for _, to := range ends() {
			if got, e := Span(from, to); !same(got, roarByWords(flagged(span(from, to, 1)))) || e != api.OK {
				t.Errorf("Span(%d, %d): %x, %v", from, to, got, e)
			}
		}
	}
}

func TestP7_2Flip(t *testing.T) {
	r := rand.New(rand.NewSource(5))
	for _, l := range sets() {
		f := flagged(l)
		pairs := [][2]int{{0, 65536}, {0, 0}, {65536, 65536}, {65536, 0}, {300, 300}, {300, 290}, {256, 512}, {255, 513}, {5, 21}, {0, 1}, {65535, 65536}}
		for range 4 {
			pairs = append(pairs, [2]int{ends()[r.Intn(21)], ends()[r.Intn(21)]}, [2]int{r.Intn(65537), r.Intn(65537)}, [2]int{r.Intn(600), r.Intn(600)})
		}
		for _, x := range pairs {
			if got, e := Flip(roarByWords(f), x[0], x[1]); !same(got, roarByWords(flippedByWords(f, x[0], x[1]))) || e != api.OK {
				t.Fatalf("Flip of %v, %v: %x, %v", l, x, got, e)
			}
		}
	}
}

func TestP7_2WrongEnds(t *testing.T) {
	right := makeOf(t, []int{1, 9, 300})
	for _, n := range past() {
		for _, x := range [][2]int{{n, 0}, {n, 100}, {n, 300}, {n, 65536}, {0, n}, {100, n}, {65536, n}, {n, n}} {
			if got, e := Span(x[0], x[1]); len(got.L) != 0 || e != api.ErrRoar {
				t.Errorf("Span(%v): %x, %v, not ErrRoar", x, got, e)
			}
			for _, r := range []api.Roar{right, {}} {
				if got, e := Flip(r, x[0], x[1]); len(got.L) != 0 || e != api.ErrRoar {
					t.Errorf("Flip(%x, %v): %x, %v, not ErrRoar", r, x, got, e)
				}
			}
		}
	}
}

// behind are texts that may stand behind bytes: none, and such as look like a chunk that goes on, or like a bitmap.
func behind() []string {
	return []string{"", "x", "\x00", "\x01", "\x80", "\xff", "\xff\x01\x00\x05", "\x01\x00\x01\x00\x05", strings.Repeat("\xff", 300)}
}

func TestP7_3EncodeAndDecode(t *testing.T) {
	evens := strings.Repeat("\x55", 32)
	for _, x := range []struct {
		l []int
		s string
	}{
		{nil, "\x00"},
		{[]int{0}, "\x01\x00\x01\x00\x00"},
		{[]int{65535}, "\x01\xff\x01\x00\xff"},
		{[]int{255, 256}, "\x02\x00\x01\x00\xff\x01\x01\x00\x00"},
		{append([]int{1, 9}, span(256, 271, 1)...), "\x02\x00\x01\x01\x01\x09\x01\x03\x01\x00\x0e"},
		{span(256, 512, 1), "\x01\x01\x03\x01\x00\xff"},
		{span(512, 768, 2), "\x01\x02\x02\x1f" + evens},
		{span(0, 65536, 256), bytesByWords(chunksOf(everyKey(256, array(0, "\x00"))...))},
	} {
		if s, e := Encode(makeOf(t, x.l)); s != x.s || e != api.OK {
			t.Errorf("Encode of %v: %x, %v, not %x", x.l, s, e, x.s)
		}
		for _, rest := range behind() {
			if r, left, e := Decode(x.s + rest); !same(r, roarByWords(flagged(x.l))) || left != rest || e != api.OK {
				t.Errorf("Decode(%x): %x, %x, %v", x.s+rest, r, left, e)
			}
		}
	}
}

func TestP7_3EncodeAndDecodeOfSets(t *testing.T) {
	for _, l := range sets() {
		want := roarByWords(flagged(l))
		if s, e := Encode(want); s != bytesByWords(want) || e != api.OK {
			t.Errorf("Encode(%x): %x, %v", want, s, e)
		}
		for _, rest := range behind() {
			if r, left, e := Decode(bytesByWords(want) + rest); !same(r, want) || left != rest || e != api.OK {
				t.Errorf("Decode of %x and %x: %x, %x, %v", want, rest, r, left, e)
			}
		}
	}
}

func TestP7_3BytesOf256Chunks(t *testing.T) {
	for _, c := range []api.Chunk{array(0, "\x00"), runs(0, "\x00\xff"), bits(0, strings.Repeat("\x55", 32))} {
		r := chunksOf(everyKey(256, c)...)
		s, e := Encode(r)
		if s != bytesByWords(r) || s[:2] != "\x80\x02" || e != api.OK {
			t.Errorf("Encode of 256 times %x: %x, %v", c, s, e)
		}
		if got, rest, e := Decode(s + "x"); !same(got, r) || rest != "x" || e != api.OK {
			t.Errorf("Decode of 256 times %x: %d chunks, %x, %v", c, len(got.L), rest, e)
		}
		if got, rest, e := Decode("\x81\x02" + s[2:]); len(got.L) != 0 || rest != "\x81\x02"+s[2:] || e != api.ErrRoar {
			t.Errorf("Decode of 257: %d chunks, %v", len(got.L), e)
		}
		if got, _, e := Decode("\xff\x01" + s[2:]); !same(got, api.Roar{L: r.L[:255]}) || e != api.OK {
			t.Errorf("Decode of 255 of them: %d chunks, %v", len(got.L), e)
		}
	}
}

// wrong are bytes that are no bitmap's, and what is told of them.
type wrong struct {
	s    string
	want api.Errno
}

// wrongCounts are wrong in how many chunks there are.
func wrongCounts() []wrong {
	nine := strings.Repeat("\x80", 9)
	return []wrong{
		// No varint, or none yet.
		{"", api.ErrMore},
		{"\x80", api.ErrMore},
		{"\x81\x82", api.ErrMore},
		{nine, api.ErrMore},
		{"\x80\x00", api.ErrVarint},
		{"\x81\x00\x00\x01\x00\x05", api.ErrVarint},
		{"\x80\x82\x00", api.ErrVarint},
		{nine + "\x02", api.ErrVarint},
		{nine + "\x80\x01", api.ErrVarint},
		{strings.Repeat("\xff", 10), api.ErrVarint},
		// More than 256: ahead of bytes that are missing, or wrong.
		{"\x81\x02", api.ErrRoar},
		{"\x81\x02\x00", api.ErrRoar},
		{"\x81\x02\x00\x01\x00\x05", api.ErrRoar},
		{"\xff\x02", api.ErrRoar},
		{"\x80\x04", api.ErrRoar},
		{"\x80\x80\x04", api.ErrRoar},
		{"\x81\x80\x80\x80\x10\x00\x01\x00\x05", api.ErrRoar},
		{"\x81\x80\x80\x80\x80\x80\x80\x80\x80\x01", api.ErrRoar},
		{nine + "\x01", api.ErrRoar},
		{strings.Repeat("\xff", 9) + "\x01", api.ErrRoar},
		{bytesByWords(chunksOf(everyKey(257, array(0, "\x05"))...)), api.ErrRoar},
	}
}

// wrongChunks are wrong in what stands behind.
func wrongChunks() []wrong {
	return []wrong{
		// Bytes that are missing.
		{"\x01", api.ErrMore},
		{"\x80\x02", api.ErrMore},
		{"\x01\x00", api.ErrMore},
		{"\x01\x00\x01", api.ErrMore},
		{"\x01\x00\x01\x00", api.ErrMore},
		{"\x01\x00\x01\x01\x05", api.ErrMore},
		{"\x01\x00\x02\x1f" + strings.Repeat("\x55", 31), api.ErrMore},
		{"\x01\x00\x01\xff" + strings.Repeat("\x05", 255), api.ErrMore},
		{"\x02\x00\x01\x00\x05", api.ErrMore},
		{"\x02\x00\x01\x00\x05\x01\x01\x00", api.ErrMore},
		// Chunks that make no bitmap.
		{"\x02\x00\x01\x00\x05\x00\x01\x00\x06", api.ErrRoar},
		{"\x02\x01\x01\x00\x05\x00\x01\x00\x05", api.ErrRoar},
		{"\x02\xff\x01\x00\x05\x00\x01\x00\x05", api.ErrRoar},
		{"\x03\x00\x01\x00\x05\x02\x01\x00\x05\x01\x01\x00\x05", api.ErrRoar},
		{"\x01\x00\x00\x00\x05", api.ErrRoar},
		{"\x01\x00\x04\x00\x05", api.ErrRoar},
		{"\x01\x00\xff\x00\x05", api.ErrRoar},
		{"\x01\x00\x01\x01\x05\x05", api.ErrRoar},
		{"\x01\x00\x01\x01\x09\x05", api.ErrRoar},
		{"\x01\x00\x01\xff" + strings.Repeat("\x05", 256), api.ErrRoar},
		{"\x01\x00\x01\xff" + arrayByWords(flagged(span(0, 256, 1))[:256]), api.ErrRoar},
		{"\x01\x00\x02\x1e" + strings.Repeat("\x55", 31), api.ErrRoar},
		{"\x01\x00\x02\x20" + strings.Repeat("\x55", 33), api.ErrRoar},
		{"\x01\x00\x02\x1f" + strings.Repeat("\x00", 32), api.ErrRoar},
		{"\x01\x00\x02\x1f" + strings.Repeat("\xff", 32), api.ErrRoar},
		{"\x01\x00\x03\x01\x05\x00", api.ErrRoar},
		{"\x01\x00\x03\x00\x05", api.ErrRoar},
		{"\x01\x00\x03\x01\xf0\x10", api.ErrRoar},
		{"\x01\x00\x01\x02\x05\x06\x07", api.ErrRoar},
		{"\x02\x00\x01\x00\x05\x01\x03\x01\x05\x01", api.ErrRoar},
		// Likewise, where bytes are missing behind these: that is told first.
		{"\x03\x00\x01\x00\x05\x00\x01\x00\x06", api.ErrMore},
		{"\x03\x00\x01\x00\x05\x00\x01\x00\x06\x07", api.ErrMore},
		{"\x03\x01\x01\x00\x05\x00\x01\x00\x05\x07\x01\x00", api.ErrMore},
		{"\x02\x00\x00\x00\x05", api.ErrMore},
		{"\x02\x00\xff\x00\x05\x01\x01\x05\x01", api.ErrMore},
		{"\x02\x00\x01\x01\x05\x05\x01", api.ErrMore},
		{"\x80\x02\x00\x03\x01\x05\x00", api.ErrMore},
		{"\x01\x00\x00\x01\x05", api.ErrMore},
		{"\x01\x00\x01\x02\x09\x05", api.ErrMore},
	}
}

func TestP7_3OfNone(t *testing.T) {
	for _, x := range slices.Concat(wrongCounts(), wrongChunks()) {
		rests := behind()
		if x.want == api.ErrMore {
			rests = rests[:1]
		}
		for _, rest := range rests {
			s := x.s + rest
			if r, left, e := Decode(s); len(r.L) != 0 || left != s || e != x.want {
				t.Errorf("Decode(%x): %x, %d bytes, %v, not %v", s, r, len(left), e, x.want)
			}
		}
	}
}

func TestP7_3OfChunksThatMakeNoBitmap(t *testing.T) {
	told := 0
	for name, r := range wrongs() {
		fits := len(r.L) <= 256
		for _, c := range r.L {
			fits = fits && c.Key >= 0 && c.Key < 256 && c.C.Form >= 0 && c.C.Form < 256 && len(c.C.Data) > 0 && len(c.C.Data) <= 256
		}
		if !fits {
			continue
		}
		told++
		for _, rest := range behind() {
			s := bytesByWords(r) + rest
			if got, left, e := Decode(s); len(got.L) != 0 || left != s || e != api.ErrRoar {
				t.Errorf("Decode of %s: %x, %d bytes, %v, not ErrRoar", name, got, len(left), e)
			}
		}
		s := bytesByWords(r)
		if got, left, e := Decode(s[:len(s)-1]); len(got.L) != 0 || left != s[:len(s)-1] || e != api.ErrMore {
			t.Errorf("Decode of %s, all bytes but the last one: %x, %v, not ErrMore", name, got, e)
		}
	}
	if told < 30 {
		t.Errorf("%d of them alone have bytes", told)
	}
}

func TestP7_3BytesMissingAtEachPlace(t *testing.T) {
	for _, l := range sets() {
		s := bytesByWords(roarByWords(flagged(l)))
		for size := 0; size < len(s); size += 1 + size/200 {
			if got, rest, e := Decode(s[:size]); len(got.L) != 0 || rest != s[:size] || e != api.ErrMore {
				t.Fatalf("%v, %d of %d bytes: %x, %x, %v", l, size, len(s), got, rest, e)
			}
		}
		if _, _, e := Decode(s[:len(s)-1]); e != api.ErrMore {
			t.Fatalf("%v, all bytes but the last one: %v", l, e)
		}
	}
}

// sameAsByWords holds what s begins with to P7.3, and tells how many chunks it has.
func sameAsByWords(t *testing.T, s string) int {
	t.Helper()
	r, rest, e := Decode(s)
	wantR, wantRest, want := decodedByWords(s)
	if !same(r, wantR) || rest != wantRest || e != want {
		t.Fatalf("Decode(%x): %x, %x, %v, not %x, %x, %v", s, r, rest, e, wantR, wantRest, want)
	}
	return len(r.L)
}

func TestP7_3AllShortBytes(t *testing.T) {
	const letters = "\x00\x01\x02\x03\x05\x80\x81\xff"
	told := [2]int{}
	for n := range 1 << 18 {
		b := []byte{letters[n&7], letters[n>>3&7], letters[n>>6&7], letters[n>>9&7], letters[n>>12&7], letters[n>>15&7]}
		told[sameAsByWords(t, string(b))]++
		told[sameAsByWords(t, "\x01"+string(b))]++
	}
	if slices.Min(told[:]) < 100 {
		t.Errorf("%d bitmaps of none and one chunk alone", told)
	}
}

func TestP7_3EachByteAnotherOne(t *testing.T) {
	r := rand.New(rand.NewSource(6))
	for _, l := range sets() {
		s := bytesByWords(roarByWords(flagged(l)))
		places := 60
		if len(s) > 1000 {
			places = 9
		}
		for at := 0; at < len(s); at += 1 + len(s)/places {
			for _, b := range []byte{0, 1, 2, 3, 127, 128, 255, s[at] + 1, s[at] - 1, s[at] ^ 1<<r.Intn(8)} {
				sameAsByWords(t, s[:at]+string([]byte{b})+s[at+1:])
			}
			sameAsByWords(t, s[:at]+s[at+1:])
			sameAsByWords(t, s[:at]+string([]byte{byte(r.Intn(256))})+s[at:])
		}
	}
}

func TestP7_3LooseBytes(t *testing.T) {
	r := rand.New(rand.NewSource(7))
	told := [4]int{}
	for range 60000 {
		s := bytesByWords(loose(r)) + behind()[r.Intn(8)]
		told[sameAsByWords(t, s[:len(s)-min(r.Intn(30)/28, len(s))])]++
	}
	if slices.Min(told[:]) < 1000 || told[0] > 50000 {
		t.Errorf("%d bitmaps of none to three chunks alone", told)
	}
}

func TestP7_4NumbersBitmapsAndBytesOneToOne(t *testing.T) {
	told := map[string][]int{}
	for _, l := range sets() {
		values := valuesByWords(flagged(l))
		r := makeOf(t, l)
		s, e := Encode(r)
		if e != api.OK || !slices.Equal(Values(r), values) {
			t.Fatalf("%v: %v, %v", l, Values(r), e)
		}
		if other, ok := told[s]; ok && !slices.Equal(other, values) {
			t.Errorf("%v and %v have the same bytes", values, other)
		}
		told[s] = values
		back, rest, e := Decode(s)
		if !same(back, r) || rest != "" || e != api.OK {
			t.Errorf("Decode(%x): %x, %x, %v", s, back, rest, e)
		}
		if again := makeOf(t, Values(back)); !same(again, r) {
			t.Errorf("Make of the values of %x: %x", r, again)
		}
	}
}

func TestP7_4BytesOneToOne(t *testing.T) {
	r := rand.New(rand.NewSource(8))
	for range 60000 {
		s := bytesByWords(loose(r)) + behind()[r.Intn(9)]
		b, rest, e := Decode(s)
		if e != api.OK {
			continue
		}
		if again, e := Encode(b); again+rest != s || e != api.OK || !Right(b) {
			t.Fatalf("%x: %x, %x, %v", s, b, again, e)
		}
	}
}

func TestP7_4BitmapsBehindOneAnother(t *testing.T) {
	all := ""
	for _, l := range sets() {
		s, _ := Encode(makeOf(t, l))
		all += s
	}
	for _, l := range sets() {
		got, rest, e := Decode(all)
		if !same(got, roarByWords(flagged(l))) || e != api.OK {
			t.Fatalf("%v: %x, %v", l, got, e)
		}
		all = rest
	}
	if all != "" {
		t.Errorf("%x is left", all)
	}
}

func TestP7_4SelectAndRank(t *testing.T) {
	for _, l := range [][]int{{65535}, {0, 300, 65535}, append(span(250, 270, 3), span(700, 720, 1)...)} {
		r := makeOf(t, l)
		for at, n := range valuesByWords(flagged(l)) {
			if got, ok := Select(r, at); got != n || !ok || Rank(r, n) != at+1 || Rank(r, n-1) != at || !Has(r, n) {
				t.Errorf("%d of %v: %d, %t, Rank %d", at, l, got, ok, Rank(r, n))
			}
		}
	}
}

// rules are calls that fail the test if they tell an error.
type rules struct {
	t *testing.T
}

// op is what an operation comes to.
func (x rules) op(number int, a, b api.Roar) api.Roar {
	x.t.Helper()
	r, e := Op(number, a, b)
	if e != api.OK || !Right(r) {
		x.t.Fatalf("Op(%d, %x, %x): %x, %v", number, a, b, r, e)
	}
	return r
}

func (x rules) and(a, b api.Roar) api.Roar    { return x.op(api.OpAnd, a, b) }
func (x rules) or(a, b api.Roar) api.Roar     { return x.op(api.OpOr, a, b) }
func (x rules) xor(a, b api.Roar) api.Roar    { return x.op(api.OpXor, a, b) }
func (x rules) andNot(a, b api.Roar) api.Roar { return x.op(api.OpAndNot, a, b) }

// not is all that a has not.
func (x rules) not(a api.Roar) api.Roar {
	x.t.Helper()
	r, e := Flip(a, 0, 65536)
	if e != api.OK || !Right(r) {
		x.t.Fatalf("Flip(%x): %x, %v", a, r, e)
	}
	return r
}

// are holds each two of the bitmaps that stand behind each other to be the same.
func (x rules) are(name string, l ...api.Roar) {
	x.t.Helper()
	for at := 0; at < len(l); at += 2 {
		if !same(l[at], l[at+1]) {
			x.t.Errorf("%s, %d: %x, not %x", name, at/2, l[at], l[at+1])
		}
	}
}

func TestP7_4RulesOfSets(t *testing.T) {
	x := rules{t: t}
	all, e := Span(0, 65536)
	none := chunksOf()
	if e != api.OK {
		t.Fatal(e)
	}
	r := rand.New(rand.NewSource(9))
	lists := sets()
	for at := 0; at < len(lists); at += 3 {
		a := makeOf(t, lists[at])
		b, c := makeOf(t, lists[r.Intn(len(lists))]), makeOf(t, some(r, 20, 50))
		notA, notB := x.not(a), x.not(b)
		x.are("one and itself", x.and(a, a), a, x.or(a, a), a, x.xor(a, a), none, x.andNot(a, a), none)
		x.are("one and none", x.and(a, none), none, x.or(a, none), a, x.xor(a, none), a, x.andNot(a, none), a, x.andNot(none, a), none)
		x.are("one and all", x.and(a, all), a, x.or(a, all), all, x.xor(a, all), notA, x.andNot(a, all), none, x.andNot(all, a), notA)
		x.are("one and what it is not", x.and(a, notA), none, x.or(a, notA), all, x.xor(a, notA), all, x.andNot(a, notA), a, x.not(notA), a)
		x.are("two, either way", x.and(a, b), x.and(b, a), x.or(a, b), x.or(b, a), x.xor(a, b), x.xor(b, a))
		x.are("two, and what they are not", x.not(x.and(a, b)), x.or(notA, notB), x.not(x.or(a, b)), x.and(notA, notB), x.andNot(a, b), x.and(a, notB))
		x.are("two, one within", x.and(a, x.or(a, b)), a, x.or(a, x.and(a, b)), a)
		x.are("two, in parts", x.or(x.andNot(a, b), x.andNot(b, a)), x.xor(a, b), x.or(x.xor(a, b), x.and(a, b)), x.or(a, b))
		x.are("three", x.and(a, x.and(b, c)), x.and(x.and(a, b), c), x.or(a, x.or(b, c)), x.or(x.or(a, b), c), x.xor(a, x.xor(b, c)), x.xor(x.xor(a, b), c))
		x.are("three, over each other", x.and(a, x.or(b, c)), x.or(x.and(a, b), x.and(a, c)), x.or(a, x.and(b, c)), x.and(x.or(a, b), x.or(a, c)))
		if Count(x.and(a, b))+Count(x.or(a, b)) != Count(a)+Count(b) || Count(a)+Count(notA) != 65536 {
			t.Errorf("%x and %x: they don't come to as many", a, b)
		}
	}
}

func TestP7_4FlippedTwiceAndInParts(t *testing.T) {
	r := rand.New(rand.NewSource(10))
	for _, l := range sets() {
		a := makeOf(t, l)
		from, to := r.Intn(65537), r.Intn(65537)
		from, to = min(from, to), max(from, to)
		once, _ := Flip(a, from, to)
		twice, e := Flip(once, from, to)
		if !same(twice, a) || e != api.OK {
			t.Errorf("Flip twice of %x, %d to %d: %x, %v", a, from, to, twice, e)
		}
		part, _ := Flip(a, from, (from+to)/2)
		whole, e := Flip(part, (from+to)/2, to)
		if !same(whole, once) || e != api.OK {
			t.Errorf("Flip of %x, %d to %d, in two parts: %x, %v", a, from, to, whole, e)
		}
	}
}

func TestR3WhatIsHandedInStays(t *testing.T) {
	numbers := []int{300, 1, 9, 1, 65536, -7}
	before := slices.Clone(numbers)
	if r, e := Make(numbers[:4]); !same(r, chunksOf(array(0, "\x01\x09"), array(1, "\x2c"))) || e != api.OK {
		t.Errorf("Make: %x, %v", r, e)
	}
	if _, e := Make(numbers[:5]); e != api.ErrRoar || !slices.Equal(numbers, before) {
		t.Errorf("Make leaves %v, not %v, %v", numbers, before, e)
	}
	room := []api.Chunk{array(1, "\x05"), array(3, "\x05"), array(5, "\x05"), array(9, "\x05"), array(8, "\x05")}
	kept := slices.Clone(room)
	a, b := api.Roar{L: room[:3]}, makeOf(t, []int{7, 2000, 5 + 3*256, 65535})
	for _, op := range ops() {
		_, _ = Op(op, a, b)
		_, _ = Op(op, b, a)
		_, _ = Op(op, a, a)
	}
	_, _ = Flip(a, 0, 65536)
	_, _ = Flip(a, 0, 0)
	_, _ = Encode(a)
	_ = Values(a)
	if !slices.Equal(room, kept) {
		t.Errorf("what was handed in is %x, not %x", room, kept)
	}
}

// spoil writes into all of a bitmap's memory, its spare room too.
func spoil(r api.Roar) {
	room := r.L[:cap(r.L)]
	for at := range room {
		room[at] = array(-1, "spoilt")
	}
}

func TestR3WhatIsAnsweredIsNew(t *testing.T) {
	l := []int{1, 9, 300, 65535}
	a, b := makeOf(t, l), makeOf(t, []int{9, 2000})
	wantA, wantB := roarByWords(flagged(l)), roarByWords(flagged([]int{9, 2000}))
	var answers []api.Roar
	for _, op := range ops() {
		for _, pair := range [][2]api.Roar{{a, b}, {b, a}, {a, {}}, {{}, a}, {a, a}} {
			r, _ := Op(op, pair[0], pair[1])
			answers = append(answers, r)
		}
	}
	flipped, _ := Flip(a, 9, 9)
	same1, _ := Span(0, 600)
	same2, _ := Span(0, 600)
	s, _ := Encode(a)
	d1, _, _ := Decode(s)
	d2, _, _ := Decode(s)
	made, _ := Make(l)
	values := Values(a)
	for _, r := range append(answers, flipped, same1, d1, made) {
		spoil(r)
	}
	values = values[:cap(values)]
	for at := range values {
		values[at] = -1
	}
	if !same(a, wantA) || !same(b, wantB) || !same(d2, wantA) || !same(same2, roarByWords(flagged(span(0, 600, 1)))) || !slices.Equal(Values(a), l) {
		t.Errorf("what was handed in, or answered, is shared: %x, %x, %x, %x", a, b, d2, same2)
	}
}

func TestR3MakeKeepsNothing(t *testing.T) {
	l := []int{1, 9}
	r := makeOf(t, l)
	l[0], l[1] = 200, 300
	if got := Values(r); !slices.Equal(got, []int{1, 9}) {
		t.Errorf("Values: %v", got)
	}
}
