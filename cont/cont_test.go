package cont

import (
	"math"
	"math/rand"
	"slices"
	"strconv"
	"strings"
	"testing"

	"tesserae/api"
)

// flags tell of each number from 0 to 255 whether it is there.
type flags [256]bool

// flagged are the flags of the numbers of l.
func flagged(l []int) flags {
	var f flags
	for _, n := range l {
		f[n] = true
	}
	return f
}

// valuesByWords are the numbers that are there, rising.
func valuesByWords(f flags) []int {
	var l []int
	for n, there := range f {
		if there {
			l = append(l, n)
		}
	}
	return l
}

// arrayByWords are the bytes of what is there as an array, as the words say it.
func arrayByWords(f flags) string {
	var b []byte
	for n, there := range f {
		if there {
			b = append(b, byte(n))
		}
	}
	return string(b)
}

// bitsByWords are the bytes of what is there as bits: each byte's digits are written out, the greatest one first.
func bitsByWords(f flags) string {
	var b []byte
	for at := range 32 {
		digits := ""
		for by := range 8 {
			digit := "0"
			if f[8*at+by] {
				digit = "1"
			}
			digits = digit + digits
		}
		n, _ := strconv.ParseUint(digits, 2, 8)
		b = append(b, byte(n))
	}
	return string(b)
}

// runsByWords are the bytes of what is there as runs: each begins where the number ahead is not there, and ends where the one behind is not.
func runsByWords(f flags) string {
	var b []byte
	for first := range 256 {
		if !f[first] || first > 0 && f[first-1] {
			continue
		}
		last := first
		for last < 255 && f[last+1] {
			last++
		}
		b = append(b, byte(first), byte(last-first))
	}
	return string(b)
}

// inForm is the container of what is there in that form, as the words say it.
func inForm(f flags, form int) api.Cont {
	switch form {
	case api.FormArray:
		return api.Cont{Form: form, Data: arrayByWords(f)}
	case api.FormBits:
		return api.Cont{Form: form, Data: bitsByWords(f)}
	}
	return api.Cont{Form: api.FormRuns, Data: runsByWords(f)}
}

// bestByWords is the container of what is there in its best form, as the words say it.
func bestByWords(f flags) api.Cont {
	array, runs, bits := inForm(f, api.FormArray), inForm(f, api.FormRuns), inForm(f, api.FormBits)
	switch {
	case len(array.Data) <= len(runs.Data) && len(array.Data) <= 32:
		return array
	case len(runs.Data) <= 32:
		return runs
	}
	return bits
}

// opByWords tells of each number whether it is there behind an operation.
func opByWords(op int, a, b flags) flags {
	var f flags
	for n := range f {
		switch op {
		case api.OpAnd:
			f[n] = a[n] && b[n]
		case api.OpOr:
			f[n] = a[n] || b[n]
		case api.OpXor:
			f[n] = a[n] != b[n]
		case api.OpAndNot:
			f[n] = a[n] && !b[n]
		}
	}
	return f
}

// flippedByWords tells of each number whether it is there behind a Flip.
func flippedByWords(f flags, from, to int) flags {
	for n := range f {
		if n >= from && n < to {
			f[n] = !f[n]
		}
	}
	return f
}

// rightByWords tells whether c is a container: its bytes are held against each other as the words say it.
func rightByWords(c api.Cont) bool {
	switch c.Form {
	case api.FormArray:
		for at := 1; at < len(c.Data); at++ {
			if c.Data[at-1] >= c.Data[at] {
				return false
			}
		}
		return true
	case api.FormBits:
		return len(c.Data) == 32
	case api.FormRuns:
		behind := -1
		for at := 0; at+1 < len(c.Data); at += 2 {
			first, last := int(c.Data[at]), int(c.Data[at])+int(c.Data[at+1])
			if first <= behind || last > 255 {
				return false
			}
			behind = last + 1
		}
		return len(c.Data)%2 == 0
	}
	return false
}

// forms are the forms of containers.
func forms() []int {
	return []int{api.FormArray, api.FormBits, api.FormRuns}
}

// ops are the operations.
func ops() []int {
	return []int{api.OpAnd, api.OpOr, api.OpXor, api.OpAndNot}
}

// span are the numbers from from on, by steps, that are less than to.
func span(from, to, step int) []int {
	var l []int
	for n := from; n < to; n += step {
		l = append(l, n)
	}
	return l
}

// spans are so many runs of that many numbers each, so far apart that none meet.
func spans(count, size, step int) []int {
	var l []int
	for at := range count {
		l = append(l, span(at*step, at*step+size, 1)...)
	}
	return l
}

// some are numbers each of which is there with a chance of that many percent.
func some(r *rand.Rand, percent int) []int {
	var l []int
	for n := range 256 {
		if r.Intn(100) < percent {
			l = append(l, n)
		}
	}
	return l
}

// named are ordinary sets and such as the edges ask for, with their best forms.
func named() []struct {
	l    []int
	want api.Cont
} {
	array := func(data string) api.Cont { return api.Cont{Form: api.FormArray, Data: data} }
	bits := func(data string) api.Cont { return api.Cont{Form: api.FormBits, Data: data} }
	runs := func(data string) api.Cont { return api.Cont{Form: api.FormRuns, Data: data} }
	threes := "\x49\x92\x24"
	return []struct {
		l    []int
		want api.Cont
	}{
		{nil, array("")},
		{[]int{}, array("")},
		{[]int{0}, array("\x00")},
		{[]int{255}, array("\xff")},
		{[]int{0, 255}, array("\x00\xff")},
		{[]int{1, 9}, array("\x01\x09")},
		{[]int{9, 1}, array("\x01\x09")},
		{[]int{9, 1, 9, 9, 1}, array("\x01\x09")},
		{span(5, 21, 1), runs("\x05\x0f")},
		{span(0, 256, 2), bits(strings.Repeat("\x55", 32))},
		{span(1, 256, 2), bits(strings.Repeat("\xaa", 32))},
		{span(0, 256, 1), runs("\x00\xff")},
		{span(0, 255, 1), runs("\x00\xfe")},
		{span(1, 256, 1), runs("\x01\xfe")},
		{span(0, 256, 3), bits(strings.Repeat(threes, 10) + threes[:2])},
		// A run of two has as many bytes as an array; one of three fewer.
		{[]int{3, 4}, array("\x03\x04")},
		{[]int{254, 255}, array("\xfe\xff")},
		{[]int{3, 4, 5}, runs("\x03\x02")},
		{[]int{5, 4, 3, 4}, runs("\x03\x02")},
		{[]int{253, 254, 255}, runs("\xfd\x02")},
		{[]int{3, 4, 7, 8}, array("\x03\x04\x07\x08")},
		{[]int{3, 4, 5, 9}, array("\x03\x04\x05\x09")},
		{[]int{3, 4, 5, 9, 10}, runs("\x03\x02\x09\x01")},
		{[]int{3, 4, 5, 7, 8, 9}, runs("\x03\x02\x07\x02")},
		{append(span(0, 100, 1), span(101, 256, 1)...), runs("\x00\x63\x65\x9a")},
		// An array of 32 numbers has as many bytes as bits; one of 33 more.
		{span(0, 64, 2), array(arrayByWords(flagged(span(0, 64, 2))))},
		{span(0, 66, 2), bits(strings.Repeat("\x55", 8) + "\x01" + strings.Repeat("\x00", 23))},
		// 16 runs of two have as many bytes as an array and as bits; of three as bits alone; 17 runs have more than bits.
		{spans(16, 2, 4), array(arrayByWords(flagged(spans(16, 2, 4))))},
		{spans(16, 3, 4), runs(runsByWords(flagged(spans(16, 3, 4))))},
		{spans(17, 3, 4), bits(strings.Repeat("\x77", 8) + "\x07" + strings.Repeat("\x00", 23))},
		{spans(15, 3, 4), runs(runsByWords(flagged(spans(15, 3, 4))))},
		{spans(16, 15, 16), runs(runsByWords(flagged(spans(16, 15, 16))))},
		{append(spans(16, 2, 4), 66), bits(strings.Repeat("\x33", 8) + "\x04" + strings.Repeat("\x00", 23))},
	}
}

// sets are the named sets, and some of each density.
func sets() [][]int {
	var l [][]int
	for _, x := range named() {
		l = append(l, x.l)
	}
	r := rand.New(rand.NewSource(1))
	for percent := 0; percent <= 100; percent += 5 {
		l = append(l, some(r, percent), some(r, percent))
	}
	for at := range 8 {
		l = append(l, []int{1 << at}, span(1<<at, 256, 1), span(0, 1<<at, 1), spans(128>>at, 1<<at, 2<<at))
	}
	return l
}

// wrongs are what is no container.
func wrongs() map[string]api.Cont {
	return map[string]api.Cont{
		"nothing":                             {},
		"no form, with bytes":                 {Data: "\x01"},
		"a form behind the last one":          {Form: 4},
		"a form behind the last one, 32":      {Form: 4, Data: strings.Repeat("\x00", 32)},
		"a form below 0":                      {Form: -1, Data: "\x01\x02"},
		"a great form":                        {Form: math.MaxInt},
		"a form whose last byte is one":       {Form: 257, Data: "\x01"},
		"a form whose last half is one":       {Form: 1<<32 + 2, Data: strings.Repeat("\x00", 32)},
		"an array, one twice":                 {Form: api.FormArray, Data: "\x05\x05"},
		"an array, 0 twice":                   {Form: api.FormArray, Data: "\x00\x00"},
		"an array, 255 twice":                 {Form: api.FormArray, Data: "\x01\xff\xff"},
		"an array that falls":                 {Form: api.FormArray, Data: "\x05\x01"},
		"an array that falls last":            {Form: api.FormArray, Data: "\x01\x05\x04"},
		"an array that falls first":           {Form: api.FormArray, Data: "\x02\x01\x04\x05"},
		"an array, all and one more":          {Form: api.FormArray, Data: arrayByWords(flagged(span(0, 256, 1))) + "\xff"},
		"a long array":                        {Form: api.FormArray, Data: strings.Repeat("\x07", 1<<20)},
		"no bits":                             {Form: api.FormBits},
		"bits of one byte":                    {Form: api.FormBits, Data: "\x01"},
		"bits of 31 bytes":                    {Form: api.FormBits, Data: strings.Repeat("\x55", 31)},
		"bits of 33 bytes":                    {Form: api.FormBits, Data: strings.Repeat("\x55", 33)},
		"bits of 33 bytes, the last one none": {Form: api.FormBits, Data: strings.Repeat("\x55", 32) + "\x00"},
		"bits of 64 bytes":                    {Form: api.FormBits, Data: strings.Repeat("\x55", 64)},
		"bits of 256 bytes":                   {Form: api.FormBits, Data: strings.Repeat("\x00", 256)},
		"many bits":                           {Form: api.FormBits, Data: strings.Repeat("\x00", 1<<20)},
		"runs of one byte":                    {Form: api.FormRuns, Data: "\x01"},
		"runs of three bytes":                 {Form: api.FormRuns, Data: "\x01\x01\x09"},
		"runs of 33 bytes":                    {Form: api.FormRuns, Data: runsByWords(flagged(spans(16, 2, 4))) + "\xf0"},
		"runs that meet":                      {Form: api.FormRuns, Data: "\x01\x01\x03\x00"},
		"runs of one number that meet":        {Form: api.FormRuns, Data: "\x01\x00\x02\x00"},
		"runs that meet at 255":               {Form: api.FormRuns, Data: "\x00\xfe\xff\x00"},
		"runs that meet behind others":        {Form: api.FormRuns, Data: "\x01\x01\x05\x01\x07\x01"},
		"runs that overlap":                   {Form: api.FormRuns, Data: "\x01\x05\x03\x05"},
		"runs that overlap at one":            {Form: api.FormRuns, Data: "\x01\x02\x03\x02"},
		"a run within another one":            {Form: api.FormRuns, Data: "\x01\x09\x03\x01"},
		"a run twice":                         {Form: api.FormRuns, Data: "\x01\x02\x01\x02"},
		"all twice":                           {Form: api.FormRuns, Data: "\x00\xff\x00\xff"},
		"runs that fall":                      {Form: api.FormRuns, Data: "\x09\x01\x01\x01"},
		"runs that fall and meet":             {Form: api.FormRuns, Data: "\x03\x01\x01\x01"},
		"runs that fall last":                 {Form: api.FormRuns, Data: "\x01\x01\x09\x01\x05\x01"},
		"a run past 255":                      {Form: api.FormRuns, Data: "\xff\x01"},
		"a run far past 255":                  {Form: api.FormRuns, Data: "\xff\xff"},
		"a run one past 255":                  {Form: api.FormRuns, Data: "\x01\xff"},
		"a second run past 255":               {Form: api.FormRuns, Data: "\x01\x01\xf0\x10"},
		"runs that go on at 0":                {Form: api.FormRuns, Data: "\xfe\x01\x00\x00"},
		"long runs":                           {Form: api.FormRuns, Data: strings.Repeat("\x07\x07", 1<<19)},
	}
}

// outside are numbers that no container has.
func outside() []int {
	return []int{-1, -2, -255, -256, 256, 257, 511, 512, 1 << 16, 1 << 32, 1<<32 + 5, math.MaxInt, math.MinInt, math.MinInt + 1}
}

func TestP6_1MakeIsInTheBestForm(t *testing.T) {
	for _, x := range named() {
		if got, e := Make(x.l); got != x.want || e != api.OK {
			t.Errorf("Make(%v): %x, %v, not %x", x.l, got, e, x.want)
		}
	}
	for _, l := range sets() {
		if got, e := Make(l); got != bestByWords(flagged(l)) || e != api.OK {
			t.Errorf("Make(%v): %x, %v, not %x", l, got, e, bestByWords(flagged(l)))
		}
	}
}

func TestP6_1MakeOfEachRun(t *testing.T) {
	for from := range 256 {
		for to := from; to <= 256; to++ {
			want := bestByWords(flagged(span(from, to, 1)))
			if got, e := Make(span(from, to, 1)); got != want || e != api.OK {
				t.Fatalf("Make of %d up to %d: %x, %v, not %x", from, to, got, e, want)
			}
		}
	}
}

func TestP6_1MakeInWhateverOrderAndTwice(t *testing.T) {
	r := rand.New(rand.NewSource(2))
	for _, l := range sets() {
		want := bestByWords(flagged(l))
		mixed := slices.Concat(l, l, l[:len(l)/2])
		r.Shuffle(len(mixed), func(a, b int) { mixed[a], mixed[b] = mixed[b], mixed[a] })
		if got, e := Make(mixed); got != want || e != api.OK {
			t.Errorf("Make(%v): %x, %v, not %x", mixed, got, e, want)
		}
		slices.Reverse(l)
		if got, e := Make(l); got != want || e != api.OK {
			t.Errorf("Make(%v): %x, %v, not %x", l, got, e, want)
		}
	}
	if got, e := Make(slices.Repeat([]int{7, 3}, 50000)); got != (api.Cont{Form: api.FormArray, Data: "\x03\x07"}) || e != api.OK {
		t.Errorf("Make of many numbers: %x, %v", got, e)
	}
}

func TestP6_1MakeOfNoneOfItsNumbers(t *testing.T) {
	for _, n := range outside() {
		for _, l := range [][]int{{n}, {n, 1, 9}, {1, n, 9}, {1, 9, n}, {n, n}, append(span(0, 256, 1), n)} {
			if got, e := Make(l); got != (api.Cont{}) || e != api.ErrCont {
				t.Errorf("Make(%v): %x, %v, not ErrCont", l, got, e)
			}
		}
	}
	for n := range 256 {
		if got, e := Make([]int{n}); got != (api.Cont{Form: api.FormArray, Data: string([]byte{byte(n)})}) || e != api.OK {
			t.Errorf("Make of %d: %x, %v", n, got, e)
		}
	}
}

func TestP6_1Right(t *testing.T) {
	for _, l := range sets() {
		for _, form := range forms() {
			if c := inForm(flagged(l), form); !Right(c) {
				t.Errorf("Right(%x): false", c)
			}
		}
	}
	for name, c := range wrongs() {
		if Right(c) {
			t.Errorf("Right of %s: true", name)
		}
	}
}

func TestP6_1RightOfAllShortBytes(t *testing.T) {
	for a := range 256 {
		for b := range 257 {
			data := string([]byte{byte(a), byte(b)})
			if b == 256 {
				data = data[:1]
			}
			for form := -1; form <= 5; form++ {
				c := api.Cont{Form: form, Data: data}
				if Right(c) != rightByWords(c) {
					t.Fatalf("Right(%x): %t", c, Right(c))
				}
			}
		}
	}
}

func TestP6_1RightOfEachTwoRuns(t *testing.T) {
	edges := []byte{0, 1, 2, 3, 4, 5, 127, 128, 250, 251, 252, 253, 254, 255}
	right := 0
	for _, a := range edges {
		for _, b := range edges {
			for _, c := range edges {
				for _, d := range edges {
					runs := api.Cont{Form: api.FormRuns, Data: string([]byte{a, b, c, d})}
					if Right(runs) != rightByWords(runs) {
						t.Fatalf("Right(%x): %t", runs, Right(runs))
					}
					if rightByWords(runs) {
						right++
					}
				}
			}
		}
	}
	if right == 0 {
		t.Error("no runs are right")
	}
}

func TestP6_1RightOfEachCountOfBytes(t *testing.T) {
	for size := range 300 {
		for _, data := range []string{strings.Repeat("\x00", size), strings.Repeat("\xff", size)} {
			if got := Right(api.Cont{Form: api.FormBits, Data: data}); got != (size == 32) {
				t.Errorf("Right of bits of %d bytes: %t", size, got)
			}
		}
		array := api.Cont{Form: api.FormArray, Data: arrayByWords(flagged(span(0, min(size, 256), 1)))}
		if !Right(array) {
			t.Errorf("Right(%x): false", array)
		}
		runs := api.Cont{Form: api.FormRuns, Data: runsByWords(flagged(spans(min(size, 128), 1, 2)))}
		if !Right(runs) {
			t.Errorf("Right(%x): false", runs)
		}
		if size == 0 {
			continue
		}
		array.Data += array.Data[len(array.Data)-1:]
		runs.Data += runs.Data[len(runs.Data)-2:]
		if Right(array) || Right(runs) {
			t.Errorf("Right(%x): %t, Right(%x): %t", array, Right(array), runs, Right(runs))
		}
	}
}

func TestP6_1OfNoContainer(t *testing.T) {
	for name, c := range wrongs() {
		if got := Values(c); len(got) != 0 {
			t.Errorf("Values of %s: %v", name, got)
		}
		if got := Count(c); got != 0 {
			t.Errorf("Count of %s: %d", name, got)
		}
		for n := -1; n <= 256; n++ {
			if Has(c, n) || Rank(c, n) != 0 {
				t.Errorf("Has, Rank of %s and %d: %t, %d", name, n, Has(c, n), Rank(c, n))
			}
			if got, ok := Select(c, n); got != 0 || ok {
				t.Errorf("Select of %s at %d: %d, %t", name, n, got, ok)
			}
		}
		for form := 0; form <= 4; form++ {
			if got, e := As(c, form); got != (api.Cont{}) || e != api.ErrCont {
				t.Errorf("As of %s and %d: %x, %v", name, form, got, e)
			}
		}
		for _, ends := range [][2]int{{0, 0}, {0, 256}, {5, 3}, {1, 9}, {-1, 257}} {
			if got, e := Flip(c, ends[0], ends[1]); got != (api.Cont{}) || e != api.ErrCont {
				t.Errorf("Flip of %s, %v: %x, %v", name, ends, got, e)
			}
		}
	}
}

func TestP6_1OpOfNoContainer(t *testing.T) {
	for name, c := range wrongs() {
		for op := 0; op <= 5; op++ {
			for _, other := range []api.Cont{{Form: api.FormArray}, {Form: api.FormRuns, Data: "\x00\xff"}, c} {
				if got, e := Op(op, c, other); got != (api.Cont{}) || e != api.ErrCont {
					t.Errorf("Op %d of %s and %x: %x, %v", op, name, other, got, e)
				}
				if got, e := Op(op, other, c); got != (api.Cont{}) || e != api.ErrCont {
					t.Errorf("Op %d of %x and %s: %x, %v", op, other, name, got, e)
				}
			}
		}
	}
}

func TestP6_2ValuesAndCount(t *testing.T) {
	for _, l := range sets() {
		f := flagged(l)
		want := valuesByWords(f)
		for _, form := range forms() {
			c := inForm(f, form)
			if got := Values(c); !slices.Equal(got, want) {
				t.Errorf("Values(%x): %v, not %v", c, got, want)
			}
			if got := Count(c); got != len(want) {
				t.Errorf("Count(%x): %d, not %d", c, got, len(want))
			}
		}
	}
}

func TestP6_2Has(t *testing.T) {
	for _, l := range sets() {
		f := flagged(l)
		for _, form := range forms() {
			c := inForm(f, form)
			for n, want := range f {
				if Has(c, n) != want {
					t.Errorf("Has(%x, %d): %t", c, n, !want)
				}
			}
			for _, n := range outside() {
				if Has(c, n) {
					t.Errorf("Has(%x, %d): true", c, n)
				}
			}
		}
	}
}

func TestP6_2Rank(t *testing.T) {
	for _, l := range sets() {
		f := flagged(l)
		all := len(valuesByWords(f))
		for _, form := range forms() {
			c := inForm(f, form)
			want := 0
			for n, there := range f {
				if there {
					want++
				}
				if got := Rank(c, n); got != want {
					t.Errorf("Rank(%x, %d): %d, not %d", c, n, got, want)
				}
			}
			for _, n := range outside() {
				want := 0
				if n > 255 {
					want = all
				}
				if got := Rank(c, n); got != want {
					t.Errorf("Rank(%x, %d): %d, not %d", c, n, got, want)
				}
			}
		}
	}
}

func TestP6_2Select(t *testing.T) {
	for _, l := range sets() {
		f := flagged(l)
		want := valuesByWords(f)
		for _, form := range forms() {
			c := inForm(f, form)
			for place, n := range want {
				if got, ok := Select(c, place); got != n || !ok {
					t.Errorf("Select(%x, %d): %d, %t, not %d", c, place, got, ok, n)
				}
			}
			for _, place := range []int{-1, -2, -256, len(want), len(want) + 1, 256, 257, 1 << 32, math.MaxInt, math.MinInt} {
				if got, ok := Select(c, place); got != 0 || ok {
					t.Errorf("Select(%x, %d): %d, %t, not none", c, place, got, ok)
				}
			}
		}
	}
}

func TestP6_2As(t *testing.T) {
	for _, l := range sets() {
		f := flagged(l)
		for _, from := range forms() {
			c := inForm(f, from)
			for _, to := range forms() {
				if got, e := As(c, to); got != inForm(f, to) || e != api.OK {
					t.Errorf("As(%x, %d): %x, %v, not %x", c, to, got, e, inForm(f, to))
				}
			}
			for _, to := range []int{0, -1, -2, -3, 4, 5, 257, 1<<32 + 1, math.MaxInt, math.MinInt} {
				if got, e := As(c, to); got != (api.Cont{}) || e != api.ErrCont {
					t.Errorf("As(%x, %d): %x, %v, not ErrCont", c, to, got, e)
				}
			}
		}
	}
}

func TestP6_3Op(t *testing.T) {
	all := sets()
	for at, l := range all {
		a := flagged(l)
		for by := range 24 {
			b := flagged(all[(at+5*by)%len(all)])
			for _, op := range ops() {
				want := bestByWords(opByWords(op, a, b))
				for _, formA := range forms() {
					for _, formB := range forms() {
						if got, e := Op(op, inForm(a, formA), inForm(b, formB)); got != want || e != api.OK {
							t.Fatalf("Op(%d, %x, %x): %x, %v, not %x", op, inForm(a, formA), inForm(b, formB), got, e, want)
						}
					}
				}
			}
		}
	}
}

func TestP6_3OpOfEdges(t *testing.T) {
	a, b := flagged(span(0, 100, 1)), flagged(span(50, 150, 1))
	none, all := flagged(nil), flagged(span(0, 256, 1))
	runs := func(data string) api.Cont { return api.Cont{Form: api.FormRuns, Data: data} }
	array := func(data string) api.Cont { return api.Cont{Form: api.FormArray, Data: data} }
	for _, x := range []struct {
		op   int
		a, b flags
		want api.Cont
	}{
		{api.OpAnd, a, b, runs("\x32\x31")},
		{api.OpOr, a, b, runs("\x00\x95")},
		{api.OpXor, a, b, runs("\x00\x31\x64\x31")},
		{api.OpAndNot, a, b, runs("\x00\x31")},
		{api.OpAndNot, b, a, runs("\x64\x31")},
		{api.OpAnd, none, none, array("")},
		{api.OpOr, none, none, array("")},
		{api.OpXor, all, all, array("")},
		{api.OpAndNot, all, all, array("")},
		{api.OpAnd, all, all, runs("\x00\xff")},
		{api.OpOr, all, none, runs("\x00\xff")},
		{api.OpXor, none, all, runs("\x00\xff")},
		{api.OpAndNot, all, none, runs("\x00\xff")},
		{api.OpAndNot, none, all, array("")},
		{api.OpAnd, all, flagged([]int{0}), array("\x00")},
		{api.OpAndNot, all, flagged(span(0, 255, 1)), array("\xff")},
		{api.OpXor, all, flagged(span(0, 256, 2)), api.Cont{Form: api.FormBits, Data: strings.Repeat("\xaa", 32)}},
		{api.OpOr, flagged(span(1, 256, 2)), flagged(span(0, 256, 2)), runs("\x00\xff")},
	} {
		for _, form := range forms() {
			if got, e := Op(x.op, inForm(x.a, form), inForm(x.b, form)); got != x.want || e != api.OK {
				t.Errorf("Op(%d, %x, %x): %x, %v, not %x", x.op, inForm(x.a, form), inForm(x.b, form), got, e, x.want)
			}
		}
	}
}

func TestP6_3OpOfNone(t *testing.T) {
	for _, op := range []int{0, -1, -4, 5, 6, 257, 1<<32 + 1, math.MaxInt, math.MinInt} {
		for _, l := range sets() {
			for _, form := range forms() {
				c := inForm(flagged(l), form)
				if got, e := Op(op, c, c); got != (api.Cont{}) || e != api.ErrCont {
					t.Errorf("Op(%d, %x, %x): %x, %v, not ErrCont", op, c, c, got, e)
				}
			}
		}
	}
}

func TestP6_3Flip(t *testing.T) {
	ends := []int{0, 1, 2, 7, 8, 9, 20, 21, 100, 128, 254, 255, 256}
	for _, l := range sets() {
		f := flagged(l)
		for _, form := range forms() {
			c := inForm(f, form)
			for _, from := range ends {
				for _, to := range ends {
					want := bestByWords(flippedByWords(f, from, to))
					if got, e := Flip(c, from, to); got != want || e != api.OK {
						t.Fatalf("Flip(%x, %d, %d): %x, %v, not %x", c, from, to, got, e, want)
					}
				}
			}
		}
	}
}

func TestP6_3FlipOfEachEnds(t *testing.T) {
	for from := range 257 {
		for to := range 257 {
			want := bestByWords(flagged(span(from, to, 1)))
			if got, e := Flip(api.Cont{Form: api.FormRuns}, from, to); got != want || e != api.OK {
				t.Fatalf("Flip of none, %d, %d: %x, %v, not %x", from, to, got, e, want)
			}
		}
	}
}

func TestP6_3FlipOfNoNumberIsInTheBestForm(t *testing.T) {
	for _, l := range sets() {
		f := flagged(l)
		for _, form := range forms() {
			for _, ends := range [][2]int{{0, 0}, {9, 9}, {256, 256}, {256, 0}, {9, 8}, {255, 254}} {
				if got, e := Flip(inForm(f, form), ends[0], ends[1]); got != bestByWords(f) || e != api.OK {
					t.Errorf("Flip(%x, %v): %x, %v, not %x", inForm(f, form), ends, got, e, bestByWords(f))
				}
			}
		}
	}
}

func TestP6_3FlipOfWrongEnds(t *testing.T) {
	wrong := slices.DeleteFunc(outside(), func(n int) bool { return n == 256 })
	for _, l := range sets() {
		c := bestByWords(flagged(l))
		for _, n := range wrong {
			for _, ends := range [][2]int{{n, 0}, {n, 100}, {n, 256}, {0, n}, {100, n}, {256, n}, {n, n}} {
				if got, e := Flip(c, ends[0], ends[1]); got != (api.Cont{}) || e != api.ErrCont {
					t.Errorf("Flip(%x, %v): %x, %v, not ErrCont", c, ends, got, e)
				}
			}
		}
	}
}

// op is what an operation comes to.
func op(t *testing.T, number int, a, b api.Cont) api.Cont {
	t.Helper()
	c, e := Op(number, a, b)
	if e != api.OK || !Right(c) {
		t.Fatalf("Op(%d, %x, %x): %x, %v", number, a, b, c, e)
	}
	return c
}

func TestP6_4NumbersAreThereJustIfPutIn(t *testing.T) {
	for _, l := range sets() {
		c, e := Make(l)
		for _, form := range forms() {
			d, wrong := As(c, form)
			if e != api.OK || wrong != api.OK || !Right(d) {
				t.Fatalf("Make(%v), As %d: %x, %v, %v", l, form, d, e, wrong)
			}
			for n := range 256 {
				there := slices.Contains(l, n)
				if Has(d, n) != there || slices.Contains(Values(d), n) != there || Rank(d, n)-Rank(d, n-1) == 1 != there {
					t.Errorf("%d of %x: %t, not %t", n, d, Has(d, n), there)
				}
				if got, ok := Select(d, Rank(d, n)-1); there && (got != n || !ok) {
					t.Errorf("Select of the rank of %d of %x: %d, %t", n, d, got, ok)
				}
			}
			if again, e := Make(Values(d)); again != c || e != api.OK {
				t.Errorf("Make(Values(%x)): %x, %v", d, again, e)
			}
		}
	}
}

func TestP6_4FlippedTwice(t *testing.T) {
	for _, l := range sets() {
		c, _ := Make(l)
		for _, form := range forms() {
			d, _ := As(c, form)
			for _, ends := range [][2]int{{0, 256}, {0, 1}, {255, 256}, {5, 21}, {9, 9}, {200, 100}} {
				once, _ := Flip(d, ends[0], ends[1])
				twice, e := Flip(once, ends[0], ends[1])
				if twice != c || e != api.OK {
					t.Errorf("Flip twice of %x, %v: %x, %v, not %x", d, ends, twice, e, c)
				}
			}
		}
	}
}

func TestP6_4OperationsTogether(t *testing.T) {
	all := sets()
	for at, l := range all {
		a, _ := Make(l)
		for _, m := range all[at:] {
			b, _ := Make(m)
			common, onlyA, onlyB := op(t, api.OpAnd, a, b), op(t, api.OpAndNot, a, b), op(t, api.OpAndNot, b, a)
			either, both := op(t, api.OpXor, a, b), op(t, api.OpOr, a, b)
			if op(t, api.OpOr, onlyA, onlyB) != either || op(t, api.OpOr, either, common) != both {
				t.Errorf("%x and %x: and %x, and not %x, %x, xor %x, or %x", a, b, common, onlyA, onlyB, either, both)
			}
			if Count(common)+Count(onlyA)+Count(onlyB) != Count(both) {
				t.Errorf("%x and %x: %d, %d, %d numbers, %d together", a, b, Count(common), Count(onlyA), Count(onlyB), Count(both))
			}
			notB, _ := Flip(b, 0, 256)
			if op(t, api.OpAnd, a, notB) != onlyA {
				t.Errorf("%x and what is not of %x: not %x", a, b, onlyA)
			}
		}
	}
}

func TestR3MakeLeavesItsList(t *testing.T) {
	room := []int{9, 1, 9, 300, -7, 5}
	before := slices.Clone(room)
	if c, e := Make(room[:3]); c != (api.Cont{Form: api.FormArray, Data: "\x01\x09"}) || e != api.OK {
		t.Errorf("Make: %x, %v", c, e)
	}
	if _, e := Make(room[:5]); e != api.ErrCont {
		t.Errorf("Make: %v", e)
	}
	if !slices.Equal(room, before) {
		t.Errorf("Make leaves %v, not %v", room, before)
	}
}

func TestR3MakeKeepsNothing(t *testing.T) {
	l := []int{1, 9}
	c, _ := Make(l)
	l[0], l[1] = 200, 201
	if got := Values(c); !slices.Equal(got, []int{1, 9}) {
		t.Errorf("Values: %v", got)
	}
}

func TestR3ValuesAreNew(t *testing.T) {
	for _, l := range sets() {
		for _, form := range forms() {
			c := inForm(flagged(l), form)
			want := valuesByWords(flagged(l))
			first, second := Values(c), Values(c)
			room := first[:cap(first)]
			for at := range room {
				room[at] = -1
			}
			if !slices.Equal(second, want) || !slices.Equal(Values(c), want) {
				t.Errorf("Values(%x): %v, not %v", c, second, want)
			}
		}
	}
}
