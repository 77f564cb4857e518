package dict

import (
	"bytes"
	"math/rand"
	"slices"
	"strconv"
	"strings"
	"testing"

	"tesserae/api"
	"tesserae/varint"
)

// behind are texts that may stand behind bytes: none, and such as look like a word that goes on, or like a dictionary.
func behind() []string {
	return []string{"", "x", "\x00", "\x01", "\x80", "\xff", "\x00\x01a", "\x01\x00\x01a", strings.Repeat("\xff", 40)}
}

// isAhead tells whether a stands ahead of b by their bytes, byte by byte.
func isAhead(a, b string) bool {
	for at := range len(a) {
		switch {
		case at == len(b) || a[at] > b[at]:
			return false
		case a[at] < b[at]:
			return true
		}
	}
	return len(a) < len(b)
}

// isPrefix tells whether word begins with prefix.
func isPrefix(word, prefix string) bool {
	return len(word) >= len(prefix) && word[:len(prefix)] == prefix
}

// rightByWords tells whether l is a dictionary: each two words of it are held against each other.
func rightByWords(l []string) bool {
	if len(l) > 1000 {
		return false
	}
	for at, word := range l {
		if len(word) > 100 {
			return false
		}
		for _, other := range l[:at] {
			if !isAhead(other, word) {
				return false
			}
		}
	}
	return true
}

// builtByWords are the different words of l, each put where as many stand ahead of it as are ahead of it.
func builtByWords(l []string) []string {
	different := map[string]int{}
	for _, word := range l {
		different[word] = 0
	}
	built := make([]string, len(different))
	for word := range different {
		for other := range different {
			if isAhead(other, word) {
				different[word]++
			}
		}
	}
	for word, place := range different {
		built[place] = word
	}
	return built
}

// count is how many words of l what holds of.
func count(l []string, holds func(word string) bool) int {
	n := 0
	for _, word := range l {
		if holds(word) {
			n++
		}
	}
	return n
}

// aheadOf is how many words of l stand ahead of word.
func aheadOf(l []string, word string) int {
	return count(l, func(other string) bool { return isAhead(other, word) })
}

// encodedByWords are the bytes of l as the words say it.
func encodedByWords(l []string) string {
	s := varint.Put(uint64(len(l)))
	for at, word := range l {
		same := 0
		for at > 0 && same < len(word) && isPrefix(l[at-1], word[:same+1]) {
			same++
		}
		s += varint.Put(uint64(same)) + varint.Put(uint64(len(word)-same)) + word[same:]
	}
	return s
}

// decodedByWords is what P5.3 says of s, byte by byte.
func decodedByWords(s string) ([]string, string, api.Errno) {
	count, rest, e := varint.Get(s)
	if e != api.OK {
		return nil, s, e
	}
	if count > 1000 {
		return nil, s, api.ErrDict
	}
	var l []string
	for at := range int(count) {
		ahead := ""
		if at > 0 {
			ahead = l[at-1]
		}
		var same, size uint64
		if same, rest, e = varint.Get(rest); e != api.OK {
			return nil, s, e
		}
		if same > uint64(len(ahead)) {
			return nil, s, api.ErrDict
		}
		if size, rest, e = varint.Get(rest); e != api.OK {
			return nil, s, e
		}
		if size > 100 || same+size > 100 {
			return nil, s, api.ErrDict
		}
		if uint64(len(rest)) < size {
			return nil, s, api.ErrMore
		}
		l = append(l, ahead[:same]+rest[:size])
		rest = rest[size:]
	}
	if !rightByWords(l) || encodedByWords(l)+rest != s {
		return nil, s, api.ErrDict
	}
	return l, rest, api.OK
}

// numbered are that many words, rising.
func numbered(size int) []string {
	l := make([]string, size)
	for at := range l {
		l[at] = "w" + strconv.Itoa(10000+at)
	}
	return l
}

// allBytes are the words of one byte.
func allBytes() []string {
	l := make([]string, 256)
	for at := range l {
		l[at] = string([]byte{byte(at)})
	}
	return l
}

// lastBytes are words that share all bytes but the last one of that many.
func lastBytes(size int) []string {
	l := make([]string, 256)
	for at := range l {
		l[at] = strings.Repeat("x", size-1) + string([]byte{byte(at)})
	}
	return l
}

// beginnings are the words of no, one and more bytes b, up to that many, each the beginning of the next one.
func beginnings(b string, size int) []string {
	var l []string
	for at := range size + 1 {
		l = append(l, strings.Repeat(b, at))
	}
	return l
}

// word is a word of few different bytes, so that words share some.
func word(r *rand.Rand, size int) string {
	b := make([]byte, size)
	for at := range b {
		b[at] = "\x00ab\x7f\x80\xff"[r.Intn(6)]
	}
	return string(b)
}

// some are that many words of at most that many bytes, in whatever order, some of them twice.
func some(r *rand.Rand, size, most int) []string {
	l := make([]string, size)
	for at := range l {
		l[at] = word(r, r.Intn(most+1))
	}
	return l
}

// dictionaries are ordinary ones and such as the edges ask for.
func dictionaries() [][]string {
	long := strings.Repeat("y", 100)
	l := [][]string{
		nil,
		{},
		{""},
		{"x"},
		{"", "x"},
		{"ab", "abc", "b"},
		{"", "ab", "abc", "ab\xff", "b"},
		{"a", "aa", "ab", "b", "ba"},
		{"\x00"},
		{"\xff"},
		{"", "\x00", "\x00\x00", "\x00\xff", "\xff", "\xff\x00", "\xff\xff"},
		{"\x7f", "\x80"},
		{long},
		{long[:99], long},
		{long[:99] + "x", long, long[:99] + "z"},
		{strings.Repeat("\x00", 100), strings.Repeat("\xff", 100)},
		{"a", "b", "c", "d"},
		{"k\u00e4se", "k\u0416", "z"},
		allBytes(),
		lastBytes(1),
		lastBytes(2),
		lastBytes(100),
		beginnings("x", 100),
		beginnings("\x00", 100),
		beginnings("\xff", 100),
		numbered(999),
		numbered(1000),
	}
	r := rand.New(rand.NewSource(1))
	for most := range 9 {
		for size := range 30 {
			l = append(l, builtByWords(some(r, size, most)))
		}
	}
	return append(l, builtByWords(some(r, 1000, 100)), builtByWords(some(r, 1000, 6)))
}

// none are lists that are no dictionaries, each with whether one can be built of its words.
func none() map[string]noDictionary {
	long, thousand := strings.Repeat("y", 100), numbered(1000)
	swapped := numbered(1000)
	swapped[998], swapped[999] = swapped[999], swapped[998]
	return map[string]noDictionary{
		"two that fall":                  {[]string{"b", "a"}, true},
		"three, the last two fall":       {[]string{"a", "c", "b"}, true},
		"three, the first two fall":      {[]string{"b", "a", "c"}, true},
		"a beginning behind":             {[]string{"abc", "ab"}, true},
		"the empty word behind":          {[]string{"a", ""}, true},
		"the empty word twice":           {[]string{"", ""}, true},
		"a word twice":                   {[]string{"a", "a"}, true},
		"a last word twice":              {[]string{"a", "b", "b"}, true},
		"a word twice, another between":  {[]string{"a", "b", "a"}, true},
		"255 ahead of 0":                 {[]string{"\xff", "\x00"}, true},
		"128 ahead of 127":               {[]string{"\x80", "\x7f"}, true},
		"the last two of a thousand":     {swapped, true},
		"a thousand, the last one twice": {append(slices.Clone(thousand), thousand[999]), true},
		"a word 1001 times":              {slices.Repeat([]string{"a"}, 1001), true},
		"1001":                           {numbered(1001), false},
		"2000":                           {numbered(2000), false},
		"1001, one of them empty":        {append([]string{""}, thousand...), false},
		"1001, the first one last":       {append(slices.Clone(thousand), "a"), false},
		"101 bytes":                      {[]string{long + "y"}, false},
		"101 bytes, the last one 0":      {[]string{long + "\x00"}, false},
		"101 bytes last":                 {[]string{"a", long + "y"}, false},
		"101 bytes first":                {[]string{long + "y", "z"}, false},
		"101 bytes between":              {[]string{"a", long + "y", "z"}, false},
		"101 bytes behind its beginning": {[]string{long, long + "y"}, false},
		"101 bytes, and they fall":       {[]string{"z", long + "y"}, false},
		"101 bytes twice":                {[]string{long + "y", long + "y"}, false},
		"a thousand bytes":               {[]string{strings.Repeat("y", 1000)}, false},
		"1001, one of them of 101 bytes": {append(slices.Clone(thousand), long+"y"), false},
	}
}

// noDictionary is a list that is none, and whether one can be built of its words.
type noDictionary struct {
	l      []string
	builds bool
}

// asked are words that a dictionary may be asked for: its own ones, what is next to them, and such as have nothing to do with it.
func asked(l []string) []string {
	words := []string{"", "\x00", "\xff", "a", "ab", "abc", "abd", "b", "c", "x", "w1", "w100", "w10500", "w10999", "w11000", "w2"}
	words = append(words, strings.Repeat("x", 99), strings.Repeat("y", 101), strings.Repeat("\xff", 101), strings.Repeat("z", 1000))
	for at := 0; at < len(l); at += 1 + len(l)/12 {
		words = append(words, l[at], l[at]+"\x00", l[at]+"\xff", l[at][:len(l[at])/2])
		if end := len(l[at]) - 1; end >= 0 {
			words = append(words, l[at][:end], l[at][:end]+string([]byte{l[at][end] - 1}), l[at][:end]+string([]byte{l[at][end] + 1}))
		}
	}
	if len(l) > 0 {
		words = append(words, l[len(l)-1], l[len(l)-1]+"\x00")
	}
	return words
}

func TestP5_1Right(t *testing.T) {
	for _, l := range dictionaries() {
		if !rightByWords(l) || !Right(l) {
			t.Errorf("%q: no dictionary", l)
		}
	}
	for name, x := range none() {
		if rightByWords(x.l) || Right(x.l) {
			t.Errorf("%s: a dictionary", name)
		}
	}
	r := rand.New(rand.NewSource(2))
	for range 20000 {
		l := some(r, r.Intn(4), 3)
		if got, want := Right(l), rightByWords(l); got != want {
			t.Fatalf("Right(%q): %v, not %v", l, got, want)
		}
	}
}

func TestP5_1WordsRiseByTheirBytes(t *testing.T) {
	r := rand.New(rand.NewSource(9))
	for range 10000 {
		a, b := word(r, r.Intn(4)), word(r, r.Intn(4))
		ahead := bytes.Compare([]byte(a), []byte(b)) < 0
		if isAhead(a, b) != ahead || Right([]string{a, b}) != ahead {
			t.Fatalf("%q and %q: %v", a, b, Right([]string{a, b}))
		}
	}
}

func TestP5_1EachTwoNeighboursThatFall(t *testing.T) {
	for at := range 999 {
		l := numbered(1000)
		l[at], l[at+1] = l[at+1], l[at]
		if Right(l) {
			t.Fatalf("the words %d and %d fall: a dictionary", at, at+1)
		}
		l[at+1] = l[at]
		if Right(l) {
			t.Fatalf("the words %d and %d are the same: a dictionary", at, at+1)
		}
	}
}

func TestP5_1Build(t *testing.T) {
	table := []struct{ l, want []string }{
		{nil, nil},
		{[]string{}, nil},
		{[]string{""}, []string{""}},
		{[]string{"", ""}, []string{""}},
		{[]string{"x"}, []string{"x"}},
		{[]string{"ab", "abc", "b"}, []string{"ab", "abc", "b"}},
		{[]string{"b", "abc", "ab"}, []string{"ab", "abc", "b"}},
		{[]string{"abc", "b", "ab", "b", "abc", "abc"}, []string{"ab", "abc", "b"}},
		{[]string{"b", "ab", "", "abc", "b", "ab\xff"}, []string{"", "ab", "abc", "ab\xff", "b"}},
		{[]string{"\xff", "\x80", "\x7f", "\x00", ""}, []string{"", "\x00", "\x7f", "\x80", "\xff"}},
		{[]string{"b", "B", "a", "A"}, []string{"A", "B", "a", "b"}},
		{slices.Repeat([]string{"b", "a"}, 5000), []string{"a", "b"}},
		{slices.Repeat(numbered(1000), 3), numbered(1000)},
	}
	for _, x := range table {
		if got, e := Build(x.l); !slices.Equal(got, x.want) || e != api.OK {
			t.Errorf("Build(%q): %q, %v, not %q", x.l, got, e, x.want)
		}
	}
	r := rand.New(rand.NewSource(3))
	for range 3000 {
		l := some(r, r.Intn(20), r.Intn(6))
		if got, e := Build(l); !slices.Equal(got, builtByWords(l)) || e != api.OK {
			t.Fatalf("Build(%q): %q, %v, not %q", l, got, e, builtByWords(l))
		}
	}
}

func TestP5_1BuildInWhateverOrder(t *testing.T) {
	r := rand.New(rand.NewSource(4))
	for _, l := range dictionaries() {
		mixed := append(slices.Clone(l), l[:len(l)/2]...)
		r.Shuffle(len(mixed), func(a, b int) { mixed[a], mixed[b] = mixed[b], mixed[a] })
		if got, e := Build(mixed); !slices.Equal(got, l) || e != api.OK {
			t.Errorf("Build(%q): %q, %v, not %q", mixed, got, e, l)
		}
	}
}

func TestP5_1BuildOfNoDictionary(t *testing.T) {
	for name, x := range none() {
		got, e := Build(x.l)
		switch {
		case x.builds && (!slices.Equal(got, builtByWords(x.l)) || e != api.OK):
			t.Errorf("%s: %d words, %v", name, len(got), e)
		case !x.builds && (len(got) != 0 || e != api.ErrDict):
			t.Errorf("%s: %d words, %v, not none", name, len(got), e)
		}
	}
}

func TestP5_1OfNoDictionary(t *testing.T) {
	for name, x := range none() {
		for _, word := range append(asked(x.l), x.l[0]) {
			if n, ok := Find(x.l, word); n != 0 || ok {
				t.Errorf("%s: Find(%q): %d, %v", name, word, n, ok)
			}
			if a, b := Prefix(x.l, word); a != 0 || b != 0 {
				t.Errorf("%s: Prefix(%q): %d, %d", name, word, a, b)
			}
			for _, to := range []string{"", "m", "\xff\xff", word} {
				if a, b := Between(x.l, word, to); a != 0 || b != 0 {
					t.Errorf("%s: Between(%q, %q): %d, %d", name, word, to, a, b)
				}
			}
		}
		if s, e := Encode(x.l); s != "" || e != api.ErrDict {
			t.Errorf("%s: Encode: %d bytes, %v", name, len(s), e)
		}
	}
}

func TestP5_2Find(t *testing.T) {
	l := []string{"ab", "abc", "b"}
	table := []struct {
		word string
		want int
		ok   bool
	}{
		{"ab", 0, true}, {"abc", 1, true}, {"b", 2, true},
		{"", 0, false}, {"\x00", 0, false}, {"a", 0, false}, {"aa", 0, false}, {"aaa", 0, false}, {"aa\xff", 0, false}, {"AB", 0, false},
		{"ab\x00", 1, false}, {"abb", 1, false}, {"abbz", 1, false}, {"abc\x00", 2, false}, {"abcd", 2, false}, {"abd", 2, false}, {"az", 2, false},
		{"b\x00", 3, false}, {"c", 3, false}, {"\xff", 3, false}, {strings.Repeat("a", 101), 0, false}, {strings.Repeat("z", 101), 3, false},
	}
	for _, x := range table {
		if n, ok := Find(l, x.word); n != x.want || ok != x.ok {
			t.Errorf("Find(%q): %d, %v, not %d, %v", x.word, n, ok, x.want, x.ok)
		}
	}
	for _, l := range dictionaries() {
		for _, word := range asked(l) {
			if n, ok := Find(l, word); n != aheadOf(l, word) || ok != slices.Contains(l, word) {
				t.Errorf("%q: Find(%q): %d, %v", l, word, n, ok)
			}
		}
	}
}

func TestP5_2FindNone(t *testing.T) {
	for _, word := range []string{"", "x", "\xff"} {
		for _, l := range [][]string{nil, {}} {
			if n, ok := Find(l, word); n != 0 || ok {
				t.Errorf("no words: Find(%q): %d, %v", word, n, ok)
			}
		}
		if n, ok := Find([]string{""}, word); n != min(len(word), 1) || ok != (word == "") {
			t.Errorf("the empty word alone: Find(%q): %d, %v", word, n, ok)
		}
	}
}

func TestP5_2Prefix(t *testing.T) {
	l := []string{"", "ab", "abc", "ab\xff", "b", "b\xff", "b\xff\xff", "c"}
	table := []struct {
		prefix string
		a, b   int
	}{
		{"", 0, 8}, {"a", 1, 4}, {"ab", 1, 4}, {"abc", 2, 3}, {"ab\xff", 3, 4}, {"b", 4, 7}, {"b\xff", 5, 7}, {"b\xff\xff", 6, 7}, {"c", 7, 8},
		{"\x00", 1, 1}, {"aa", 1, 1}, {"abb", 2, 2}, {"abcd", 3, 3}, {"abd", 3, 3}, {"ab\xff\x00", 4, 4}, {"az", 4, 4}, {"b\xfe", 5, 5}, {"bb", 5, 5},
		{"b\xff\xff\xff", 7, 7}, {"ca", 8, 8}, {"d", 8, 8}, {"\xff", 8, 8}, {strings.Repeat("a", 101), 1, 1}, {strings.Repeat("z", 101), 8, 8},
	}
	for _, x := range table {
		if a, b := Prefix(l, x.prefix); a != x.a || b != x.b {
			t.Errorf("Prefix(%q): %d, %d, not %d, %d", x.prefix, a, b, x.a, x.b)
		}
	}
	for _, l := range dictionaries() {
		for _, prefix := range asked(l) {
			first := aheadOf(l, prefix)
			size := count(l, func(word string) bool { return isPrefix(word, prefix) })
			if a, b := Prefix(l, prefix); a != first || b != first+size {
				t.Errorf("%q: Prefix(%q): %d, %d, not %d, %d", l, prefix, a, b, first, first+size)
			}
		}
	}
}

func TestP5_2Between(t *testing.T) {
	l := []string{"", "ab", "abc", "ab\xff", "b"}
	table := []struct {
		from, to string
		a, b     int
	}{
		{"", "", 0, 1}, {"", "b", 0, 5}, {"", "\xff", 0, 5}, {"ab", "ab", 1, 2}, {"ab", "abc", 1, 3}, {"ab", "b", 1, 5}, {"b", "b", 4, 5},
		{"a", "abz", 1, 3}, {"a", "b", 1, 5}, {"\x00", "\xff", 1, 5}, {"abb", "az", 2, 4}, {"ab\x00", "ab\xfe", 2, 3}, {"", "a", 0, 1}, {"b", "z", 4, 5},
		// Of no word: between two, ahead of all but the empty one, behind all.
		{"abd", "abz", 3, 3}, {"a", "a", 1, 1}, {"\x00", "aa", 1, 1}, {"c", "d", 5, 5}, {"c", "c", 5, 5}, {"abca", "abcz", 3, 3},
		// From behind to: how many stand ahead of from, twice.
		{"b", "a", 4, 4}, {"b", "ab", 4, 4}, {"abc", "ab", 2, 2}, {"ab", "", 1, 1}, {"z", "", 5, 5}, {"az", "abb", 4, 4}, {"\xff", "a", 5, 5},
	}
	for _, x := range table {
		if a, b := Between(l, x.from, x.to); a != x.a || b != x.b {
			t.Errorf("Between(%q, %q): %d, %d, not %d, %d", x.from, x.to, a, b, x.a, x.b)
		}
	}
}

func TestP5_2BetweenEachTwo(t *testing.T) {
	for _, l := range dictionaries() {
		words := asked(l)
		for _, from := range words {
			first := aheadOf(l, from)
			for at := 0; at < len(words); at += 1 + len(words)/15 {
				to := words[at]
				size := count(l, func(word string) bool { return !isAhead(word, from) && !isAhead(to, word) })
				if a, b := Between(l, from, to); a != first || b != first+size {
					t.Fatalf("%q: Between(%q, %q): %d, %d, not %d, %d", l, from, to, a, b, first, first+size)
				}
			}
		}
	}
}

func TestP5_3Encode(t *testing.T) {
	long := strings.Repeat("y", 100)
	table := []struct {
		l    []string
		want string
	}{
		{nil, "\x00"},
		{[]string{}, "\x00"},
		{[]string{""}, "\x01\x00\x00"},
		{[]string{"x"}, "\x01\x00\x01x"},
		{[]string{"", "x"}, "\x02\x00\x00\x00\x01x"},
		{[]string{"ab", "abc", "b"}, "\x03\x00\x02ab\x02\x01c\x00\x01b"},
		{[]string{"", "ab", "abc", "ab\xff", "b"}, "\x05\x00\x00\x00\x02ab\x02\x01c\x02\x01\xff\x00\x01b"},
		{[]string{"abc", "abd", "b"}, "\x03\x00\x03abc\x02\x01d\x00\x01b"},
		{[]string{"\x00", "\x00\x00", "\xff"}, "\x03\x00\x01\x00\x01\x01\x00\x00\x01\xff"},
		{[]string{"ab", "b", "ba"}, "\x03\x00\x02ab\x00\x01b\x01\x01a"},
		{[]string{long}, "\x01\x00\x64" + long},
		{[]string{long[:99], long}, "\x02\x00\x63" + long[:99] + "\x63\x01y"},
		{[]string{long[:99] + "x", long}, "\x02\x00\x64" + long[:99] + "x\x63\x01y"},
		{[]string{"axc", "bxc"}, "\x02\x00\x03axc\x00\x03bxc"},
	}
	for _, x := range table {
		if got, e := Encode(x.l); got != x.want || e != api.OK {
			t.Errorf("Encode(%q): %x, %v, not %x", x.l, got, e, x.want)
		}
	}
	for _, l := range dictionaries() {
		if got, e := Encode(l); got != encodedByWords(l) || e != api.OK {
			t.Errorf("Encode(%q): %x, %v, not %x", l, got, e, encodedByWords(l))
		}
	}
	if s, _ := Encode(numbered(1000)); s[:13] != "\xe8\x07\x00\x06w10000\x05\x011" {
		t.Errorf("1000 words: %x", s[:13])
	}
}

func TestP5_3Decode(t *testing.T) {
	for _, l := range dictionaries() {
		for _, rest := range behind() {
			got, left, e := Decode(encodedByWords(l) + rest)
			if !slices.Equal(got, l) || left != rest || e != api.OK {
				t.Fatalf("%q and %x: %q, %x, %v", l, rest, got, left, e)
			}
		}
	}
}

// wrong is what begins with no dictionary's bytes, and the error of it: where several apply, the one that is named first.
type wrong struct {
	s    string
	want api.Errno
}

// wrongHeads are wrong from how many words there are on.
func wrongHeads() []wrong {
	nine := strings.Repeat("\xff", 9)
	return []wrong{
		// A count that is no varint, whatever stands behind it.
		{"", api.ErrMore},
		{"\x80", api.ErrMore},
		{"\xe9\x80", api.ErrMore},
		{nine, api.ErrMore},
		{"\x80\x00", api.ErrVarint},
		{"\x81\x00\x00\x01a", api.ErrVarint},
		{"\xe9\x87\x00", api.ErrVarint},
		{nine + "\x02", api.ErrVarint},
		{nine + "\xff\x11", api.ErrVarint},
		// A count above 1000: ahead of bytes that are missing, or wrong.
		{"\xe9\x07", api.ErrDict},
		{"\xe9\x07\x00\x00", api.ErrDict},
		{"\xe9\x07\x80\x00", api.ErrDict},
		{encodedByWords(numbered(1001)), api.ErrDict},
		{"\x80\x08", api.ErrDict},
		{"\x81\x80\x80\x80\x10\x00\x00", api.ErrDict},
		{"\x80\x80\x80\x80\x80\x80\x80\x80\x80\x01", api.ErrDict},
		{nine + "\x01", api.ErrDict},
		// Bytes that are missing.
		{"\x01", api.ErrMore},
		{"\xe8\x07", api.ErrMore},
		{"\x01\x00", api.ErrMore},
		{"\x01\x00\x80", api.ErrMore},
		{"\x01\x00\x01", api.ErrMore},
		{"\x01\x00\x64", api.ErrMore},
		{"\x01\x00\x02a", api.ErrMore},
		{"\x01\x00\x64" + strings.Repeat("y", 99), api.ErrMore},
		{"\x02\x00\x01a", api.ErrMore},
		{"\x02\x00\x01a\x80", api.ErrMore},
		{"\x02\x00\x01a\x01", api.ErrMore},
		{"\x02\x00\x01a\x01\x80", api.ErrMore},
		{"\x02\x00\x01a\x01\x01", api.ErrMore},
		{"\x02\x00\x01a\x01\x63" + strings.Repeat("y", 98), api.ErrMore},
	}
}

// wrongWords are wrong in a word.
func wrongWords() []wrong {
	long, ten := strings.Repeat("y", 100), strings.Repeat("\x80", 9)+"\x01"
	return []wrong{
		// How many bytes are shared, or left, is no varint.
		{"\x01\x80\x00", api.ErrVarint},
		{"\x01\x81\x00\x01a", api.ErrVarint},
		{"\x01\x00\x81\x00a", api.ErrVarint},
		{"\x01\x00\xe5\x00", api.ErrVarint},
		{"\x01\x00" + strings.Repeat("\xff", 10), api.ErrVarint},
		{"\x02\x00\x01a\x81\x00\x01b", api.ErrVarint},
		{"\x02\x00\x01a\x01\x81\x00b", api.ErrVarint},
		// A first word that shares bytes: ahead of how many are left, whatever stands there.
		{"\x01\x01", api.ErrDict},
		{"\x01\x01\x00", api.ErrDict},
		{"\x01\x01\x80\x00", api.ErrDict},
		{"\x01\x01\x01a", api.ErrDict},
		{"\x01\x65\x00", api.ErrDict},
		{"\x01\x80\x02", api.ErrDict},
		{"\x01" + ten, api.ErrDict},
		{"\x02\x01\x01a\x00\x01b", api.ErrDict},
		// More bytes shared than the word ahead has, likewise.
		{"\x02\x00\x01a\x02", api.ErrDict},
		{"\x02\x00\x01a\x02\x80\x00", api.ErrDict},
		{"\x02\x00\x01a\x02\x01b", api.ErrDict},
		{"\x02\x00\x01a" + ten, api.ErrDict},
		{"\x02\x00\x00\x01", api.ErrDict},
		{"\x03\x00\x02ab\x02\x01c\x04\x00", api.ErrDict},
		{"\x03\x00\x02ab\x00\x01b\x02\x01b", api.ErrDict},
		{"\x02\x00\x64" + long + "\x65", api.ErrDict},
		// A word of more than 100 bytes: ahead of bytes that are missing.
		{"\x01\x00\x65", api.ErrDict},
		{"\x01\x00\x65" + long + "y", api.ErrDict},
		{"\x01\x00\x80\x01", api.ErrDict},
		{"\x01\x00" + ten, api.ErrDict},
		{"\x01\x00" + strings.Repeat("\xff", 9) + "\x01", api.ErrDict},
		{"\x02\x00\x01a\x00\x65", api.ErrDict},
		{"\x02\x00\x01a\x01\x64", api.ErrDict},
		{"\x02\x00\x01a\x01\x64" + long, api.ErrDict},
		{"\x02\x00\x01a\x01" + strings.Repeat("\xff", 9) + "\x01", api.ErrDict},
		{"\x02\x00\x64" + long + "\x64\x01", api.ErrDict},
		{"\x02\x00\x64" + long + "\x64\x01\x00", api.ErrDict},
		{"\x02\x00\x64" + long + "\x01\x64", api.ErrDict},
	}
}

// wrongWholes are wrong in what all words are together, and such as look so where another error is told first.
func wrongWholes() []wrong {
	return []wrong{
		// Words out of order, or the same ones twice.
		{"\x02\x00\x01a\x00\x01a", api.ErrDict},
		{"\x02\x00\x01a\x01\x00", api.ErrDict},
		{"\x02\x00\x00\x00\x00", api.ErrDict},
		{"\x02\x00\x01b\x00\x01a", api.ErrDict},
		{"\x02\x00\x01a\x00\x00", api.ErrDict},
		{"\x02\x00\x03abc\x02\x00", api.ErrDict},
		{"\x02\x00\x02ab\x01\x01a", api.ErrDict},
		{"\x02\x00\x01\xff\x00\x01\x00", api.ErrDict},
		{"\x02\x00\x01\x80\x00\x01\x7f", api.ErrDict},
		{"\x03\x00\x01a\x00\x01c\x00\x01b", api.ErrDict},
		{"\x03\x00\x01b\x00\x01a\x00\x01c", api.ErrDict},
		// Fewer bytes shared than can be.
		{"\x02\x00\x01a\x00\x02ab", api.ErrDict},
		{"\x02\x00\x02ab\x01\x02bc", api.ErrDict},
		{"\x02\x00\x02ab\x00\x03abc", api.ErrDict},
		{"\x02\x00\x02ab\x00\x02ac", api.ErrDict},
		{"\x03\x00\x02ab\x02\x01c\x02\x02cd", api.ErrDict},
		{"\x03\x00\x02ab\x01\x02bc\x00\x01b", api.ErrDict},
		// That is asked last: what is wrong further behind is told first.
		{"\x03\x00\x01b\x00\x01a", api.ErrMore},
		{"\x03\x00\x01b\x00\x01a\x00\x02c", api.ErrMore},
		{"\x03\x00\x01b\x00\x01a\x80\x00", api.ErrVarint},
		{"\x03\x00\x01b\x00\x01a\x00\x80\x00", api.ErrVarint},
		{"\x03\x00\x01a\x00\x02ab", api.ErrMore},
		{"\x03\x00\x01a\x00\x02ab\x80\x00", api.ErrVarint},
		{"\x03\x00\x01a\x00\x01a\x81\x80", api.ErrMore},
		{"\x02\x00\x01b\x00\x02a", api.ErrMore},
	}
}

func TestP5_3OfNone(t *testing.T) {
	for _, x := range slices.Concat(wrongHeads(), wrongWords(), wrongWholes()) {
		rests := behind()
		if x.want == api.ErrMore {
			rests = rests[:1]
		}
		for _, rest := range rests {
			s := x.s + rest
			if l, left, e := Decode(s); len(l) != 0 || left != s || e != x.want {
				t.Errorf("Decode(%x): %q, %d bytes, %v, not %v", s, l, len(left), e, x.want)
			}
		}
	}
}

func TestP5_3BytesMissingAtEachPlace(t *testing.T) {
	for _, l := range dictionaries() {
		s := encodedByWords(l)
		for size := 0; size < len(s); size += 1 + size/200 {
			if got, rest, e := Decode(s[:size]); len(got) != 0 || rest != s[:size] || e != api.ErrMore {
				t.Fatalf("%q, %d of %d bytes: %q, %x, %v", l, size, len(s), got, rest, e)
			}
		}
		if _, _, e := Decode(s[:len(s)-1]); e != api.ErrMore {
			t.Fatalf("%q, all bytes but the last one: %v", l, e)
		}
	}
}

// sameAsByWords holds what s begins with to P5.3, and tells how many words it has.
func sameAsByWords(t *testing.T, s string) int {
	t.Helper()
	l, rest, e := Decode(s)
	wantL, wantRest, want := decodedByWords(s)
	if !slices.Equal(l, wantL) || rest != wantRest || e != want {
		t.Fatalf("Decode(%x): %q, %x, %v, not %q, %x, %v", s, l, rest, e, wantL, wantRest, want)
	}
	return len(l)
}

func TestP5_3AllShortBytes(t *testing.T) {
	const letters = "\x00\x01\x02\x03\x64\x65\x80\xff"
	told := [4]int{}
	for n := range 1 << 21 {
		b := []byte{letters[n&7], letters[n>>3&7], letters[n>>6&7], letters[n>>9&7], letters[n>>12&7], letters[n>>15&7], letters[n>>18&7]}
		told[sameAsByWords(t, string(b))]++
	}
	if slices.Min(told[:3]) < 100 {
		t.Errorf("%d dictionaries of none, one, two and three words alone", told)
	}
}

func TestP5_3EachByteAnotherOne(t *testing.T) {
	r := rand.New(rand.NewSource(5))
	for _, l := range dictionaries() {
		s, places := encodedByWords(l), 60
		if len(l) > 300 {
			places = 9
		}
		for at := 0; at < len(s); at += 1 + len(s)/places {
			for _, b := range []byte{0, 1, 2, 127, 128, 255, s[at] + 1, s[at] - 1, s[at] ^ 1<<r.Intn(8)} {
				sameAsByWords(t, s[:at]+string([]byte{b})+s[at+1:])
			}
			sameAsByWords(t, s[:at]+s[at+1:])
			sameAsByWords(t, s[:at]+string([]byte{byte(r.Intn(256))})+s[at:])
		}
	}
}

// looseBytes are bytes of that many words that may be wrong: they share any number of bytes of the word ahead, or more.
func looseBytes(r *rand.Rand, count int) string {
	s, size := varint.Put(uint64(count)), 0
	for range count {
		same, tail := r.Intn(size+1), word(r, r.Intn(4))
		if r.Intn(30) == 0 {
			same += r.Intn(3)
		}
		s += varint.Put(uint64(same)) + varint.Put(uint64(len(tail))) + tail
		size = same + len(tail)
	}
	return s[:len(s)-r.Intn(60)/59]
}

func TestP5_3LooseBytes(t *testing.T) {
	r := rand.New(rand.NewSource(6))
	told := [5]int{}
	for range 60000 {
		told[sameAsByWords(t, looseBytes(r, r.Intn(5)))]++
	}
	if slices.Min(told[:]) < 50 || told[0] > 55000 {
		t.Errorf("%d dictionaries of none to four words alone", told)
	}
}

func TestP5_4WhatIsEncodedIsDecoded(t *testing.T) {
	told := map[string][]string{}
	for _, l := range dictionaries() {
		s, e := Encode(l)
		if e != api.OK {
			t.Fatalf("%q: %v", l, e)
		}
		if other, ok := told[s]; ok && !slices.Equal(other, l) {
			t.Errorf("%q and %q have the same bytes", l, other)
		}
		told[s] = l
		for _, rest := range behind() {
			if got, left, e := Decode(s + rest); !slices.Equal(got, l) || left != rest || e != api.OK {
				t.Fatalf("%q and %x: %q, %x, %v", l, rest, got, left, e)
			}
		}
	}
}

func TestP5_4DictionariesBehindOneAnother(t *testing.T) {
	all := ""
	for _, l := range dictionaries() {
		s, _ := Encode(l)
		all += s
	}
	for _, l := range dictionaries() {
		got, rest, e := Decode(all)
		if !slices.Equal(got, l) || e != api.OK {
			t.Fatalf("%q: %q, %v", l, got, e)
		}
		all = rest
	}
	if all != "" {
		t.Errorf("%x is left", all)
	}
}

func TestP5_4BytesOneToOne(t *testing.T) {
	r := rand.New(rand.NewSource(7))
	for range 60000 {
		s := looseBytes(r, r.Intn(4)) + behind()[r.Intn(9)]
		l, rest, e := Decode(s)
		if e != api.OK {
			continue
		}
		if again, e := Encode(l); again+rest != s || e != api.OK || !Right(l) {
			t.Fatalf("%x: %q, %x, %v", s, l, again, e)
		}
	}
}

func TestP5_4FoundJustIfBuiltIn(t *testing.T) {
	r := rand.New(rand.NewSource(8))
	for range 3000 {
		words := some(r, r.Intn(30), 3)
		l, _ := Build(words)
		for at, word := range l {
			if n, ok := Find(l, word); n != at || !ok {
				t.Fatalf("%q: %q: %d, %v", l, word, n, ok)
			}
		}
		for _, word := range some(r, 30, 3) {
			if _, ok := Find(l, word); ok != slices.Contains(words, word) {
				t.Fatalf("%q: %q: %v", words, word, ok)
			}
		}
	}
}

func TestR3(t *testing.T) {
	room := []string{"b", "a", "b", "y", "z"}
	l, e := Build(room[:3])
	if !slices.Equal(l, []string{"a", "b"}) || e != api.OK {
		t.Errorf("%q, %v", l, e)
	}
	_ = append(l, "1", "2", "3", "4")
	l[0] = "0"
	if !slices.Equal(room, []string{"b", "a", "b", "y", "z"}) {
		t.Errorf("what was handed in was written into: %q", room)
	}
	risen := []string{"a", "b", "z"}
	l, _ = Build(risen[:2])
	_ = append(l, "1")
	l[0] = "0"
	if !slices.Equal(risen, []string{"a", "b", "z"}) {
		t.Errorf("the answer and what was handed in share memory: %q", risen)
	}
	a, _, _ := Decode("\x02\x00\x01a\x00\x01b")
	b, _, _ := Decode("\x02\x00\x01a\x00\x01b")
	_ = append(a[:0], "1", "2", "3")
	if !slices.Equal(b, []string{"a", "b"}) {
		t.Errorf("two answers share memory: %q", b)
	}
}
