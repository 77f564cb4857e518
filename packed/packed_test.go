package packed

import (
	"math"
	"math/big"
	"math/rand"
	"slices"
	"strconv"
	"strings"
	"testing"

	"tesserae/api"
	"tesserae/varint"
)

// behind are texts that may stand behind bytes: none, and such as look like digits that go on, or like a list.
func behind() []string {
	return []string{"", "x", "\x00", "\x01", "\x80", "\xff", "\x00\x00", "\x03\x03\xa1\x80", strings.Repeat("\xff", 40)}
}

// digitsByWords are the binary digits of n, written out; of 0 none.
func digitsByWords(n int) string {
	if n == 0 {
		return ""
	}
	return strconv.FormatInt(int64(n), 2)
}

// widthByWords is the width of l as the words say it.
func widthByWords(l []int) int {
	width := 0
	for _, n := range l {
		width = max(width, len(digitsByWords(n)))
	}
	return width
}

// eights are digits that are written out, eight by eight, each eight a byte, the last one's missing ones 0.
func eights(digits string) string {
	for len(digits)%8 != 0 {
		digits += "0"
	}
	var b []byte
	for ; digits != ""; digits = digits[8:] {
		n, _ := strconv.ParseUint(digits[:8], 2, 8)
		b = append(b, byte(n))
	}
	return string(b)
}

// bytesByWords are the bytes of l, of that width, as the words say it.
func bytesByWords(l []int, width int) string {
	digits := ""
	for _, n := range l {
		s := digitsByWords(n)
		digits += strings.Repeat("0", width-len(s)) + s
	}
	return varint.Put(uint64(len(l))) + string([]byte{byte(width)}) + eights(digits)
}

// packedByWords are the bytes of l as the words say it.
func packedByWords(l []int) string {
	return bytesByWords(l, widthByWords(l))
}

// powers are each power of 2 up to 65536, and the number ahead of it, where a list may have them.
func powers() []int {
	var l []int
	for at := range 17 {
		n := 1 << at
		l = append(l, n-1)
		if n <= api.MaxValue {
			l = append(l, n)
		}
	}
	return l
}

// some is a list of that many numbers, of at most that width.
func some(r *rand.Rand, size, width int) []int {
	l := make([]int, size)
	for at := range l {
		l[at] = r.Intn(1 << width)
	}
	return l
}

// lists are ordinary lists and such as the edges ask for: of each width, of each count of digits behind the last whole byte.
func lists() [][]int {
	r := rand.New(rand.NewSource(1))
	l := [][]int{
		nil,
		{},
		{0},
		{0, 0},
		{5, 0, 3},
		{3, 0, 5},
		{0, 0, 1},
		{1, 0, 0},
		{0, 65535, 0},
		{65535, 65535},
		{255, 1},
		{256, 1},
		powers(),
		make([]int, 999),
		make([]int, api.MaxList),
		slices.Repeat([]int{65535}, api.MaxList),
		slices.Repeat([]int{1, 0}, api.MaxList/2),
		append(make([]int, api.MaxList-1), 1),
		some(r, api.MaxList, 7),
		some(r, api.MaxList, 15),
	}
	for _, n := range powers() {
		l = append(l, []int{n}, []int{0, n}, []int{n, 0, n})
	}
	for width := range api.MaxWidth + 1 {
		for size := range 20 {
			l = append(l, some(r, size, width))
		}
	}
	return l
}

func TestP4_1Width(t *testing.T) {
	table := []struct {
		l    []int
		want int
	}{
		{nil, 0},
		{[]int{}, 0},
		{[]int{0}, 0},
		{make([]int, 1000), 0},
		{[]int{1}, 1},
		{[]int{0, 1, 0}, 1},
		{[]int{2}, 2},
		{[]int{5, 0, 3}, 3},
		{[]int{7}, 3},
		{[]int{8}, 4},
		{[]int{128, 127}, 8},
		{[]int{255}, 8},
		{[]int{256}, 9},
		{[]int{32767, 0}, 15},
		{[]int{0, 32768}, 16},
		{[]int{65535}, 16},
		{[]int{85, 170}, 8},
	}
	for _, x := range table {
		if got, e := Width(x.l); got != x.want || e != api.OK {
			t.Errorf("Width(%v): %d, %v, not %d", x.l, got, e, x.want)
		}
	}
	for at := range 16 {
		if got, e := Width([]int{1 << at}); got != at+1 || e != api.OK {
			t.Errorf("Width of 2^%d: %d, %v", at, got, e)
		}
	}
	for at := range 17 {
		if got, e := Width([]int{1<<at - 1}); got != at || e != api.OK {
			t.Errorf("Width of 2^%d-1: %d, %v", at, got, e)
		}
	}
	for _, l := range lists() {
		if got, e := Width(l); got != widthByWords(l) || e != api.OK {
			t.Errorf("Width(%v): %d, %v, not %d", l, got, e, widthByWords(l))
		}
	}
}

func TestP4_1Pack(t *testing.T) {
	table := []struct {
		l    []int
		want string
	}{
		{nil, "\x00\x00"},
		{[]int{}, "\x00\x00"},
		{[]int{0}, "\x01\x00"},
		{make([]int, 200), "\xc8\x01\x00"},
		{make([]int, 1000), "\xe8\x07\x00"},
		{[]int{1}, "\x01\x01\x80"},
		{[]int{5, 0, 3}, "\x03\x03\xa1\x80"},
		{[]int{1, 0, 1, 0, 1, 0, 1, 0}, "\x08\x01\xaa"},
		{[]int{1, 0, 1, 0, 1, 0, 1, 0, 1}, "\x09\x01\xaa\x80"},
		{[]int{15, 1}, "\x02\x04\xf1"},
		{[]int{15, 1, 2}, "\x03\x04\xf1\x20"},
		{[]int{255, 1}, "\x02\x08\xff\x01"},
		{[]int{256}, "\x01\x09\x80\x00"},
		{[]int{32767}, "\x01\x0f\xff\xfe"},
		{[]int{32767, 1}, "\x02\x0f\xff\xfe\x00\x04"},
		{[]int{32768}, "\x01\x10\x80\x00"},
		{[]int{65535, 0}, "\x02\x10\xff\xff\x00\x00"},
	}
	for _, x := range table {
		if got, e := Pack(x.l); got != x.want || e != api.OK {
			t.Errorf("Pack(%v): %x, %v, not %x", x.l, got, e, x.want)
		}
	}
	for _, l := range lists() {
		if got, e := Pack(l); got != packedByWords(l) || e != api.OK {
			t.Errorf("Pack(%v): %x, %v, not %x", l, got, e, packedByWords(l))
		}
	}
}

func TestP4_1OfNoList(t *testing.T) {
	for at, l := range [][]int{
		{-1},
		{65536},
		{65537},
		{1 << 17},
		{1 << 32},
		{1<<32 + 5},
		{math.MaxInt},
		{math.MinInt},
		{-65535},
		{-65536},
		{5, 0, -3},
		{-5, 0, 3},
		{5, 65536, 3},
		append(make([]int, 999), -1),
		append(make([]int, 999), 65536),
		make([]int, 1001),
		append(make([]int, 1000), -1),
		append(make([]int, 1000), 65536),
		make([]int, 1002),
		make([]int, 2000),
		make([]int, 1<<16),
	} {
		if width, e := Width(l); width != 0 || e != api.ErrPacked {
			t.Errorf("list %d: Width %d, %v", at, width, e)
		}
		if s, e := Pack(l); s != "" || e != api.ErrPacked {
			t.Errorf("list %d: Pack %d bytes, %v", at, len(s), e)
		}
	}
}

func TestP4_1Size(t *testing.T) {
	table := []struct{ n, width, want int }{
		{0, 0, 0}, {0, 16, 0}, {0, 1, 0}, {5, 0, 0}, {1000, 0, 0}, {math.MaxInt, 0, 0}, {0, math.MaxInt, 0},
		{1, 1, 1}, {3, 3, 2}, {8, 1, 1}, {7, 1, 1}, {9, 1, 2}, {1, 8, 1}, {1, 9, 2}, {2, 4, 1}, {3, 4, 2},
		{1, 15, 2}, {1, 16, 2}, {2, 15, 4}, {8, 15, 15}, {8, 16, 16}, {9, 15, 17},
		{1000, 1, 125}, {999, 1, 125}, {993, 1, 125}, {992, 1, 124}, {1000, 15, 1875}, {1000, 16, 2000},
		{1001, 1, 126}, {5000, 3, 1875}, {3, 17, 7}, {1, 100, 13}, {1 << 20, 1 << 20, 1 << 37},
		{-1, 5, 0}, {5, -1, 0}, {-1, -1, 0}, {-8, 8, 0}, {8, -8, 0}, {-8, -8, 0}, {-1, 0, 0}, {0, -1, 0},
		{math.MinInt, 1, 0}, {1, math.MinInt, 0}, {math.MinInt, math.MinInt, 0}, {math.MinInt, 16, 0}, {1000, math.MinInt, 0},
		{math.MaxInt, 1, 1 << 60}, {1, math.MaxInt, 1 << 60}, {math.MaxInt, 8, math.MaxInt}, {8, math.MaxInt, math.MaxInt},
		{math.MaxInt, 2, 1 << 61}, {1 << 62, 2, 1 << 60}, {1 << 62, 15, 15 << 59}, {math.MaxInt, -1, 0},
	}
	for _, x := range table {
		if got := Size(x.n, x.width); got != x.want {
			t.Errorf("Size(%d, %d): %d, not %d", x.n, x.width, got, x.want)
		}
	}
	for n := range 1002 {
		for width := range 18 {
			if got, want := Size(n, width), len(eights(strings.Repeat("0", n*width))); got != want {
				t.Fatalf("Size(%d, %d): %d, not %d", n, width, got, want)
			}
		}
	}
}

// sizeByWords is an eighth of n times width, no byte left out, by numbers of any size; the greatest int, if it is more.
func sizeByWords(n, width int) int {
	k := new(big.Int).Mul(big.NewInt(int64(n)), big.NewInt(int64(width)))
	k.Add(k, big.NewInt(7)).Rsh(k, 3)
	if !k.IsInt64() {
		return math.MaxInt
	}
	return int(k.Int64())
}

func TestP4_1SizeOfGreatNumbers(t *testing.T) {
	r := rand.New(rand.NewSource(2))
	great := []int{math.MaxInt, math.MaxInt - 1, math.MaxInt - 7, 1 << 62, 1 << 61, 1<<61 - 1, 1 << 32, 1 << 31}
	for range 3000 {
		great = append(great, r.Int()>>r.Intn(63))
	}
	for _, n := range great {
		for _, width := range []int{1, 2, 7, 8, 9, 15, 16, math.MaxInt, great[r.Intn(len(great))]} {
			if got, want := Size(n, width), sizeByWords(n, width); got != want {
				t.Fatalf("Size(%d, %d): %d, not %d", n, width, got, want)
			}
		}
	}
}

func TestP4_1SizeIsThatOfWhatIsPacked(t *testing.T) {
	for _, l := range lists() {
		s, _ := Pack(l)
		width, _ := Width(l)
		head := len(varint.Put(uint64(len(l)))) + 1
		if got := Size(len(l), width); got != len(s)-head {
			t.Errorf("%v: %d, not %d", l, got, len(s)-head)
		}
	}
}

func TestP4_2Unpack(t *testing.T) {
	for _, l := range lists() {
		for _, rest := range behind() {
			got, left, e := Unpack(packedByWords(l) + rest)
			if !slices.Equal(got, l) || left != rest || e != api.OK {
				t.Fatalf("%v and %x: %v, %x, %v", l, rest, got, left, e)
			}
		}
	}
}

func TestP4_2At(t *testing.T) {
	for _, l := range lists() {
		s := packedByWords(l)
		for _, rest := range behind()[:5] {
			for place := 0; place < len(l); place += 1 + place/7 {
				if n, e := At(s+rest, place); n != l[place] || e != api.OK {
					t.Fatalf("%v, at %d: %d, %v", l, place, n, e)
				}
			}
			if len(l) > 0 {
				if n, e := At(s+rest, len(l)-1); n != l[len(l)-1] || e != api.OK {
					t.Fatalf("%v, at the last place: %d, %v", l, n, e)
				}
			}
			for _, place := range []int{-1, -2, -len(l), -len(l) - 1, math.MinInt, len(l), len(l) + 1, len(l) + 8, 1000, 1001, math.MaxInt} {
				if n, e := At(s+rest, place); (place < 0 || place >= len(l)) && (n != 0 || e != api.ErrPacked) {
					t.Fatalf("%v, at %d: %d, %v", l, place, n, e)
				}
			}
		}
	}
}

func TestP4_2AtPlaces(t *testing.T) {
	const s = "\x03\x03\xa1\x80"
	for place, want := range []int{5, 0, 3} {
		if n, e := At(s, place); n != want || e != api.OK {
			t.Errorf("at %d: %d, %v, not %d", place, n, e, want)
		}
	}
	for _, place := range []int{-1, 3, 4, math.MinInt, math.MaxInt} {
		if n, e := At(s, place); n != 0 || e != api.ErrPacked {
			t.Errorf("at %d: %d, %v", place, n, e)
		}
	}
	if n, e := At("\x00\x00", 0); n != 0 || e != api.ErrPacked {
		t.Errorf("no numbers: %d, %v", n, e)
	}
}

// wrong is what begins with no list's bytes, and the error of it: where several apply, the one that is named first.
type wrong struct {
	s    string
	want api.Errno
}

// wrongs are wrong ones, in the order of their errors.
func wrongs() []wrong {
	nine := strings.Repeat("\xff", 9)
	return []wrong{
		// A count that is no varint, whatever stands behind it.
		{"", api.ErrMore},
		{"\x80", api.ErrMore},
		{"\xe9\x80", api.ErrMore},
		{nine, api.ErrMore},
		{"\x80\x00", api.ErrVarint},
		{"\x80\x00\xff\xff", api.ErrVarint},
		{"\x83\x00\x03\xa1\x80", api.ErrVarint},
		{nine + "\x02", api.ErrVarint},
		{nine + "\xff\x11", api.ErrVarint},
		// A count above 1000: ahead of a width that is missing, or too great, and of bytes that are missing.
		{"\xe9\x07", api.ErrPacked},
		{"\xe9\x07\x00", api.ErrPacked},
		{"\xe9\x07\x11", api.ErrPacked},
		{"\xe9\x07\x01", api.ErrPacked},
		{"\xe9\x07\x01" + strings.Repeat("\x80", 126), api.ErrPacked},
		{"\x80\x08", api.ErrPacked},
		{"\x80\x80\x80\x80\x10", api.ErrPacked},
		{"\x80\x80\x80\x80\x80\x80\x80\x80\x80\x01", api.ErrPacked},
		{nine + "\x01", api.ErrPacked},
		{nine + "\x01\x00", api.ErrPacked},
		// The width is missing.
		{"\x00", api.ErrMore},
		{"\x01", api.ErrMore},
		{"\xe8\x07", api.ErrMore},
		// A width above 16: ahead of bytes that are missing.
		{"\x00\x11", api.ErrPacked},
		{"\x01\x11", api.ErrPacked},
		{"\x01\x11\xff\xff\xff", api.ErrPacked},
		{"\x01\x11\x80\x00\x00", api.ErrPacked},
		{"\x01\xff", api.ErrPacked},
		{"\xe8\x07\x80", api.ErrPacked},
		{"\x00\xff", api.ErrPacked},
		// Bytes are missing: ahead of digits behind the last number, and of a width that is another one.
		{"\x01\x01", api.ErrMore},
		{"\x01\x10", api.ErrMore},
		{"\x01\x10\x80", api.ErrMore},
		{"\x01\x10\x00", api.ErrMore},
		{"\x03\x03\xa1", api.ErrMore},
		{"\x03\x03\x00", api.ErrMore},
		{"\x09\x01\xff", api.ErrMore},
		{"\x01\x09\xff", api.ErrMore},
		{"\xe8\x07\x10" + strings.Repeat("\xff", 1999), api.ErrMore},
		{"\xe8\x07\x01" + strings.Repeat("\x00", 124), api.ErrMore},
		// A digit behind the last number that is not 0.
		{"\x01\x01\xc0", api.ErrPacked},
		{"\x01\x01\x81", api.ErrPacked},
		{"\x01\x01\xff", api.ErrPacked},
		{"\x03\x03\xa1\x81", api.ErrPacked},
		{"\x03\x03\xa1\xc0", api.ErrPacked},
		{"\x09\x01\xff\x81", api.ErrPacked},
		{"\x09\x01\xff\xc0", api.ErrPacked},
		{"\x01\x0f\xff\xff", api.ErrPacked},
		{"\x01\x09\x80\x40", api.ErrPacked},
		{"\x03\x04\xf1\x21", api.ErrPacked},
		// A width that is another one than the list's.
		{"\x00\x01", api.ErrPacked},
		{"\x00\x10", api.ErrPacked},
		{"\x01\x01\x00", api.ErrPacked},
		{"\x01\x02\x40", api.ErrPacked},
		{"\x03\x04\x50\x30", api.ErrPacked},
		{"\x03\x08\x05\x00\x03", api.ErrPacked},
		{"\x02\x10\x7f\xff\x00\x00", api.ErrPacked},
		{"\xe8\x07\x01" + strings.Repeat("\x00", 125), api.ErrPacked},
		{"\xe8\x07\x10" + strings.Repeat("\x7f\xff", 1000), api.ErrPacked},
		// Both.
		{"\x01\x01\x40", api.ErrPacked},
		{"\x01\x02\x41", api.ErrPacked},
	}
}

func TestP4_2OfNone(t *testing.T) {
	for _, x := range wrongs() {
		rests := behind()
		if x.want == api.ErrMore {
			rests = rests[:1]
		}
		for _, rest := range rests {
			s := x.s + rest
			if l, left, e := Unpack(s); len(l) != 0 || left != s || e != x.want {
				t.Errorf("Unpack(%x): %v, %d bytes, %v, not %v", s, l, len(left), e, x.want)
			}
			for _, place := range []int{-1, 0, 1, 1000} {
				if n, e := At(s, place); n != 0 || e != x.want {
					t.Errorf("At(%x, %d): %d, %v, not %v", s, place, n, e, x.want)
				}
			}
		}
	}
}

func TestP4_2EachWidthThatIsNotTheLists(t *testing.T) {
	for _, l := range [][]int{nil, {0}, {0, 0, 0}, {1}, {5, 0, 3}, {255}, {256, 1}, {32767}, make([]int, 1000)} {
		for width := widthByWords(l) + 1; width <= 20; width++ {
			s := bytesByWords(l, width)
			if got, rest, e := Unpack(s); len(got) != 0 || rest != s || e != api.ErrPacked {
				t.Errorf("%d numbers of width %d: %v, %v", len(l), width, got, e)
			}
		}
	}
}

func TestP4_2EachDigitBehindTheLastNumber(t *testing.T) {
	for _, l := range lists() {
		s := packedByWords(l)
		missing := 8*Size(len(l), widthByWords(l)) - len(l)*widthByWords(l)
		for digit := range missing {
			other := s[:len(s)-1] + string([]byte{s[len(s)-1] | 1<<digit})
			if got, rest, e := Unpack(other); len(got) != 0 || rest != other || e != api.ErrPacked {
				t.Errorf("%v, digit %d: %v, %v", l, digit, got, e)
			}
			if n, e := At(other, 0); n != 0 || e != api.ErrPacked {
				t.Errorf("%v, digit %d: %d, %v", l, digit, n, e)
			}
		}
	}
}

func TestP4_3WhatIsPackedIsUnpacked(t *testing.T) {
	told := map[string][]int{}
	for _, l := range lists() {
		s, e := Pack(l)
		if e != api.OK {
			t.Fatalf("%v: %v", l, e)
		}
		if other, ok := told[s]; ok && !slices.Equal(other, l) {
			t.Errorf("%v and %v have the same bytes", l, other)
		}
		told[s] = l
		for _, rest := range behind() {
			if got, left, e := Unpack(s + rest); !slices.Equal(got, l) || left != rest || e != api.OK {
				t.Fatalf("%v and %x: %v, %x, %v", l, rest, got, left, e)
			}
		}
	}
}

func TestP4_3ListsBehindOneAnother(t *testing.T) {
	all := ""
	for _, l := range lists() {
		s, _ := Pack(l)
		all += s
	}
	for _, l := range lists() {
		got, rest, e := Unpack(all)
		if !slices.Equal(got, l) || e != api.OK {
			t.Fatalf("%v: %v, %v", l, got, e)
		}
		all = rest
	}
	if all != "" {
		t.Errorf("%x is left", all)
	}
}

// oneToOne holds what s begins with to P4.3: a list's own bytes, or nothing.
func oneToOne(t *testing.T, s string) bool {
	t.Helper()
	l, rest, e := Unpack(s)
	switch {
	case e != api.OK && (len(l) != 0 || rest != s):
		t.Fatalf("Unpack(%x): %v, %x, %v", s, l, rest, e)
	case e == api.OK && packedByWords(l)+rest != s:
		t.Fatalf("Unpack(%x): %v, %x", s, l, rest)
	}
	return e == api.OK
}

func TestP4_3BytesOneToOne(t *testing.T) {
	good := 0
	for count := range 5 {
		for width := range 18 {
			for b := range 1 << 16 {
				if oneToOne(t, string([]byte{byte(count), byte(width), byte(b >> 8), byte(b)})) {
					good++
				}
			}
		}
	}
	r := rand.New(rand.NewSource(3))
	for range 30000 {
		b := make([]byte, r.Intn(12))
		for at := range b {
			b[at] = byte(r.Intn(256))
		}
		oneToOne(t, string(b))
	}
	if good < 100000 {
		t.Errorf("%d lists alone", good)
	}
}

func TestP4_3FewerBytesAskForMore(t *testing.T) {
	for _, l := range lists() {
		s := packedByWords(l)
		for size := 0; size < len(s); size += 1 + size/50 {
			if got, rest, e := Unpack(s[:size]); len(got) != 0 || rest != s[:size] || e != api.ErrMore {
				t.Fatalf("%v, %d of %d bytes: %v, %x, %v", l, size, len(s), got, rest, e)
			}
		}
		if short := s[:len(s)-1]; short != "" {
			if _, _, e := Unpack(short); e != api.ErrMore {
				t.Fatalf("%v, all but one byte: %v", l, e)
			}
		}
	}
}

func TestR3(t *testing.T) {
	room := []int{5, 0, 3, 9, 9}
	if s, e := Pack(room[:3]); s != "\x03\x03\xa1\x80" || e != api.OK {
		t.Errorf("%x, %v", s, e)
	}
	if width, e := Width(room[:3]); width != 3 || e != api.OK {
		t.Errorf("%d, %v", width, e)
	}
	if !slices.Equal(room, []int{5, 0, 3, 9, 9}) {
		t.Errorf("what was handed in was written into: %v", room)
	}
	a, _, _ := Unpack("\x03\x03\xa1\x80")
	b, _, _ := Unpack("\x03\x03\xa1\x80")
	_ = append(a[:0], 7, 7, 7, 7)
	if !slices.Equal(b, []int{5, 0, 3}) {
		t.Errorf("two answers share memory: %v", b)
	}
}
