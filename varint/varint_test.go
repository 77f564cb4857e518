package varint

import (
	"encoding/binary"
	"math"
	"math/big"
	"math/rand"
	"slices"
	"strconv"
	"strings"
	"testing"

	"tesserae/api"
)

const (
	least    = int64(math.MinInt64)
	most     = int64(math.MaxInt64)
	greatest = uint64(math.MaxUint64)
)

// behind are texts that may stand behind bytes: none, and such as look like bytes that go on, or end.
func behind() []string {
	return []string{"", "x", "\x00", "\x01", "\x80", "\xff", "\x80\x00", strings.Repeat("\xff", 12)}
}

// edges are 0, 127, 128, each power of 2 with its neighbours, and the greatest number.
func edges() []uint64 {
	l := []uint64{0, 127, 128, 129, 300, 16383, 16384, greatest, greatest - 1}
	for at := range 64 {
		n := uint64(1) << at
		l = append(l, n-1, n, n+1)
	}
	return l
}

// some are the edges and numbers of all sizes.
func some(seed int64) []uint64 {
	r := rand.New(rand.NewSource(seed))
	l := edges()
	for range 2000 {
		l = append(l, r.Uint64()>>r.Intn(64))
	}
	return l
}

// signed are numbers with a sign, of all sizes, the least and the greatest among them.
func signed(seed int64) []int64 {
	l := []int64{least, least + 1, -2, -1, 0, 1, 2, most - 1, most}
	for _, n := range some(seed) {
		l = append(l, int64(n), -int64(n))
	}
	return l
}

// byDigits is the varint of n as the words say it: written out in binary digits, cut into sevens from behind.
func byDigits(n uint64) string {
	digits := strconv.FormatUint(n, 2)
	var b []byte
	for len(digits) > 7 {
		cut := len(digits) - 7
		k, _ := strconv.ParseUint(digits[cut:], 2, 7)
		b = append(b, byte(k)+128)
		digits = digits[:cut]
	}
	k, _ := strconv.ParseUint(digits, 2, 7)
	return string(append(b, byte(k)))
}

func TestP2_1Put(t *testing.T) {
	table := []struct {
		n    uint64
		want string
	}{
		{0, "\x00"},
		{1, "\x01"},
		{127, "\x7f"},
		{128, "\x80\x01"},
		{300, "\xac\x02"},
		{16383, "\xff\x7f"},
		{16384, "\x80\x80\x01"},
		{1<<56 - 1, "\xff\xff\xff\xff\xff\xff\xff\x7f"},
		{1 << 56, "\x80\x80\x80\x80\x80\x80\x80\x80\x01"},
		{1<<63 - 1, "\xff\xff\xff\xff\xff\xff\xff\xff\x7f"},
		{1 << 63, "\x80\x80\x80\x80\x80\x80\x80\x80\x80\x01"},
		{greatest, "\xff\xff\xff\xff\xff\xff\xff\xff\xff\x01"},
	}
	for _, x := range table {
		if got := Put(x.n); got != x.want {
			t.Errorf("Put(%d): %x, not %x", x.n, got, x.want)
		}
	}
	for _, n := range some(1) {
		got := Put(n)
		if want := byDigits(n); got != want {
			t.Fatalf("Put(%d): %x, not %x", n, got, want)
		}
		if want := string(binary.AppendUvarint(nil, n)); got != want {
			t.Fatalf("Put(%d): %x, not %x", n, got, want)
		}
	}
}

func TestP2_1PutAtPowersOf128(t *testing.T) {
	for at := 7; at < 64; at += 7 {
		n, size := uint64(1)<<at, at/7
		if got, want := Put(n-1), strings.Repeat("\xff", size-1)+"\x7f"; got != want {
			t.Errorf("2^%d-1: %x, not %x", at, got, want)
		}
		if got, want := Put(n), strings.Repeat("\x80", size)+"\x01"; got != want {
			t.Errorf("2^%d: %x, not %x", at, got, want)
		}
	}
}

func TestP2_1Get(t *testing.T) {
	for _, n := range some(2) {
		for _, rest := range behind() {
			m, left, e := Get(byDigits(n) + rest)
			if m != n || left != rest || e != api.OK {
				t.Fatalf("%d and %x: %d, %x, %v", n, rest, m, left, e)
			}
		}
	}
}

func TestP2_1GetOfNone(t *testing.T) {
	nines := func(b string) string { return strings.Repeat(b, api.MaxVar-1) }
	table := []struct {
		s    string
		want api.Errno
	}{
		{"", api.ErrMore},
		{"\x80", api.ErrMore},
		{"\xff", api.ErrMore},
		{"\x80\xff", api.ErrMore},
		{nines("\x80"), api.ErrMore},
		{nines("\xff"), api.ErrMore},
		{nines("\x80") + "\x80", api.ErrVarint},
		{nines("\xff") + "\xff", api.ErrVarint},
		{nines("\xff") + "\xff\x01", api.ErrVarint},
		{nines("\xff") + strings.Repeat("\xff", 20), api.ErrVarint},
		{nines("\x80") + "\x80\x00", api.ErrVarint},
		{nines("\xff") + "\x02", api.ErrVarint},
		{nines("\x80") + "\x02", api.ErrVarint},
		{nines("\xff") + "\x03", api.ErrVarint},
		{nines("\xff") + "\x7f", api.ErrVarint},
		{nines("\xff") + "\x00", api.ErrVarint},
		{nines("\x80") + "\x00", api.ErrVarint},
		{"\x80\x00", api.ErrVarint},
		{"\xff\x00", api.ErrVarint},
		{"\x80\x80\x00", api.ErrVarint},
		{"\x80\x00\x01", api.ErrVarint},
		{"\xac\x82\x00\xff\xff", api.ErrVarint},
	}
	for _, x := range table {
		n, rest, e := Get(x.s)
		if n != 0 || rest != x.s || e != x.want {
			t.Errorf("Get(%x): %d, %x, %v, not %v", x.s, n, rest, e, x.want)
		}
	}
}

func TestP2_1GetOfManyBytes(t *testing.T) {
	long := strings.Repeat("\xff", 1<<20)
	if n, rest, e := Get(long); n != 0 || rest != long || e != api.ErrVarint {
		t.Errorf("%d, %d bytes, %v", n, len(rest), e)
	}
	if n, rest, e := Get("\x05" + long); n != 5 || rest != long || e != api.OK {
		t.Errorf("%d, %d bytes, %v", n, len(rest), e)
	}
}

func TestP2_1Turn(t *testing.T) {
	table := []struct {
		n    int64
		want uint64
	}{
		{0, 0}, {-1, 1}, {1, 2}, {-2, 3}, {2, 4}, {-64, 127}, {64, 128},
		{most, greatest - 1}, {least, greatest}, {least + 1, greatest - 2}, {most - 1, greatest - 3},
		{1 << 62, 1 << 63}, {-1 << 62, 1<<63 - 1},
	}
	for _, x := range table {
		if got := Turn(x.n); got != x.want {
			t.Errorf("Turn(%d): %d, not %d", x.n, got, x.want)
		}
		if got := Back(x.want); got != x.n {
			t.Errorf("Back(%d): %d, not %d", x.want, got, x.n)
		}
	}
	for _, n := range signed(3) {
		if got, want := Turn(n), turned(n); got != want {
			t.Fatalf("Turn(%d): %d, not %d", n, got, want)
		}
		if got := Back(turned(n)); got != n {
			t.Fatalf("Back(%d): %d, not %d", turned(n), got, n)
		}
	}
}

// turned is n turned as the words say it, by numbers of any size.
func turned(n int64) uint64 {
	k := big.NewInt(n)
	if n >= 0 {
		return k.Add(k, k).Uint64()
	}
	k.Sub(big.NewInt(-1), k)
	k.Add(k, k)
	return k.Add(k, big.NewInt(1)).Uint64()
}

// lists are ordinary lists and such as the edges ask for.
func lists() [][]int64 {
	r := rand.New(rand.NewSource(4))
	l := [][]int64{
		nil,
		{},
		{0},
		{5},
		{-5},
		{5, 3},
		{0, 0, 0},
		{100, 101, 102, 103},
		{least},
		{most},
		{least, most},
		{most, least},
		{least, 0},
		{0, least, 0},
		{-1, most},
		{-2, most, -2},
		{1, least},
		{least, most, 0, 0, 5},
		make([]int64, 127),
		make([]int64, 128),
		make([]int64, 999),
		make([]int64, api.MaxList),
		slices.Repeat([]int64{least, most}, api.MaxList/2),
	}
	for range 60 {
		k := make([]int64, r.Intn(30))
		for at := range k {
			k[at] = int64(r.Uint64()) >> r.Intn(64)
		}
		l = append(l, k)
	}
	return l
}

// listBytes are the bytes of l as the words say it: by numbers of any size, cut to 64 digits.
func listBytes(l []int64) string {
	s := byDigits(uint64(len(l)))
	round := new(big.Int).Lsh(big.NewInt(1), 64)
	ahead := big.NewInt(0)
	for _, n := range l {
		k := new(big.Int).Sub(big.NewInt(n), ahead)
		difference := int64(k.Mod(k, round).Uint64())
		s += byDigits(turned(difference))
		ahead = big.NewInt(n)
	}
	return s
}

func TestP2_2Pack(t *testing.T) {
	table := []struct {
		l    []int64
		want string
	}{
		{nil, "\x00"},
		{[]int64{}, "\x00"},
		{[]int64{0}, "\x01\x00"},
		{[]int64{-1}, "\x01\x01"},
		{[]int64{5, 3}, "\x02\x0a\x03"},
		{[]int64{64}, "\x01\x80\x01"},
		{[]int64{most, least}, "\x02\xfe\xff\xff\xff\xff\xff\xff\xff\xff\x01\x02"},
		{[]int64{least, most}, "\x02\xff\xff\xff\xff\xff\xff\xff\xff\xff\x01\x01"},
	}
	for _, x := range table {
		if got, e := Pack(x.l); got != x.want || e != api.OK {
			t.Errorf("Pack(%v): %x, %v, not %x", x.l, got, e, x.want)
		}
	}
	for _, l := range lists() {
		if got, e := Pack(l); got != listBytes(l) || e != api.OK {
			t.Errorf("Pack(%v): %x, %v, not %x", l, got, e, listBytes(l))
		}
	}
}

func TestP2_2PackOfTooMany(t *testing.T) {
	for _, size := range []int{api.MaxList + 1, api.MaxList + 2, 5000} {
		if s, e := Pack(make([]int64, size)); s != "" || e != api.ErrVarint {
			t.Errorf("%d numbers: %x, %v", size, s, e)
		}
	}
}

func TestP2_2Unpack(t *testing.T) {
	for _, l := range lists() {
		for _, rest := range behind() {
			got, left, e := Unpack(listBytes(l) + rest)
			if !slices.Equal(got, l) || left != rest || e != api.OK {
				t.Fatalf("%v and %x: %v, %x, %v", l, rest, got, left, e)
			}
		}
	}
}

func TestP2_2UnpackOfNone(t *testing.T) {
	bad := strings.Repeat("\xff", 10)
	table := []struct {
		s    string
		want api.Errno
	}{
		{"", api.ErrMore},
		{"\x80", api.ErrMore},
		{"\x80\x00", api.ErrVarint},
		{bad, api.ErrVarint},
		{"\x01", api.ErrMore},
		{"\x02\x0a", api.ErrMore},
		{"\x02\x0a\x83", api.ErrMore},
		{"\x02\x0a\x83\x00", api.ErrVarint},
		{"\x02\x8a\x00", api.ErrVarint},
		{"\x02\x8a\x00\x80", api.ErrVarint},
		{"\x03\x0a" + bad, api.ErrVarint},
		{"\x03\x0a" + bad[:9], api.ErrMore},
		{"\x03" + bad[:9] + "\x02\x00\x00", api.ErrVarint},
		{"\xe8\x07", api.ErrMore},
		{"\xe8\x07" + strings.Repeat("\x00", 999), api.ErrMore},
		{"\xe9\x07", api.ErrVarint},
		{"\xe9\x07" + strings.Repeat("\x00", 1001), api.ErrVarint},
		{"\xe9\x07" + bad, api.ErrVarint},
		{"\x80\x80\x80\x80\x80\x80\x80\x80\x80\x01", api.ErrVarint},
		{bad[:9] + "\x01", api.ErrVarint},
		{"\x80\x80\x80\x80\x10", api.ErrVarint},
	}
	for _, x := range table {
		for _, s := range []string{x.s, x.s + "\x80\x80"} {
			if s != x.s && x.want == api.ErrMore {
				continue
			}
			l, rest, e := Unpack(s)
			if len(l) != 0 || rest != s || e != x.want {
				t.Errorf("Unpack(%x): %v, %x, %v, not %v", s, l, rest, e, x.want)
			}
		}
	}
}

func TestP2_2UnpackOfAThousand(t *testing.T) {
	s := "\xe8\x07" + strings.Repeat("\x02", api.MaxList)
	l, rest, e := Unpack(s + "\x02")
	if len(l) != api.MaxList || rest != "\x02" || e != api.OK {
		t.Fatalf("%d numbers, %x, %v", len(l), rest, e)
	}
	for at, n := range l {
		if n != int64(at+1) {
			t.Fatalf("at %d: %d", at, n)
		}
	}
}

func TestP2_3FewerBytesAskForMore(t *testing.T) {
	for _, n := range edges() {
		s := Put(n)
		for size := range len(s) {
			if m, rest, e := Get(s[:size]); m != 0 || rest != s[:size] || e != api.ErrMore {
				t.Fatalf("%d bytes of %x: %d, %x, %v", size, s, m, rest, e)
			}
		}
	}
	for _, l := range lists() {
		s, _ := Pack(l)
		for size := range len(s) {
			if got, rest, e := Unpack(s[:size]); len(got) != 0 || rest != s[:size] || e != api.ErrMore {
				t.Fatalf("%d bytes of %x: %v, %x, %v", size, s, got, rest, e)
			}
		}
	}
}

// anyBytes are all texts of up to 2 bytes, and longer ones, most of which are nearly right.
func anyBytes(seed int64) []string {
	l := []string{""}
	for a := range 256 {
		l = append(l, string([]byte{byte(a)}))
		for b := range 256 {
			l = append(l, string([]byte{byte(a), byte(b)}))
		}
	}
	r := rand.New(rand.NewSource(seed))
	for range 20000 {
		b := make([]byte, r.Intn(16))
		for at := range b {
			b[at] = []byte{0, 1, 2, 3, 127, 128, 129, 255, byte(r.Intn(256))}[r.Intn(9)]
			if r.Intn(3) > 0 {
				b[at] |= 128
			}
		}
		l = append(l, string(b))
	}
	return l
}

func TestP2_3OneToOne(t *testing.T) {
	for _, s := range anyBytes(5) {
		n, rest, e := Get(s)
		switch {
		case e == api.OK && Put(n)+rest != s:
			t.Fatalf("Get(%x): %d, %x", s, n, rest)
		case e != api.OK && (n != 0 || rest != s):
			t.Fatalf("Get(%x): %d, %x, %v", s, n, rest, e)
		case e != api.OK && (e == api.ErrMore) != allGoOn(s):
			t.Fatalf("Get(%x): %v", s, e)
		}
	}
	for _, n := range signed(6) {
		if got := Back(Turn(n)); got != n {
			t.Fatalf("Back(Turn(%d)): %d", n, got)
		}
		if got := Turn(Back(uint64(n))); got != uint64(n) {
			t.Fatalf("Turn(Back(%d)): %d", uint64(n), got)
		}
	}
}

// allGoOn tells whether s has fewer than 10 bytes, of which all are 128 or more.
func allGoOn(s string) bool {
	for _, b := range []byte(s) {
		if b < 128 {
			return false
		}
	}
	return len(s) < 10
}

func TestP2_3ListsOneToOne(t *testing.T) {
	good := 0
	for _, s := range anyBytes(7) {
		// A small count ahead, lest hardly any be a list's bytes.
		for _, s := range []string{s, "\x01" + s, "\x03" + s} {
			l, rest, e := Unpack(s)
			again, _ := Pack(l)
			switch {
			case e == api.OK && again+rest != s:
				t.Fatalf("Unpack(%x): %v, %x", s, l, rest)
			case e != api.OK && (len(l) != 0 || rest != s):
				t.Fatalf("Unpack(%x): %v, %x, %v", s, l, rest, e)
			case e == api.OK:
				good++
			}
		}
	}
	if good < 1000 {
		t.Errorf("%d lists alone", good)
	}
}

func TestP2_3ListsBehindOneAnother(t *testing.T) {
	all := ""
	for _, l := range lists() {
		s, _ := Pack(l)
		all += s
	}
	for _, l := range lists() {
		got, rest, e := Unpack(all)
		if !slices.Equal(got, l) || e != api.OK {
			t.Fatalf("%v: %v, %v", l, got, e)
		}
		all = rest
	}
	if all != "" {
		t.Errorf("%x is left", all)
	}
}

func TestR3(t *testing.T) {
	room := []int64{5, 3, 9, 9}
	if s, e := Pack(room[:2]); s != "\x02\x0a\x03" || e != api.OK {
		t.Errorf("%x, %v", s, e)
	}
	if !slices.Equal(room, []int64{5, 3, 9, 9}) {
		t.Errorf("Pack wrote into what was handed in: %v", room)
	}
	a, _, _ := Unpack("\x02\x0a\x03")
	b, _, _ := Unpack("\x02\x0a\x03")
	_ = append(a[:0], 7, 7)
	if !slices.Equal(b, []int64{5, 3}) {
		t.Errorf("two answers share memory: %v", b)
	}
}
