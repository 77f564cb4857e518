package frame

import (
	"encoding/binary"
	"hash/crc32"
	"math/rand"
	"slices"
	"strings"
	"testing"

	"tesserae/api"
)

// bySteps is the sum of s as the words say it, step by step.
func bySteps(s string) uint32 {
	sum := uint32(0xffffffff)
	for _, b := range []byte(s) {
		sum ^= uint32(b)
		for range 8 {
			if sum%2 == 1 {
				sum = sum/2 ^ 0xedb88320
			} else {
				sum /= 2
			}
		}
	}
	return sum ^ 0xffffffff
}

// head are the eight bytes ahead of a frame's own.
func head(size, sum uint32) string {
	b := binary.BigEndian.AppendUint32(nil, size)
	return string(binary.BigEndian.AppendUint32(b, sum))
}

// framedByWords is the frame of s as the words say it.
func framedByWords(s string) string {
	return head(uint32(len(s)), bySteps(s)) + s
}

// made is the frame of s, which has one.
func made(t *testing.T, s string) string {
	t.Helper()
	f, e := Make(s)
	if e != api.OK {
		t.Fatalf("Make of %d bytes: %v", len(s), e)
	}
	return f
}

// anyText is a text of that many bytes.
func anyText(r *rand.Rand, size int) string {
	b := make([]byte, size)
	for at := range b {
		b[at] = byte(r.Intn(256))
	}
	return string(b)
}

// texts are ordinary ones, each byte alone, and such as the edges ask for.
func texts() []string {
	r := rand.New(rand.NewSource(1))
	l := []string{
		"", "a", "abc", "123456789", "héllo, wörld", "\x00", "\x00\x00\x00\x00", "\xff\xff\xff\xff",
		"\x00\x00\x00\x00\x00\x00\x00\x00", head(1, 2) + "x", strings.Repeat("ab", 500),
	}
	for b := range 256 {
		l = append(l, string([]byte{byte(b)}))
	}
	for _, size := range []int{2, 7, 8, 9, 127, 255, 256, 257, 32768, api.MaxFrame - 1, api.MaxFrame} {
		l = append(l, anyText(r, size))
	}
	return l
}

// behind are texts that may stand behind a frame: none, and such as look like a frame's beginning, or like one.
func behind() []string {
	return []string{"", "x", "\x00", "\xff", strings.Repeat("\x00", 8), strings.Repeat("\xff", 8), framedByWords("behind"), "\x00\x00\x00\x03"}
}

func TestP3_1Sum(t *testing.T) {
	table := map[string]uint32{
		"":                 0,
		"a":                0xe8b7be43,
		"abc":              0x352441c2,
		"123456789":        0xcbf43926,
		"\x00":             0xd202ef8d,
		"\xff":             0xff000000,
		"\x00\x00\x00\x00": 0x2144df1c,
		"\xff\xff\xff\xff": 0xffffffff,
		"The quick brown fox jumps over the lazy dog": 0x414fa339,
	}
	for s, want := range table {
		if got := Sum(s); got != want {
			t.Errorf("Sum(%q): %08x, not %08x", s, got, want)
		}
	}
	for _, s := range texts() {
		if got, want := Sum(s), bySteps(s); got != want {
			t.Errorf("Sum of %d bytes: %08x, not %08x", len(s), got, want)
		}
		if got, want := Sum(s), crc32.ChecksumIEEE([]byte(s)); got != want {
			t.Errorf("Sum of %d bytes: %08x, not %08x", len(s), got, want)
		}
	}
}

func TestP3_1SumOfMoreThanAFrameHas(t *testing.T) {
	s := anyText(rand.New(rand.NewSource(2)), 1<<20)
	if got, want := Sum(s), bySteps(s); got != want {
		t.Errorf("%08x, not %08x", got, want)
	}
}

func TestP3_1Make(t *testing.T) {
	table := map[string]string{
		"":          "\x00\x00\x00\x00\x00\x00\x00\x00",
		"a":         "\x00\x00\x00\x01\xe8\xb7\xbe\x43a",
		"abc":       "\x00\x00\x00\x03\x35\x24\x41\xc2abc",
		"123456789": "\x00\x00\x00\x09\xcb\xf4\x39\x26123456789",
	}
	for s, want := range table {
		if got, e := Make(s); got != want || e != api.OK {
			t.Errorf("Make(%q): %x, %v, not %x", s, got, e, want)
		}
	}
	for _, s := range texts() {
		if got, e := Make(s); got != framedByWords(s) || e != api.OK {
			t.Errorf("Make of %d bytes: %d bytes, %v", len(s), len(got), e)
		}
	}
}

func TestP3_1MakeAtTheLimit(t *testing.T) {
	for size, want := range map[int]string{59999: "\x00\x00\xea\x5f", 60000: "\x00\x00\xea\x60"} {
		s := strings.Repeat("x", size)
		got, e := Make(s)
		if e != api.OK || len(got) != size+8 || got[:4] != want || got[8:] != s {
			t.Errorf("%d bytes: %d bytes, %v", size, len(got), e)
		}
	}
	for _, size := range []int{60001, 60002, 65535, 65536, 65537, 1 << 20} {
		if got, e := Make(strings.Repeat("x", size)); got != "" || e != api.ErrFrame {
			t.Errorf("%d bytes: %d bytes, %v", size, len(got), e)
		}
	}
}

func TestP3_2Read(t *testing.T) {
	for _, s := range texts() {
		for _, rest := range behind() {
			b, left, e := Read(framedByWords(s) + rest)
			if b != s || left != rest || e != api.OK {
				t.Errorf("%d bytes and %x: %d bytes, %x, %v", len(s), rest, len(b), left, e)
			}
		}
	}
}

// wrongs are bytes that begin with no frame, each with its error; where several apply, the one that is named first.
func wrongs() []struct {
	s    string
	want api.Errno
} {
	full := strings.Repeat("x", api.MaxFrame+1)
	sum, sumOfMost := bySteps(full), bySteps(full[1:])
	good := framedByWords("abc")
	return []struct {
		s    string
		want api.Errno
	}{
		// Fewer than eight bytes, even where what there is says a count of too many.
		{"\x00", api.ErrMore},
		{good[:1], api.ErrMore},
		{good[:4], api.ErrMore},
		{good[:7], api.ErrMore},
		{"\xff\xff\xff\xff", api.ErrMore},
		{"\x00\x00\xea\x61\x00\x00\x00", api.ErrMore},
		// A count of too many, with and without enough bytes behind it, of a right sum and of another one.
		{head(60001, 0), api.ErrFrame},
		{head(60001, 0) + "x", api.ErrFrame},
		{head(60001, sum) + full[1:], api.ErrFrame},
		{head(60001, sum) + full, api.ErrFrame},
		{head(60001, sum+1) + full, api.ErrFrame},
		{head(60001, sum) + full + "x", api.ErrFrame},
		{head(65536, 0), api.ErrFrame},
		{head(0x01000003, bySteps("abc")) + "abc", api.ErrFrame},
		{head(1<<31-1, 0), api.ErrFrame},
		{head(1<<31, 0), api.ErrFrame},
		{head(1<<32-3, 0) + "abc", api.ErrFrame},
		{head(1<<32-1, 0), api.ErrFrame},
		// Bytes missing, of a right sum and of another one.
		{head(60000, sumOfMost), api.ErrMore},
		{head(60000, sumOfMost) + full[2:], api.ErrMore},
		{head(60000, sum) + full[2:], api.ErrMore},
		{head(1, 0), api.ErrMore},
		{good[:8], api.ErrMore},
		{good[:10], api.ErrMore},
		{head(4, bySteps("abc")) + "abc", api.ErrMore},
		// A sum that is another one.
		{head(0, 1), api.ErrSum},
		{head(0, 1<<31) + "abc", api.ErrSum},
		{head(0, bySteps("abc")) + "abc", api.ErrSum},
		{head(2, bySteps("abc")) + "abc", api.ErrSum},
		{head(3, bySteps("abc")+1) + "abc", api.ErrSum},
		{head(3, ^bySteps("abc")) + "abc", api.ErrSum},
		{head(3, 0xc2412435) + "abc", api.ErrSum},
		{good[:10] + "d", api.ErrSum},
		{good[:8] + "acb", api.ErrSum},
		{head(60000, sumOfMost-1) + full[1:], api.ErrSum},
		{head(60000, sum) + full, api.ErrSum},
	}
}

func TestP3_2ReadOfNone(t *testing.T) {
	if b, rest, e := Read(""); b != "" || rest != "" || e != api.ErrMore {
		t.Errorf("no bytes: %x, %x, %v", b, rest, e)
	}
	for at, x := range wrongs() {
		b, rest, e := Read(x.s)
		if b != "" || rest != x.s || e != x.want {
			t.Errorf("wrong one %d, %d bytes: %x, %d bytes, %v, not %v", at, len(x.s), b, len(rest), e, x.want)
		}
	}
}

func TestP3_2ReadOfEachCount(t *testing.T) {
	// None of them has a byte of its own: that tells which counts are too many from which ask for more.
	for _, size := range []uint32{1, 255, 256, 32767, 59999, 60000, 60001, 60002, 65535, 65536, 1 << 24, 1<<32 - 1} {
		want := api.ErrMore
		if size > 60000 {
			want = api.ErrFrame
		}
		if b, _, e := Read(head(size, 0)); b != "" || e != want {
			t.Errorf("%d: %x, %v, not %v", size, b, e, want)
		}
	}
}

// lists are lists of texts: none, one, many.
func lists() [][]string {
	r := rand.New(rand.NewSource(3))
	l := [][]string{
		nil,
		{},
		{""},
		{"a"},
		{"", "a", "bc"},
		{"a", "", "", "a", ""},
		{framedByWords("abc"), "abc"},
		slices.Repeat([]string{""}, 1000),
		slices.Repeat([]string{"123456789"}, 300),
		slices.Repeat([]string{strings.Repeat("z", api.MaxFrame)}, 13),
		texts(),
	}
	for range 30 {
		k := make([]string, r.Intn(12))
		for at := range k {
			k[at] = anyText(r, r.Intn(40))
		}
		l = append(l, k)
	}
	return l
}

// joinedByWords are the frames of all of l as the words say it.
func joinedByWords(l []string) string {
	s := ""
	for _, b := range l {
		s += framedByWords(b)
	}
	return s
}

func TestP3_2Join(t *testing.T) {
	const want = "\x00\x00\x00\x00\x00\x00\x00\x00" + "\x00\x00\x00\x01\xe8\xb7\xbe\x43a" + "\x00\x00\x00\x03\x35\x24\x41\xc2abc"
	if got, e := Join([]string{"", "a", "abc"}); got != want || e != api.OK {
		t.Errorf("%x, %v", got, e)
	}
	for _, l := range lists() {
		if got, e := Join(l); got != joinedByWords(l) || e != api.OK {
			t.Errorf("Join of %d texts: %d bytes, %v", len(l), len(got), e)
		}
	}
}

func TestP3_2JoinOfOneTooLong(t *testing.T) {
	long := strings.Repeat("x", api.MaxFrame+1)
	for _, l := range [][]string{
		{long},
		{long, "a"},
		{"a", long},
		{"", "a", long, "b"},
		{long[1:], long},
		{long, long},
	} {
		if got, e := Join(l); got != "" || e != api.ErrFrame {
			t.Errorf("%d texts: %d bytes, %v", len(l), len(got), e)
		}
	}
	if got, e := Join([]string{long[1:], long[1:]}); len(got) != 2*(api.MaxFrame+8) || e != api.OK {
		t.Errorf("the longest ones: %d bytes, %v", len(got), e)
	}
}

func TestP3_2Split(t *testing.T) {
	for _, l := range lists() {
		if got, e := Split(joinedByWords(l)); !slices.Equal(got, l) || e != api.OK {
			t.Errorf("Split of %d frames: %d texts, %v", len(l), len(got), e)
		}
	}
}

func TestP3_2SplitOfNone(t *testing.T) {
	for at, x := range wrongs() {
		for _, l := range [][]string{nil, {""}, {"a", "", "abc"}, {strings.Repeat("z", api.MaxFrame)}} {
			got, e := Split(joinedByWords(l) + x.s)
			if len(got) != 0 || e != x.want {
				t.Errorf("%d frames and wrong one %d: %d texts, %v, not %v", len(l), at, len(got), e, x.want)
			}
		}
	}
}

func TestP3_2SplitTellsTheFirstWrongOne(t *testing.T) {
	wrong := head(3, 0) + "abc"
	table := []struct {
		s    string
		want api.Errno
	}{
		{wrong + framedByWords("a"), api.ErrSum},
		{wrong + head(1<<31, 0), api.ErrSum},
		{wrong + "\x00", api.ErrSum},
		{framedByWords("a") + wrong + head(1<<31, 0), api.ErrSum},
		{head(1<<31, 0) + wrong, api.ErrFrame},
		{head(40, 0) + wrong, api.ErrMore},
	}
	for _, x := range table {
		if got, e := Split(x.s); len(got) != 0 || e != x.want {
			t.Errorf("%x: %q, %v, not %v", x.s, got, e, x.want)
		}
	}
}

func TestP3_3WhatIsMadeIsRead(t *testing.T) {
	for _, s := range texts() {
		f := made(t, s)
		for _, rest := range behind() {
			if b, left, e := Read(f + rest); b != s || left != rest || e != api.OK {
				t.Errorf("%d bytes and %x: %d bytes, %x, %v", len(s), rest, len(b), left, e)
			}
		}
	}
	for _, l := range lists() {
		s, e := Join(l)
		if got, wrong := Split(s); !slices.Equal(got, l) || e != api.OK || wrong != api.OK {
			t.Errorf("%d texts: %d, %v, %v", len(l), len(got), e, wrong)
		}
	}
}

func TestP3_3FramesAreReadOneByOne(t *testing.T) {
	l := texts()
	all, _ := Join(l)
	for _, s := range l {
		b, rest, e := Read(all)
		if b != s || e != api.OK {
			t.Fatalf("%d bytes: %d bytes, %v", len(s), len(b), e)
		}
		all = rest
	}
	if all != "" {
		t.Errorf("%x is left", all)
	}
}

func TestP3_3FewerBytesAskForMore(t *testing.T) {
	for _, s := range []string{"", "a", "123456789", strings.Repeat("ab", 500)} {
		f := made(t, s)
		for size := range len(f) {
			if b, rest, e := Read(f[:size]); b != "" || rest != f[:size] || e != api.ErrMore {
				t.Fatalf("%d of %d bytes: %x, %x, %v", size, len(f), b, rest, e)
			}
		}
	}
}

// changed is s with another byte at that place.
func changed(s string, at int, b byte) string {
	return s[:at] + string([]byte{b}) + s[at+1:]
}

func TestP3_3AnotherByteIsFound(t *testing.T) {
	for _, s := range []string{"", "a", "123456789", strings.Repeat("\x00", 20), strings.Repeat("ab", 150)} {
		f := made(t, s)
		for at := range len(f) {
			for b := range 256 {
				if f[at] == byte(b) {
					continue
				}
				other := changed(f, at, byte(b))
				got, rest, e := Read(other)
				if got != "" || rest != other || e != errorByWords(other) || e == api.OK {
					t.Fatalf("%d bytes, at %d %02x: %x, %v", len(s), at, b, got, e)
				}
				if l, wrong := Split(other); len(l) != 0 || wrong != e {
					t.Fatalf("%d bytes, at %d %02x: %q, %v", len(s), at, b, l, wrong)
				}
			}
		}
	}
}

func TestP3_3AnotherByteIsFoundInMany(t *testing.T) {
	s := anyText(rand.New(rand.NewSource(4)), api.MaxFrame)
	f := made(t, s)
	for at := 0; at < len(f); at += 1 + at/8 {
		other := changed(f, at, f[at]+1)
		if got, rest, e := Read(other); got != "" || rest != other || e != errorByWords(other) || e == api.OK {
			t.Fatalf("at %d: %d bytes, %v", at, len(got), e)
		}
	}
}

// A sum can't tell all: bytes whose sum is that of none are, with a count of none ahead, what P3.2 calls a frame of none.
func TestP3_2ReadOfAnotherCountThatTheSumFits(t *testing.T) {
	const b = "\x9d\x0a\xd9\x6d"
	if f := made(t, b); f != "\x00\x00\x00\x04\x00\x00\x00\x00"+b {
		t.Fatalf("%x", f)
	}
	if got, rest, e := Read(head(0, 0) + b); got != "" || rest != b || e != api.OK {
		t.Errorf("%x, %x, %v", got, rest, e)
	}
	if l, e := Split(head(0, 0) + b); len(l) != 0 || e != api.ErrMore {
		t.Errorf("%q, %v", l, e)
	}
}

// errorByWords is what is wrong at the beginning of s, in the order of P3.2.
func errorByWords(s string) api.Errno {
	if len(s) < 8 {
		return api.ErrMore
	}
	size := uint64(binary.BigEndian.Uint32([]byte(s)))
	switch {
	case size > 60000:
		return api.ErrFrame
	case size > uint64(len(s)-8):
		return api.ErrMore
	case binary.BigEndian.Uint32([]byte(s[4:])) != bySteps(s[8:8+size]):
		return api.ErrSum
	}
	return api.OK
}

func TestP3_2OfAnyBytes(t *testing.T) {
	r := rand.New(rand.NewSource(5))
	told := map[api.Errno]int{}
	for range 30000 {
		s := anyText(r, r.Intn(14))
		switch r.Intn(4) {
		case 0:
			s = framedByWords(s) + anyText(r, r.Intn(3))
		case 1:
			s = head(uint32(r.Intn(8)), 0) + s
		case 2:
			s = head(uint32(r.Intn(2)*59998+r.Intn(5)), r.Uint32()) + s
		}
		want := errorByWords(s)
		b, rest, e := Read(s)
		told[e]++
		switch {
		case e != want:
			t.Fatalf("Read(%x): %v, not %v", s, e, want)
		case e == api.OK && framedByWords(b)+rest != s:
			t.Fatalf("Read(%x): %x, %x", s, b, rest)
		case e != api.OK && (b != "" || rest != s):
			t.Fatalf("Read(%x): %x, %x, %v", s, b, rest, e)
		}
	}
	for _, e := range []api.Errno{api.OK, api.ErrMore, api.ErrFrame, api.ErrSum} {
		if told[e] < 100 {
			t.Errorf("%v is told %d times alone", e, told[e])
		}
	}
}

func TestR3(t *testing.T) {
	room := []string{"a", "b", "c", "d"}
	if s, e := Join(room[:2]); s != joinedByWords([]string{"a", "b"}) || e != api.OK {
		t.Errorf("%x, %v", s, e)
	}
	if !slices.Equal(room, []string{"a", "b", "c", "d"}) {
		t.Errorf("Join wrote into what was handed in: %q", room)
	}
	s := joinedByWords(room)
	a, _ := Split(s)
	b, _ := Split(s)
	_ = append(a[:0], "x", "x")
	if !slices.Equal(b, room) {
		t.Errorf("two answers share memory: %q", b)
	}
}
