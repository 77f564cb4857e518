package wide

import (
	"math"
	"math/big"
	"math/rand"
	"slices"
	"testing"

	"tesserae/api"
)

const (
	least = int64(math.MinInt64)
	most  = int64(math.MaxInt64)
)

var (
	mostWide  = api.Wide{Hi: most, Lo: math.MaxUint64}
	leastWide = api.Wide{Hi: least}
)

// edges64 are numbers of 64 bits at and about the edges.
func edges64() []int64 {
	return []int64{
		least, least + 1, -1 << 62, -1<<32 - 1, -1 << 32, -1<<31 - 1, -3, -2, -1,
		0, 1, 2, 3, 5, 1<<31 - 1, 1 << 31, 1<<32 - 1, 1 << 32, 1<<32 + 1, 1 << 62, most - 1, most,
	}
}

// edges128 are wide numbers at and about the edges of either half.
func edges128() []api.Wide {
	var l []api.Wide
	for _, hi := range []int64{least, least + 1, -2, -1, 0, 1, 2, most - 1, most} {
		for _, lo := range []uint64{0, 1, 2, 1<<63 - 1, 1 << 63, 1<<63 + 1, math.MaxUint64 - 1, math.MaxUint64} {
			l = append(l, api.Wide{Hi: hi, Lo: lo})
		}
	}
	return l
}

// some128 are the edges and numbers between them.
func some128(seed int64) []api.Wide {
	r := rand.New(rand.NewSource(seed))
	l := edges128()
	for range 60 {
		l = append(l, api.Wide{Hi: int64(r.Uint64()), Lo: r.Uint64()})
	}
	return l
}

// some64 are the edges and numbers between them, of all sizes.
func some64(seed int64) []int64 {
	r := rand.New(rand.NewSource(seed))
	l := edges64()
	for range 60 {
		l = append(l, int64(r.Uint64())>>r.Intn(64))
	}
	return l
}

// value is what a stands for: Hi times 2^64, and Lo.
func value(a api.Wide) *big.Int {
	n := new(big.Int).Lsh(big.NewInt(a.Hi), 64)
	return n.Add(n, new(big.Int).SetUint64(a.Lo))
}

// cut is the wide number that stands for n modulo 2^128.
func cut(n *big.Int) api.Wide {
	m := new(big.Int).Mod(n, new(big.Int).Lsh(big.NewInt(1), 128))
	lo := new(big.Int).And(m, new(big.Int).SetUint64(math.MaxUint64))
	return api.Wide{Hi: int64(m.Rsh(m, 64).Uint64()), Lo: lo.Uint64()}
}

func TestP1_1Of(t *testing.T) {
	table := []struct {
		n    int64
		want api.Wide
	}{
		{0, api.Wide{}},
		{1, api.Wide{Lo: 1}},
		{-1, api.Wide{Hi: -1, Lo: math.MaxUint64}},
		{-2, api.Wide{Hi: -1, Lo: math.MaxUint64 - 1}},
		{most, api.Wide{Lo: 1<<63 - 1}},
		{least, api.Wide{Hi: -1, Lo: 1 << 63}},
	}
	for _, x := range table {
		if got := Of(x.n); got != x.want {
			t.Errorf("Of(%d): %v, not %v", x.n, got, x.want)
		}
	}
	for _, n := range some64(1) {
		if got := value(Of(n)); got.Cmp(big.NewInt(n)) != 0 {
			t.Errorf("Of(%d) stands for %v", n, got)
		}
	}
}

func TestP1_1Add(t *testing.T) {
	table := []struct{ a, b, want api.Wide }{
		{Of(2), Of(3), Of(5)},
		{Of(-2), Of(3), Of(1)},
		{Of(most), Of(1), api.Wide{Lo: 1 << 63}},
		{Of(most), Of(most), api.Wide{Lo: math.MaxUint64 - 1}},
		{Of(least), Of(-1), api.Wide{Hi: -1, Lo: 1<<63 - 1}},
		{Of(least), Of(least), api.Wide{Hi: -1}},
		{api.Wide{Lo: math.MaxUint64}, Of(1), api.Wide{Hi: 1}},
		{api.Wide{Hi: 1}, Of(-1), api.Wide{Lo: math.MaxUint64}},
		{mostWide, Of(1), leastWide},
		{leastWide, Of(-1), mostWide},
		{mostWide, mostWide, Of(-2)},
		{leastWide, leastWide, Of(0)},
		{leastWide, mostWide, Of(-1)},
	}
	for _, x := range table {
		if got := Add(x.a, x.b); got != x.want {
			t.Errorf("Add(%v, %v): %v, not %v", x.a, x.b, got, x.want)
		}
	}
}

func TestP1_1AddOfAll(t *testing.T) {
	l := some128(2)
	for _, a := range l {
		for _, b := range l {
			want := cut(new(big.Int).Add(value(a), value(b)))
			if got := Add(a, b); got != want {
				t.Fatalf("Add(%v, %v): %v, not %v", a, b, got, want)
			}
		}
	}
}

func TestP1_1Neg(t *testing.T) {
	table := []struct{ a, want api.Wide }{
		{Of(0), Of(0)},
		{Of(5), Of(-5)},
		{Of(-5), Of(5)},
		{Of(least), api.Wide{Lo: 1 << 63}},
		{api.Wide{Lo: 1 << 63}, Of(least)},
		{api.Wide{Hi: 1}, api.Wide{Hi: -1}},
		{mostWide, api.Wide{Hi: least, Lo: 1}},
		{leastWide, leastWide},
	}
	for _, x := range table {
		if got := Neg(x.a); got != x.want {
			t.Errorf("Neg(%v): %v, not %v", x.a, got, x.want)
		}
	}
	for _, a := range some128(3) {
		if got, want := Neg(a), cut(new(big.Int).Neg(value(a))); got != want {
			t.Errorf("Neg(%v): %v, not %v", a, got, want)
		}
		if got := Add(a, Neg(a)); got != (api.Wide{}) {
			t.Errorf("%v and its Neg: %v", a, got)
		}
	}
}

func TestP1_1Mul(t *testing.T) {
	table := []struct {
		n, m int64
		want api.Wide
	}{
		{0, least, Of(0)},
		{3, 5, Of(15)},
		{-3, 5, Of(-15)},
		{3, -5, Of(-15)},
		{-3, -5, Of(15)},
		{1 << 32, 1 << 32, api.Wide{Hi: 1}},
		{-1 << 32, 1 << 32, api.Wide{Hi: -1}},
		{most, most, api.Wide{Hi: 1<<62 - 1, Lo: 1}},
		{least, least, api.Wide{Hi: 1 << 62}},
		{least, most, api.Wide{Hi: -1 << 62, Lo: 1 << 63}},
		{least, -1, api.Wide{Lo: 1 << 63}},
		{least, 1, Of(least)},
	}
	for _, x := range table {
		if got := Mul(x.n, x.m); got != x.want {
			t.Errorf("Mul(%d, %d): %v, not %v", x.n, x.m, got, x.want)
		}
	}
	l := some64(4)
	for _, n := range l {
		for _, m := range l {
			want := cut(new(big.Int).Mul(big.NewInt(n), big.NewInt(m)))
			if got := Mul(n, m); got != want {
				t.Fatalf("Mul(%d, %d): %v, not %v", n, m, got, want)
			}
		}
	}
}

func TestP1_1Sum(t *testing.T) {
	table := []struct {
		l    []int64
		want api.Wide
	}{
		{nil, Of(0)},
		{[]int64{}, Of(0)},
		{[]int64{7}, Of(7)},
		{[]int64{0, 0}, Of(0)},
		{[]int64{1, 0, -3, 0, 5}, Of(3)},
		{[]int64{most, 1}, api.Wide{Lo: 1 << 63}},
		{[]int64{most, 1, -1}, Of(most)},
		{[]int64{most, most, 2}, api.Wide{Hi: 1}},
		{[]int64{least, least, -1}, api.Wide{Hi: -2, Lo: math.MaxUint64}},
		{[]int64{least, most}, Of(-1)},
	}
	for _, x := range table {
		if got := Sum(x.l); got != x.want {
			t.Errorf("Sum(%v): %v, not %v", x.l, got, x.want)
		}
	}
	for seed := range int64(20) {
		l, want := some64(seed), new(big.Int)
		for _, n := range l {
			want.Add(want, big.NewInt(n))
		}
		if got := Sum(l); got != cut(want) {
			t.Errorf("Sum(%v): %v, not %v", l, got, want)
		}
	}
}

func TestP1_1SumOfMany(t *testing.T) {
	l := slices.Repeat([]int64{most}, 100000)
	if got, want := Sum(l), Mul(most, int64(len(l))); got != want {
		t.Errorf("%v, not %v", got, want)
	}
}

func TestP1_1Shift(t *testing.T) {
	table := []struct {
		a    api.Wide
		by   int
		want api.Wide
	}{
		{Of(3), 0, Of(3)},
		{Of(3), 1, Of(6)},
		{Of(-3), 1, Of(-6)},
		{mostWide, 0, mostWide},
		{mostWide, 1, Of(-2)},
		{leastWide, 1, Of(0)},
		{Of(1), 62, Of(1 << 62)},
		{Of(1), 63, api.Wide{Lo: 1 << 63}},
		{Of(-1), 63, Of(least)},
		{Of(3), 63, api.Wide{Hi: 1, Lo: 1 << 63}},
		{Of(1), 64, api.Wide{Hi: 1}},
		{Of(-1), 64, api.Wide{Hi: -1}},
		{Of(3), 65, api.Wide{Hi: 6}},
		{Of(1), 126, api.Wide{Hi: 1 << 62}},
		{Of(1), 127, leastWide},
		{Of(-1), 127, leastWide},
		{Of(2), 127, Of(0)},
	}
	for _, x := range table {
		if got := Shift(x.a, x.by); got != x.want {
			t.Errorf("Shift(%v, %d): %v, not %v", x.a, x.by, got, x.want)
		}
	}
	for _, a := range some128(5) {
		for by := range 128 {
			want := cut(new(big.Int).Lsh(value(a), uint(by)))
			if got := Shift(a, by); got != want {
				t.Fatalf("Shift(%v, %d): %v, not %v", a, by, got, want)
			}
		}
	}
}

func TestP1_1ShiftByNoPower(t *testing.T) {
	for _, by := range []int{math.MinInt, -128, -64, -63, -1, 128, 129, 191, 192, 256, 1 << 32, math.MaxInt} {
		for _, a := range edges128() {
			if got := Shift(a, by); got != (api.Wide{}) {
				t.Errorf("Shift(%v, %d): %v", a, by, got)
			}
		}
	}
}

func TestP1_2Compare(t *testing.T) {
	table := []struct {
		a, b api.Wide
		want int
	}{
		{Of(0), Of(0), 0},
		{Of(1), Of(2), -1},
		{Of(2), Of(1), 1},
		{Of(-1), Of(1), -1},
		{Of(-1), Of(0), -1},
		{Of(0), Of(-1), 1},
		{Of(-2), Of(-1), -1},
		{Of(most), api.Wide{Lo: 1 << 63}, -1},
		{api.Wide{Hi: 1}, api.Wide{Lo: math.MaxUint64}, 1},
		{api.Wide{Hi: 1}, api.Wide{Hi: 2}, -1},
		{api.Wide{Hi: -1}, Of(-1), -1},
		{leastWide, mostWide, -1},
		{mostWide, leastWide, 1},
		{mostWide, mostWide, 0},
		{leastWide, leastWide, 0},
	}
	for _, x := range table {
		if got := Compare(x.a, x.b); got != x.want {
			t.Errorf("Compare(%v, %v): %d, not %d", x.a, x.b, got, x.want)
		}
	}
	l := some128(6)
	for _, a := range l {
		for _, b := range l {
			if got, want := Compare(a, b), value(a).Cmp(value(b)); got != want {
				t.Fatalf("Compare(%v, %v): %d, not %d", a, b, got, want)
			}
		}
	}
}

func TestP1_2To(t *testing.T) {
	for _, n := range some64(7) {
		if got, err := To(Of(n)); got != n || err != api.OK {
			t.Errorf("To of %d: %d, %d", n, got, err)
		}
	}
	for _, a := range some128(8) {
		got, err := To(a)
		switch n := value(a); {
		case n.IsInt64() && (got != n.Int64() || err != api.OK):
			t.Errorf("To(%v): %d, %d", a, got, err)
		case !n.IsInt64() && (got != 0 || err != api.ErrOverflow):
			t.Errorf("To(%v), no number of 64 bits: %d, %d", a, got, err)
		}
	}
}

func TestP1_2ToJustBeyond(t *testing.T) {
	beyond := []api.Wide{
		Add(Of(most), Of(1)),
		Add(Of(least), Of(-1)),
		{Hi: 1, Lo: 5},
		{Hi: -2, Lo: math.MaxUint64},
		{Lo: math.MaxUint64},
		mostWide,
		leastWide,
	}
	for _, a := range beyond {
		if n, err := To(a); n != 0 || err != api.ErrOverflow {
			t.Errorf("To(%v): %d, %d", a, n, err)
		}
	}
}

func TestP1_3AnyOrder(t *testing.T) {
	r := rand.New(rand.NewSource(9))
	l := append(some64(10), most, most, most, least, least)
	want := Sum(l)
	for range 50 {
		r.Shuffle(len(l), func(i, j int) { l[i], l[j] = l[j], l[i] })
		if got := Sum(l); got != want {
			t.Fatalf("Sum(%v): %v, not %v", l, got, want)
		}
	}
}

func TestP1_3AnyOrderOfWide(t *testing.T) {
	l := edges128()
	for i, a := range l {
		for j, b := range l {
			c := l[(i*7+j*3)%len(l)]
			if Add(a, b) != Add(b, a) {
				t.Fatalf("%v, %v: another sum the other way round", a, b)
			}
			if Add(Add(a, b), c) != Add(a, Add(b, c)) {
				t.Fatalf("%v, %v, %v: another sum in another order", a, b, c)
			}
		}
	}
}

func TestP1_3TakenAwayAgain(t *testing.T) {
	l := some128(11)
	for _, a := range l {
		for _, b := range l {
			if got := Add(Add(a, b), Neg(b)); got != a {
				t.Fatalf("%v, with %v added and taken away: %v", a, b, got)
			}
		}
	}
	if n, err := To(Add(Sum([]int64{most, 1}), Of(-1))); n != most || err != api.OK {
		t.Errorf("2^63-1 and 1, less 1: %d, %d", n, err)
	}
}

// What is handed in is neither written into, nor is its spare room.
func TestR3SumLeavesItsList(t *testing.T) {
	all := []int64{5, -7, most, 11, 13}
	l := all[1:3:4]
	if got, want := Sum(l), Add(Of(most), Of(-7)); got != want {
		t.Errorf("%v, not %v", got, want)
	}
	if !slices.Equal(all, []int64{5, -7, most, 11, 13}) {
		t.Errorf("the list has become %v", all)
	}
}
