package ratio

import (
	"math"
	"math/big"
	"testing"

	"drover/api"
)

const top = math.MaxUint64

// edges are numbers at the bounds, and the divisors of 2^64 - 1, so that much is divided out of what is reckoned.
var edges = []uint64{
	0, 1, 2, 3, 4, 5, 6, 17, 257, 65537, 6700417,
	1<<32 - 1, 1 << 32, 1<<32 + 1, 1 << 63, 1<<63 - 1, 1<<63 + 1,
	top / 3, top / 5, top / 2, top - 1, top,
}

// binary is a call that makes a ratio of two.
type binary struct {
	name string
	call func(a, b Ratio) (Ratio, api.Errno)
	want func(a, b *big.Rat) *big.Rat
}

func binaries() []binary {
	return []binary{
		{"Add", Add, func(a, b *big.Rat) *big.Rat { return new(big.Rat).Add(a, b) }},
		{"Sub", Sub, func(a, b *big.Rat) *big.Rat { return new(big.Rat).Sub(a, b) }},
		{"Mul", Mul, func(a, b *big.Rat) *big.Rat { return new(big.Rat).Mul(a, b) }},
	}
}

func of(n uint64) *big.Int {
	return new(big.Int).SetUint64(n)
}

func rat(r Ratio) *big.Rat {
	return new(big.Rat).SetFrac(of(r.N), of(r.D))
}

// lower is what the chapter asks of a sum, a difference or a product that is x.
func lower(x *big.Rat) (Ratio, api.Errno) {
	if x.Sign() < 0 {
		return Ratio{}, api.ErrRange
	}
	if !x.Num().IsUint64() || !x.Denom().IsUint64() {
		return Ratio{}, api.ErrOver
	}
	return Ratio{x.Num().Uint64(), x.Denom().Uint64()}, api.OK
}

// every calls do with each ratio whose N and D are of the numbers; a D of 0 is among them if it is among the numbers.
func every(numbers []uint64, do func(Ratio)) {
	for _, n := range numbers {
		for _, d := range numbers {
			do(Ratio{n, d})
		}
	}
}

// upTo are the numbers from 0 to n - 1.
func upTo(n uint64) []uint64 {
	var l []uint64
	for i := range n {
		l = append(l, i)
	}
	return l
}

// P2.1: ErrRange and no ratio if d is 0; else n / d, lowest.
func TestNew(t *testing.T) {
	for _, x := range []struct {
		n, d uint64
		want Ratio
		e    api.Errno
	}{
		{6, 4, Ratio{3, 2}, api.OK},
		{3, 2, Ratio{3, 2}, api.OK},
		{0, 7, Ratio{0, 1}, api.OK},
		{0, 1, Ratio{0, 1}, api.OK},
		{0, top, Ratio{0, 1}, api.OK},
		{top, top, Ratio{1, 1}, api.OK},
		{top, 1, Ratio{top, 1}, api.OK},
		{1, top, Ratio{1, top}, api.OK},
		{top, top - 1, Ratio{top, top - 1}, api.OK},
		{top, 15, Ratio{top / 15, 1}, api.OK},
		{15, top, Ratio{1, top / 15}, api.OK},
		{1 << 63, 3 << 62, Ratio{2, 3}, api.OK},
		{0, 0, Ratio{}, api.ErrRange},
		{1, 0, Ratio{}, api.ErrRange},
		{top, 0, Ratio{}, api.ErrRange},
	} {
		if r, e := New(x.n, x.d); r != x.want || e != x.e {
			t.Errorf("New(%d, %d) = %v, %d", x.n, x.d, r, e)
		}
	}
}

// P2.1: New against the library's great fractions.
func TestNewAgainstBig(t *testing.T) {
	check := func(r Ratio) {
		want, wantE := Ratio{}, api.ErrRange
		if r.D != 0 {
			want, wantE = lower(rat(r))
		}
		if got, e := New(r.N, r.D); got != want || e != wantE {
			t.Errorf("New(%d, %d) = %v, %d, not %v, %d", r.N, r.D, got, e, want, wantE)
		}
	}
	every(edges, check)
	every(upTo(60), check)
}

// P2.2: less, as great, greater, exactly, though the products pass 64 bits.
func TestCmp(t *testing.T) {
	for _, x := range []struct {
		a, b Ratio
		want int
	}{
		{Ratio{1, 3}, Ratio{2, 6}, 0},
		{Ratio{1, 3}, Ratio{1, 2}, -1},
		{Ratio{1, 2}, Ratio{1, 3}, 1},
		{Ratio{0, 1}, Ratio{0, top}, 0},
		{Ratio{0, 5}, Ratio{1, top}, -1},
		{Ratio{top, 1}, Ratio{top - 1, 1}, 1},
		{Ratio{top, 1}, Ratio{top, 1}, 0},
		{Ratio{top, top}, Ratio{1, 1}, 0},
		{Ratio{1, top}, Ratio{1, top - 1}, -1},
		{Ratio{top, top - 1}, Ratio{top - 1, top - 2}, -1},
		{Ratio{top - 1, top}, Ratio{top - 2, top - 1}, 1},
		{Ratio{top / 3, top}, Ratio{1, 3}, 0},
		{Ratio{1 << 63, 1}, Ratio{1, 1}, 1},
		{Ratio{1 << 32, 1}, Ratio{1, 1 << 32}, 1},
	} {
		if c, e := Cmp(x.a, x.b); c != x.want || e != api.OK {
			t.Errorf("Cmp(%v, %v) = %d, %d", x.a, x.b, c, e)
		}
		if c, e := Cmp(x.b, x.a); c != -x.want || e != api.OK {
			t.Errorf("Cmp(%v, %v) = %d, %d", x.b, x.a, c, e)
		}
	}
}

// P2.2 and P2.3: a D of 0 in the first, the second, both is ErrForm, ahead of all else, and beside it stands nothing.
func TestNotFormed(t *testing.T) {
	whole := []Ratio{{0, 1}, {1, 1}, {1, 2}, {top, 1}, {1, top}, {top, top}}
	broken := []Ratio{{0, 0}, {1, 0}, {top, 0}}
	check := func(a, b Ratio) {
		if c, e := Cmp(a, b); c != 0 || e != api.ErrForm {
			t.Errorf("Cmp(%v, %v) = %d, %d", a, b, c, e)
		}
		for _, f := range binaries() {
			if r, e := f.call(a, b); r != (Ratio{}) || e != api.ErrForm {
				t.Errorf("%s(%v, %v) = %v, %d", f.name, a, b, r, e)
			}
		}
	}
	for _, x := range broken {
		for _, y := range whole {
			check(x, y)
			check(y, x)
		}
		for _, y := range broken {
			check(x, y)
		}
	}
}

// P2.3: sums, and those whose lowest form just fits or just passes 2^64 - 1.
func TestAdd(t *testing.T) {
	for _, x := range []struct {
		a, b, want Ratio
		e          api.Errno
	}{
		{Ratio{1, 2}, Ratio{1, 3}, Ratio{5, 6}, api.OK},
		{Ratio{2, 4}, Ratio{3, 9}, Ratio{5, 6}, api.OK},
		{Ratio{1, 2}, Ratio{1, 2}, Ratio{1, 1}, api.OK},
		{Ratio{1, 6}, Ratio{1, 10}, Ratio{4, 15}, api.OK},
		{Ratio{0, 5}, Ratio{0, 7}, Ratio{0, 1}, api.OK},
		{Ratio{0, top}, Ratio{top, 1}, Ratio{top, 1}, api.OK},
		{Ratio{top - 1, 1}, Ratio{1, 1}, Ratio{top, 1}, api.OK},
		{Ratio{top, 1}, Ratio{1, 1}, Ratio{}, api.ErrOver},
		{Ratio{1, top}, Ratio{1, top}, Ratio{2, top}, api.OK},
		{Ratio{1, top}, Ratio{1, top - 1}, Ratio{}, api.ErrOver},
		{Ratio{top, 6}, Ratio{top, 6}, Ratio{top / 3, 1}, api.OK},
		{Ratio{top, 2}, Ratio{top, 2}, Ratio{top, 1}, api.OK},
		{Ratio{top, 2}, Ratio{top - 2, 2}, Ratio{top - 1, 1}, api.OK},
		{Ratio{top - 1, 2}, Ratio{1, 2}, Ratio{top, 2}, api.OK},
		{Ratio{top, 2}, Ratio{1, 1}, Ratio{}, api.ErrOver},
		{Ratio{1, 1 << 32}, Ratio{1, 1<<32 - 1}, Ratio{1<<33 - 1, (1<<32 - 1) << 32}, api.OK},
		{Ratio{1, 1 << 32}, Ratio{1, 1<<32 + 1}, Ratio{}, api.ErrOver},
		{Ratio{1<<32 - 1, 1}, Ratio{1, 1<<32 + 1}, Ratio{}, api.ErrOver},
		{Ratio{1<<32 - 2, 1}, Ratio{1<<32 - 1, 1<<32 + 1}, Ratio{top - 2, 1<<32 + 1}, api.OK},
		{Ratio{top, top}, Ratio{top - 1, top - 1}, Ratio{2, 1}, api.OK},
		{Ratio{top, top - 1}, Ratio{top - 2, top - 1}, Ratio{2, 1}, api.OK},
		{Ratio{top, 2}, Ratio{top, 3}, Ratio{}, api.ErrOver},
	} {
		checkBinary(t, binaries()[0], x.a, x.b, x.want, x.e)
		checkBinary(t, binaries()[0], x.b, x.a, x.want, x.e)
	}
}

// P2.3: differences, and those whose lowest form just fits or just passes 2^64 - 1.
func TestSub(t *testing.T) {
	for _, x := range []struct {
		a, b, want Ratio
		e          api.Errno
	}{
		{Ratio{1, 2}, Ratio{1, 3}, Ratio{1, 6}, api.OK},
		{Ratio{1, 3}, Ratio{1, 2}, Ratio{}, api.ErrRange},
		{Ratio{1, 3}, Ratio{2, 6}, Ratio{0, 1}, api.OK},
		{Ratio{top, top}, Ratio{2, 2}, Ratio{0, 1}, api.OK},
		{Ratio{1, top}, Ratio{0, 3}, Ratio{1, top}, api.OK},
		{Ratio{0, 3}, Ratio{1, top}, Ratio{}, api.ErrRange},
		{Ratio{0, 3}, Ratio{0, 4}, Ratio{0, 1}, api.OK},
		{Ratio{top, 1}, Ratio{1, 1}, Ratio{top - 1, 1}, api.OK},
		{Ratio{top, 1}, Ratio{1, 2}, Ratio{}, api.ErrOver},
		{Ratio{top, 2}, Ratio{1, 2}, Ratio{top / 2, 1}, api.OK},
		{Ratio{1, top - 1}, Ratio{1, top}, Ratio{}, api.ErrOver},
		// What ErrRange says comes ahead of ErrOver.
		{Ratio{1, top}, Ratio{1, top - 1}, Ratio{}, api.ErrRange},
		{Ratio{2, top}, Ratio{1, top}, Ratio{1, top}, api.OK},
		{Ratio{1, 1<<32 - 1}, Ratio{1, 1 << 32}, Ratio{1, (1<<32 - 1) << 32}, api.OK},
		{Ratio{1, 1 << 32}, Ratio{1, 1<<32 + 1}, Ratio{}, api.ErrOver},
		{Ratio{1, 1}, Ratio{1, top}, Ratio{top - 1, top}, api.OK},
		{Ratio{2, 1}, Ratio{1, top}, Ratio{}, api.ErrOver},
		{Ratio{top, 6}, Ratio{top / 3, 6}, Ratio{top / 3, 3}, api.OK},
	} {
		checkBinary(t, binaries()[1], x.a, x.b, x.want, x.e)
	}
}

// P2.3: products, and those whose lowest form just fits or just passes 2^64 - 1.
func TestMul(t *testing.T) {
	for _, x := range []struct {
		a, b, want Ratio
		e          api.Errno
	}{
		{Ratio{2, 3}, Ratio{3, 4}, Ratio{1, 2}, api.OK},
		{Ratio{4, 6}, Ratio{9, 12}, Ratio{1, 2}, api.OK},
		{Ratio{0, top}, Ratio{top, 3}, Ratio{0, 1}, api.OK},
		{Ratio{0, top}, Ratio{0, top}, Ratio{0, 1}, api.OK},
		{Ratio{top, 1}, Ratio{1, top}, Ratio{1, 1}, api.OK},
		{Ratio{top, top - 1}, Ratio{top - 1, top}, Ratio{1, 1}, api.OK},
		{Ratio{top, 1}, Ratio{1, 1}, Ratio{top, 1}, api.OK},
		{Ratio{top, 1}, Ratio{2, 1}, Ratio{}, api.ErrOver},
		{Ratio{1, top}, Ratio{1, 2}, Ratio{}, api.ErrOver},
		{Ratio{top, 2}, Ratio{2, 1}, Ratio{top, 1}, api.OK},
		{Ratio{1<<32 - 1, 1}, Ratio{1<<32 + 1, 1}, Ratio{top, 1}, api.OK},
		{Ratio{1, 1<<32 - 1}, Ratio{1, 1<<32 + 1}, Ratio{1, top}, api.OK},
		{Ratio{1 << 32, 1}, Ratio{1 << 32, 1}, Ratio{}, api.ErrOver},
		{Ratio{1, 1 << 32}, Ratio{1, 1 << 32}, Ratio{}, api.ErrOver},
		{Ratio{1 << 32, 3}, Ratio{1 << 32, 2}, Ratio{1 << 63, 3}, api.OK},
	} {
		checkBinary(t, binaries()[2], x.a, x.b, x.want, x.e)
		checkBinary(t, binaries()[2], x.b, x.a, x.want, x.e)
	}
}

func checkBinary(t *testing.T, f binary, a, b, want Ratio, e api.Errno) {
	t.Helper()
	if r, got := f.call(a, b); r != want || got != e {
		t.Errorf("%s(%v, %v) = %v, %d, not %v, %d", f.name, a, b, r, got, want, e)
	}
}

// checkPairs holds all calls on two ratios against the library's great fractions, over all pairs that the numbers make.
func checkPairs(t *testing.T, numbers []uint64) {
	var ratios []Ratio
	var rats []*big.Rat
	every(numbers, func(r Ratio) {
		if r.D != 0 {
			ratios, rats = append(ratios, r), append(rats, rat(r))
		}
	})
	for i, a := range ratios {
		for j, b := range ratios {
			if c, e := Cmp(a, b); c != rats[i].Cmp(rats[j]) || e != api.OK {
				t.Errorf("Cmp(%v, %v) = %d, %d", a, b, c, e)
			}
			for _, f := range binaries() {
				want, e := lower(f.want(rats[i], rats[j]))
				checkBinary(t, f, a, b, want, e)
			}
		}
	}
}

// P2.2 and P2.3: of all small ratios.
func TestAgainstBigSmall(t *testing.T) {
	checkPairs(t, upTo(14))
}

// P2.2 and P2.3: of ratios at the bounds of 64 bits.
func TestAgainstBigEdges(t *testing.T) {
	checkPairs(t, edges)
}

// P2.3: sums, differences and products of what a fixed rule strews over all 64 bits, with common divisors of many sizes.
func TestAgainstBigStrewn(t *testing.T) {
	seed := uint64(1)
	next := func() uint64 {
		seed = seed*6364136223846793005 + 1442695040888963407
		return seed >> (seed >> 58)
	}
	for range 50000 {
		g, h := next()>>32|1, next()>>32|1
		a := Ratio{(next() >> 32) * g, (next()>>32 | 1) * h}
		b := Ratio{(next() >> 32) * h, (next()>>32 | 1) * g}
		if h&2 == 0 {
			b.D = (next()>>32 | 1) * h
		}
		if a.D == 0 || b.D == 0 {
			t.Fatal("the rule made a D of 0")
		}
		for _, f := range binaries() {
			want, e := lower(f.want(rat(a), rat(b)))
			checkBinary(t, f, a, b, want, e)
		}
	}
}

// P2.4: Cmp is a total order, and what it answers is the same for ratios made lowest or widened.
func TestOrder(t *testing.T) {
	numbers := []uint64{0, 1, 2, 3, 4, 6, 1 << 63, top / 3, top - 1, top}
	var ratios []Ratio
	every(numbers, func(r Ratio) {
		if r.D != 0 {
			ratios = append(ratios, r)
		}
	})
	order := func(a, b Ratio) int {
		c, e := Cmp(a, b)
		if e != api.OK || c < -1 || c > 1 {
			t.Fatalf("Cmp(%v, %v) = %d, %d", a, b, c, e)
		}
		return c
	}
	for _, a := range ratios {
		if order(a, a) != 0 {
			t.Errorf("%v isn't as great as itself", a)
		}
		low, _ := New(a.N, a.D)
		if order(a, low) != 0 {
			t.Errorf("%v isn't as great as %v", a, low)
		}
		for _, b := range ratios {
			if order(a, b) != -order(b, a) {
				t.Errorf("%v and %v are not turned about", a, b)
			}
			if order(a, b) != order(low, b) {
				t.Errorf("%v and %v stand to %v differently", a, low, b)
			}
			for _, c := range ratios {
				if order(a, b) <= 0 && order(b, c) <= 0 && order(a, c) > 0 {
					t.Errorf("%v, %v, %v go round", a, b, c)
				}
			}
		}
	}
}
