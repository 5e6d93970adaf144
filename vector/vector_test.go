package vector

import (
	"math"
	"math/big"
	"slices"
	"testing"

	"drover/api"
	"drover/ratio"
)

const top = api.MaxAmount

// good are numbers that a formed vector may have, bad those that it may not.
var (
	good = []int64{0, 1, 2, top/2 - 1, top / 2, top/2 + 1, top - 1, top}
	bad  = []int64{math.MinInt64, -top, -1, top + 1, 2 * top, math.MaxInt64}
)

// strewn makes numbers that look strewn and are the same in each run.
type strewn uint64

func (s *strewn) below(n uint64) uint64 {
	*s = *s*6364136223846793005 + 1442695040888963407
	return uint64(*s>>33) % n
}

func (s *strewn) vector(numbers []int64) api.Vector {
	var v api.Vector
	for i := range v {
		v[i] = numbers[s.below(uint64(len(numbers)))]
	}
	return v
}

func (s *strewn) vectors(count int, numbers []int64) []api.Vector {
	var l []api.Vector
	for range count {
		l = append(l, s.vector(numbers))
	}
	return l
}

// every calls do with each vector of the numbers.
func every(numbers []int64, do func(api.Vector)) {
	for _, a := range numbers {
		for _, b := range numbers {
			for _, c := range numbers {
				for _, d := range numbers {
					do(api.Vector{a, b, c, d})
				}
			}
		}
	}
}

// with is v with n at the place i.
func with(v api.Vector, i int, n int64) api.Vector {
	v[i] = n
	return v
}

// whole tells, by another way than the program's, whether v is formed.
func whole(v api.Vector) bool {
	return slices.Min(v[:]) >= 0 && slices.Max(v[:]) <= top
}

// wantSum is what the chapter asks of a sum, by numbers that have no bound.
func wantSum(l []api.Vector) (api.Vector, api.Errno) {
	var sum api.Vector
	for _, v := range l {
		if !whole(v) {
			return api.Vector{}, api.ErrForm
		}
	}
	for i := range sum {
		n := new(big.Int)
		for _, v := range l {
			n.Add(n, big.NewInt(v[i]))
		}
		if n.Cmp(big.NewInt(top)) > 0 {
			return api.Vector{}, api.ErrOver
		}
		sum[i] = n.Int64()
	}
	return sum, api.OK
}

// wantSub is what the chapter asks of a difference.
func wantSub(a, b api.Vector) (api.Vector, api.Errno) {
	if !whole(a) || !whole(b) {
		return api.Vector{}, api.ErrForm
	}
	d := api.Vector{a[0] - b[0], a[1] - b[1], a[2] - b[2], a[3] - b[3]}
	if slices.Min(d[:]) < 0 {
		return api.Vector{}, api.ErrRange
	}
	return d, api.OK
}

// wantShare is what the chapter asks of a share.
func wantShare(v, all api.Vector, weight int64) (ratio.Ratio, api.Errno) {
	if !whole(v) || !whole(all) {
		return ratio.Ratio{}, api.ErrForm
	}
	if weight < 1 || weight > 1000 {
		return ratio.Ratio{}, api.ErrRange
	}
	var parts []*big.Rat
	for i := range v {
		if all[i] != 0 {
			parts = append(parts, big.NewRat(v[i], all[i]*weight))
		}
	}
	if len(parts) == 0 {
		return ratio.Ratio{N: 0, D: 1}, api.OK
	}
	r := slices.MaxFunc(parts, (*big.Rat).Cmp)
	return ratio.Ratio{N: r.Num().Uint64(), D: r.Denom().Uint64()}, api.OK
}

func checkSum(t *testing.T, l ...api.Vector) {
	t.Helper()
	before := slices.Clone(l)
	want, e := wantSum(l)
	if got, err := Sum(l...); got != want || err != e {
		t.Errorf("Sum%v = %v, %v; want %v, %v", l, got, err, want, e)
	}
	if !slices.Equal(l, before) {
		t.Errorf("Sum changed %v to %v", before, l)
	}
}

func checkAdd(t *testing.T, a, b api.Vector) {
	t.Helper()
	want, e := wantSum([]api.Vector{a, b})
	if got, err := Add(a, b); got != want || err != e {
		t.Errorf("Add(%v, %v) = %v, %v; want %v, %v", a, b, got, err, want, e)
	}
}

func checkSub(t *testing.T, a, b api.Vector) {
	t.Helper()
	want, e := wantSub(a, b)
	if got, err := Sub(a, b); got != want || err != e {
		t.Errorf("Sub(%v, %v) = %v, %v; want %v, %v", a, b, got, err, want, e)
	}
}

func checkShare(t *testing.T, v, all api.Vector, weight int64) {
	t.Helper()
	want, e := wantShare(v, all, weight)
	if got, err := Share(v, all, weight); got != want || err != e {
		t.Errorf("Share(%v, %v, %d) = %v, %v; want %v, %v", v, all, weight, got, err, want, e)
	}
}

// P3.1: formed is what has only numbers of 0 to MaxAmount.
func TestFormed(t *testing.T) {
	for _, x := range []struct {
		v    api.Vector
		want bool
	}{
		{api.Vector{}, true},
		{api.Vector{1, 2, 3, 4}, true},
		{api.Vector{top, top, top, top}, true},
		{api.Vector{0, 0, 0, -1}, false},
		{api.Vector{top + 1, 0, 0, 0}, false},
		{api.Vector{-1, top + 1, -1, top + 1}, false},
	} {
		if Formed(x.v) != x.want {
			t.Errorf("Formed(%v) = %v", x.v, !x.want)
		}
	}
	every(slices.Concat(good, bad), func(v api.Vector) {
		if Formed(v) != whole(v) {
			t.Errorf("Formed(%v) = %v", v, !whole(v))
		}
	})
}

// P3.1: Fits asks each place, of vectors that aren't formed too.
func TestFits(t *testing.T) {
	for _, x := range []struct {
		a, b api.Vector
		want bool
	}{
		{api.Vector{}, api.Vector{}, true},
		{api.Vector{1, 2, 3, 4}, api.Vector{1, 2, 3, 4}, true},
		{api.Vector{1, 2, 3, 4}, api.Vector{2, 2, 4, 4}, true},
		{api.Vector{0, 2, 0, 0}, api.Vector{9, 1, 9, 9}, false},
		{api.Vector{-5, 0, 0, 0}, api.Vector{-4, 0, 0, 0}, true},
		{api.Vector{-4, 0, 0, 0}, api.Vector{-5, 0, 0, 0}, false},
		{api.Vector{math.MinInt64}, api.Vector{math.MaxInt64}, true},
		{api.Vector{math.MaxInt64}, api.Vector{math.MinInt64}, false},
		{api.Vector{top + 1, 0, 0, 0}, api.Vector{top + 2, 0, 0, 0}, true},
	} {
		if Fits(x.a, x.b) != x.want {
			t.Errorf("Fits(%v, %v) = %v", x.a, x.b, !x.want)
		}
	}
}

// P3.1: each place by itself decides Fits, whatever the numbers.
func TestFitsPlaces(t *testing.T) {
	for i := range 4 {
		for _, m := range slices.Concat(good, bad) {
			for _, n := range slices.Concat(good, bad) {
				a, b := with(api.Vector{3, 3, 3, 3}, i, m), with(api.Vector{4, 4, 4, 4}, i, n)
				if Fits(a, b) != (m <= n) {
					t.Errorf("Fits(%v, %v) = %v", a, b, m > n)
				}
			}
		}
	}
}

// P3.1: the first place at which two vectors are unlike decides Cmp.
func TestCmp(t *testing.T) {
	for _, x := range []struct {
		a, b api.Vector
		want int
	}{
		{api.Vector{}, api.Vector{}, 0},
		{api.Vector{1, 2, 3, 4}, api.Vector{1, 2, 3, 4}, 0},
		{api.Vector{1, 0, 0, 0}, api.Vector{0, 9, 9, 9}, 1},
		{api.Vector{0, 9, 9, 9}, api.Vector{1, 0, 0, 0}, -1},
		{api.Vector{1, 1, 9, 9}, api.Vector{1, 2, 0, 0}, -1},
		{api.Vector{1, 1, 5, 0}, api.Vector{1, 1, 2, 9}, 1},
		{api.Vector{1, 1, 1, 0}, api.Vector{1, 1, 1, 9}, -1},
		{api.Vector{math.MinInt64}, api.Vector{math.MaxInt64}, -1},
		{api.Vector{math.MaxInt64}, api.Vector{math.MinInt64}, 1},
		{api.Vector{-1, 0, 0, 0}, api.Vector{0, 0, 0, 0}, -1},
	} {
		if got := Cmp(x.a, x.b); got != x.want {
			t.Errorf("Cmp(%v, %v) = %d, want %d", x.a, x.b, got, x.want)
		}
	}
}

// P3.1: Cmp puts vectors in the order in which they are counted up, digit by digit.
func TestCmpCounted(t *testing.T) {
	var all []api.Vector
	every([]int64{math.MinInt64, -1, 0, math.MaxInt64}, func(v api.Vector) { all = append(all, v) })
	for i, a := range all {
		for j, b := range all {
			if got := Cmp(a, b); got < -1 || got > 1 || (got < 0) != (i < j) || (got > 0) != (i > j) {
				t.Errorf("Cmp(%v, %v) = %d", a, b, got)
			}
		}
	}
}

// P3.2: ordinary sums, and those that just reach and just pass MaxAmount.
func TestAdd(t *testing.T) {
	for _, x := range []struct {
		a, b, want api.Vector
		e          api.Errno
	}{
		{api.Vector{1, 2, 0, 0}, api.Vector{1, 0, 0, 5}, api.Vector{2, 2, 0, 5}, api.OK},
		{api.Vector{}, api.Vector{}, api.Vector{}, api.OK},
		{api.Vector{top - 1, 0, 0, 0}, api.Vector{1, 0, 0, 0}, api.Vector{top, 0, 0, 0}, api.OK},
		{api.Vector{top, 0, 0, 0}, api.Vector{1, 0, 0, 0}, api.Vector{}, api.ErrOver},
		{api.Vector{1, 1, 1, top}, api.Vector{1, 1, 1, top}, api.Vector{}, api.ErrOver},
		{api.Vector{top, top, top, top}, api.Vector{}, api.Vector{top, top, top, top}, api.OK},
		{api.Vector{-1, 0, 0, 0}, api.Vector{1, 0, 0, 0}, api.Vector{}, api.ErrForm},
		{api.Vector{1, 0, 0, 0}, api.Vector{-1, 0, 0, 0}, api.Vector{}, api.ErrForm},
		{api.Vector{top, 0, 0, 0}, api.Vector{1, 0, 0, -1}, api.Vector{}, api.ErrForm},
	} {
		if got, e := Add(x.a, x.b); got != x.want || e != x.e {
			t.Errorf("Add(%v, %v) = %v, %v; want %v, %v", x.a, x.b, got, e, x.want, x.e)
		}
	}
}

// P3.2: ordinary differences, and those that just reach 0 and just fall below it.
func TestSub(t *testing.T) {
	for _, x := range []struct {
		a, b, want api.Vector
		e          api.Errno
	}{
		{api.Vector{2, 2, 0, 5}, api.Vector{1, 0, 0, 5}, api.Vector{1, 2, 0, 0}, api.OK},
		{api.Vector{1, 0, 0, 0}, api.Vector{0, 1, 0, 0}, api.Vector{}, api.ErrRange},
		{api.Vector{}, api.Vector{}, api.Vector{}, api.OK},
		{api.Vector{top, top, top, top}, api.Vector{top, top, top, top}, api.Vector{}, api.OK},
		{api.Vector{top, top, top, top - 1}, api.Vector{top, top, top, top}, api.Vector{}, api.ErrRange},
		{api.Vector{9, 9, 9, 9}, api.Vector{-1, 0, 0, 0}, api.Vector{}, api.ErrForm},
		{api.Vector{top + 1, 0, 0, 0}, api.Vector{1, 0, 0, 0}, api.Vector{}, api.ErrForm},
		{api.Vector{0, 0, 0, 0}, api.Vector{1, 0, 0, -1}, api.Vector{}, api.ErrForm},
	} {
		if got, e := Sub(x.a, x.b); got != x.want || e != x.e {
			t.Errorf("Sub(%v, %v) = %v, %v; want %v, %v", x.a, x.b, got, e, x.want, x.e)
		}
	}
}

// P3.2: each place by itself decides Add and Sub, in the first, the second and both, formed or not.
func TestAddSubPlaces(t *testing.T) {
	numbers := slices.Concat(good, bad)
	for i := range 4 {
		for _, m := range numbers {
			for _, n := range numbers {
				a, b := with(api.Vector{4, 4, 4, 4}, i, m), with(api.Vector{3, 3, 3, 3}, i, n)
				checkAdd(t, a, b)
				checkSub(t, a, b)
			}
		}
	}
}

// P3.2: ErrForm comes ahead of ErrOver and of ErrRange, wherever the two faults stand.
func TestFormFirst(t *testing.T) {
	for i := range 4 {
		for j := range 4 {
			for _, n := range bad {
				full, one := with(api.Vector{}, i, top), with(api.Vector{}, i, 1)
				if i == j {
					continue
				}
				for _, pair := range [][2]api.Vector{{with(full, j, n), one}, {full, with(one, j, n)}} {
					if got, e := Add(pair[0], pair[1]); got != (api.Vector{}) || e != api.ErrForm {
						t.Errorf("Add%v = %v, %v; want ErrForm", pair, got, e)
					}
					if got, e := Sub(pair[1], pair[0]); got != (api.Vector{}) || e != api.ErrForm {
						t.Errorf("Sub(%v, %v) = %v, %v; want ErrForm", pair[1], pair[0], got, e)
					}
				}
			}
		}
	}
}

// P3.2: strewn sums and differences.
func TestAddSubStrewn(t *testing.T) {
	s := strewn(3)
	mostly := append(slices.Repeat(good, 6), bad...)
	for range 50000 {
		a, b := s.vector(good), s.vector([]int64{0, 0, 0, 1, 2, top})
		checkAdd(t, a, b)
		checkSub(t, a, b)
		a, b = s.vector(mostly), s.vector(mostly)
		checkAdd(t, a, b)
		checkSub(t, a, b)
	}
}

// P3.2: a Sum of none, of one, and of many.
func TestSum(t *testing.T) {
	for _, x := range []struct {
		l    []api.Vector
		want api.Vector
		e    api.Errno
	}{
		{nil, api.Vector{}, api.OK},
		{[]api.Vector{}, api.Vector{}, api.OK},
		{[]api.Vector{{1, 2, 3, top}}, api.Vector{1, 2, 3, top}, api.OK},
		{[]api.Vector{{1, 0, 0, 0}, {0, 2, 0, 0}, {0, 0, 3, 4}}, api.Vector{1, 2, 3, 4}, api.OK},
		{[]api.Vector{{top - 2, 0, 0, 0}, {1, 0, 0, 0}, {1, 0, 0, 0}}, api.Vector{top, 0, 0, 0}, api.OK},
		{[]api.Vector{{top - 2, 0, 0, 0}, {2, 0, 0, 0}, {1, 0, 0, 0}}, api.Vector{}, api.ErrOver},
		{[]api.Vector{{0, 0, 0, 1}, {0, 0, 0, top}, {}}, api.Vector{}, api.ErrOver},
		{[]api.Vector{{-1, 0, 0, 0}}, api.Vector{}, api.ErrForm},
		{[]api.Vector{{0, top + 1, 0, 0}}, api.Vector{}, api.ErrForm},
		// A number below 0 behind one that is too great doesn't bring it back.
		{[]api.Vector{{top, 0, 0, 0}, {1, 0, 0, 0}, {-1, 0, 0, 0}}, api.Vector{}, api.ErrForm},
	} {
		if got, e := Sum(x.l...); got != x.want || e != x.e {
			t.Errorf("Sum%v = %v, %v; want %v, %v", x.l, got, e, x.want, x.e)
		}
	}
	if got, e := Sum(); got != (api.Vector{}) || e != api.OK {
		t.Errorf("Sum() = %v, %v", got, e)
	}
}

// P3.2: one that isn't formed is told of in each place of each vector of a Sum, ahead of a sum that is too great.
func TestSumForm(t *testing.T) {
	full := slices.Repeat([]api.Vector{{top, top, top, top}}, 5)
	for _, l := range [][]api.Vector{make([]api.Vector, 5), full} {
		for k := range l {
			for i := range 4 {
				for _, n := range bad {
					wrong := slices.Clone(l)
					wrong[k] = with(wrong[k], i, n)
					if got, e := Sum(wrong...); got != (api.Vector{}) || e != api.ErrForm {
						t.Errorf("Sum%v = %v, %v; want ErrForm", wrong, got, e)
					}
				}
			}
		}
	}
}

// P3.2: a sum that would pass 64 bits, and so come back to what looks formed, is too great all the same.
func TestSumWraps(t *testing.T) {
	l := slices.Repeat([]api.Vector{{top, 0, 0, 0}}, 1<<24)
	if got, e := Sum(l...); got != (api.Vector{}) || e != api.ErrOver {
		t.Errorf("Sum of 2^64 = %v, %v; want ErrOver", got, e)
	}
}

// P3.2: many small vectors just reach MaxAmount, and just pass it.
func TestSumMany(t *testing.T) {
	l := slices.Repeat([]api.Vector{{1 << 30, 1, 0, 7}}, 1<<10)
	checkSum(t, l...)
	if got, e := Sum(l...); got != (api.Vector{top, 1 << 10, 0, 7 << 10}) || e != api.OK {
		t.Errorf("Sum = %v, %v", got, e)
	}
	checkSum(t, append(l, api.Vector{1, 0, 0, 0})...)
	checkSum(t, append([]api.Vector{{1, 0, 0, 0}}, l...)...)
}

// P3.2: strewn Sums, with and without wrong ones.
func TestSumStrewn(t *testing.T) {
	s := strewn(4)
	for range 20000 {
		count := int(s.below(7))
		checkSum(t, s.vectors(count, []int64{0, 1, 2, top / 4, top/4 + 1, top/4 - 1})...)
		checkSum(t, s.vectors(count, append(make([]int64, 60), slices.Concat(good, bad)...))...)
	}
}

// P3.3: ordinary shares, and the edges of the weights and of the places that count.
func TestShare(t *testing.T) {
	nought := ratio.Ratio{N: 0, D: 1}
	for _, x := range []struct {
		v, all api.Vector
		weight int64
		want   ratio.Ratio
		e      api.Errno
	}{
		{api.Vector{2, 3, 9, 0}, api.Vector{10, 10, 0, 4}, 3, ratio.Ratio{N: 1, D: 10}, api.OK},
		{api.Vector{5, 0, 0, 0}, api.Vector{2, 0, 0, 0}, 1, ratio.Ratio{N: 5, D: 2}, api.OK},
		{api.Vector{5, 5, 5, 5}, api.Vector{}, 1, nought, api.OK},
		{api.Vector{}, api.Vector{}, api.MaxWeight, nought, api.OK},
		{api.Vector{}, api.Vector{7, 7, 7, 7}, 5, nought, api.OK},
		{api.Vector{9, 9, 9, 0}, api.Vector{0, 0, 0, 7}, 5, nought, api.OK},
		{api.Vector{4, 0, 0, 0}, api.Vector{4, 0, 0, 0}, 1, ratio.Ratio{N: 1, D: 1}, api.OK},
		{api.Vector{1, 1, 1, 1}, api.Vector{4, 3, 2, 5}, 1, ratio.Ratio{N: 1, D: 2}, api.OK},
		{api.Vector{1, 0, 0, 0}, api.Vector{top, 0, 0, 0}, api.MaxWeight, ratio.Ratio{N: 1, D: top * 1000}, api.OK},
		{api.Vector{top, 0, 0, 0}, api.Vector{1, 0, 0, 0}, 1, ratio.Ratio{N: top, D: 1}, api.OK},
		{api.Vector{top, 0, 0, 0}, api.Vector{top, 0, 0, 0}, api.MaxWeight, ratio.Ratio{N: 1, D: 1000}, api.OK},
		{api.Vector{top - 1, top - 2, 0, 0}, api.Vector{top, top - 1, 0, 0}, 1, ratio.Ratio{N: top - 1, D: top}, api.OK},
		{api.Vector{5, 0, 0, 0}, api.Vector{5, 0, 0, 0}, 0, ratio.Ratio{}, api.ErrRange},
		{api.Vector{5, 0, 0, 0}, api.Vector{5, 0, 0, 0}, api.MaxWeight + 1, ratio.Ratio{}, api.ErrRange},
		{api.Vector{5, 0, 0, 0}, api.Vector{}, -1, ratio.Ratio{}, api.ErrRange},
		{api.Vector{-5, 0, 0, 0}, api.Vector{5, 0, 0, 0}, 0, ratio.Ratio{}, api.ErrForm},
		{api.Vector{5, 0, 0, 0}, api.Vector{5, 0, 0, top + 1}, -1, ratio.Ratio{}, api.ErrForm},
		{api.Vector{0, 0, 0, -1}, api.Vector{}, 1, ratio.Ratio{}, api.ErrForm},
	} {
		if got, e := Share(x.v, x.all, x.weight); got != x.want || e != x.e {
			t.Errorf("Share(%v, %v, %d) = %v, %v; want %v, %v", x.v, x.all, x.weight, got, e, x.want, x.e)
		}
	}
}

// P3.3: each place by itself decides, in v, in all and in both, with each weight, formed or not.
func TestSharePlaces(t *testing.T) {
	weights := []int64{math.MinInt64, -1, 0, 1, 2, 999, 1000, 1001, math.MaxInt64}
	numbers := slices.Concat(good, bad)
	for i := range 4 {
		for _, m := range numbers {
			for _, n := range numbers {
				for _, w := range weights {
					checkShare(t, with(api.Vector{}, i, m), with(api.Vector{}, i, n), w)
					checkShare(t, with(api.Vector{1, 1, 1, 1}, i, m), with(api.Vector{2, 3, 4, 5}, i, n), w)
				}
			}
		}
	}
}

// P3.3: strewn shares.
func TestShareStrewn(t *testing.T) {
	s := strewn(5)
	numbers := []int64{0, 0, 1, 2, 3, 4, 6, 12, 1 << 20, top / 3, top - 1, top}
	for range 50000 {
		checkShare(t, s.vector(numbers), s.vector(numbers), int64(s.below(1002)))
	}
}
