package fixed_test

import (
	"math"
	"math/big"
	"testing"

	"breccia/api"
	"breccia/fixed"
)

const (
	one = api.One
	top = api.MaxFixed
)

// edges are the powers of two of an int and those beside them, of both signs, with the bounds and some plain numbers.
func edges() []int {
	l := []int{0, 12345, 3*one + 5, one + one/2, 46341 * one, 987654321012, math.MaxInt, math.MinInt, math.MinInt + 1}
	for k := range 63 {
		for d := -1; d <= 1; d++ {
			l = append(l, 1<<k+d, -(1<<k)+d)
		}
	}
	return l
}

// few are edges enough for what takes three numbers.
func few() []int {
	return []int{math.MinInt, -top - 1, -top, 1 - top, -one - 1, -2, -1, 0, 1, 3, one, 5*one - 1, top - 1, top, top + 1, math.MaxInt}
}

// within is Cut, told by comparing.
func within(n int) int {
	if n > top {
		return top
	}
	if n < -top {
		return -top
	}
	return n
}

// rounded is a over b, rounded down and cut.
func rounded(a, b *big.Int) int {
	if b.Sign() < 0 {
		a, b = new(big.Int).Neg(a), new(big.Int).Neg(b)
	}
	q := new(big.Int).Div(a, b) // b is above 0, so Div rounds down
	if q.Cmp(big.NewInt(top)) > 0 {
		return top
	}
	if q.Cmp(big.NewInt(-top)) < 0 {
		return -top
	}
	return int(q.Int64())
}

func times(a, b int) *big.Int {
	return new(big.Int).Mul(big.NewInt(int64(a)), big.NewInt(int64(b)))
}

// P1.1: Cut.
func TestCut(t *testing.T) {
	for _, c := range [][2]int{{0, 0}, {7, 7}, {-7, -7}, {top - 1, top - 1}, {top, top}, {top + 1, top}, {-top + 1, -top + 1}, {-top, -top}, {-top - 1, -top}, {math.MaxInt, top}, {math.MinInt, -top}} {
		if got := fixed.Cut(c[0]); got != c[1] {
			t.Errorf("Cut(%d) = %d, want %d", c[0], got, c[1])
		}
	}
}

// P1.1: Add, Sub, Sum, with plain numbers, at the bounds and beyond.
func TestAddSubSum(t *testing.T) {
	for _, c := range []struct {
		a, b, add, sub, sum int
		e                   api.Errno
	}{
		{3, 5, 8, -2, 8, api.OK},
		{-one, one / 2, -one / 2, -one - one/2, -one / 2, api.OK},
		{0, 0, 0, 0, 0, api.OK},
		{top, 0, top, top, top, api.OK},
		{top, 1, top, top - 1, 0, api.ErrRange},
		{top - 1, 1, top, top - 2, top, api.OK},
		{-top, -1, -top, -top + 1, 0, api.ErrRange},
		{-top, 1, -top + 1, -top, -top + 1, api.OK},
		{-top + 1, -1, -top, -top + 2, -top, api.OK},
		{top, -top, 0, top, 0, api.OK},
		{math.MaxInt, -1, top - 1, top, top - 1, api.OK},
		{math.MaxInt, math.MinInt, 0, top, 0, api.OK},
		{math.MinInt, math.MinInt, -top, 0, 0, api.ErrRange},
		{math.MaxInt, math.MaxInt, top, 0, 0, api.ErrRange},
		{5, math.MinInt, -top + 5, top, -top + 5, api.OK},
	} {
		if got := fixed.Add(c.a, c.b); got != c.add {
			t.Errorf("Add(%d, %d) = %d, want %d", c.a, c.b, got, c.add)
		}
		if got := fixed.Sub(c.a, c.b); got != c.sub {
			t.Errorf("Sub(%d, %d) = %d, want %d", c.a, c.b, got, c.sub)
		}
		if got, e := fixed.Sum(c.a, c.b); got != c.sum || e != c.e {
			t.Errorf("Sum(%d, %d) = %d, %d, want %d, %d", c.a, c.b, got, e, c.sum, c.e)
		}
	}
}

// P1.1: Add, Sub and Sum of all edges are those of the numbers that are cut first.
func TestAddSubSumOfEdges(t *testing.T) {
	for _, a := range edges() {
		for _, b := range edges() {
			add, sub := within(a)+within(b), within(a)-within(b)
			if got := fixed.Add(a, b); got != within(add) {
				t.Fatalf("Add(%d, %d) = %d", a, b, got)
			}
			if got := fixed.Sub(a, b); got != within(sub) {
				t.Fatalf("Sub(%d, %d) = %d", a, b, got)
			}
			want, e := add, api.OK
			if add != within(add) {
				want, e = 0, api.ErrRange
			}
			if got, ge := fixed.Sum(a, b); got != want || ge != e {
				t.Fatalf("Sum(%d, %d) = %d, %d", a, b, got, ge)
			}
		}
	}
}

// P1.1: Mul, with plain numbers, below 0, at the bounds and beyond.
func TestMul(t *testing.T) {
	for _, c := range [][3]int{
		{3 * one, 2 * one, 6 * one}, {-3 * one, 2 * one, -6 * one}, {-3 * one, -2 * one, 6 * one}, {one / 2, one / 2, one / 4},
		{0, top, 0}, {0, -top, 0}, {-5, 0, 0},
		{-1, 1, -1}, {1, -1, -1}, {1, 1, 0}, {-1, -1, 0}, {-one / 2, 3, -2}, {one / 2, 3, 1}, {-one, 3, -3},
		{top, one, top}, {-top, one, -top}, {top, one + 1, top}, {-top, one + 1, -top}, {top, -one, -top}, {-top, -one, top},
		{1 << 40, 1 << 23, top}, {1 << 40, 1<<23 - 1, top - 1<<24}, {1 << 40, 1<<23 + 1, top}, {-1 << 40, 1<<23 + 1, -top},
		{top, one - 1, top - 1<<31}, {-top + 1, one, -top + 1}, {top, top, top}, {-top, -top, top}, {top, -top, -top},
		{math.MaxInt, one / 2, top / 2}, {math.MinInt, one / 2, -top / 2}, {math.MinInt, math.MinInt, top}, {math.MaxInt, math.MinInt, -top}, {math.MinInt, 1, -1 << 31},
	} {
		if got := fixed.Mul(c[0], c[1]); got != c[2] {
			t.Errorf("Mul(%d, %d) = %d, want %d", c[0], c[1], got, c[2])
		}
	}
}

// P1.1: Div, with plain numbers, by 0, below 0, at the bounds and beyond.
func TestDiv(t *testing.T) {
	for _, c := range []struct {
		a, b, n int
		e       api.Errno
	}{
		{one, 2 * one, one / 2, api.OK}, {6 * one, -3 * one, -2 * one, api.OK}, {-3 * one, -2 * one, one + one/2, api.OK},
		{7, 0, 0, api.ErrArg}, {0, 0, 0, api.ErrArg}, {math.MinInt, 0, 0, api.ErrArg}, {math.MaxInt, 0, 0, api.ErrArg},
		{0, 5, 0, api.OK}, {0, -5, 0, api.OK}, {0, math.MinInt, 0, api.OK},
		{1, 2 * one, 0, api.OK}, {-1, 2 * one, -1, api.OK}, {1, -2 * one, -1, api.OK}, {-1, -2 * one, 0, api.OK},
		{1, 3, one / 3, api.OK}, {-1, 3, -one/3 - 1, api.OK}, {1, -3, -one/3 - 1, api.OK}, {-3, 3, -one, api.OK},
		{top, one, top, api.OK}, {-top, one, -top, api.OK}, {top, -one, -top, api.OK}, {-top, -one, top, api.OK},
		{top, 1, top, api.OK}, {-top, 1, -top, api.OK}, {top, -1, -top, api.OK}, {-top, -1, top, api.OK},
		{top, one - 1, top, api.OK}, {-top, one - 1, -top, api.OK}, {top - 1, one, top - 1, api.OK},
		{1 << 31, 1, top, api.OK}, {1<<31 + 1, 1, top, api.OK}, {1<<31 - 1, 1, top - one, api.OK}, {-1<<31 - 1, 1, -top, api.OK},
		{top, top, one, api.OK}, {-top, top, -one, api.OK}, {math.MaxInt, math.MinInt, -one, api.OK}, {math.MinInt, math.MinInt, one, api.OK},
		{top, math.MaxInt, one, api.OK}, {1, math.MaxInt, 0, api.OK}, {-1, math.MaxInt, -1, api.OK}, {math.MinInt, 2 * one, -top / 2, api.OK},
	} {
		if got, e := fixed.Div(c.a, c.b); got != c.n || e != c.e {
			t.Errorf("Div(%d, %d) = %d, %d, want %d, %d", c.a, c.b, got, e, c.n, c.e)
		}
	}
}

// P1.1: Mul and Div of all edges are those of numbers without bounds, rounded down and cut.
func TestMulDivOfEdges(t *testing.T) {
	unit := big.NewInt(one)
	for _, a := range edges() {
		for _, b := range edges() {
			if got, want := fixed.Mul(a, b), rounded(times(within(a), within(b)), unit); got != want {
				t.Fatalf("Mul(%d, %d) = %d, want %d", a, b, got, want)
			}
			if b == 0 {
				continue
			}
			want := rounded(times(within(a), one), big.NewInt(int64(within(b))))
			if got, e := fixed.Div(a, b); got != want || e != api.OK {
				t.Fatalf("Div(%d, %d) = %d, %d, want %d", a, b, got, e, want)
			}
		}
	}
}

// P1.1: Floor and Frac, below 0, at the bounds and beyond.
func TestFloorFrac(t *testing.T) {
	for _, c := range [][3]int{
		{0, 0, 0}, {1, 0, 1}, {one - 1, 0, 65535}, {one, 1, 0}, {3*one + 5, 3, 5},
		{-1, -1, 65535}, {-one + 1, -1, 1}, {-one, -1, 0}, {-one - 1, -2, 65535},
		{top, 1 << 31, 0}, {top - 1, 1<<31 - 1, 65535}, {top + 1, 1 << 31, 0}, {math.MaxInt, 1 << 31, 0},
		{-top, -1 << 31, 0}, {-top + 1, -1 << 31, 1}, {-top - 1, -1 << 31, 0}, {math.MinInt, -1 << 31, 0},
	} {
		if got := fixed.Floor(c[0]); got != c[1] {
			t.Errorf("Floor(%d) = %d, want %d", c[0], got, c[1])
		}
		if got := fixed.Frac(c[0]); got != c[2] {
			t.Errorf("Frac(%d) = %d, want %d", c[0], got, c[2])
		}
	}
}

// P1.1: Of, at the bounds and beyond, where the product would be no int.
func TestOf(t *testing.T) {
	for _, c := range [][2]int{
		{0, 0}, {1, one}, {-3, -3 * one}, {1<<31 - 1, top - one}, {1 << 31, top}, {1<<31 + 1, top}, {-1<<31 + 1, -top + one}, {-1 << 31, -top}, {-1<<31 - 1, -top},
		{1 << 47, top}, {1<<48 + 1, top}, {-1<<48 - 1, -top}, {math.MaxInt, top}, {math.MinInt, -top},
	} {
		if got := fixed.Of(c[0]); got != c[1] {
			t.Errorf("Of(%d) = %d, want %d", c[0], got, c[1])
		}
	}
}

// P1.1: Toward.
func TestToward(t *testing.T) {
	for _, c := range [][4]int{
		{5, 9, 3, 8}, {5, 9, 4, 9}, {5, 9, 30, 9}, {5, -9, 3, 2}, {5, -9, 14, -9}, {5, -9, 30, -9}, {-5, 9, 6, 1}, {5, 5, 3, 5},
		{5, 9, 0, 5}, {5, -9, 0, 5}, {5, 9, -1, 5}, {5, -9, -1, 5}, {5, 9, math.MinInt, 5}, {5, -9, math.MinInt, 5},
		{-top, top, math.MaxInt, 0}, {top, -top, math.MaxInt, 0}, {math.MinInt, math.MaxInt, top, 0}, {math.MaxInt, math.MinInt, 1, top - 1}, {math.MinInt, 0, 1, -top + 1},
		{top - 1, math.MaxInt, 9, top}, {-top + 1, math.MinInt, 9, -top}, {0, math.MaxInt, math.MaxInt, top}, {math.MaxInt, math.MaxInt, 0, top}, {math.MinInt, 7, -1, -top},
	} {
		if got := fixed.Toward(c[0], c[1], c[2]); got != c[3] {
			t.Errorf("Toward(%d, %d, %d) = %d, want %d", c[0], c[1], c[2], got, c[3])
		}
	}
}

// P1.1: Toward never leaves what is between both, and goes by all that it may, or arrives.
func TestTowardOfEdges(t *testing.T) {
	for _, n := range few() {
		for _, to := range few() {
			for _, by := range few() {
				from, goal, most := within(n), within(to), within(by)
				if most < 0 {
					most = 0
				}
				want := goal
				if goal-from > most {
					want = from + most
				} else if from-goal > most {
					want = from - most
				}
				if got := fixed.Toward(n, to, by); got != want {
					t.Fatalf("Toward(%d, %d, %d) = %d, want %d", n, to, by, got, want)
				}
			}
		}
	}
}

// P1.2: From, of plain floats, those below 0, very small ones, those at and beyond the bounds, infinite ones and NaN.
func TestFrom(t *testing.T) {
	const small = math.SmallestNonzeroFloat64
	bound := float64(1 << 31)
	for _, c := range []struct {
		f float64
		n int
		e api.Errno
	}{
		{0, 0, api.OK}, {math.Copysign(0, -1), 0, api.OK}, {1.5, one + one/2, api.OK}, {-1.5, -one - one/2, api.OK}, {-3, -3 * one, api.OK},
		{1.0 / 65536, 1, api.OK}, {1.0 / 131072, 0, api.OK}, {-1.0 / 131072, -1, api.OK}, {-1.0 / 65536, -1, api.OK}, {-3.0 / 131072, -2, api.OK}, {3.0 / 131072, 1, api.OK},
		{small, 0, api.OK}, {-small, -1, api.OK}, {0x1p-1022, 0, api.OK}, {-0x1p-1022, -1, api.OK},
		{bound, top, api.OK}, {-bound, -top, api.OK}, {math.Nextafter(bound, 0), top - 1, api.OK}, {math.Nextafter(-bound, 0), -top, api.OK}, {bound - 1.0/65536, top - 1, api.OK},
		{math.Nextafter(bound, math.Inf(1)), top, api.ErrRange}, {math.Nextafter(-bound, math.Inf(-1)), -top, api.ErrRange}, {bound + 0.5, top, api.ErrRange}, {-bound - 0.5, -top, api.ErrRange},
		{1e30, top, api.ErrRange}, {-1e30, -top, api.ErrRange}, {math.MaxFloat64, top, api.ErrRange}, {-math.MaxFloat64, -top, api.ErrRange},
		{math.Inf(1), top, api.ErrRange}, {math.Inf(-1), -top, api.ErrRange}, {math.NaN(), 0, api.ErrArg}, {math.Copysign(math.NaN(), -1), 0, api.ErrArg},
	} {
		if got, e := fixed.From(c.f); got != c.n || e != c.e {
			t.Errorf("From(%g) = %d, %d, want %d, %d", c.f, got, e, c.n, c.e)
		}
	}
}

// fromExact is From, worked out by fractions; f is no NaN and not infinite.
func fromExact(f float64) (int, api.Errno) {
	r := new(big.Rat).SetFloat64(f)
	r.Mul(r, big.NewRat(one, 1))
	n := rounded(r.Num(), r.Denom())
	if bound := big.NewRat(top, 1); r.Cmp(bound) > 0 || r.Cmp(bound.Neg(bound)) < 0 {
		return n, api.ErrRange
	}
	return n, api.OK
}

// P1.2: From, of floats of every size.
func TestFromOfEverySize(t *testing.T) {
	for size := range uint64(2047) {
		for _, digits := range []uint64{0, 1, 0x5555555555555, 0x8000000000000, 0xfffffffffffff} {
			for sign := range uint64(2) {
				f := math.Float64frombits(sign<<63 | size<<52 | digits)
				want, e := fromExact(f)
				if got, ge := fixed.From(f); got != want || ge != e {
					t.Fatalf("From(%g) = %d, %d, want %d, %d", f, got, ge, want, e)
				}
			}
		}
	}
}

// P1.2: Float is what the number, cut, means, with no digit lost.
func TestFloat(t *testing.T) {
	for _, c := range []struct {
		n int
		f float64
	}{
		{0, 0}, {one, 1}, {-one / 2, -0.5}, {1, 1.0 / 65536}, {-1, -1.0 / 65536}, {3*one + one/4, 3.25},
		{top, 1 << 31}, {top - 1, 1<<31 - 1.0/65536}, {-top, -1 << 31}, {-top + 1, -1<<31 + 1.0/65536},
		{top + 1, 1 << 31}, {-top - 1, -1 << 31}, {math.MaxInt, 1 << 31}, {math.MinInt, -1 << 31},
	} {
		if got := fixed.Float(c.n); got != c.f {
			t.Errorf("Float(%d) = %g, want %g", c.n, got, c.f)
		}
	}
	for _, n := range edges() {
		got := new(big.Rat).SetFloat64(fixed.Float(n))
		if got.Cmp(big.NewRat(int64(within(n)), one)) != 0 {
			t.Fatalf("Float(%d) = %v", n, got)
		}
	}
	if math.Signbit(fixed.Float(0)) {
		t.Error("Float(0) is below 0")
	}
}

// P1.3: From of Float is the number, cut.
func TestFromOfFloat(t *testing.T) {
	for _, n := range edges() {
		if got, e := fixed.From(fixed.Float(n)); got != within(n) || e != api.OK {
			t.Fatalf("From(Float(%d)) = %d, %d", n, got, e)
		}
	}
}

// P1.3: Floor and Frac make the number again, cut.
func TestFloorAndFracMakeItAgain(t *testing.T) {
	for _, n := range edges() {
		floor, frac := fixed.Floor(n), fixed.Frac(n)
		if floor*one+frac != within(n) || frac < 0 || frac > one-1 {
			t.Fatalf("Floor(%d), Frac(%d) = %d, %d", n, n, floor, frac)
		}
		if got := fixed.Add(fixed.Of(floor), frac); got != within(n) {
			t.Fatalf("Add(Of(Floor(%d)), Frac(%d)) = %d", n, n, got)
		}
	}
}
