package vec_test

import (
	"math"
	"slices"
	"testing"

	"breccia/api"
	"breccia/fixed"
	"breccia/vec"
)

const (
	one = api.One
	top = api.MaxFixed
)

func way(x, y, z int) api.Vec { return api.Vec{X: x, Y: y, Z: z} }

func box(x, y, z, a, b, c int) api.Box { return api.Box{Min: way(x, y, z), Max: way(a, b, c)} }

// edges are numbers at the bounds, beyond them, and about 0.
func edges() []int {
	return []int{math.MinInt, -top - 1, -top, 1 - top, -5*one - 3, -2, -1, 0, 1, 3, one, 7*one + 1, top - 1, top, top + 1, math.MaxInt}
}

// odd are axes that are none.
func odd() []int { return []int{-1, 3, -3, 4, 256, 1 << 32, math.MinInt, math.MaxInt} }

// turned are all rows of the numbers of a way, each with its numbers turned one axis on.
func turned(v api.Vec) [3]api.Vec { return [3]api.Vec{v, way(v.Z, v.X, v.Y), way(v.Y, v.Z, v.X)} }

// turnedBoxes are those of a box.
func turnedBoxes(b api.Box) [3]api.Box {
	var l [3]api.Box
	least, most := turned(b.Min), turned(b.Max)
	for i := range l {
		l[i] = api.Box{Min: least[i], Max: most[i]}
	}
	return l
}

// pairs are all two edges, told with the other two axes held at numbers that differ.
func pairs(tell func(a, b api.Vec)) {
	for _, a := range edges() {
		for _, b := range edges() {
			l, m := turned(way(a, 11, -12)), turned(way(b, 5, 21))
			for i := range l {
				tell(l[i], m[i])
			}
		}
	}
}

// P2.1: Cut, axis by axis.
func TestCut(t *testing.T) {
	for _, c := range [][2]api.Vec{
		{way(1, 2, 3), way(1, 2, 3)}, {way(-1, -2, -3), way(-1, -2, -3)}, {way(0, 0, 0), way(0, 0, 0)},
		{way(top, -top, 0), way(top, -top, 0)}, {way(top+1, -top-1, 7), way(top, -top, 7)}, {way(7, top+1, -top-1), way(7, top, -top)},
		{way(-top-1, 7, top+1), way(-top, 7, top)}, {way(math.MaxInt, math.MinInt, math.MaxInt), way(top, -top, top)},
	} {
		if got := vec.Cut(c[0]); got != c[1] {
			t.Errorf("Cut(%v) = %v, want %v", c[0], got, c[1])
		}
	}
}

// P2.1: Add and Sub, of plain ways, at the bounds and beyond.
func TestAddSub(t *testing.T) {
	for _, c := range []struct{ a, b, add, sub api.Vec }{
		{way(1, 2, 3), way(10, 200, 3000), way(11, 202, 3003), way(-9, -198, -2997)},
		{way(0, 0, 0), way(0, 0, 0), way(0, 0, 0), way(0, 0, 0)},
		{way(-1, 5, -9), way(4, -6, -2), way(3, -1, -11), way(-5, 11, -7)},
		{way(top, -top, top-1), way(1, 1, 1), way(top, 1-top, top), way(top-1, -top, top-2)},
		{way(top, -top, 0), way(top, -top, -top), way(top, -top, -top), way(0, 0, top)},
		{way(math.MaxInt, math.MinInt, 3), way(-1, 1, math.MinInt), way(top-1, 1-top, 3-top), way(top, -top, top)},
		{way(math.MaxInt, math.MinInt, math.MinInt), way(math.MaxInt, math.MinInt, math.MaxInt), way(top, -top, 0), way(0, 0, -top)},
	} {
		if got := vec.Add(c.a, c.b); got != c.add {
			t.Errorf("Add(%v, %v) = %v, want %v", c.a, c.b, got, c.add)
		}
		if got := vec.Sub(c.a, c.b); got != c.sub {
			t.Errorf("Sub(%v, %v) = %v, want %v", c.a, c.b, got, c.sub)
		}
	}
}

// P2.1: Scale, rounded down along each axis, at the bounds and beyond.
func TestScale(t *testing.T) {
	for _, c := range []struct {
		v    api.Vec
		n    int
		want api.Vec
	}{
		{way(one, 2*one, -3*one), 2 * one, way(2*one, 4*one, -6*one)},
		{way(one, 2*one, -3*one), -one, way(-one, -2*one, 3*one)},
		{way(1, -1, 3), one / 2, way(0, -1, 1)}, {way(1, -1, 3), -one / 2, way(-1, 0, -2)},
		{way(1, -1, 0), 1, way(0, -1, 0)}, {way(top, -top, 5), 0, way(0, 0, 0)},
		{way(top, -top, 5), one, way(top, -top, 5)}, {way(top, -top, 5), one + 1, way(top, -top, 5)}, {way(top, -top, 5), -2 * one, way(-top, top, -10)},
		{way(top, 1, -1), math.MaxInt, way(top, 1<<31, -1<<31)}, {way(math.MinInt, math.MaxInt, 0), one / 2, way(-top/2, top/2, 0)},
	} {
		if got := vec.Scale(c.v, c.n); got != c.want {
			t.Errorf("Scale(%v, %d) = %v, want %v", c.v, c.n, got, c.want)
		}
	}
}

// P2.1: sums and the like are those of fixed numbers along each axis, whatever stands along the others.
func TestSumsOfEdges(t *testing.T) {
	byAxes := func(a, b api.Vec, of func(a, b int) int) api.Vec {
		return way(of(a.X, b.X), of(a.Y, b.Y), of(a.Z, b.Z))
	}
	pairs(func(a, b api.Vec) {
		if got := vec.Add(a, b); got != byAxes(a, b, fixed.Add) {
			t.Fatalf("Add(%v, %v) = %v", a, b, got)
		}
		if got := vec.Sub(a, b); got != byAxes(a, b, fixed.Sub) {
			t.Fatalf("Sub(%v, %v) = %v", a, b, got)
		}
		if got := vec.Cut(a); got != byAxes(a, b, func(n, _ int) int { return fixed.Cut(n) }) {
			t.Fatalf("Cut(%v) = %v", a, got)
		}
		if got := vec.Scale(a, b.X); got != byAxes(a, way(b.X, b.X, b.X), fixed.Mul) {
			t.Fatalf("Scale(%v, %d) = %v", a, b.X, got)
		}
	})
}

// P2.1: Axis, of the three axes and of such as are none.
func TestAxis(t *testing.T) {
	v := way(7, -8, top)
	for axis, want := range []int{7, -8, top} {
		if got := vec.Axis(v, axis); got != want {
			t.Errorf("Axis(%v, %d) = %d, want %d", v, axis, got, want)
		}
	}
	for _, axis := range odd() {
		if got := vec.Axis(v, axis); got != 0 {
			t.Errorf("Axis(%v, %d) = %d, want 0", v, axis, got)
		}
	}
}

// P2.1: With, whose number is cut, of the three axes and of such as are none.
func TestWith(t *testing.T) {
	v := way(7, -8, 9)
	for _, c := range []struct {
		axis, n int
		want    api.Vec
	}{
		{0, 1, way(1, -8, 9)}, {1, 1, way(7, 1, 9)}, {2, 1, way(7, -8, 1)}, {0, 0, way(0, -8, 9)},
		{0, top, way(top, -8, 9)}, {1, -top, way(7, -top, 9)}, {2, top - 1, way(7, -8, top-1)},
		{0, top + 1, way(top, -8, 9)}, {1, top + 1, way(7, top, 9)}, {2, top + 1, way(7, -8, top)},
		{0, math.MinInt, way(-top, -8, 9)}, {1, -top - 1, way(7, -top, 9)}, {2, math.MaxInt, way(7, -8, top)},
	} {
		if got := vec.With(v, c.axis, c.n); got != c.want {
			t.Errorf("With(%v, %d, %d) = %v, want %v", v, c.axis, c.n, got, c.want)
		}
	}
	for _, axis := range odd() {
		if got := vec.With(v, axis, 1); got != v {
			t.Errorf("With(%v, %d, 1) = %v", v, axis, got)
		}
	}
}

// P2.2: May, by the corners' row along each axis and by the bounds.
func TestMay(t *testing.T) {
	for _, c := range []struct {
		b    api.Box
		want bool
	}{
		{box(1, 2, 3, 4, 5, 6), true}, {box(-4, -5, -6, -1, -2, -3), true}, {api.Box{}, true}, {box(5, 5, 5, 5, 5, 5), true}, {box(0, 5, 0, 9, 5, 9), true},
		{box(6, 2, 3, 5, 5, 6), false}, {box(4, 5, 6, 1, 2, 3), false}, {box(1, 0, 0, 0, 9, 9), false},
		{box(-top, -top, -top, top, top, top), true}, {box(top, top, top, top, top, top), true}, {box(-top, 0, 0, -top, 0, 0), true},
		{box(0, 0, 0, top+1, 1, 1), false}, {box(-top-1, 0, 0, 1, 1, 1), false}, {box(top+1, 0, 0, top+1, 1, 1), false}, {box(-top-1, 0, 0, -top-1, 1, 1), false},
		{box(math.MinInt, 0, 0, math.MaxInt, 1, 1), false}, {box(0, 0, 0, math.MaxInt, 1, 1), false}, {box(math.MinInt, 0, 0, 0, 1, 1), false},
	} {
		for _, b := range turnedBoxes(c.b) {
			if got := vec.May(b); got != c.want {
				t.Errorf("May(%v) = %v", b, got)
			}
		}
	}
}

// P2.2: Move, of both corners, at the bounds and beyond.
func TestMove(t *testing.T) {
	for _, c := range []struct {
		b    api.Box
		v    api.Vec
		want api.Box
	}{
		{box(1, 2, 3, 4, 5, 6), way(10, -200, 3000), box(11, -198, 3003, 14, -195, 3006)},
		{box(1, 2, 3, 4, 5, 6), way(0, 0, 0), box(1, 2, 3, 4, 5, 6)},
		{box(1, 2, 3, 4, 5, 6), way(top-2, -top, top), box(top-1, 2-top, top, top, 5-top, top)},
		{box(-4, -4, -4, 4, 4, 4), way(-top, top, 0), box(-top, top-4, -4, 4-top, top, 4)},
		{box(-4, -4, -4, 4, 4, 4), way(math.MinInt, math.MaxInt, 1), box(-top, top-4, -3, 4-top, top, 5)},
	} {
		if got := vec.Move(c.b, c.v); got != c.want {
			t.Errorf("Move(%v, %v) = %v, want %v", c.b, c.v, got, c.want)
		}
	}
}

// P2.2: Overlap, of boxes that touch, have one another within, have no width, or lie apart along one axis alone.
func TestOverlap(t *testing.T) {
	b := box(0, 0, 0, 5, 5, 5)
	for _, c := range []struct {
		b    api.Box
		want bool
	}{
		{box(0, 0, 0, 5, 5, 5), true}, {box(4, 4, 4, 9, 9, 9), true}, {box(-3, -3, -3, 1, 1, 1), true}, {box(1, 1, 1, 4, 4, 4), true}, {box(-9, -9, -9, 9, 9, 9), true},
		{box(5, 0, 0, 9, 5, 5), false}, {box(-4, 0, 0, 0, 5, 5), false}, {box(5, 5, 5, 9, 9, 9), false}, {box(6, 0, 0, 9, 5, 5), false}, {box(-9, 1, 1, -1, 2, 2), false},
		{box(4, 1, 1, 9, 2, 2), true}, {box(-9, 1, 1, 1, 2, 2), true},
		{box(2, 2, 2, 2, 2, 2), true}, {box(1, 2, 2, 1, 3, 3), true}, {box(4, 2, 2, 4, 2, 3), true},
		{box(0, 0, 0, 0, 5, 5), false}, {box(5, 0, 0, 5, 5, 5), false}, {box(0, 0, 0, 0, 0, 0), false}, {box(5, 2, 2, 5, 2, 2), false},
		{box(-top, -top, -top, top, top, top), true}, {box(top, 0, 0, top, 5, 5), false},
	} {
		for _, d := range turnedBoxes(c.b) {
			if got := vec.Overlap(b, d); got != c.want {
				t.Errorf("Overlap(%v, %v) = %v", b, d, got)
			}
			if got := vec.Overlap(d, b); got != c.want {
				t.Errorf("Overlap(%v, %v) = %v", d, b, got)
			}
		}
	}
	for _, flat := range turnedBoxes(box(2, 0, 0, 2, 5, 5)) {
		if vec.Overlap(flat, flat) {
			t.Errorf("%v overlaps itself", flat)
		}
	}
}

// P2.2: Has, at the least and the greatest along each axis, and of boxes with no width.
func TestHas(t *testing.T) {
	for _, c := range []struct {
		b    api.Box
		v    api.Vec
		want bool
	}{
		{box(0, 0, 0, 5, 5, 5), way(2, 3, 1), true}, {box(0, 0, 0, 5, 5, 5), way(0, 0, 0), true}, {box(0, 0, 0, 5, 5, 5), way(4, 4, 4), true},
		{box(0, 0, 0, 5, 5, 5), way(5, 3, 1), false}, {box(0, 0, 0, 5, 5, 5), way(6, 3, 1), false}, {box(0, 0, 0, 5, 5, 5), way(-1, 3, 1), false},
		{box(0, 0, 0, 5, 5, 5), way(5, 5, 5), false}, {box(0, 0, 0, 5, 5, 5), way(0, 4, 5), false},
		{box(-9, -9, -9, -4, -4, -4), way(-9, -5, -6), true}, {box(-9, -9, -9, -4, -4, -4), way(-4, -5, -6), false},
		{box(2, 0, 0, 2, 5, 5), way(2, 3, 1), false}, {box(2, 2, 2, 2, 2, 2), way(2, 2, 2), false},
		{box(-top, -top, -top, top, top, top), way(-top, 0, top-1), true}, {box(-top, -top, -top, top, top, top), way(top, 0, 0), false},
		{box(0, 0, 0, 5, 5, 5), way(math.MinInt, 3, 1), false}, {box(0, 0, 0, 5, 5, 5), way(math.MaxInt, 3, 1), false},
	} {
		boxes, places := turnedBoxes(c.b), turned(c.v)
		for i, b := range boxes {
			if got := vec.Has(b, places[i]); got != c.want {
				t.Errorf("Has(%v, %v) = %v", b, places[i], got)
			}
		}
	}
}

// P2.2: Hull, of none, of one, of more, of such as lie apart or below 0.
func TestHull(t *testing.T) {
	for _, c := range []struct {
		l    []api.Box
		want api.Box
	}{
		{nil, api.Box{}}, {[]api.Box{}, api.Box{}},
		{[]api.Box{box(3, 4, 5, 6, 7, 8)}, box(3, 4, 5, 6, 7, 8)}, {[]api.Box{box(-9, -9, -9, -4, -4, -4)}, box(-9, -9, -9, -4, -4, -4)},
		{[]api.Box{box(1, 2, 3, 4, 5, 6), box(0, 3, 3, 1, 9, 6)}, box(0, 2, 3, 4, 9, 6)},
		{[]api.Box{box(1, 1, 1, 2, 2, 2), box(7, 8, 9, 7, 8, 9)}, box(1, 1, 1, 7, 8, 9)},
		{[]api.Box{box(5, 0, -5, 6, 1, -4), box(0, -5, 5, 1, -4, 6), box(-5, 5, 0, -4, 6, 1)}, box(-5, -5, -5, 6, 6, 6)},
		{[]api.Box{box(-9, -9, -9, -4, -4, -4), box(-8, -8, -8, -5, -5, -5)}, box(-9, -9, -9, -4, -4, -4)},
		{[]api.Box{box(-top, 0, 0, 0, 0, 0), box(0, 0, 0, top, 1, 1), box(0, -top, 2, 0, top, 2)}, box(-top, -top, 0, top, top, 2)},
	} {
		if got := vec.Hull(c.l...); got != c.want {
			t.Errorf("Hull(%v) = %v, want %v", c.l, got, c.want)
		}
		slices.Reverse(c.l)
		if got := vec.Hull(c.l...); got != c.want {
			t.Errorf("Hull(%v) = %v, want %v", c.l, got, c.want)
		}
	}
}

// P2.2: Hull changes nothing of what it is handed, the spare room neither (rule R4).
func TestHullKeepsHandsOff(t *testing.T) {
	l := []api.Box{box(1, 2, 3, 4, 5, 6), box(0, 3, 3, 1, 9, 6), box(7, 7, 7, 8, 8, 8)}
	kept := slices.Clone(l)
	if got := vec.Hull(l[:2]...); got != box(0, 2, 3, 4, 9, 6) || !slices.Equal(l, kept) {
		t.Errorf("Hull = %v, and its list is %v", got, l)
	}
}

// P2.2: Stand, of widths even and odd, sizes below 0, and feet at the bounds.
func TestStand(t *testing.T) {
	for _, c := range []struct {
		foot          api.Vec
		width, height int
		want          api.Box
	}{
		{way(10, 20, 30), 6, 9, box(7, 20, 27, 13, 29, 33)}, {way(10, 20, 30), 7, 9, box(7, 20, 27, 13, 29, 33)}, {way(-10, -20, -30), 4, 1, box(-12, -20, -32, -8, -19, -28)},
		{way(10, 20, 30), 0, 0, box(10, 20, 30, 10, 20, 30)}, {way(10, 20, 30), 1, 1, box(10, 20, 30, 10, 21, 30)}, {way(10, 20, 30), 2, 1, box(9, 20, 29, 11, 21, 31)},
		{way(10, 20, 30), -1, 5, box(10, 20, 30, 10, 25, 30)}, {way(10, 20, 30), -6, 5, box(10, 20, 30, 10, 25, 30)}, {way(10, 20, 30), 6, -5, box(7, 20, 27, 13, 20, 33)},
		{way(10, 20, 30), math.MinInt, math.MinInt, box(10, 20, 30, 10, 20, 30)},
		{way(top, top, -top), 6, 9, box(top-3, top, -top, top, top, 3-top)}, {way(-top, -top, top), 6, 9, box(-top, -top, top-3, 3-top, 9-top, top)},
		{way(0, 0, 0), 2 * top, top, box(-top, 0, -top, top, top, top)}, {way(5, -5, 0), math.MaxInt, math.MaxInt, box(5-top, -5, -top, top, top-5, top)},
	} {
		if got := vec.Stand(c.foot, c.width, c.height); got != c.want {
			t.Errorf("Stand(%v, %d, %d) = %v, want %v", c.foot, c.width, c.height, got, c.want)
		}
	}
}

// some are boxes that may be, small ones about 0 and some at the bounds.
func some() []api.Box {
	var l []api.Box
	for _, x := range [][2]int{{-2, -1}, {-1, 1}, {0, 0}, {0, 2}, {1, 2}, {-top, -top}, {-top, top}, {top - 1, top}} {
		for _, y := range [][2]int{{-1, 0}, {0, 0}, {0, 1}, {-top, top}} {
			for _, z := range [][2]int{{0, 1}, {1, 1}, {-3, 3}} {
				l = append(l, box(x[0], y[0], z[0], x[1], y[1], z[1]))
			}
		}
	}
	return l
}

// P2.3: Overlap is even-handed.
func TestOverlapIsEvenHanded(t *testing.T) {
	for _, a := range some() {
		for _, b := range some() {
			if vec.Overlap(a, b) != vec.Overlap(b, a) {
				t.Fatalf("Overlap of %v and %v", a, b)
			}
		}
	}
}

// P2.3: a box that may be, and is moved, may be.
func TestMovedMayBe(t *testing.T) {
	for _, b := range some() {
		if !vec.May(b) {
			t.Fatalf("May(%v) is false", b)
		}
		for _, n := range edges() {
			for _, v := range turned(way(n, 1, -n)) {
				if got := vec.Move(b, v); !vec.May(got) {
					t.Fatalf("Move(%v, %v) = %v may not be", b, v, got)
				}
			}
		}
	}
}
