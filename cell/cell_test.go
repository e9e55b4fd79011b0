package cell_test

import (
	"math"
	"math/big"
	"testing"

	"breccia/api"
	"breccia/cell"
	"breccia/fixed"
	"breccia/vec"
)

const (
	one = api.One
	top = api.MaxFixed
	far = 1 << 31 // the greatest number of a cell
)

func at(x, y, z int) api.Cell { return api.Cell{X: x, Y: y, Z: z} }

func way(x, y, z int) api.Vec { return api.Vec{X: x, Y: y, Z: z} }

func box(x, y, z, a, b, c int) api.Box { return api.Box{Min: way(x, y, z), Max: way(a, b, c)} }

// edges are numbers at a cell's bounds, beyond them, about 0 and about the sides of chunks.
func edges() []int {
	return []int{math.MinInt, math.MinInt + 1, -far - 1, -far, 1 - far, -33, -32, -17, -16, -15, -2, -1, 0, 1, 2, 15, 16, 17, 31, 32, far - 1, far, far + 1, math.MaxInt - 1, math.MaxInt}
}

// turned are a cell, and those with its numbers turned one and two axes on.
func turned(c api.Cell) [3]api.Cell {
	return [3]api.Cell{c, at(c.Z, c.X, c.Y), at(c.Y, c.Z, c.X)}
}

// turnedBoxes are those of a box.
func turnedBoxes(b api.Box) [3]api.Box {
	return [3]api.Box{
		b,
		box(b.Min.Z, b.Min.X, b.Min.Y, b.Max.Z, b.Max.X, b.Max.Y),
		box(b.Min.Y, b.Min.Z, b.Min.X, b.Max.Y, b.Max.Z, b.Max.X),
	}
}

// P3.1: Div and Mod, to either side of 0, and by numbers below 1.
func TestDivMod(t *testing.T) {
	for _, c := range []struct{ a, b, div, mod int }{
		{0, 16, 0, 0}, {1, 16, 0, 1}, {15, 16, 0, 15}, {16, 16, 1, 0}, {17, 16, 1, 1}, {35, 16, 2, 3},
		{-1, 16, -1, 15}, {-15, 16, -1, 1}, {-16, 16, -1, 0}, {-17, 16, -2, 15}, {-32, 16, -2, 0}, {-35, 16, -3, 13},
		{7, 3, 2, 1}, {-7, 3, -3, 2}, {-6, 3, -2, 0}, {5, 1, 5, 0}, {-5, 1, -5, 0}, {5, 9, 0, 5}, {-5, 9, -1, 4},
		{5, 0, 0, 0}, {-5, 0, 0, 0}, {0, 0, 0, 0}, {5, -1, 0, 0}, {5, -3, 0, 0}, {-5, -3, 0, 0}, {6, -3, 0, 0},
		{math.MinInt, 0, 0, 0}, {math.MinInt, -1, 0, 0}, {math.MaxInt, math.MinInt, 0, 0},
		{math.MinInt, 1, math.MinInt, 0}, {math.MaxInt, 1, math.MaxInt, 0}, {math.MinInt, 2, math.MinInt / 2, 0},
		{math.MinInt + 1, 2, math.MinInt / 2, 1}, {math.MinInt, 3, -3074457345618258603, 1},
		{math.MinInt, math.MaxInt, -2, math.MaxInt - 1}, {math.MaxInt, math.MaxInt, 1, 0}, {-1, math.MaxInt, -1, math.MaxInt - 1},
	} {
		if div, mod := cell.Div(c.a, c.b), cell.Mod(c.a, c.b); div != c.div || mod != c.mod {
			t.Errorf("Div, Mod of %d and %d = %d, %d, want %d, %d", c.a, c.b, div, mod, c.div, c.mod)
		}
	}
}

// P3.1: what Div and Mod tell makes the number again, by exact numbers, and Mod is from 0 to b - 1.
func TestDivModAgain(t *testing.T) {
	for _, a := range edges() {
		for _, b := range edges() {
			if b < 1 {
				continue
			}
			div, mod := cell.Div(a, b), cell.Mod(a, b)
			again := new(big.Int).Mul(big.NewInt(int64(div)), big.NewInt(int64(b)))
			again.Add(again, big.NewInt(int64(mod)))
			if mod < 0 || mod >= b || again.Cmp(big.NewInt(int64(a))) != 0 {
				t.Errorf("Div, Mod of %d and %d = %d, %d", a, b, div, mod)
			}
		}
	}
}

// P3.1: Cut, of each number alone.
func TestCut(t *testing.T) {
	for _, c := range [][2]api.Cell{
		{at(1, 2, 3), at(1, 2, 3)}, {at(-1, -2, -3), at(-1, -2, -3)}, {at(0, 0, 0), at(0, 0, 0)},
		{at(far, -far, 5), at(far, -far, 5)}, {at(far-1, 1-far, 5), at(far-1, 1-far, 5)},
		{at(far+1, 6, -7), at(far, 6, -7)}, {at(-far-1, 6, -7), at(-far, 6, -7)},
		{at(far+1, -far-1, far), at(far, -far, far)}, {at(math.MaxInt, math.MinInt, 0), at(far, -far, 0)},
	} {
		want := turned(c[1])
		for i, d := range turned(c[0]) {
			if got := cell.Cut(d); got != want[i] {
				t.Errorf("Cut(%v) = %v, want %v", d, got, want[i])
			}
		}
	}
}

// P3.1: Of, rounded down along each axis, at the bounds and beyond.
func TestOf(t *testing.T) {
	for _, c := range []struct {
		v    api.Vec
		want api.Cell
	}{
		{way(0, 0, 0), at(0, 0, 0)}, {way(1, 2*one, 3*one-1), at(0, 2, 2)}, {way(-1, one, one-1), at(-1, 1, 0)},
		{way(-one, -one-1, -one+1), at(-1, -2, -1)}, {way(7*one+5, -7*one-5, one/2), at(7, -8, 0)},
		{way(top, -top, top-1), at(far, -far, far-1)}, {way(1-top, one-top, top-one), at(-far, 1-far, far-1)},
		{way(top+1, -top-1, 0), at(far, -far, 0)}, {way(math.MaxInt, math.MinInt, -1), at(far, -far, -1)},
	} {
		if got := cell.Of(c.v); got != c.want {
			t.Errorf("Of(%v) = %v, want %v", c.v, got, c.want)
		}
	}
}

// P3.1: Box, of cells within the bounds, at them and beyond.
func TestBox(t *testing.T) {
	for _, c := range []struct {
		c    api.Cell
		want api.Box
	}{
		{at(0, 0, 0), box(0, 0, 0, one, one, one)}, {at(-1, 0, 2), box(-one, 0, 2*one, 0, one, 3*one)}, {at(5, -7, 9), box(5*one, -7*one, 9*one, 6*one, -6*one, 10*one)},
		{at(far-1, 1, -far), box(top-one, one, -top, top, 2*one, one-top)}, {at(far, 1, -1), box(top, one, -one, top, 2*one, 0)},
		{at(far+1, 1, -far-1), box(top, one, -top, top, 2*one, one-top)}, {at(math.MaxInt, 1, math.MinInt), box(top, one, -top, top, 2*one, one-top)},
	} {
		want := turnedBoxes(c.want)
		for i, d := range turned(c.c) {
			if got := cell.Box(d); got != want[i] {
				t.Errorf("Box(%v) = %v, want %v", d, got, want[i])
			}
		}
	}
}

// P3.1: Chunk, by X and Z alone, of any numbers.
func TestChunk(t *testing.T) {
	for _, c := range [][3]int{
		{0, 0, 0}, {15, 0, 31}, {16, 1, -1}, {17, 1, 32}, {-1, -1, 0}, {-16, -1, 5}, {-17, -2, 5}, {33, 2, math.MinInt}, {-33, -3, math.MaxInt},
		{far - 1, 1<<27 - 1, 0}, {far, 1 << 27, 0}, {-far, -1 << 27, 0}, {-far - 1, -1<<27 - 1, 0}, {math.MaxInt, 1<<59 - 1, 0}, {math.MinInt, -1 << 59, 0},
	} {
		if got := cell.Chunk(at(c[0], c[2], 40)); got != (api.Pos{X: c[1], Z: 2}) {
			t.Errorf("Chunk of X %d = %v, want %d and 2", c[0], got, c[1])
		}
		if got := cell.Chunk(at(40, c[2], c[0])); got != (api.Pos{X: 2, Z: c[1]}) {
			t.Errorf("Chunk of Z %d = %v, want 2 and %d", c[0], got, c[1])
		}
	}
}

// P3.1: Index, and Y at its bounds and beyond.
func TestIndex(t *testing.T) {
	for _, c := range []struct {
		c    api.Cell
		want int
		is   bool
	}{
		{at(0, 0, 0), 0, true}, {at(1, 0, 0), 1, true}, {at(0, 0, 1), 16, true}, {at(0, 1, 0), 256, true}, {at(-1, 0, -1), 255, true},
		{at(15, 0, 0), 15, true}, {at(16, 0, 0), 0, true}, {at(0, 0, 15), 240, true}, {at(0, 0, 16), 0, true}, {at(-16, 0, -15), 16, true}, {at(-17, 0, -32), 15, true},
		{at(3, 7, 5), 7*256 + 5*16 + 3, true}, {at(-13, 7, 21), 7*256 + 5*16 + 3, true}, {at(15, 31, 15), 8191, true}, {at(0, 31, 0), 31 * 256, true},
		{at(far, 2, -far), 512, true}, {at(far+5, 2, -far-1), 512 + 240 + 5, true}, {at(math.MaxInt, 0, math.MinInt), 15, true},
		{at(3, 32, 5), 0, false}, {at(3, -1, 5), 0, false}, {at(3, 33, 5), 0, false}, {at(3, far, 5), 0, false}, {at(3, math.MinInt, 5), 0, false}, {at(3, math.MaxInt, 5), 0, false},
	} {
		if got, is := cell.Index(c.c); got != c.want || is != c.is {
			t.Errorf("Index(%v) = %d, %v, want %d, %v", c.c, got, is, c.want, c.is)
		}
	}
}

// P3.1: From, of indices at their bounds and beyond, and of chunks at theirs, whose cells are not cut.
func TestFrom(t *testing.T) {
	pos := func(x, z int) api.Pos { return api.Pos{X: x, Z: z} }
	for _, c := range []struct {
		p    api.Pos
		i    int
		want api.Cell
		is   bool
	}{
		{pos(0, 0), 0, at(0, 0, 0), true}, {pos(0, 0), 1, at(1, 0, 0), true}, {pos(0, 0), 16, at(0, 0, 1), true}, {pos(0, 0), 256, at(0, 1, 0), true},
		{pos(0, 0), 15, at(15, 0, 0), true}, {pos(0, 0), 255, at(15, 0, 15), true}, {pos(0, 0), 8191, at(15, 31, 15), true}, {pos(0, 0), 7936, at(0, 31, 0), true},
		{pos(-1, -1), 255, at(-1, 0, -1), true}, {pos(2, -3), 7*256 + 5*16 + 3, at(35, 7, -43), true}, {pos(-2, 3), 8190, at(-18, 31, 63), true},
		{pos(1<<27, -1<<27), 255, at(far+15, 0, -far+15), true}, {pos(-1<<27, 1<<27), 0, at(-far, 0, far), true},
		{pos(2, -3), -1, at(0, 0, 0), false}, {pos(2, -3), 8192, at(0, 0, 0), false}, {pos(2, -3), 8193, at(0, 0, 0), false},
		{pos(2, -3), math.MinInt, at(0, 0, 0), false}, {pos(2, -3), math.MaxInt, at(0, 0, 0), false},
	} {
		if got, is := cell.From(c.p, c.i); got != c.want || is != c.is {
			t.Errorf("From(%v, %d) = %v, %v, want %v, %v", c.p, c.i, got, is, c.want, c.is)
		}
	}
}

// P3.2: Near, in its row, at the bounds, and of cells beyond them.
func TestNear(t *testing.T) {
	for _, c := range []struct {
		c    api.Cell
		want [6]api.Cell
	}{
		{at(1, 2, 3), [6]api.Cell{at(0, 2, 3), at(2, 2, 3), at(1, 1, 3), at(1, 3, 3), at(1, 2, 2), at(1, 2, 4)}},
		{at(0, 0, 0), [6]api.Cell{at(-1, 0, 0), at(1, 0, 0), at(0, -1, 0), at(0, 1, 0), at(0, 0, -1), at(0, 0, 1)}},
		{at(far, far, far), [6]api.Cell{at(far-1, far, far), at(far, far, far), at(far, far-1, far), at(far, far, far), at(far, far, far-1), at(far, far, far)}},
		{at(-far, -far, -far), [6]api.Cell{at(-far, -far, -far), at(1-far, -far, -far), at(-far, -far, -far), at(-far, 1-far, -far), at(-far, -far, -far), at(-far, -far, 1-far)}},
		{at(far-1, 5, 1-far), [6]api.Cell{at(far-2, 5, 1-far), at(far, 5, 1-far), at(far-1, 4, 1-far), at(far-1, 6, 1-far), at(far-1, 5, -far), at(far-1, 5, 2-far)}},
		{at(far+1, 5, math.MinInt), [6]api.Cell{at(far-1, 5, -far), at(far, 5, -far), at(far, 4, -far), at(far, 6, -far), at(far, 5, -far), at(far, 5, 1-far)}},
	} {
		if got := cell.Near(c.c); got != c.want {
			t.Errorf("Near(%v) = %v, want %v", c.c, got, c.want)
		}
	}
	for _, x := range edges() {
		for _, c := range turned(at(x, 7, -9)) {
			if got := cell.Near(c); got != cell.Near(cell.Cut(c)) {
				t.Errorf("Near(%v) = %v", c, got)
			}
		}
	}
}

// P3.2: Beside, in its row, about 0 and where cells end.
func TestBeside(t *testing.T) {
	for _, x := range []int{-1 << 27, -20, -1, 0, 1, 30, 1 << 27} {
		for _, z := range []int{-1 << 27, -21, -1, 0, 1, 31, 1 << 27} {
			want := [5]api.Pos{{X: x, Z: z}, {X: x - 1, Z: z}, {X: x + 1, Z: z}, {X: x, Z: z - 1}, {X: x, Z: z + 1}}
			if got := cell.Beside(api.Pos{X: x, Z: z}); got != want {
				t.Errorf("Beside of %d %d = %v", x, z, got)
			}
		}
	}
}

// P3.2: Span, of boxes that end at the sides of cells, beside them, and that have no width.
func TestSpan(t *testing.T) {
	for _, c := range []struct {
		b           api.Box
		least, most api.Cell
		is          bool
	}{
		{box(0, 0, 0, one, one, one), at(0, 0, 0), at(0, 0, 0), true}, {box(0, 0, 0, one+1, one, 1), at(0, 0, 0), at(1, 0, 0), true},
		{box(-1, 0, 0, 1, 1, 1), at(-1, 0, 0), at(0, 0, 0), true}, {box(-one, 0, 0, 0, 1, 1), at(-1, 0, 0), at(-1, 0, 0), true}, {box(-one-1, 0, 0, 0, 1, 1), at(-2, 0, 0), at(-1, 0, 0), true},
		{box(one/2, one/2, one/2, 3*one, 4*one+1, 5*one-1), at(0, 0, 0), at(2, 4, 4), true}, {box(-9*one+1, 4, 4, -2*one-1, 5, 5), at(-9, 0, 0), at(-3, 0, 0), true},
		{box(one-1, 4, 4, one, 5, 5), at(0, 0, 0), at(0, 0, 0), true}, {box(one, 4, 4, one+1, 5, 5), at(1, 0, 0), at(1, 0, 0), true},
		{box(5, 5, 5, 5, 5, 2*one), at(0, 0, 0), at(0, 0, 1), true}, {box(5, 5, 5, 5, 5, 5), at(0, 0, 0), at(0, 0, 0), true}, {box(-5, 5, 5, -5, 5, 5), at(-1, 0, 0), at(-1, 0, 0), true},
		{box(one-1, 5, 5, one-1, 9, 9), at(0, 0, 0), at(0, 0, 0), true}, {box(one+1, 5, 5, one+1, 9, 9), at(1, 0, 0), at(1, 0, 0), true},
		{api.Box{}, at(0, 0, 0), at(0, 0, 0), false}, {box(one, 0, 0, one, 9, 9), at(0, 0, 0), at(0, 0, 0), false},
		{box(-3*one, 2*one, 9*one, -3*one, 5*one, 12*one), at(0, 0, 0), at(0, 0, 0), false}, {box(0, one, 0, 9, one, 9), at(0, 0, 0), at(0, 0, 0), false},
		{box(-top, 0, 0, top, 1, 1), at(-far, 0, 0), at(far-1, 0, 0), true}, {box(top-1, 0, 0, top, 1, 1), at(far-1, 0, 0), at(far-1, 0, 0), true}, {box(-top, 0, 0, 1-top, 1, 1), at(-far, 0, 0), at(-far, 0, 0), true},
		{box(top, 0, 0, top, 9, 9), at(0, 0, 0), at(0, 0, 0), false}, {box(-top, 0, 0, -top, 9, 9), at(0, 0, 0), at(0, 0, 0), false},
		{box(top-1, 0, 0, top-1, 9, 9), at(far-1, 0, 0), at(far-1, 0, 0), true}, {box(1-top, 0, 0, 1-top, 9, 9), at(-far, 0, 0), at(-far, 0, 0), true},
		{box(-top, -top, -top, top, top, top), at(-far, -far, -far), at(far-1, far-1, far-1), true},
	} {
		least, most := turned(c.least), turned(c.most)
		for i, b := range turnedBoxes(c.b) {
			if low, high, is := cell.Span(b); low != least[i] || high != most[i] || is != c.is {
				t.Errorf("Span(%v) = %v, %v, %v, want %v, %v, %v", b, low, high, is, least[i], most[i], c.is)
			}
		}
	}
}

// P3.2: Compare, by Y, then by Z, then by X.
func TestCompare(t *testing.T) {
	row := []api.Cell{
		at(math.MaxInt, math.MinInt, math.MaxInt), at(9, -2, 9), at(5, -1, 0),
		at(math.MaxInt, 0, math.MinInt), at(9, 0, -1), at(math.MinInt, 0, 0), at(-3, 0, 0), at(0, 0, 0), at(1, 0, 0), at(far+1, 0, 0), at(math.MaxInt, 0, 0), at(-9, 0, 1), at(math.MinInt, 0, math.MaxInt),
		at(0, 1, -7), at(-9, far+1, -9), at(math.MinInt, math.MaxInt, math.MinInt),
	}
	for i, a := range row {
		for j, b := range row {
			want := 0
			if i < j {
				want = -1
			} else if i > j {
				want = 1
			}
			if got := cell.Compare(a, b); got != want {
				t.Errorf("Compare(%v, %v) = %d, want %d", a, b, got, want)
			}
		}
	}
}

// P3.3: From of Chunk and Index is the cell again, of all cells with such a Y.
func TestFromOfChunkAndIndex(t *testing.T) {
	for _, x := range edges() {
		for _, z := range edges() {
			for y := range api.Height {
				c := at(x, y, z)
				i, is := cell.Index(c)
				if again, was := cell.From(cell.Chunk(c), i); again != c || !is || !was {
					t.Fatalf("From(Chunk, Index) of %v = %v, %v, %v", c, again, is, was)
				}
			}
		}
	}
}

// P3.3: Chunk and Index of From are the chunk and the index again, so no two indices are of one cell.
func TestChunkAndIndexOfFrom(t *testing.T) {
	for _, p := range []api.Pos{{}, {X: 1, Z: -1}, {X: -7, Z: 5}, {X: 1 << 27, Z: -1 << 27}, {X: -1 << 27, Z: 1 << 27}} {
		for i := range api.Cells {
			c, is := cell.From(p, i)
			if j, was := cell.Index(c); j != i || cell.Chunk(c) != p || !is || !was {
				t.Fatalf("From(%v, %d) = %v, %v, of the chunk %v and the index %d", p, i, c, is, cell.Chunk(c), j)
			}
		}
	}
}

// about are all whole numbers about those of a box along an axis, within a cell's bounds.
func about(least, most int) []int {
	var l []int
	for n := max(fixed.Floor(least)-2, -far); n <= min(fixed.Floor(most)+2, far); n++ {
		l = append(l, n)
	}
	return l
}

// holdSpan holds a Span against all cells about its box.
func holdSpan(t *testing.T, b api.Box) {
	least, most, is := cell.Span(b)
	for _, x := range about(b.Min.X, b.Max.X) {
		for _, y := range about(b.Min.Y, b.Max.Y) {
			for _, z := range about(b.Min.Z, b.Max.Z) {
				within := is && least.X <= x && x <= most.X && least.Y <= y && y <= most.Y && least.Z <= z && z <= most.Z
				if vec.Overlap(cell.Box(at(x, y, z)), b) != within {
					t.Fatalf("Span(%v) = %v, %v, %v, and the cell %d %d %d", b, least, most, is, x, y, z)
				}
			}
		}
	}
}

// P3.3: the cells of a Span, and no others, overlap its box: of boxes about the sides of cells, and at the bounds.
func TestSpanOverlaps(t *testing.T) {
	sides := [][2]int{{0, 0}, {0, 1}, {0, one}, {-1, 1}, {5, 5}, {one, one}, {-one, one + 1}, {-one - 1, -one}, {one - 1, 3 * one},
		{top, top}, {top - 1, top}, {top - one, top - one}, {top - one - 1, top - 1}, {-top, -top}, {-top, 1 - top}, {1 - top, 1 - top}, {1 - top, one - top}}
	for _, x := range sides {
		for _, y := range sides {
			for _, z := range sides {
				holdSpan(t, box(x[0], y[0], z[0], x[1], y[1], z[1]))
			}
		}
	}
}
