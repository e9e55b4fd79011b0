package chunk_test

import (
	"math"
	"math/rand"
	"slices"
	"testing"

	"breccia/api"
	"breccia/block"
	"breccia/cell"
	"breccia/chunk"
	"breccia/code"
	"breccia/gen"
	"breccia/runs"
)

const (
	first = -1 << 27  // the least number of a chunk
	last  = 1<<27 - 1 // the greatest one
)

// odd are numbers that are no blocks.
var odd = []int{math.MinInt, -256, -248, -2, api.Away, 6, 7, 16, 17, 255, 256, 257, 1 << 32, 1<<32 + 1, math.MaxInt}

// places are chunks to either side of 0, and at the bounds.
func places() []api.Pos {
	return []api.Pos{
		{}, {X: 1}, {Z: 1}, {X: -1}, {Z: -1}, {X: -1, Z: 1}, {X: 5, Z: -7},
		{X: first, Z: first}, {X: last, Z: last}, {X: first, Z: last}, {X: last, Z: 0}, {X: 0, Z: first},
	}
}

// at is the cell of a place in a chunk's numbers; in it x and z are from 0 to 15.
func at(p api.Pos, x, y, z int) api.Cell { return api.Cell{X: 16*p.X + x, Y: y, Z: 16*p.Z + z} }

// corners are the cells of a chunk with the least numbers, and with the greatest ones.
func corners(p api.Pos) (api.Cell, api.Cell) { return at(p, 0, 0, 0), at(p, 15, 31, 15) }

// all is a box of all cells there are, and more.
func all() (api.Cell, api.Cell) {
	return api.Cell{X: math.MinInt, Y: math.MinInt, Z: math.MinInt}, api.Cell{X: math.MaxInt, Y: math.MaxInt, Z: math.MaxInt}
}

// some is a row of blocks for a chunk: rows of some length, of some block each.
func some(r *rand.Rand) []int {
	blocks := block.All()
	cells := make([]int, 0, api.Cells)
	for len(cells) < api.Cells {
		b := blocks[r.Intn(len(blocks))]
		for range min(1+r.Intn(300), api.Cells-len(cells)) {
			cells = append(cells, b)
		}
	}
	return cells
}

// of is a chunk of blocks.
func of(t *testing.T, p api.Pos, cells []int) *chunk.Chunk {
	t.Helper()
	k, e := chunk.New(p, runs.Of(cells))
	if e != api.OK || k == nil {
		t.Fatalf("New at %v: %v", p, e)
	}
	return k
}

// empty is a chunk of air.
func empty(t *testing.T, p api.Pos) *chunk.Chunk {
	t.Helper()
	return of(t, p, make([]int, api.Cells))
}

// hold finds whether a chunk is that of a place and of blocks, by all that tells of these.
func hold(t *testing.T, k *chunk.Chunk, p api.Pos, cells []int) {
	t.Helper()
	if k.Place() != p {
		t.Fatalf("Place is %v, want %v", k.Place(), p)
	}
	l := runs.Of(cells)
	if !slices.Equal(k.Runs(), l) {
		t.Fatalf("the runs of %v are others", p)
	}
	if want, _ := code.Write(l); !slices.Equal(k.Bytes(), want) {
		t.Fatalf("the bytes of %v are others", p)
	}
	for i, want := range cells {
		c := at(p, i%16, i/256, i/16%16)
		if b, is := k.At(c); b != want || !is {
			t.Fatalf("At(%v) in %v = %d, %t, want %d", c, p, b, is, want)
		}
	}
}

// P11.1: Make is the chunk that gen tells, at any place and of any seed.
func TestMake(t *testing.T) {
	for n, p := range places() {
		for _, seed := range []int{0, 1, -1, n, -77 * n, math.MinInt, math.MaxInt} {
			k := chunk.Make(seed, p)
			hold(t, k, p, runs.Cells(gen.Chunk(seed, p)))
		}
	}
}

// P11.1: Make's cells are those that gen tells one by one.
func TestMakeCells(t *testing.T) {
	p := api.Pos{X: -2, Z: 3}
	k := chunk.Make(9, p)
	for x := range 16 {
		for z := range 16 {
			for y := range 32 {
				c := at(p, x, y, z)
				if b, is := k.At(c); b != gen.Block(9, c) || !is {
					t.Fatalf("At(%v) = %d, %t, want %d", c, b, is, gen.Block(9, c))
				}
			}
		}
	}
}

// P11.1: each Make is one of its own.
func TestMakeNew(t *testing.T) {
	p := api.Pos{X: 4, Z: 4}
	want := runs.Cells(gen.Chunk(2, p))
	from, to := all()
	for range 3 {
		k := chunk.Make(2, p)
		hold(t, k, p, want)
		k.Fill(from, to, api.Glass)
	}
}

// P11.1: New is of any runs that may be.
func TestNew(t *testing.T) {
	r := rand.New(rand.NewSource(11))
	for _, p := range places() {
		cells := some(r)
		hold(t, of(t, p, cells), p, cells)
	}
	for _, b := range block.All() {
		p, cells := api.Pos{X: b}, slices.Repeat([]int{b}, api.Cells)
		hold(t, of(t, p, cells), p, cells)
	}
	mixed := slices.Repeat([]int{api.Water, api.Air}, api.Cells/2) // as many runs as there may be
	hold(t, of(t, api.Pos{Z: -9}, mixed), api.Pos{Z: -9}, mixed)
}

// P11.1: New refuses runs that may not be, of 8192 cells.
func TestNewRefused(t *testing.T) {
	bad := [][]api.Run{
		nil,
		{},
		{{Len: 8191}},
		{{Len: 8193}},
		{{Len: 8192}, {Len: 1, Block: 1}},
		{{Len: 8192}, {Block: 1}},
		{{Block: 1}, {Len: 8192}},
		{{Len: 4096}, {Len: 4096}},
		{{Len: 1, Block: 1}, {Len: 4000, Block: 5}, {Len: 4191, Block: 5}},
		{{Len: -1, Block: 1}, {Len: 8193}},
		{{Len: 8193}, {Len: -1, Block: 1}},
		{{Len: math.MaxInt, Block: 1}, {Len: math.MaxInt}, {Len: 8194, Block: 1}}, // together 8192, wrapped round
		{{Len: math.MinInt}},
		{{Len: math.MaxInt}},
		{{Len: 8192 + 1<<32}},
	}
	for _, b := range odd {
		bad = append(bad, []api.Run{{Len: 8192, Block: b}}, []api.Run{{Len: 8191}, {Len: 1, Block: b}})
	}
	for _, l := range bad {
		if k, e := chunk.New(api.Pos{X: 1, Z: 2}, l); k != nil || e != api.ErrArg {
			t.Errorf("New of %v: %v, nil is %t", l, e, k == nil)
		}
	}
}

// P11.1: what New is handed is not changed and not kept, its spare room neither.
func TestNewKeepsNothing(t *testing.T) {
	p := api.Pos{X: 1}
	room := []api.Run{{Len: 100, Block: 1}, {Len: 8092}, {Len: 7, Block: 7}, {Len: 8, Block: 8}}
	was := slices.Clone(room)
	k, e := chunk.New(p, room[:2])
	if e != api.OK || k.Set(at(p, 0, 31, 0), api.Sand) != api.OK {
		t.Fatal(e)
	}
	if !slices.Equal(room, was) {
		t.Errorf("what is handed in becomes %v", room)
	}
	want := runs.Cells(was[:2])
	want[256*31] = api.Sand
	clear(room)
	hold(t, k, p, want)
}

// P11.1: Read is of the bytes of any runs.
func TestRead(t *testing.T) {
	r := rand.New(rand.NewSource(12))
	for _, p := range places() {
		cells := some(r)
		b, _ := code.Write(runs.Of(cells))
		k, e := chunk.Read(p, b)
		if e != api.OK {
			t.Fatalf("Read at %v: %v", p, e)
		}
		clear(b) // what is handed in is not kept
		hold(t, k, p, cells)
	}
}

// P11.1: Read refuses what code's Read refuses, with its errors.
func TestReadRefused(t *testing.T) {
	for _, c := range []struct {
		b    []byte
		want api.Errno
	}{
		{nil, api.ErrShort},
		{[]byte{}, api.ErrShort},
		{[]byte{1}, api.ErrShort},
		{[]byte{0, 5}, api.ErrShort},
		{[]byte{0, 128}, api.ErrShort},
		{[]byte{0, 255, 63}, api.ErrShort},       // 8191
		{[]byte{0, 129, 64}, api.ErrForm},        // 8193
		{[]byte{0, 128, 64, 0}, api.ErrForm},     // 8192, and more
		{[]byte{0, 128, 64, 1, 1}, api.ErrForm},  // 8192, and a run more
		{[]byte{6, 128, 64}, api.ErrForm},        // no block
		{[]byte{16, 128, 64}, api.ErrForm},       // no block
		{[]byte{255, 128, 64}, api.ErrForm},      // no block
		{[]byte{1, 5, 1, 251, 63}, api.ErrForm},  // the block of the run ahead
		{[]byte{1, 0, 0, 128, 64}, api.ErrForm},  // a Len of 0
		{[]byte{0, 128, 192, 0}, api.ErrForm},    // a last digit of 0
		{[]byte{0, 128, 128, 128}, api.ErrForm},  // no last digit
		{[]byte{1, 251, 63, 0, 4}, api.ErrShort}, // 8191 in two runs
	} {
		if k, e := chunk.Read(api.Pos{}, c.b); k != nil || e != c.want {
			t.Errorf("Read of %v: %v, want %v; nil is %t", c.b, e, c.want, k == nil)
		}
	}
}

// P11.1: Read tells of any bytes what code's Read tells.
func TestReadAny(t *testing.T) {
	r := rand.New(rand.NewSource(13))
	p := api.Pos{X: -4, Z: 8}
	for range 3000 {
		b, _ := code.Write(runs.Of(some(r)))
		switch r.Intn(4) {
		case 0:
			b = b[:r.Intn(len(b))]
		case 1:
			b = append(b, byte(r.Intn(256)))
		case 2:
			b[r.Intn(len(b))] = byte(r.Intn(256))
		}
		l, want := code.Read(b, api.Cells)
		k, e := chunk.Read(p, b)
		if e != want || (k == nil) != (want != api.OK) {
			t.Fatalf("Read of %v: %v, want %v; nil is %t", b, e, want, k == nil)
		}
		if k != nil && (!slices.Equal(k.Runs(), l) || k.Place() != p) {
			t.Fatalf("the chunk of %v is another one", b)
		}
	}
}

// P11.1: what Runs and Bytes tell is new memory.
func TestTellsNewMemory(t *testing.T) {
	p := api.Pos{X: 2, Z: -2}
	k := chunk.Make(3, p)
	want := runs.Cells(gen.Chunk(3, p))
	for range 2 {
		l, b := k.Runs(), k.Bytes()
		clear(l[:cap(l)])
		clear(b[:cap(b)])
		hold(t, k, p, want)
	}
}

// outside are cells that are not of a chunk.
func outside(p api.Pos) []api.Cell {
	l := []api.Cell{
		at(p, -1, 5, 5), at(p, 16, 5, 5), at(p, 5, 5, -1), at(p, 5, 5, 16),
		at(p, -1, 0, -1), at(p, 16, 31, 16), at(p, -16, 3, 0), at(p, 0, 3, 32), at(p, 1<<32, 1, 1), at(p, 1, 1, -1<<32),
		at(p, 0, -1, 0), at(p, 0, 32, 0), at(p, 15, 32, 15), at(p, 7, -32, 7), at(p, 7, 256, 7), at(p, 7, 1<<32, 7),
		at(p, 1, math.MinInt, 1), at(p, 1, math.MaxInt, 1), at(p, -1, -1, -1), at(p, 16, 32, 16),
		{X: math.MinInt, Z: 16 * p.Z}, {X: math.MaxInt, Z: 16 * p.Z}, {X: 16 * p.X, Z: math.MinInt}, {X: 16 * p.X, Z: math.MaxInt},
	}
	if p != (api.Pos{}) {
		l = append(l, api.Cell{}, at(api.Pos{X: p.Z, Z: p.X - 1}, 0, 0, 0))
	}
	return l
}

// P11.2: At and Set refuse cells that are not of the chunk, and change nothing.
func TestOutside(t *testing.T) {
	for _, p := range places() {
		cells := slices.Repeat([]int{api.Stone}, api.Cells)
		k := of(t, p, cells)
		for _, c := range outside(p) {
			if b, is := k.At(c); b != 0 || is {
				t.Errorf("At(%v) in %v = %d, %t", c, p, b, is)
			}
			for _, b := range []int{api.Air, api.Glass, 6, api.Away, math.MaxInt} { // ErrRange comes ahead of ErrArg
				if e := k.Set(c, b); e != api.ErrRange {
					t.Errorf("Set(%v, %d) in %v: %v", c, b, p, e)
				}
			}
		}
		hold(t, k, p, cells)
	}
}

// P11.2: Set refuses what is no block, and changes nothing.
func TestSetRefused(t *testing.T) {
	for _, p := range places() {
		cells := slices.Repeat([]int{api.Dirt}, api.Cells)
		k := of(t, p, cells)
		least, most := corners(p)
		for _, b := range odd {
			for _, c := range []api.Cell{least, most, at(p, 7, 9, 3)} {
				if e := k.Set(c, b); e != api.ErrArg {
					t.Errorf("Set(%v, %d): %v", c, b, e)
				}
			}
		}
		hold(t, k, p, cells)
	}
}

// P11.2, P11.4: each block that is set is told, and nothing else is changed; so it is when it is set again.
func TestSet(t *testing.T) {
	for n, p := range places() {
		cells := runs.Cells(gen.Chunk(n, p))
		k := chunk.Make(n, p)
		for m, b := range block.All() {
			for _, i := range []int{0, 15, 16, 240, 255, 256, 8191, 8191 - 255, m*513 + n} {
				c, _ := cell.From(p, i)
				for range 2 {
					if e := k.Set(c, b); e != api.OK {
						t.Fatalf("Set(%v, %d): %v", c, b, e)
					}
				}
				cells[i] = b
			}
			hold(t, k, p, cells)
		}
	}
}

// P11.2: Set of every cell, each to a block of its own.
func TestSetAll(t *testing.T) {
	p := api.Pos{X: -6, Z: 2}
	k, blocks, cells := empty(t, p), block.All(), make([]int, api.Cells)
	for n := range api.Cells {
		i := n * 5 % api.Cells
		cells[i] = blocks[(i+i/16+i/256)%len(blocks)]
		if e := k.Set(at(p, i%16, i/256, i/16%16), cells[i]); e != api.OK {
			t.Fatal(e)
		}
	}
	hold(t, k, p, cells)
}

// P11.2: Top, of a column without blocks, of one block at each height, and of each block.
func TestTop(t *testing.T) {
	p := api.Pos{X: -3, Z: 5}
	for _, b := range block.All() {
		for y := range 32 {
			k := empty(t, p)
			k.Set(at(p, 3, y, 12), b)
			want := y
			if b == api.Air {
				want = -1
			}
			if got := k.Top(3, 12); got != want {
				t.Errorf("Top over %d at %d = %d", b, y, got)
			}
			for _, c := range [][2]int{{12, 3}, {2, 12}, {4, 12}, {3, 11}, {3, 13}, {0, 0}, {15, 15}} {
				if got := k.Top(c[0], c[1]); got != -1 {
					t.Errorf("Top of the empty column %v = %d", c, got)
				}
			}
		}
	}
}

// P11.2: Top is of the greatest Y, whatever is under it.
func TestTopGaps(t *testing.T) {
	p := api.Pos{Z: -1}
	k := empty(t, p)
	for _, y := range []int{0, 4, 5, 9, 30, 31} {
		k.Set(at(p, 0, y, 0), api.Ladder)
		if got := k.Top(0, 0); got != y {
			t.Errorf("Top = %d, want %d", got, y)
		}
	}
	k.Set(at(p, 0, 31, 0), api.Air)
	k.Set(at(p, 0, 30, 0), api.Air)
	if got := k.Top(0, 0); got != 9 {
		t.Errorf("Top = %d, want 9", got)
	}
}

// P11.2: Top is of x and z modulo 16, whatever numbers these are.
func TestTopModulo(t *testing.T) {
	for _, p := range places() {
		k := empty(t, p)
		want := [16][16]int{}
		for x := range 16 {
			for z := range 16 {
				want[x][z] = (x*5+z*3)%33 - 1
				if y := want[x][z]; y >= 0 {
					k.Set(at(p, x, y, z), api.Water+x%8)
				}
			}
		}
		for _, far := range []int{0, 16, -16, 1 << 31, -1 << 31, 16 * p.X, 16 * p.Z, math.MaxInt - 15, math.MinInt} {
			for x := range 16 {
				for z := range 16 {
					if got := k.Top(far+x, z); got != want[x][z] {
						t.Errorf("Top(%d, %d) = %d, want %d", far+x, z, got, want[x][z])
					}
					if got := k.Top(x, far+z); got != want[x][z] {
						t.Errorf("Top(%d, %d) = %d, want %d", x, far+z, got, want[x][z])
					}
				}
			}
		}
	}
}

// P11.2: the document's example.
func TestTopExample(t *testing.T) {
	k := chunk.Make(0, api.Pos{})
	if e := k.Set(api.Cell{Y: 31}, api.Glass); e != api.OK || k.Top(0, 0) != 31 {
		t.Errorf("Set: %v, Top: %d", e, k.Top(0, 0))
	}
}

// fill is Fill of blocks, by going through all cells: how many it fills.
func fill(p api.Pos, cells []int, from, to api.Cell, b int) int {
	n := 0
	for i := range cells {
		c := at(p, i%16, i/256, i/16%16)
		if c.X < from.X || c.X > to.X || c.Y < from.Y || c.Y > to.Y || c.Z < from.Z || c.Z > to.Z {
			continue
		}
		cells[i] = b
		n++
	}
	return n
}

// P11.2: Fill, of boxes within the chunk, over its sides, round it and beside it.
func TestFill(t *testing.T) {
	p := api.Pos{X: -2, Z: 1}
	least, most := corners(p)
	from, to := all()
	for _, c := range []struct {
		from, to api.Cell
		want     int
	}{
		{least, most, 8192},
		{from, to, 8192},
		{at(p, -1, -1, -1), at(p, 16, 32, 16), 8192},
		{least, least, 1},
		{most, most, 1},
		{at(p, 3, 4, 5), at(p, 3, 4, 5), 1},
		{at(p, 3, 4, 5), at(p, 4, 6, 8), 2 * 3 * 4},
		{at(p, 0, 0, 0), at(p, 15, 0, 15), 256},
		{at(p, 0, 31, 0), at(p, 15, 31, 0), 16},
		{at(p, 15, 0, 7), at(p, 15, 31, 7), 32},
		{at(p, 1, 1, 1), at(p, 14, 30, 14), 14 * 30 * 14},
		{at(p, -5, 30, 14), at(p, 1, 40, 99), 8},
		{at(p, 14, -7, -8), at(p, 40, 0, 0), 2},
		{from, at(p, 0, 0, 0), 1},
		{most, to, 1},
		{from, at(p, 15, 31, -1), 0},
		{at(p, 16, 0, 0), to, 0},
		{at(p, -16, 0, 0), at(p, -1, 31, 15), 0},
		{at(p, 0, 0, 16), at(p, 15, 31, 31), 0},
		{at(p, 0, 32, 0), at(p, 15, 63, 15), 0},
		{at(p, 0, -32, 0), at(p, 15, -1, 15), 0},
		{at(p, 5, 5, 5), at(p, 4, 9, 9), 0},
		{at(p, 5, 5, 5), at(p, 9, 4, 9), 0},
		{at(p, 5, 5, 5), at(p, 9, 9, 4), 0},
		{most, least, 0},
		{to, from, 0},
	} {
		for _, b := range []int{api.Air, api.Sand, api.Water + 7} {
			k, cells := chunk.Make(6, p), runs.Cells(gen.Chunk(6, p))
			fill(p, cells, c.from, c.to, b)
			for range 2 { // cells that are b already count too
				if n, e := k.Fill(c.from, c.to, b); n != c.want || e != api.OK {
					t.Errorf("Fill from %v to %v = %d, %v, want %d", c.from, c.to, n, e, c.want)
				}
			}
			hold(t, k, p, cells)
		}
	}
}

// P11.2: Fill, at all places: each chunk fills its own share of a box.
func TestFillPlaces(t *testing.T) {
	for n, p := range places() {
		k, cells := chunk.Make(n, p), runs.Cells(gen.Chunk(n, p))
		for _, b := range block.All() {
			from, to := at(p, b-8, b, 3), at(p, b+2, b+1, 40)
			want := fill(p, cells, from, to, b)
			if got, e := k.Fill(from, to, b); got != want || e != api.OK {
				t.Errorf("Fill from %v to %v in %v = %d, %v, want %d", from, to, p, got, e, want)
			}
		}
		hold(t, k, p, cells)
	}
}

// P11.2: Fill refuses what is no block, though there be no cell to fill, and changes nothing.
func TestFillRefused(t *testing.T) {
	p := api.Pos{X: 7, Z: -7}
	k := chunk.Make(1, p)
	least, most := corners(p)
	for _, b := range odd {
		for _, c := range [][2]api.Cell{{least, most}, {least, least}, {most, least}, {at(p, 16, 0, 0), at(p, 20, 9, 9)}} {
			if n, e := k.Fill(c[0], c[1], b); n != 0 || e != api.ErrArg {
				t.Errorf("Fill of %d = %d, %v", b, n, e)
			}
		}
	}
	hold(t, k, p, runs.Cells(gen.Chunk(1, p)))
}

// P11.3: a Clone has the place and the cells, and is one of its own.
func TestClone(t *testing.T) {
	r := rand.New(rand.NewSource(14))
	for _, p := range places() {
		cells := some(r)
		k := of(t, p, cells)
		o := k.Clone()
		if o == k {
			t.Fatal("a Clone is the same one")
		}
		hold(t, o, p, cells)
		mine, others := slices.Clone(cells), slices.Clone(cells)
		least, most := corners(p)
		k.Set(most, (mine[8191]+1)%4)
		mine[8191] = (mine[8191] + 1) % 4
		o.Set(least, (others[0]+1)%4)
		others[0] = (others[0] + 1) % 4
		o.Fill(at(p, 0, 9, 0), at(p, 15, 9, 15), api.Glass)
		fill(p, others, at(p, 0, 9, 0), at(p, 15, 9, 15), api.Glass)
		hold(t, k, p, mine)
		hold(t, o, p, others)
	}
}

// P11.3: Same, however both came to be.
func TestSame(t *testing.T) {
	p := api.Pos{X: -1, Z: -1}
	k := chunk.Make(5, p)
	made, _ := chunk.New(p, k.Runs())
	read, _ := chunk.Read(p, k.Bytes())
	filled := empty(t, p)
	for i, b := range runs.All(k.Runs()) {
		c, _ := cell.From(p, i)
		filled.Set(c, b)
	}
	for i, o := range []*chunk.Chunk{k, k.Clone(), chunk.Make(5, p), made, read, filled} {
		if !k.Same(o) || !o.Same(k) {
			t.Errorf("chunk %d is not the same", i)
		}
	}
}

// P11.3: chunks of another place, or of which any one cell is another block, are not the same.
func TestNotSame(t *testing.T) {
	p := api.Pos{X: 3, Z: -3}
	k := chunk.Make(5, p)
	for _, q := range []api.Pos{{}, {X: -3, Z: 3}, {X: 4, Z: -3}, {X: 3, Z: -2}, {X: 3 + 1<<20, Z: -3}, {X: first, Z: last}} {
		o, e := chunk.New(q, k.Runs())
		if e != api.OK || k.Same(o) || o.Same(k) {
			t.Errorf("the chunk at %v is the same", q)
		}
	}
	if o := chunk.Make(6, p); k.Same(o) || o.Same(k) {
		t.Error("the chunk of another seed is the same")
	}
	for i := range api.Cells {
		c, _ := cell.From(p, i)
		was, _ := k.At(c)
		o := k.Clone()
		o.Set(c, (was+1)%6)
		if k.Same(o) || o.Same(k) {
			t.Fatalf("a chunk with another block at %v is the same", c)
		}
		if o.Set(c, was); !k.Same(o) || !o.Same(k) {
			t.Fatalf("a chunk with its block again at %v is not the same", c)
		}
	}
}

// P11.3: Same changes neither.
func TestSameChangesNothing(t *testing.T) {
	p, q := api.Pos{X: 1}, api.Pos{X: 2}
	k, o := chunk.Make(5, p), chunk.Make(6, q)
	k.Same(o)
	o.Same(k)
	hold(t, k, p, runs.Cells(gen.Chunk(5, p)))
	hold(t, o, q, runs.Cells(gen.Chunk(6, q)))
}

// P11.4: in a long row of sets and fills what was set last is told of each cell, and the bytes are read as it was.
func TestLongRow(t *testing.T) {
	r := rand.New(rand.NewSource(15))
	blocks := append(block.All(), 6, -1)
	for n, p := range places() {
		k, cells := chunk.Make(n, p), runs.Cells(gen.Chunk(n, p))
		for range 300 {
			from := at(p, r.Intn(20)-2, r.Intn(36)-2, r.Intn(20)-2)
			to := api.Cell{X: from.X + r.Intn(8) - 1, Y: from.Y + r.Intn(8) - 1, Z: from.Z + r.Intn(8) - 1}
			b := blocks[r.Intn(len(blocks))]
			if r.Intn(2) > 0 {
				e := k.Set(from, b)
				switch i, is := cell.Index(from); {
				case !is || cell.Chunk(from) != p:
					if e != api.ErrRange {
						t.Fatalf("Set(%v, %d): %v", from, b, e)
					}
				case !block.May(b):
					if e != api.ErrArg {
						t.Fatalf("Set(%v, %d): %v", from, b, e)
					}
				case e != api.OK:
					t.Fatalf("Set(%v, %d): %v", from, b, e)
				default:
					cells[i] = b
				}
				continue
			}
			want, wanted := 0, api.ErrArg
			if block.May(b) {
				want, wanted = fill(p, cells, from, to, b), api.OK
			}
			if got, e := k.Fill(from, to, b); got != want || e != wanted {
				t.Fatalf("Fill(%v, %v, %d) = %d, %v, want %d, %v", from, to, b, got, e, want, wanted)
			}
		}
		hold(t, k, p, cells)
		o, e := chunk.Read(p, k.Bytes())
		if e != api.OK || !o.Same(k) {
			t.Fatalf("the bytes of %v are read as another one: %v", p, e)
		}
		hold(t, o, p, cells)
	}
}

// P11.4: asking changes nothing.
func TestAskingChangesNothing(t *testing.T) {
	p := api.Pos{X: -8, Z: 6}
	k, o := chunk.Make(3, p), chunk.Make(3, p)
	k.At(at(p, 0, 0, 0))
	k.At(at(p, 16, 0, 0))
	k.Top(0, 0)
	k.Runs()
	k.Bytes()
	k.Clone()
	k.Place()
	if !k.Same(o) {
		t.Error("the chunk is another one")
	}
	hold(t, k, p, runs.Cells(gen.Chunk(3, p)))
}
