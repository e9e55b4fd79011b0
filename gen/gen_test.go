package gen_test

import (
	"math"
	"math/big"
	"math/rand"
	"slices"
	"testing"

	"breccia/api"
	"breccia/block"
	"breccia/cell"
	"breccia/gen"
	"breccia/runs"
)

const (
	first = -1 << 27  // the least number of a chunk
	last  = 1<<27 - 1 // the greatest one
)

// columns are the blocks of a column by its ground, from Y 0 up; over them is air.
// (T stone, D dirt, S sand, W water.)
var columns = map[int]string{
	6:  "TTTDDSWWW",
	7:  "TTTTDDSWW",
	8:  "TTTTTDDSW",
	9:  "TTTTTTDDS",
	10: "TTTTTTTDDD",
	11: "TTTTTTTTDDD",
	12: "TTTTTTTTTDDD",
	13: "TTTTTTTTTTDDD",
	14: "TTTTTTTTTTTDDD",
}

// letters are the blocks that columns are written by.
var letters = map[byte]int{'T': api.Stone, 'D': api.Dirt, 'S': api.Sand, 'W': api.Water}

// edges are numbers about 0, about the sides of lots and of chunks, about powers of two, and at an int's bounds.
func edges() []int {
	return []int{
		math.MinInt, math.MinInt + 1, math.MinInt + 7, math.MinInt + 8, -1 << 61, -1 << 32, -1<<31 - 1, -1 << 31, first, -257, -65, -64, -17, -16, -15, -9, -8, -7, -4, -2, -1,
		0, 1, 2, 3, 4, 5, 7, 8, 9, 12, 15, 16, 17, 63, 64, 256, last, 1<<31 - 1, 1 << 31, 1 << 32, 1 << 61, math.MaxInt - 8, math.MaxInt - 7, math.MaxInt - 1, math.MaxInt,
	}
}

// plainHash is Hash by exact numbers.
func plainHash(seed, x, z int) uint64 {
	all := new(big.Int).Lsh(big.NewInt(1), 64)
	times := func(n *big.Int, by uint64) *big.Int { return new(big.Int).Mul(n, new(big.Int).SetUint64(by)) }
	turn := func(n *big.Int, down uint) *big.Int { return new(big.Int).Xor(n, new(big.Int).Rsh(n, down)) }
	n := times(big.NewInt(int64(seed)), 0x9E3779B97F4A7C15)
	n.Add(n, times(big.NewInt(int64(x)), 0xC2B2AE3D27D4EB4F))
	n.Add(n, times(big.NewInt(int64(z)), 0x165667B19E3779F9))
	n.Mod(n, all)
	n = times(turn(n, 29), 0xBF58476D1CE4E5B9)
	n.Mod(n, all)
	return turn(n, 32).Uint64()
}

// plainGround is Ground, by going through the corners.
func plainGround(seed, x, z int) int {
	sum := 0
	for corner := range 4 {
		i, k, wide, deep := x>>3, z>>3, 8-x&7, 8-z&7
		if corner&1 > 0 {
			i, wide = i+1, x&7
		}
		if corner&2 > 0 {
			k, deep = k+1, z&7
		}
		sum += int(plainHash(seed, i, k)%9) * wide * deep
	}
	return 6 + sum>>6
}

// plainBlock is Block, from the written columns.
func plainBlock(seed int, c api.Cell) int {
	column := columns[plainGround(seed, c.X, c.Z)]
	if c.Y < 0 || c.Y >= len(column) {
		return api.Air
	}
	return letters[column[c.Y]]
}

// P10.1: Hash, of plain numbers, of some below 0 and of an int's bounds.
func TestHash(t *testing.T) {
	for _, c := range []struct {
		seed, x, z int
		want       uint64
	}{
		{0, 0, 0, 0},
		{1, 0, 0, 0xca009717f87d8879},
		{0, 1, 0, 0xca15aec12e829137},
		{0, 0, 1, 0xa06221f6e164007b},
		{-1, 0, 0, 0xa68094cce9e291eb},
		{0, -1, 0, 0xfc96cb77fdeaeed8},
		{0, 0, -1, 0xe9fff061cddecbb5},
		{1, 2, 3, 0x258c1f69802b402a},
		{-1, -2, -3, 0xed06194aa3feb752},
		{12345, -678, 90, 0xa47918c344acb365},
		{math.MinInt, 0, 0, 0xf39396e4f39396e4},
		{0, math.MinInt, 0, 0xf39396e4f39396e4},
		{0, 0, math.MinInt, 0xf39396e4f39396e4},
		{math.MinInt, math.MinInt, 0, 0},
		{math.MaxInt, math.MaxInt, math.MaxInt, 0xebec206850fd87c6},
		{math.MinInt, math.MinInt, math.MinInt, 0xf39396e4f39396e4},
		{1 << 32, -1 << 31, 1 << 27, 0x1097c842d38e8c58},
		{7, math.MinInt, math.MaxInt, 0xdf02577e39bbaac2},
	} {
		if got := gen.Hash(c.seed, c.x, c.z); got != c.want {
			t.Errorf("Hash(%d, %d, %d) = %#x, want %#x", c.seed, c.x, c.z, got, c.want)
		}
	}
}

// P10.1: Hash is that of exact numbers, at all edges and in a long row.
func TestHashPlain(t *testing.T) {
	hold := func(seed, x, z int) {
		if got, want := gen.Hash(seed, x, z), plainHash(seed, x, z); got != want {
			t.Fatalf("Hash(%d, %d, %d) = %#x, want %#x", seed, x, z, got, want)
		}
	}
	all := edges()
	for i, a := range all {
		for k, b := range all {
			hold(a, b, all[(i+k)%len(all)])
		}
	}
	r := rand.New(rand.NewSource(10))
	for range 20000 {
		hold(int(r.Uint64()), int(r.Uint64()), int(r.Uint64()))
	}
}

// P10.1: Ground, of places of which it was worked out elsewhere.
func TestGround(t *testing.T) {
	for _, c := range []struct{ seed, x, z, want int }{
		{0, 0, 0, 6}, {1, 0, 0, 7}, {0, 0, -1, 6}, {1, 2, 3, 8}, {-1, -2, -3, 9}, {12345, -678, 90, 11},
		{math.MinInt, 0, 0, 12}, {0, math.MinInt, 0, 13}, {0, 0, math.MinInt, 9}, {math.MaxInt, math.MaxInt, math.MaxInt, 7},
		{math.MinInt, math.MinInt, math.MinInt, 6}, {1 << 32, -1 << 31, 1 << 27, 12}, {7, math.MinInt, math.MaxInt, 13},
	} {
		if got := gen.Ground(c.seed, c.x, c.z); got != c.want {
			t.Errorf("Ground(%d, %d, %d) = %d, want %d", c.seed, c.x, c.z, got, c.want)
		}
	}
}

// P10.1: at a corner Ground is that corner's alone.
func TestGroundCorner(t *testing.T) {
	for i := -40; i < 40; i++ {
		for k := -40; k < 40; k++ {
			if got, want := gen.Ground(5, 8*i, 8*k), 6+int(gen.Hash(5, i, k)%9); got != want {
				t.Errorf("Ground(5, %d, %d) = %d, want %d", 8*i, 8*k, got, want)
			}
		}
	}
}

// P10.1: Ground is that of all corners, each times how near it is, to either side of 0, at all edges and in a long row.
func TestGroundPlain(t *testing.T) {
	hold := func(seed, x, z int) {
		if got, want := gen.Ground(seed, x, z), plainGround(seed, x, z); got != want {
			t.Fatalf("Ground(%d, %d, %d) = %d, want %d", seed, x, z, got, want)
		}
	}
	for x := -24; x < 24; x++ {
		for z := -24; z < 24; z++ {
			hold(3, x, z)
		}
	}
	all := edges()
	for i, a := range all {
		for k, b := range all {
			hold(all[(i+k)%len(all)], a, b)
		}
	}
	r := rand.New(rand.NewSource(11))
	for range 5000 {
		hold(int(r.Uint64()), int(r.Uint64()), int(r.Uint64()))
	}
}

// P10.1: Ground is from 6 to 14, and each of these.
func TestGroundRange(t *testing.T) {
	seen := map[int]bool{}
	for x := range 300 {
		for z := range 300 {
			seen[gen.Ground(2, x-150, z-150)] = true
		}
	}
	for g := range seen {
		if g < 6 || g > 14 {
			t.Errorf("a ground of %d", g)
		}
	}
	if len(seen) != 9 {
		t.Errorf("grounds of %v alone", seen)
	}
}

// P10.1: Block, of whole columns of each ground, from under their chunk to over it.
func TestBlock(t *testing.T) {
	seen := map[int]bool{}
	for x := range 100 {
		for z := range 100 {
			g := gen.Ground(4, x-50, z-50)
			if seen[g] {
				continue
			}
			seen[g] = true
			for y := -3; y < api.Height+3; y++ {
				c := api.Cell{X: x - 50, Y: y, Z: z - 50}
				if got, want := gen.Block(4, c), plainBlock(4, c); got != want {
					t.Errorf("Block of %v over the ground %d is %d, want %d", c, g, got, want)
				}
			}
		}
	}
	if len(seen) != len(columns) {
		t.Errorf("columns of the grounds %v alone", seen)
	}
}

// P10.1: Block, far under and over all chunks, is air.
func TestBlockOut(t *testing.T) {
	for _, y := range []int{math.MinInt, -1 << 32, -1<<32 + 1, -256, -32, -31, -1, 32, 33, 63, 64, 256, 1 << 31, 1 << 32, 1<<32 + 3, math.MaxInt} {
		for _, x := range edges() {
			if b := gen.Block(1, api.Cell{X: x, Y: y, Z: -x}); b != api.Air {
				t.Errorf("Block at %d, %d, %d is %d", x, y, -x, b)
			}
		}
	}
}

// P10.1: Block, of cells at all edges, is that of their column; none is cut to a cell's bounds.
func TestBlockEdges(t *testing.T) {
	all := edges()
	for i, x := range all {
		for k, z := range all {
			for _, y := range []int{0, 3, 5, 8, 10, 13} {
				c, seed := api.Cell{X: x, Y: y, Z: z}, all[(i+k+y)%len(all)]
				if got, want := gen.Block(seed, c), plainBlock(seed, c); got != want {
					t.Fatalf("Block(%d, %v) = %d, want %d", seed, c, got, want)
				}
			}
		}
	}
}

// places are chunks to either side of 0, and at the bounds.
func places() []api.Pos {
	var l []api.Pos
	for _, x := range []int{first, first + 1, -3, -1, 0, 1, 2, last - 1, last} {
		for _, z := range []int{first, -2, -1, 0, 1, last} {
			l = append(l, api.Pos{X: x, Z: z})
		}
	}
	return l
}

// P10.2: Chunk is runs of a chunk's cells, each of them the Block of the cell with its index.
func TestChunk(t *testing.T) {
	for n, p := range places() {
		seed := edges()[n%len(edges())]
		l := gen.Chunk(seed, p)
		if !runs.May(l, api.Cells) {
			t.Fatalf("Chunk(%d, %v) may not be", seed, p)
		}
		for i, b := range runs.All(l) {
			c := api.Cell{X: p.X*16 + i%16, Y: i / 256, Z: p.Z*16 + i/16%16}
			if want := gen.Block(seed, c); b != want {
				t.Fatalf("Chunk(%d, %v) has %d at the index %d, want %d", seed, p, b, i, want)
			}
		}
	}
}

// P10.2: Chunk is that of the written columns.
func TestChunkPlain(t *testing.T) {
	p := api.Pos{X: -2, Z: 1}
	var cells []int
	for i := range api.Cells {
		c, _ := cell.From(p, i)
		cells = append(cells, plainBlock(99, c))
	}
	if !slices.Equal(gen.Chunk(99, p), runs.Of(cells)) {
		t.Error("Chunk is another one")
	}
}

// P10.2: Cells tells the blocks one by one, all of them, and again when it is gone through again.
func TestCells(t *testing.T) {
	for n, p := range places() {
		seed := edges()[n%len(edges())]
		cells := gen.Cells(seed, p)
		want := runs.Cells(gen.Chunk(seed, p))
		for range 2 {
			if got := slices.Collect(cells); !slices.Equal(got, want) {
				t.Fatalf("Cells(%d, %v) are others: %d of them", seed, p, len(got))
			}
		}
	}
}

// P10.2: who goes through Cells may leave at any of them.
func TestCellsLeft(t *testing.T) {
	p := api.Pos{X: 3, Z: -4}
	all := runs.Cells(gen.Chunk(6, p))
	for _, n := range []int{1, 2, 255, 256, 257, 1000, api.Cells - 1, api.Cells} {
		var got []int
		for b := range gen.Cells(6, p) {
			if got = append(got, b); len(got) == n {
				break
			}
		}
		if !slices.Equal(got, all[:n]) {
			t.Errorf("the first %d cells are others", n)
		}
	}
}

// P10.2: two walks through the same Cells do not meddle with each other.
func TestCellsTwice(t *testing.T) {
	cells := gen.Cells(6, api.Pos{X: 1})
	all, n := slices.Collect(cells), 0
	for a := range cells {
		k := 0
		for b := range cells {
			if b != all[k] {
				t.Fatalf("cell %d of a walk within another is %d, want %d", k, b, all[k])
			}
			if k++; k > n {
				break
			}
		}
		if a != all[n] {
			t.Fatalf("cell %d is %d, want %d", n, a, all[n])
		}
		if n++; n == 600 {
			break
		}
	}
}

// P10.2: what Chunk tells is new memory, its spare room too.
func TestChunkNew(t *testing.T) {
	p := api.Pos{X: -1, Z: 2}
	want := gen.Chunk(7, p)
	for range 2 {
		l := gen.Chunk(7, p)
		if !slices.Equal(l, want) {
			t.Fatal("Chunk is another one")
		}
		clear(l[:cap(l)])
	}
}

// P10.3: a seed makes one world: the same, whatever was asked between, and one seed's is not another one's.
func TestOneWorld(t *testing.T) {
	p := api.Pos{X: 1, Z: -1}
	want := gen.Chunk(8, p)
	for seed := -20; seed < 20; seed++ {
		if is := slices.Equal(gen.Chunk(seed, p), want); is != (seed == 8) {
			t.Errorf("the chunks of the seeds 8 and %d: same is %t", seed, is)
		}
		if !slices.Equal(gen.Chunk(8, p), want) {
			t.Fatalf("the chunk is another one behind seed %d", seed)
		}
	}
}

// P10.3: on the ground stands no stone but at 0, and all are blocks.
func TestNoStone(t *testing.T) {
	for x := -60; x < 60; x++ {
		for z := -60; z < 60; z++ {
			g := gen.Ground(-9, x, z)
			for y := -1; y < api.Height+1; y++ {
				b := gen.Block(-9, api.Cell{X: x, Y: y, Z: z})
				if is := b == api.Stone; is != (y == 0 || y > 0 && y < g-3) {
					t.Fatalf("stone is %t at %d, %d, %d over the ground %d", is, x, y, z, g)
				}
				if !block.May(b) {
					t.Fatalf("%d at %d, %d, %d is no block", b, x, y, z)
				}
			}
		}
	}
}
