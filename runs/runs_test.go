package runs_test

import (
	"math"
	"slices"
	"testing"

	"breccia/api"
	"breccia/block"
	"breccia/runs"
)

// of is runs, told as Len and Block by turns.
func of(told ...int) []api.Run {
	var l []api.Run
	for i := 0; i < len(told); i += 2 {
		l = append(l, api.Run{Len: told[i], Block: told[i+1]})
	}
	return l
}

// rows are all rows of up to 5 cells of three blocks.
func rows() [][]int {
	all, longest := [][]int{{}}, [][]int{{}}
	for range 5 {
		var longer [][]int
		for _, row := range longest {
			for _, b := range []int{api.Air, api.Sand, api.Water + 7} {
				longer = append(longer, append(slices.Clone(row), b))
			}
		}
		all, longest = append(all, longer...), longer
	}
	return all
}

// edges are places in a row of up to 5 cells, about its ends and far from them.
func edges() []int {
	return []int{math.MinInt, math.MinInt + 1, -1 << 32, -2, -1, 0, 1, 2, 3, 4, 5, 6, 7, 1 << 32, 1<<32 + 1, math.MaxInt - 1, math.MaxInt}
}

// odd are numbers that are no blocks.
func odd() []int {
	return []int{api.Away, 6, 7, api.Blocks, api.Blocks + 1, -2, -8, 256, 1 << 32, 1<<32 + 1, math.MinInt, math.MaxInt}
}

func same(t *testing.T, what string, got, want []api.Run) {
	t.Helper()
	if !slices.Equal(got, want) {
		t.Errorf("%s is %v, want %v", what, got, want)
	}
}

// P5.1: May, of runs that may be.
func TestMay(t *testing.T) {
	for _, l := range [][]api.Run{
		of(1, 0), of(5, 15), of(2, 0, 1, 3, 2, 0), of(1, 1, 1, 2, 1, 1, 1, 2), of(api.Cells, 1), of(1, 8, 1, 9, 1, 8), of(math.MaxInt, 1), of(math.MaxInt-1, 1, 1, 0),
	} {
		n := 0
		for _, r := range l {
			n += r.Len
		}
		if !runs.May(l, n) {
			t.Errorf("May(%v, %d) is false", l, n)
		}
		for _, other := range []int{n - 1, n + 1, 0, -n, -1, math.MinInt} {
			if runs.May(l, other) {
				t.Errorf("May(%v, %d) is true", l, other)
			}
		}
	}
	for _, b := range block.All() {
		if !runs.May(of(3, b), 3) {
			t.Errorf("May of 3 of block %d is false", b)
		}
	}
}

// P5.1: May, of runs that may not be.
func TestMayNot(t *testing.T) {
	for _, c := range []struct {
		l []api.Run
		n int
	}{
		{nil, 0}, {of(), 0}, {nil, 1}, {nil, -1}, {nil, math.MinInt},
		{of(0, 0), 0}, {of(0, 1), 1}, {of(-1, 1), -1}, {of(-1, 1), 1},
		{of(0, 1, 5, 2), 5}, {of(5, 2, 0, 1), 5}, {of(2, 1, 0, 2, 3, 3), 5}, {of(2, 1, 0, 2, 3, 1), 5},
		{of(-1, 1, 6, 2), 5}, {of(6, 1, -1, 2), 5}, {of(3, 1, -1, 2, 3, 1), 5}, {of(math.MinInt, 1, 5, 2), 5}, {of(5, 1, math.MinInt, 2, math.MinInt, 3), 5},
		{of(2, 0, 3, 0), 5}, {of(1, 3, 2, 0, 2, 0), 5}, {of(2, 0, 2, 0, 1, 3), 5}, {of(1, 15, 1, 15), 2},
		{of(math.MaxInt, 1, math.MaxInt, 2, 7, 3), 5}, {of(math.MaxInt, 1, math.MaxInt, 2, 2, 3), 0}, {of(math.MaxInt, 1, 1, 2), math.MinInt}, {of(math.MaxInt, 1, 1, 2), math.MaxInt},
		{of(1<<32, 1, 5, 2), 5}, {of(5, 1), 1<<32 + 5},
	} {
		if runs.May(c.l, c.n) {
			t.Errorf("May(%v, %d) is true", c.l, c.n)
		}
	}
	for _, b := range odd() {
		for _, l := range [][]api.Run{of(5, b), of(3, b, 2, 1), of(3, 1, 2, b), of(2, 1, 2, b, 1, 1)} {
			if runs.May(l, 5) {
				t.Errorf("May(%v, 5) is true", l)
			}
		}
	}
}

// P5.1: Make, of numbers of cells to either side of 1.
func TestMake(t *testing.T) {
	for _, n := range []int{1, 2, 300, api.Cells, 1 << 32, math.MaxInt} {
		for _, b := range block.All() {
			same(t, "Make", runs.Make(n, b), of(n, b))
		}
	}
	for _, n := range []int{0, -1, -300, -1 << 32, math.MinInt, math.MinInt + 1} {
		for _, b := range block.All() {
			same(t, "Make of none", runs.Make(n, b), nil)
		}
	}
}

// P5.1: Of, as few as may be, and Cells of runs that are more than that, or of no cells.
func TestOfAndCells(t *testing.T) {
	for _, c := range []struct {
		cells   []int
		l, more []api.Run
	}{
		{nil, nil, of(0, 1)},
		{[]int{0}, of(1, 0), of(0, 0, 1, 0)},
		{[]int{0, 0, 3, 0, 0}, of(2, 0, 1, 3, 2, 0), of(1, 0, 1, 0, 1, 3, 0, 3, 1, 0, 0, 5, 1, 0)},
		{[]int{1, 1, 1}, of(3, 1), of(1, 1, 0, 2, 2, 1)},
		{[]int{15, 14, 15}, of(1, 15, 1, 14, 1, 15), of(1, 15, 1, 14, 1, 15, 0, 15)},
		{[]int{2, 2, 5, 5, 4}, of(2, 2, 2, 5, 1, 4), of(0, 4, 0, 4, 2, 2, 1, 5, 1, 5, 1, 4)},
	} {
		same(t, "Of", runs.Of(c.cells), c.l)
		for _, l := range [][]api.Run{c.l, c.more} {
			if got := runs.Cells(l); !slices.Equal(got, c.cells) {
				t.Errorf("Cells(%v) = %v, want %v", l, got, c.cells)
			}
			if got := runs.Len(l); got != len(c.cells) {
				t.Errorf("Len(%v) = %d, want %d", l, got, len(c.cells))
			}
		}
	}
	long := slices.Concat(slices.Repeat([]int{1}, 300), slices.Repeat([]int{8}, 70000), []int{1})
	l := of(300, 1, 70000, 8, 1, 1)
	same(t, "Of of a long row", runs.Of(long), l)
	if !slices.Equal(runs.Cells(l), long) {
		t.Error("Cells of a long row is another one")
	}
}

// P5.1: Len, of none and of many.
func TestLen(t *testing.T) {
	for _, c := range []struct {
		l    []api.Run
		want int
	}{{nil, 0}, {of(), 0}, {of(0, 1), 0}, {of(0, 1, 0, 1), 0}, {of(7, 2), 7}, {of(2, 0, 1, 3, 2, 0), 5}, {of(1<<32, 1, 3, 2), 1<<32 + 3}, {of(math.MaxInt-1, 1, 1, 0), math.MaxInt}} {
		if got := runs.Len(c.l); got != c.want {
			t.Errorf("Len(%v) = %d, want %d", c.l, got, c.want)
		}
	}
}

// P5.1: All, each place from 0 on, and its block.
func TestAll(t *testing.T) {
	for _, c := range []struct {
		l    []api.Run
		want []int
	}{{nil, nil}, {of(0, 1), nil}, {of(1, 4), []int{4}}, {of(2, 0, 1, 3, 2, 0), []int{0, 0, 3, 0, 0}}, {of(0, 1, 2, 5, 0, 1, 1, 5, 1, 9), []int{5, 5, 5, 9}}} {
		all := runs.All(c.l)
		for range 2 { // gone through again, it tells the same
			n := 0
			for i, b := range all {
				if i != n || n >= len(c.want) || b != c.want[n] {
					t.Fatalf("All(%v) tells %d, %d as its number %d, want the cells %v", c.l, i, b, n, c.want)
				}
				n++
			}
			if n != len(c.want) {
				t.Errorf("All(%v) tells %d cells, want %d", c.l, n, len(c.want))
			}
		}
	}
}

// P5.1: All ends where the one who asks does, in a run and at its end, however many cells are left.
func TestAllIsLeft(t *testing.T) {
	for stop := range 6 {
		last := -1
		for i := range runs.All(of(2, 0, 1, 3, math.MaxInt-3, 0)) {
			last = i
			if i == stop {
				break
			}
		}
		if last != stop {
			t.Errorf("All was left at %d, and told %d last", stop, last)
		}
	}
}

// P5.1: what All was handed is not kept (rule R4): behind a change of it the cells are those of before.
func TestAllKeepsNothing(t *testing.T) {
	l := of(2, 0, 1, 3)
	all := runs.All(l)
	l[0], l[1] = api.Run{Len: 9, Block: 1}, api.Run{}
	var got []int
	for _, b := range all {
		l[0].Block++
		got = append(got, b)
	}
	if want := []int{0, 0, 3}; !slices.Equal(got, want) {
		t.Errorf("All tells %v behind a change of its list, want %v", got, want)
	}
}

// P5.2: At, of each place of each row, and where there is none.
func TestAt(t *testing.T) {
	for _, row := range rows() {
		l := runs.Of(row)
		for _, i := range edges() {
			want := -1
			if i >= 0 && i < len(row) {
				want = row[i]
			}
			if got := runs.At(l, i); got != want {
				t.Errorf("At(%v, %d) = %d, want %d", l, i, got, want)
			}
		}
	}
	long := of(math.MaxInt-2, 1, 2, 5)
	for i, want := range map[int]int{0: 1, math.MaxInt - 3: 1, math.MaxInt - 2: 5, math.MaxInt - 1: 5, math.MaxInt: -1, -1: -1, math.MinInt: -1} {
		if got := runs.At(long, i); got != want {
			t.Errorf("At(%v, %d) = %d, want %d", long, i, got, want)
		}
	}
}

// P5.2, P5.3: Set, of each place of each row to a block that is there, or is not; and where there is no such place.
func TestSet(t *testing.T) {
	for _, row := range rows() {
		l := runs.Of(row)
		for _, i := range edges() {
			for _, b := range []int{api.Air, api.Sand, api.Glass, api.Water + 7} {
				want := slices.Clone(row)
				if i >= 0 && i < len(row) {
					want[i] = b
				}
				got := runs.Set(l, i, b)
				same(t, "Set", got, runs.Of(want))
				if len(row) > 0 && !runs.May(got, len(row)) {
					t.Errorf("Set(%v, %d, %d) = %v, which may not be", l, i, b, got)
				}
			}
		}
	}
}

// P5.2: Set, written out: amid a run, at its ends, of one cell between two, which become one, and of one of very many.
func TestSetRuns(t *testing.T) {
	for _, c := range []struct {
		l    []api.Run
		i, b int
		want []api.Run
	}{
		{of(5, 0), 2, 3, of(2, 0, 1, 3, 2, 0)},
		{of(5, 0), 0, 3, of(1, 3, 4, 0)},
		{of(5, 0), 4, 3, of(4, 0, 1, 3)},
		{of(5, 0), 2, 0, of(5, 0)},
		{of(1, 0), 0, 8, of(1, 8)},
		{of(2, 0, 1, 3, 2, 0), 2, 0, of(5, 0)},
		{of(2, 0, 1, 3, 2, 0), 1, 3, of(1, 0, 2, 3, 2, 0)},
		{of(2, 0, 1, 3, 2, 0), 3, 3, of(2, 0, 2, 3, 1, 0)},
		{of(2, 0, 1, 3, 2, 1), 2, 1, of(2, 0, 3, 1)},
		{of(2, 0, 1, 3, 2, 1), 2, 5, of(2, 0, 1, 5, 2, 1)},
		{of(1, 1, 1, 2, 1, 1, 1, 2, 1, 1), 2, 2, of(1, 1, 3, 2, 1, 1)},
		{of(math.MaxInt, 1), math.MaxInt - 1, 0, of(math.MaxInt-1, 1, 1, 0)},
		{of(math.MaxInt, 1), math.MaxInt, 0, of(math.MaxInt, 1)},
		{of(math.MaxInt, 1), math.MinInt, 0, of(math.MaxInt, 1)},
	} {
		same(t, "Set", runs.Set(c.l, c.i, c.b), c.want)
	}
}

// P5.2: Cut, between any two places.
func TestCut(t *testing.T) {
	for _, row := range rows() {
		l := runs.Of(row)
		for _, from := range edges() {
			for _, to := range edges() {
				var want []int
				if a, b := min(max(from, 0), len(row)), min(max(to, 0), len(row)); a < b {
					want = row[a:b]
				}
				same(t, "Cut", runs.Cut(l, from, to), runs.Of(want))
			}
		}
	}
}

// P5.2: Cut, written out.
func TestCutRuns(t *testing.T) {
	l := of(2, 0, 1, 3, 2, 0)
	for _, c := range []struct {
		from, to int
		want     []api.Run
	}{
		{0, 5, l}, {-9, 99, l}, {math.MinInt, math.MaxInt, l}, {1, 4, of(1, 0, 1, 3, 1, 0)}, {0, 2, of(2, 0)}, {2, 3, of(1, 3)}, {3, 5, of(2, 0)}, {4, 5, of(1, 0)}, {4, math.MaxInt, of(1, 0)}, {-1, 1, of(1, 0)},
		{3, 3, nil}, {4, 1, nil}, {5, 5, nil}, {5, 9, nil}, {-3, 0, nil}, {-3, -1, nil}, {7, 9, nil}, {math.MaxInt, math.MinInt, nil}, {math.MaxInt, 0, nil}, {5, math.MinInt, nil},
	} {
		same(t, "Cut", runs.Cut(l, c.from, c.to), c.want)
	}
	same(t, "Cut of none", runs.Cut(nil, 0, 5), nil)
	same(t, "Cut of very many", runs.Cut(of(math.MaxInt-2, 1, 2, 5), math.MaxInt-3, math.MaxInt), of(1, 1, 2, 5))
}

// P5.2, P5.3: Fill, between any two places, with a block that is there, or is not.
func TestFill(t *testing.T) {
	for _, row := range rows() {
		l := runs.Of(row)
		for _, from := range edges() {
			for _, to := range edges() {
				for _, b := range []int{api.Sand, api.Glass} {
					want := slices.Clone(row)
					for i := range want {
						if i >= from && i < to {
							want[i] = b
						}
					}
					got := runs.Fill(l, from, to, b)
					same(t, "Fill", got, runs.Of(want))
					if len(row) > 0 && !runs.May(got, len(row)) {
						t.Errorf("Fill(%v, %d, %d, %d) = %v, which may not be", l, from, to, b, got)
					}
				}
			}
		}
	}
}

// P5.2: Fill, written out.
func TestFillRuns(t *testing.T) {
	l := of(2, 0, 1, 3, 2, 0)
	for _, c := range []struct {
		from, to, b int
		want        []api.Run
	}{
		{1, 4, 8, of(1, 0, 3, 8, 1, 0)}, {-5, 2, 3, of(3, 3, 2, 0)}, {3, 99, 3, of(2, 0, 3, 3)}, {2, 3, 0, of(5, 0)}, {0, 5, 1, of(5, 1)}, {math.MinInt, math.MaxInt, 0, of(5, 0)}, {0, 1, 3, of(1, 3, 1, 0, 1, 3, 2, 0)},
		{4, 1, 3, l}, {2, 2, 0, l}, {5, 9, 3, l}, {-9, 0, 3, l}, {math.MaxInt, math.MinInt, 3, l},
	} {
		same(t, "Fill", runs.Fill(l, c.from, c.to, c.b), c.want)
	}
	same(t, "Fill of none", runs.Fill(nil, 0, 5, 1), nil)
	same(t, "Fill of very many", runs.Fill(of(math.MaxInt, 1), 1, math.MaxInt-1, 8), of(1, 1, math.MaxInt-2, 8, 1, 1))
}

// P5.2: with what is no block nothing is set or filled.
func TestNoBlock(t *testing.T) {
	l := of(2, 0, 1, 3, 2, 0)
	for _, b := range odd() {
		for i := -1; i <= 5; i++ {
			same(t, "Set to what is no block", runs.Set(l, i, b), l)
			same(t, "Fill with what is no block", runs.Fill(l, i, 5, b), l)
		}
	}
}

// P5.2: Count, of each block, of those that are not there, and of what is no block.
func TestCount(t *testing.T) {
	for _, row := range rows() {
		l := runs.Of(row)
		for _, b := range append(block.All(), odd()...) {
			want := 0
			for _, is := range row {
				if is == b {
					want++
				}
			}
			if got := runs.Count(l, b); got != want {
				t.Errorf("Count(%v, %d) = %d, want %d", l, b, got, want)
			}
		}
	}
	if got := runs.Count(of(1<<32, 1, 5, 2, 7, 1), 1); got != 1<<32+7 {
		t.Errorf("Count of very many = %d", got)
	}
}

// P5.3: Of of Cells is the runs again; and Cells of Of is the cells.
func TestAgain(t *testing.T) {
	for _, row := range rows() {
		l := runs.Of(row)
		same(t, "Of of Cells", runs.Of(runs.Cells(l)), l)
		if !slices.Equal(runs.Cells(l), row) {
			t.Errorf("Cells of Of of %v is %v", row, runs.Cells(l))
		}
		if len(row) > 0 && !runs.May(l, len(row)) {
			t.Errorf("Of(%v) = %v, which may not be", row, l)
		}
	}
}

// P5.3: what is set and filled time upon time may be, and is what a plain row of cells becomes.
func TestManyTimes(t *testing.T) {
	const n = 40
	cells, l, step := make([]int, n), runs.Make(n, api.Air), uint32(1)
	next := func(m int) int { // a rule of its own, so that each time is the same
		step = step*1664525 + 1013904223
		return int(step>>8) % m
	}
	for range 3000 {
		b, from := block.All()[next(4)], next(n)
		to := from + 1
		if next(3) == 0 {
			to = min(from+next(9), n)
			l = runs.Fill(l, from, to, b)
		} else {
			l = runs.Set(l, from, b)
		}
		for i := from; i < to; i++ {
			cells[i] = b
		}
		if !runs.May(l, n) || !slices.Equal(runs.Cells(l), cells) {
			t.Fatalf("behind %d to %d set to %d the runs are %v, want the cells %v", from, to, b, l, cells)
		}
	}
}

// answers are those of each call that answers runs, of l: where it changes something, and where it does not.
func answers(l []api.Run) map[string][]api.Run {
	return map[string][]api.Run{
		"Set": runs.Set(l, 2, 0), "Set of the same": runs.Set(l, 0, 0), "Set at the end": runs.Set(l, 4, 5), "Set of no place": runs.Set(l, 9, 1), "Set ahead of all": runs.Set(l, -1, 1), "Set to no block": runs.Set(l, 1, 6),
		"Cut": runs.Cut(l, 1, 4), "Cut of all": runs.Cut(l, 0, 5), "Cut of some": runs.Cut(l, 0, 2),
		"Fill": runs.Fill(l, 0, 3, 1), "Fill of the end": runs.Fill(l, 3, 5, 3), "Fill of none": runs.Fill(l, 4, 1, 3), "Fill with no block": runs.Fill(l, 0, 5, 6), "Fill of the same": runs.Fill(l, 2, 3, 3),
	}
}

// P5.1, P5.2: what is handed in stays as it is, its spare room too, and what is answered is new memory (rule R4).
func TestNewMemory(t *testing.T) {
	whole := of(2, 0, 1, 3, 2, 0, 7, 7, 8, 8)
	kept, l := slices.Clone(whole), whole[:3]
	want := answers(of(2, 0, 1, 3, 2, 0))
	runs.May(l, 5)
	runs.Cells(l)
	runs.At(l, 2)
	runs.Count(l, 0)
	runs.Len(l)
	for range runs.All(l) {
	}
	for what, got := range answers(l) {
		same(t, what, got, want[what])
		same(t, what+"'s list", whole, kept)
		got = append(got, api.Run{Len: 9, Block: 9}, api.Run{Len: 9, Block: 9})
		for i := range got {
			got[i] = api.Run{Len: -9, Block: -9}
		}
		same(t, what+"'s list behind a change of the answer", whole, kept)
	}
	row := []int{1, 1, 2, 5, 5}
	runs.Of(row[:3])
	if !slices.Equal(row, []int{1, 1, 2, 5, 5}) {
		t.Errorf("Of made its cells %v", row)
	}
}
