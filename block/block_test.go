package block_test

import (
	"math"
	"slices"
	"testing"

	"breccia/api"
	"breccia/block"
)

// kind is what is so of a number.
type kind struct {
	may, solid, wet, falls, climbs, yields bool
	level                                  int
	name                                   string
}

func of(b int) kind {
	return kind{block.May(b), block.Solid(b), block.Wet(b), block.Falls(b), block.Climbs(b), block.Yields(b), block.Level(b), block.Name(b)}
}

// kinds are those of the blocks, each written out.
func kinds() map[int]kind {
	water := func(level int, name string) kind {
		return kind{may: true, wet: true, yields: true, level: level, name: name}
	}
	return map[int]kind{
		0:  {may: true, yields: true, level: -1, name: "air"},
		1:  {may: true, solid: true, level: -1, name: "stone"},
		2:  {may: true, solid: true, level: -1, name: "dirt"},
		3:  {may: true, solid: true, falls: true, level: -1, name: "sand"},
		4:  {may: true, climbs: true, level: -1, name: "ladder"},
		5:  {may: true, solid: true, level: -1, name: "glass"},
		8:  water(0, "water0"),
		9:  water(1, "water1"),
		10: water(2, "water2"),
		11: water(3, "water3"),
		12: water(4, "water4"),
		13: water(5, "water5"),
		14: water(6, "water6"),
		15: water(7, "water7"),
	}
}

// odd are numbers that are no blocks: between them, beside them, and such as are one when cut to fewer bits.
func odd() []int {
	return []int{6, 7, 16, 17, 18, 19, 20, 24, 31, 32, 64, 128, 256, 257, 259, 260, 264, 1 << 16, 1<<16 + 3, 1 << 32, 1<<32 + 3, 1<<32 + 8, math.MaxInt - 7, math.MaxInt,
		-2, -3, -4, -5, -7, -8, -9, -15, -16, -17, -256, -1 << 32, math.MinInt, math.MinInt + 3, math.MinInt + 8}
}

// P4.1, P4.2: all that is so of each block, and its name.
func TestBlocks(t *testing.T) {
	for b, want := range kinds() {
		if got := of(b); got != want {
			t.Errorf("block %d is %+v, want %+v", b, got, want)
		}
	}
}

// P4.1, P4.2: Away is solid, but no block, and has no name.
func TestAway(t *testing.T) {
	if got, want := of(api.Away), (kind{solid: true, level: -1}); got != want {
		t.Errorf("Away is %+v, want %+v", got, want)
	}
}

// P4.1, P4.2: of a number that is no block nothing is so.
func TestNoBlocks(t *testing.T) {
	for _, b := range odd() {
		if got, want := of(b), (kind{level: -1}); got != want {
			t.Errorf("%d, no block, is %+v, want %+v", b, got, want)
		}
	}
}

// P4.1: Water, of each level, and of numbers to either side of them.
func TestWater(t *testing.T) {
	for _, c := range [][2]int{
		{0, 8}, {1, 9}, {2, 10}, {3, 11}, {4, 12}, {5, 13}, {6, 14}, {7, 15},
		{-1, 8}, {-2, 8}, {-8, 8}, {-9, 8}, {math.MinInt, 8}, {math.MinInt + 8, 8},
		{8, 15}, {9, 15}, {15, 15}, {16, 15}, {1 << 32, 15}, {math.MaxInt - 7, 15}, {math.MaxInt, 15},
	} {
		if got := block.Water(c[0]); got != c[1] {
			t.Errorf("Water(%d) = %d, want %d", c[0], got, c[1])
		}
	}
}

// P4.1: the level of the water of a level is that level.
func TestLevelOfWater(t *testing.T) {
	for level := range 8 {
		if got := block.Level(block.Water(level)); got != level {
			t.Errorf("Level(Water(%d)) = %d", level, got)
		}
	}
}

// P4.2: Parse, of each block's name.
func TestParse(t *testing.T) {
	for want, k := range kinds() {
		if b, is := block.Parse(k.name); b != want || !is {
			t.Errorf("Parse(%q) = %d, %v, want %d, true", k.name, b, is, want)
		}
	}
}

// P4.2: Parse, of texts that are no names: the empty one, parts of names, such as have more, other letters, numbers.
func TestParseNone(t *testing.T) {
	for _, s := range []string{
		"", " ", "\x00", "0", "1", "8", "-1", "away", "Away", "none",
		"ai", "airs", "air ", " air", "air\n", "air\x00", "Air", "AIR", "aIr", "air,stone", "airstone",
		"ston", "Stone", "STONE", "sandy", "san", "sand0", "ladders", "Glass", "glas", "dir", "dirt ",
		"water", "water8", "water9", "water00", "water07", "water-1", "water 0", "water0 ", "Water0", "water10", "water_", "wate", "waterx", "w\u00e4ter0",
		string(make([]byte, 70000)), "stone" + string(make([]byte, 5)),
	} {
		if b, is := block.Parse(s); b != 0 || is {
			t.Errorf("Parse(%q) = %d, %v, want 0, false", s, b, is)
		}
	}
}

// P4.2: All, rising.
func TestAll(t *testing.T) {
	if got, want := block.All(), []int{0, 1, 2, 3, 4, 5, 8, 9, 10, 11, 12, 13, 14, 15}; !slices.Equal(got, want) {
		t.Errorf("All() = %v, want %v", got, want)
	}
}

// P4.2: what All answers is new memory, the spare room too (rule R4).
func TestAllIsNew(t *testing.T) {
	kept, first := block.All(), block.All()
	for i := range first {
		first[i] = 99
	}
	second := append(block.All(), 77)
	third := append(block.All(), 78)
	if second[len(second)-1] != 77 || third[len(third)-1] != 78 {
		t.Error("two answers of All share their spare room")
	}
	if got := block.All(); !slices.Equal(got, kept) {
		t.Errorf("All() = %v behind a change of an earlier answer, want %v", got, kept)
	}
}

// P4.3: each block is solid, gives way, or is climbed, and one of these alone.
func TestOneAlone(t *testing.T) {
	for _, b := range block.All() {
		n := 0
		for _, so := range []bool{block.Solid(b), block.Yields(b), block.Climbs(b)} {
			if so {
				n++
			}
		}
		if n != 1 {
			t.Errorf("%d of solid, gives way, is climbed hold of block %d, want 1", n, b)
		}
	}
	if len(block.All()) != 14 {
		t.Errorf("All() has %d blocks, want 14", len(block.All()))
	}
}
