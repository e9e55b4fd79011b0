package code_test

import (
	"bytes"
	"math"
	"slices"
	"testing"

	"breccia/api"
	"breccia/block"
	"breccia/code"
	"breccia/runs"
)

// most is the greatest Len that has bytes.
const most = 1 << 20

// of is runs, told as Len and Block by turns.
func of(told ...int) []api.Run {
	var l []api.Run
	for i := 0; i < len(told); i += 2 {
		l = append(l, api.Run{Len: told[i], Block: told[i+1]})
	}
	return l
}

// by is bytes.
func by(b ...byte) []byte { return b }

// odd are numbers that are no blocks.
func odd() []int {
	return []int{api.Away, 6, 7, api.Blocks, api.Blocks + 1, -2, 255, 256, 257, -255, 1 << 32, 1<<32 + 1, math.MinInt, math.MaxInt}
}

// strings are all strings of up to long bytes of some.
func strings(some []byte, long int) [][]byte {
	all, longest := [][]byte{{}}, [][]byte{{}}
	for range long {
		var longer [][]byte
		for _, b := range longest {
			for _, c := range some {
				longer = append(longer, append(slices.Clone(b), c))
			}
		}
		all, longest = append(all, longer...), longer
	}
	return all
}

// counts are numbers with bytes of each length, and at each end of those.
func counts() map[int][]byte {
	return map[int][]byte{
		0: by(0), 1: by(1), 2: by(2), 126: by(126), 127: by(127),
		128: by(128, 1), 129: by(129, 1), 255: by(255, 1), 256: by(128, 2), 300: by(172, 2), 8192: by(128, 64), 16256: by(128, 127), 16383: by(255, 127),
		16384: by(128, 128, 1), 16385: by(129, 128, 1), 16512: by(128, 129, 1), 32767: by(255, 255, 1), 100000: by(160, 141, 6), most - 1: by(255, 255, 63), most: by(128, 128, 64),
	}
}

func write(t *testing.T, l []api.Run, want []byte, fault api.Errno) {
	t.Helper()
	if got, e := code.Write(l); !bytes.Equal(got, want) || e != fault {
		t.Errorf("Write(%v) = %v, %d, want %v, %d", l, got, e, want, fault)
	}
}

func read(t *testing.T, b []byte, n int, want []api.Run, fault api.Errno) {
	t.Helper()
	if got, e := code.Read(b, n); !slices.Equal(got, want) || e != fault {
		t.Errorf("Read(%v, %d) = %v, %d, want %v, %d", b, n, got, e, want, fault)
	}
}

func digits(t *testing.T, b []byte, n, size int, fault api.Errno) {
	t.Helper()
	if got, long, e := code.Digits(b); got != n || long != size || e != fault {
		t.Errorf("Digits(%v) = %d, %d, %d, want %d, %d, %d", b, got, long, e, n, size, fault)
	}
}

// P6.1: Number, at each end of what has so many bytes, and of numbers that have none.
func TestNumber(t *testing.T) {
	for n, want := range counts() {
		if got := code.Number(n); !bytes.Equal(got, want) {
			t.Errorf("Number(%d) = %v, want %v", n, got, want)
		}
	}
	for _, n := range []int{-1, -2, -128, -most, most + 1, most + 2, 1<<21 - 1, 1 << 21, 1 << 32, 1<<32 + 1, math.MinInt, math.MinInt + 1, math.MaxInt} {
		if got := code.Number(n); len(got) != 0 {
			t.Errorf("Number(%d) = %v, want none", n, got)
		}
	}
}

// P6.1: Digits, of each number's bytes, with none behind and with any behind.
func TestDigits(t *testing.T) {
	for n, b := range counts() {
		digits(t, b, n, len(b), api.OK)
		for _, more := range [][]byte{by(0), by(1), by(128), by(255), by(0, 0, 0), by(255, 255, 255, 255)} {
			digits(t, slices.Concat(b, more), n, len(b), api.OK)
		}
	}
}

// P6.1: Digits and Number are each other's, of each number.
func TestEachNumber(t *testing.T) {
	for n := 0; n <= most; n++ {
		b := code.Number(n)
		if got, size, e := code.Digits(b); got != n || size != len(b) || e != api.OK {
			t.Fatalf("Number(%d) = %v, whose Digits are %d, %d, %d", n, b, got, size, e)
		}
	}
}

// P6.1: Digits, of bytes that end ahead of their last digit, whatever stands in the room behind them.
func TestDigitsShort(t *testing.T) {
	digits(t, nil, 0, 0, api.ErrShort)
	digits(t, by(), 0, 0, api.ErrShort)
	for _, a := range []byte{128, 129, 172, 254, 255} {
		digits(t, by(a), 0, 0, api.ErrShort)
		for _, b := range []byte{128, 129, 172, 254, 255} {
			digits(t, by(a, b), 0, 0, api.ErrShort)
		}
	}
	room := by(172, 130, 2, 1)
	for n := range 3 {
		digits(t, room[:n], 0, 0, api.ErrShort)
	}
}

// P6.1: Digits, of bytes that are not of their form: too many digits, a last 0, a number that is too great.
func TestDigitsForm(t *testing.T) {
	for _, b := range [][]byte{
		by(128, 128, 128), by(255, 255, 255), by(129, 129, 128), by(128, 128, 128, 1), by(128, 128, 192, 0), by(128, 128, 128, 128, 1),
		by(128, 0), by(129, 0), by(255, 0), by(128, 0, 1), by(129, 0, 128), by(128, 128, 0), by(129, 128, 0), by(128, 129, 0), by(255, 255, 0, 1),
		by(129, 128, 64), by(128, 129, 64), by(255, 255, 64), by(128, 128, 65), by(255, 255, 65), by(128, 128, 127), by(255, 255, 127), by(129, 128, 64, 1),
	} {
		digits(t, b, 0, 0, api.ErrForm)
	}
}

// P6.1: Digits, of all three bytes: a number is told by its own bytes alone, and of what is none the first fault.
func TestDigitsOfAll(t *testing.T) {
	for _, b := range strings(by(0, 1, 2, 63, 64, 65, 126, 127, 128, 129, 191, 192, 193, 254, 255), 3) {
		last := slices.IndexFunc(b, func(c byte) bool { return c < 128 })
		n, worth := 0, 1
		for _, c := range b[:last+1] {
			n, worth = n+int(c%128)*worth, worth*128
		}
		switch {
		case last < 0 && len(b) < 3:
			digits(t, b, 0, 0, api.ErrShort)
		case last < 0, last > 0 && b[last] == 0, n > most:
			digits(t, b, 0, 0, api.ErrForm)
		default:
			digits(t, b, n, last+1, api.OK)
		}
	}
}

// P6.1: Write, of runs that may be.
func TestWrite(t *testing.T) {
	for _, c := range []struct {
		l    []api.Run
		want []byte
	}{
		{of(300, 1), by(1, 172, 2)},
		{of(1, 0), by(0, 1)},
		{of(2, 0, 1, 3, 2, 0), by(0, 2, 3, 1, 0, 2)},
		{of(127, 15, 128, 8), by(15, 127, 8, 128, 1)},
		{of(16383, 5, 16384, 4, 1, 2), by(5, 255, 127, 4, 128, 128, 1, 2, 1)},
		{of(api.Cells, 0), by(0, 128, 64)},
		{of(most, 1), by(1, 128, 128, 64)},
		{of(most-1, 1, 1, 0), by(1, 255, 255, 63, 0, 1)},
		{of(1, 0, most-1, 1), by(0, 1, 1, 255, 255, 63)},
	} {
		write(t, c.l, c.want, api.OK)
	}
	for _, b := range block.All() {
		write(t, of(7, b), by(byte(b), 7), api.OK)
	}
	for n, b := range counts() {
		if n > 0 {
			write(t, of(n, 2), append(by(2), b...), api.OK)
		}
	}
}

// P6.1: Write, of runs that may not be, or of too many cells.
func TestWriteNone(t *testing.T) {
	for _, l := range [][]api.Run{
		nil, of(), of(0, 1), of(0, 1, 5, 2), of(5, 2, 0, 1), of(2, 1, 0, 2, 3, 1),
		of(-1, 1), of(-1, 1, 6, 2), of(6, 1, -1, 2), of(math.MinInt, 1), of(math.MinInt, 1, math.MinInt, 2, 5, 3),
		of(1, 1, 1, 1), of(2, 0, 3, 0), of(1, 3, 2, 0, 2, 0), of(2, 15, 2, 15, 1, 3),
		of(most+1, 1), of(most, 1, 1, 0), of(1, 0, most, 1), of(most/2, 0, most/2, 1, 1, 0), of(most, 1, most, 2), of(1<<32, 1), of(1<<32+5, 1), of(math.MaxInt, 1),
		of(math.MaxInt, 1, 1, 2), of(math.MaxInt, 1, math.MaxInt, 2, 2, 3), of(math.MaxInt, 1, math.MaxInt, 2, 7, 3), of(1<<62, 0, 1<<62, 1, 1<<62, 0, 1<<62+5, 1),
	} {
		write(t, l, nil, api.ErrArg)
	}
	for _, b := range odd() {
		for _, l := range [][]api.Run{of(5, b), of(3, b, 2, 1), of(3, 1, 2, b), of(2, 1, 2, b, 1, 1)} {
			write(t, l, nil, api.ErrArg)
		}
	}
}

// P6.2: Read, of the bytes of n cells.
func TestRead(t *testing.T) {
	for _, c := range []struct {
		b    []byte
		n    int
		want []api.Run
	}{
		{by(1, 172, 2), 300, of(300, 1)},
		{by(0, 1), 1, of(1, 0)},
		{by(0, 2, 3, 1, 0, 2), 5, of(2, 0, 1, 3, 2, 0)},
		{by(15, 127, 8, 128, 1), 255, of(127, 15, 128, 8)},
		{by(5, 255, 127, 4, 128, 128, 1, 2, 1), 32768, of(16383, 5, 16384, 4, 1, 2)},
		{by(0, 128, 64), api.Cells, of(api.Cells, 0)},
		{by(1, 128, 128, 64), most, of(most, 1)},
		{by(1, 255, 255, 63, 0, 1), most, of(most-1, 1, 1, 0)},
	} {
		read(t, c.b, c.n, c.want, api.OK)
		for short := range c.b {
			read(t, c.b[:short], c.n, nil, api.ErrShort)
		}
		for _, more := range []byte{0, 1, 6, 15, 128, 255} {
			read(t, append(slices.Clone(c.b), more), c.n, nil, api.ErrForm)
			read(t, append(slices.Clone(c.b), more, 1), c.n, nil, api.ErrForm)
		}
	}
	for _, b := range block.All() {
		read(t, by(byte(b), 7), 7, of(7, b), api.OK)
	}
}

// P6.2: Read, of bytes that end too soon.
func TestReadShort(t *testing.T) {
	for _, c := range []struct {
		b []byte
		n int
	}{
		{nil, 1}, {by(), 1}, {nil, most}, {by(1), 1}, {by(0), 1}, {by(1, 128), 1}, {by(1, 128), 300}, {by(1, 255, 255), 1}, {by(1, 128, 128), most},
		{by(1, 1), 2}, {by(1, 172, 2), 301}, {by(1, 1), most}, {by(1, 255, 255, 63), most}, {by(1, 1, 2), 2}, {by(1, 1, 2, 129), 2}, {by(1, 1, 2, 129), 300}, {by(1, 1, 2, 1), 3}, {by(1, 1, 2, 1, 3), 3},
	} {
		read(t, c.b, c.n, nil, api.ErrShort)
	}
	for n := 2; n <= most; n *= 2 {
		read(t, append(by(4), code.Number(n-1)...), n, nil, api.ErrShort)
	}
}

// P6.2: Read, of bytes that are not of their form.
func TestReadForm(t *testing.T) {
	for _, c := range []struct {
		b []byte
		n int
	}{
		{by(1, 1, 1, 1), 2}, {by(0, 2, 0, 3), 5}, {by(2, 1, 1, 1, 1, 1), 3},
		{by(1, 128, 0), 1}, {by(1, 129, 0), 1}, {by(1, 128, 128, 0), 1}, {by(1, 128, 128, 128), most}, {by(1, 128, 128, 128, 1), most}, {by(1, 129, 128, 64), most}, {by(1, 128, 128, 65), most}, {by(1, 255, 255, 127), most},
		{by(1, 0), 1}, {by(1, 0, 1, 1), 1}, {by(1, 0, 2, 1), 1}, {by(1, 1, 2, 0), 2}, {by(1, 1, 2, 0, 3, 1), 2},
		{by(1, 2), 1}, {by(1, 173, 2), 300}, {by(1, 1, 2, 2), 2}, {by(1, 128, 1, 2, 1), 128 - 1}, {by(1, 128, 128, 64), most - 1},
		{by(1, 1, 2), 1}, {by(1, 1, 1), 1}, {by(1, 1, 0), 1}, {by(1, 1, 6), 1}, {by(1, 1, 2, 128), 1}, {by(1, 1, 2, 1), 1}, {by(1, 1, 2, 0), 1},
	} {
		read(t, c.b, c.n, nil, api.ErrForm)
	}
	for b := range 256 {
		if !block.May(b) {
			read(t, by(byte(b), 1), 1, nil, api.ErrForm)
			read(t, by(1, 1, byte(b), 1), 2, nil, api.ErrForm)
		}
	}
}

// P6.2: of two faults Read tells that which is met first.
func TestReadFirst(t *testing.T) {
	for _, c := range []struct {
		b     []byte
		n     int
		fault api.Errno
	}{
		{by(6), 1, api.ErrForm},                 // no block; nothing behind it
		{by(255), 1, api.ErrForm},               // the same
		{by(16, 128), 1, api.ErrForm},           // no block; no last digit
		{by(1, 1, 1), 2, api.ErrForm},           // the block ahead; nothing behind it
		{by(1, 1, 1, 128), 2, api.ErrForm},      // the block ahead; no last digit
		{by(1, 128), 1, api.ErrShort},           // no last digit; more than is left
		{by(1, 255, 255), 1, api.ErrShort},      // the same
		{by(1, 1, 2, 129), 2, api.ErrShort},     // the same, in the second run
		{by(1, 0, 6), 1, api.ErrForm},           // the Len 0; no block
		{by(1, 1, 2, 1), 3, api.ErrShort},       // nothing but too few cells
		{by(1, 1, 2, 1, 6), 3, api.ErrForm},     // no block; too few cells
		{by(1, 1, 2, 1, 1), 3, api.ErrShort},    // nothing behind a block; too few cells
		{by(1, 1, 2, 4, 3), 3, api.ErrForm},     // more than is left; nothing behind a block
		{by(1, 1, 2), 2, api.ErrShort},          // nothing behind a block, of cells that are left
		{by(1, 2, 2), 2, api.ErrForm},           // more bytes, and no last digit among them
		{by(1, 128, 0, 2, 128), 1, api.ErrForm}, // a last 0; no last digit
	} {
		read(t, c.b, c.n, nil, c.fault)
	}
}

// rows are all rows of n cells of three blocks.
func rows(n int) [][]int {
	all := [][]int{{}}
	for range n {
		var longer [][]int
		for _, row := range all {
			for _, b := range []int{api.Air, api.Sand, api.Water + 7} {
				longer = append(longer, append(slices.Clone(row), b))
			}
		}
		all = longer
	}
	return all
}

// P6.3: what is written is read as it was, of as many cells, and of no other number of cells.
func TestReadAgain(t *testing.T) {
	all := [][]api.Run{of(most, 0), of(1, 1, most-1, 2), of(16384, 1, 16383, 0, 128, 1, 127, 0, 1, 15)}
	for n := 1; n <= 6; n++ {
		for _, row := range rows(n) {
			all = append(all, runs.Of(row))
		}
	}
	for _, l := range all {
		b, e := code.Write(l)
		if e != api.OK {
			t.Fatalf("Write(%v): %d", l, e)
		}
		n := runs.Len(l)
		read(t, b, n, l, api.OK)
		if n < most {
			read(t, b, n+1, nil, api.ErrShort)
		}
		if n > 1 {
			read(t, b, n-1, nil, api.ErrForm)
		}
	}
}

// P6.3: a chunk whose cells differ one from the next is read as it was.
func TestReadAgainChunk(t *testing.T) {
	var cells []int
	for i := range api.Cells {
		cells = append(cells, block.All()[(i+i/7)%len(block.All())])
	}
	l := runs.Of(cells)
	b, e := code.Write(l)
	if e != api.OK {
		t.Fatalf("Write of a chunk: %d", e)
	}
	read(t, b, api.Cells, l, api.OK)
}

// P6.3: what is read may be, and no bytes but those of its own are read as it.
func TestNothingElse(t *testing.T) {
	good := 0
	for _, b := range strings(by(0, 1, 2, 3, 6, 15, 16, 127, 128, 129, 255), 5) {
		for _, n := range []int{1, 2, 3, 4, 127, 128, 129, 257, 16512, most} {
			l, e := code.Read(b, n)
			if e != api.OK {
				if len(l) != 0 || e != api.ErrForm && e != api.ErrShort {
					t.Fatalf("Read(%v, %d) = %v, %d", b, n, l, e)
				}
				continue
			}
			good++
			if again, e := code.Write(l); !runs.May(l, n) || e != api.OK || !bytes.Equal(again, b) {
				t.Fatalf("Read(%v, %d) = %v, whose bytes are %v, %d", b, n, l, again, e)
			}
		}
	}
	if good == 0 {
		t.Error("nothing was read")
	}
}

// P6.1, P6.2: what is handed in stays as it is, its spare room too, and what is answered is new memory (rule R4).
func TestNewMemory(t *testing.T) {
	whole, bs := of(300, 1, 5, 0, 7, 7, 8, 8), by(1, 172, 2, 0, 5, 9, 9, 9, 9)
	kept, keptBytes := slices.Clone(whole), slices.Clone(bs)
	check := func(what string) {
		t.Helper()
		if !slices.Equal(whole, kept) || !bytes.Equal(bs, keptBytes) {
			t.Errorf("behind %s what was handed in is %v, %v", what, whole, bs)
		}
	}
	written, _ := code.Write(whole[:2])
	check("Write")
	got, _ := code.Read(bs[:5], 305)
	code.Digits(bs[1:3])
	check("Read")
	for i := range written {
		written[i] = 77
	}
	for i := range got {
		got[i] = api.Run{Len: -9, Block: -9}
	}
	check("a change of the answers")
	write(t, whole[:2], bs[:5], api.OK)
	read(t, bs[:5], 305, whole[:2], api.OK)
	number := code.Number(300)
	number[0] = 0
	if again := code.Number(300); !bytes.Equal(again, by(172, 2)) {
		t.Errorf("behind a change of the answer Number(300) = %v", again)
	}
}
