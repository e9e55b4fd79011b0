package crc_test

import (
	"bytes"
	"slices"
	"testing"

	"breccia/api"
	"breccia/crc"
)

// by is bytes.
func by(b ...byte) []byte { return b }

// plain is the check of bytes behind those whose check is c, bit by bit as the chapter's words say.
func plain(c uint16, b ...byte) uint16 {
	for _, x := range b {
		c ^= uint16(x) << 8
		for range 8 {
			out := c & 0x8000
			c <<= 1
			if out != 0 {
				c ^= 0x1021
			}
		}
	}
	return c
}

// mixed are n bytes, of which no stretch is like another.
func mixed(n int) []byte {
	b, x := make([]byte, n), uint32(n+1)
	for i := range b {
		x = x*1664525 + 1013904223
		b[i] = byte(x >> 24)
	}
	return b
}

// samples are bytes of many kinds and lengths.
func samples() [][]byte {
	l := [][]byte{nil, by(), by(0xFF, 0xFF), by(0xFF, 0xFF, 0, 0), by(0x1D, 0x0F), by(0x29, 0xB1), []byte("123456789")}
	for n := 1; n <= 5; n++ {
		for _, x := range []byte{0, 1, 0x10, 0x80, 0xFF} {
			l = append(l, bytes.Repeat(by(x), n))
		}
	}
	for n := range 70 {
		l = append(l, mixed(n))
	}
	return append(l, mixed(255), mixed(256), mixed(257), mixed(65535), mixed(65536), mixed(65546))
}

// turn turns the bits of b from the place at on (the highest bit of the first byte is place 0) by those of pattern, its highest one first.
func turn(b []byte, at int, pattern uint16) {
	for i := range 16 {
		if pattern>>(15-i)&1 == 1 {
			b[(at+i)/8] ^= 0x80 >> ((at + i) % 8)
		}
	}
}

func take(t *testing.T, b, want []byte, fault api.Errno) {
	t.Helper()
	if got, e := crc.Take(b); !bytes.Equal(got, want) || e != fault {
		t.Errorf("Take(%v) = %v, %d, want %v, %d", b, got, e, want, fault)
	}
	if good := crc.Good(b); good != (fault == api.OK) {
		t.Errorf("Good(%v) = %v, and Take tells %d", b, good, fault)
	}
}

// P7.1: checks of bytes that were worked out elsewhere.
func TestKnown(t *testing.T) {
	all := make([]byte, 256)
	for i := range all {
		all[i] = byte(i)
	}
	for _, c := range []struct {
		b    []byte
		want crc.Check
	}{
		{nil, 0xFFFF}, {by(), 0xFFFF},
		{by(0), 0xE1F0}, {by(1), 0xF1D1}, {by(0x80), 0x7078}, {by(0xFF), 0xFF00},
		{[]byte("A"), 0xB915}, {[]byte("a"), 0x9D77}, {[]byte("ab"), 0x69F0}, {[]byte("ba"), 0x0CC0}, {[]byte("abc"), 0x514A}, {[]byte("breccia"), 0x1B60},
		{[]byte("123456789"), 0x29B1}, {[]byte("1234567890"), 0x3218}, {[]byte("123456789\x00"), 0x044B},
		{by(0, 0), 0x1D0F}, {by(0, 0, 0), 0xCC9C}, {by(0xFF, 0xFF), 0}, {by(0xFF, 0xFF, 0xFF, 0xFF), 0x1D0F}, {by(0x1D, 0x0F), 0x99CF},
		{all, 0x3FBD}, {make([]byte, 65536), 0x1D0F},
	} {
		if got := crc.Of(c.b); got != c.want {
			t.Errorf("Of(%v) = %04X, want %04X", c.b, got, c.want)
		}
	}
	if got := crc.Start(); got != 0xFFFF {
		t.Errorf("Start() = %04X", got)
	}
}

// P7.1: With, of each word and each byte, as the words say it bit by bit.
func TestWithEach(t *testing.T) {
	for c := range 1 << 16 {
		for _, x := range []byte{0, 1, 0x10, 0x5A, 0x80, 0xFF} {
			if got, want := crc.Check(c).With(x), crc.Check(plain(uint16(c), x)); got != want {
				t.Fatalf("%04X.With(%d) = %04X, want %04X", c, x, got, want)
			}
		}
	}
	for x := range 256 {
		for _, c := range []uint16{0, 1, 0x0F, 0x10, 0xFF, 0x100, 0x1021, 0x8000, 0xABCD, 0xFFFF} {
			if got, want := crc.Check(c).With(byte(x)), crc.Check(plain(c, byte(x))); got != want {
				t.Fatalf("%04X.With(%d) = %04X, want %04X", c, x, got, want)
			}
		}
	}
}

// P7.1: With puts bytes one behind the other, however many at once; with none the check stays.
func TestWithMore(t *testing.T) {
	for _, b := range samples() {
		want := crc.Check(plain(0xFFFF, b...))
		if got := crc.Of(b); got != want {
			t.Errorf("Of(%d bytes) = %04X, want %04X", len(b), got, want)
		}
		for at := 0; at <= len(b); at += 1 + len(b)/9 {
			if got := crc.Start().With(b[:at]...).With().With(b[at:]...); got != want {
				t.Errorf("the check of %d bytes and %d behind them = %04X, want %04X", at, len(b)-at, got, want)
			}
		}
	}
	for _, c := range []crc.Check{0, 1, 0x29B1, 0x8000, 0xFFFF} {
		if got, again := c.With(), c.With(nil...); got != c || again != c {
			t.Errorf("%04X with no bytes = %04X, %04X", c, got, again)
		}
	}
	if b := by(1, 2, 3); crc.Of(b) == crc.Of(by(1, 3, 2)) || crc.Of(b) == crc.Of(by(0, 1, 2, 3)) || crc.Of(b) == crc.Of(by(1, 2, 3, 0)) {
		t.Error("bytes in another row, or more of them, have the same check")
	}
}

// P7.1: With leaves the check of which it is asked as it is.
func TestWithStays(t *testing.T) {
	c := crc.Check(0x29B1)
	if one, other := c.With(7), c.With(7); c != 0x29B1 || one != other {
		t.Errorf("behind With %04X, which tells %04X, then %04X", c, one, other)
	}
}

// P7.1: Bytes, the higher one first.
func TestBytes(t *testing.T) {
	for c := range 1 << 16 {
		if got := crc.Check(c).Bytes(); got != [2]byte{byte(c / 256), byte(c % 256)} {
			t.Fatalf("%04X.Bytes() = %v", c, got)
		}
	}
}

// P7.2, P7.3: Put, whose bytes are taken again, and have the check 0.
func TestPut(t *testing.T) {
	for _, c := range []struct{ b, want []byte }{
		{nil, by(0xFF, 0xFF)},
		{by(), by(0xFF, 0xFF)},
		{by(0), by(0, 0xE1, 0xF0)},
		{by(0xFF), by(0xFF, 0xFF, 0)},
		{by(0xFF, 0xFF), by(0xFF, 0xFF, 0, 0)},
		{[]byte("ba"), by('b', 'a', 0x0C, 0xC0)},
		{[]byte("123456789"), []byte("123456789\x29\xB1")},
	} {
		if got := crc.Put(c.b); !bytes.Equal(got, c.want) {
			t.Errorf("Put(%v) = %v, want %v", c.b, got, c.want)
		}
	}
	for _, b := range samples() {
		checked := crc.Put(b)
		c := plain(0xFFFF, b...)
		if want := append(slices.Clone(b), byte(c>>8), byte(c)); !bytes.Equal(checked, want) {
			t.Errorf("Put(%v) = %v, want %v", b, checked, want)
		}
		take(t, checked, b, api.OK)
		if got := crc.Of(checked); got != 0 {
			t.Errorf("the check of checked bytes (Put of %v) = %04X", b, got)
		}
		take(t, crc.Put(checked), checked, api.OK)
	}
}

// P7.2: Take, of fewer than two bytes.
func TestTakeShort(t *testing.T) {
	take(t, nil, nil, api.ErrShort)
	take(t, by(), nil, api.ErrShort)
	for x := range 256 {
		take(t, by(byte(x)), nil, api.ErrShort)
	}
	room := crc.Put(nil)
	take(t, room[:0], nil, api.ErrShort) // the check is in the spare room alone
	take(t, room[:1], nil, api.ErrShort)
}

// P7.2: Take, of all that two bytes may be behind some: but one check is theirs.
func TestTakeSum(t *testing.T) {
	for _, b := range [][]byte{nil, by(0), by(0xFF), by(0xFF, 0xFF), []byte("123456789")} {
		own := crc.Check(plain(0xFFFF, b...))
		for c := range 1 << 16 {
			if crc.Check(c) != own {
				take(t, append(slices.Clone(b), byte(c>>8), byte(c)), nil, api.ErrSum)
			}
		}
		take(t, append(slices.Clone(b), own.Bytes()[0], own.Bytes()[1]), b, api.OK)
	}
}

// P7.2: Take, of what was cut, or has more behind, or its check's bytes the other way round.
func TestTakeOther(t *testing.T) {
	checked := crc.Put([]byte("123456789"))
	for n := range len(checked) {
		fault := api.ErrSum
		if n < 2 {
			fault = api.ErrShort
		}
		take(t, checked[:n], nil, fault)
		take(t, checked[len(checked)-n:], nil, fault)
	}
	take(t, append(slices.Clone(checked), 1), nil, api.ErrSum)
	take(t, []byte("123456789\xB1\x29"), nil, api.ErrSum)
	take(t, []byte("123456789"), nil, api.ErrSum)
	take(t, by(0, 0), nil, api.ErrSum)
}

// P7.3: bits that are turned within 16 side by side are found, wherever they are, the check's own too.
func TestTurned(t *testing.T) {
	for _, b := range [][]byte{nil, by(0), by(0xFF, 0xFF), []byte("abc"), mixed(5)} {
		checked := crc.Put(b)
		for at := 0; at+16 <= 8*len(checked); at++ {
			for pattern := 1; pattern < 1<<16; pattern++ {
				turned := slices.Clone(checked)
				turn(turned, at, uint16(pattern))
				if got, e := crc.Take(turned); e != api.ErrSum || len(got) != 0 || crc.Good(turned) {
					t.Fatalf("Take of %v, turned at %d by %04X to %v: %v, %d", checked, at, pattern, turned, got, e)
				}
			}
		}
	}
}

// P7.3: the same, of many bytes, at their ends and amid them.
func TestTurnedLong(t *testing.T) {
	for _, n := range []int{300, 8192} {
		checked := crc.Put(mixed(n))
		for _, at := range []int{0, 1, 7, 8, 4 * n, 4*n + 3, 8*n - 16, 8*n - 9, 8*n - 1, 8 * n} {
			for _, pattern := range []uint16{1, 0x8000, 0x8001, 0xFFFF, 0x1021, 0x0810, 0xA5A5, 0x00FF, 0x3C00} {
				turn(checked, at, pattern)
				take(t, checked, nil, api.ErrSum)
				turn(checked, at, pattern)
			}
		}
		take(t, checked, mixed(n), api.OK)
	}
}

// P7.1, P7.2: what is handed in stays as it is, its spare room too, and what is answered is new memory (rule R4).
func TestNewMemory(t *testing.T) {
	whole := append(crc.Put([]byte("abc")), 7, 7, 7, 7)
	kept := slices.Clone(whole)
	check := func(what string) {
		t.Helper()
		if !bytes.Equal(whole, kept) {
			t.Errorf("behind %s what was handed in is %v, want %v", what, whole, kept)
		}
	}
	crc.Start().With(whole[:3]...)
	crc.Of(whole[:3])
	check("With and Of")
	put := crc.Put(whole[:3])
	check("Put")
	got, _ := crc.Take(whole[:5])
	crc.Good(whole[:5])
	check("Take and Good")
	for _, l := range [][]byte{put, got} {
		for i := range l[:cap(l)] {
			l[:cap(l)][i] = 99
		}
	}
	check("a change of the answers")
	take(t, whole[:5], whole[:3], api.OK)
	if again := crc.Put(whole[:3]); !bytes.Equal(again, kept[:5]) {
		t.Errorf("behind a change of the answer Put = %v", again)
	}
	empty := crc.Put(nil)
	empty[0] = 0
	if again := crc.Put(nil); !bytes.Equal(again, by(0xFF, 0xFF)) {
		t.Errorf("behind a change of the answer Put of none = %v", again)
	}
}
