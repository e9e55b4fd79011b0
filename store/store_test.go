package store_test

import (
	"bytes"
	"math"
	"slices"
	"strings"
	"testing"

	"breccia/api"
	"breccia/store"
)

const (
	mostId      = 1 << 40
	mostVersion = 1 << 30
	mostBody    = 1 << 16
	mostRoom    = 1 << 20
)

// checked are bytes and their check behind them, bit by bit as the words of chapter 7 say.
func checked(b ...byte) []byte {
	c := uint16(0xFFFF)
	for _, x := range b {
		c ^= uint16(x) << 8
		for range 8 {
			out := c & 0x8000
			c <<= 1
			if out != 0 {
				c ^= 0x1021
			}
		}
	}
	return append(slices.Clone(b), byte(c>>8), byte(c))
}

// form are checked bytes of a record's form, be the numbers in it such as may be or not.
func form(version uint32, size int, body string) []byte {
	b := []byte{byte(version >> 24), byte(version >> 16), byte(version >> 8), byte(version), byte(size >> 16), byte(size >> 8), byte(size)}
	return checked(append(b, body...)...)
}

// record is a record's bytes.
func record(version int, body string) []byte { return form(uint32(version), len(body), body) }

func read(t *testing.T, b []byte, version int, body string, fault api.Errno) {
	t.Helper()
	if v, l, e := store.Read(b); v != version || string(l) != body || e != fault {
		t.Errorf("Read(%d bytes) = %d, %d bytes, %d, want %d, %d bytes, %d", len(b), v, len(l), e, version, len(body), fault)
	}
}

func save(t *testing.T, s *store.Store, id int, body string, want api.Errno) {
	t.Helper()
	if e := s.Save(id, []byte(body)); e != want {
		t.Errorf("Save(%d, %d bytes) = %d, want %d", id, len(body), e, want)
	}
}

func load(t *testing.T, s *store.Store, id int, body string, version int) {
	t.Helper()
	if b, v, is := s.Load(id); string(b) != body || v != version || is != (version > 0) {
		t.Errorf("Load(%d) = %q, %d, %v, want %q, %d", id, b, v, is, body, version)
	}
}

func ids(t *testing.T, s *store.Store, want ...int) {
	t.Helper()
	if got := s.Ids(); !slices.Equal(got, want) {
		t.Errorf("Ids() = %v, want %v", got, want)
	}
}

func left(t *testing.T, s *store.Store, want int) {
	t.Helper()
	if n := s.Left(); n != want {
		t.Errorf("Left() = %d, want %d", n, want)
	}
}

func crash(t *testing.T, s *store.Store, keep, want int) {
	t.Helper()
	if n := s.Crash(keep); n != want {
		t.Errorf("Crash(%d) = %d, want %d", keep, n, want)
	}
	left(t, s, 0)
}

func sync(t *testing.T, s *store.Store, want api.Errno) {
	t.Helper()
	if e := s.Sync(); e != want {
		t.Errorf("Sync() = %d, want %d", e, want)
	}
}

func spoil(t *testing.T, s *store.Store, key, at int, x byte, want bool) {
	t.Helper()
	if is := s.Spoil(key, at, x); is != want {
		t.Errorf("Spoil(%d, %d, %d) = %v, want %v", key, at, x, is, want)
	}
}

// size tells that a slot's blob has so many bytes.
func size(t *testing.T, s *store.Store, key, want int) {
	t.Helper()
	if want > 0 {
		spoil(t, s, key, want-1, 0, true)
	}
	spoil(t, s, key, want, 0, false)
}

// forge makes of a slot's bytes others, as many of them.
func forge(t *testing.T, s *store.Store, key int, was, becomes []byte) {
	t.Helper()
	if len(was) != len(becomes) {
		t.Fatalf("%d bytes do not become %d", len(was), len(becomes))
	}
	for i := range was {
		spoil(t, s, key, i, was[i]^becomes[i], true)
	}
}

// P9.1: Write and Read, of each kind of version and body.
func TestWriteRead(t *testing.T) {
	for _, version := range []int{1, 2, 127, 128, 255, 256, 258, 65535, 65536, 1<<24 - 1, 1 << 24, 0x12345678, mostVersion - 1, mostVersion} {
		for _, n := range []int{0, 1, 2, 3, 255, 256, 257, mostBody - 1, mostBody} {
			body := strings.Repeat("\x00\xFFab\x80", n/5+1)[:n]
			b, e := store.Write(version, []byte(body))
			if e != api.OK || !bytes.Equal(b, record(version, body)) {
				t.Errorf("Write(%d, %d bytes) = %d bytes, %d", version, n, len(b), e)
			}
			read(t, record(version, body), version, body, api.OK)
		}
	}
	b, e := store.Write(258, []byte("ab"))
	if want := checked(0, 0, 1, 2, 0, 0, 2, 'a', 'b'); e != api.OK || !bytes.Equal(b, want) {
		t.Errorf("Write(258, ab) = %v, %d, want %v", b, e, want)
	}
	b, e = store.Write(1<<30, nil)
	if want := checked(64, 0, 0, 0, 0, 0, 0); e != api.OK || !bytes.Equal(b, want) {
		t.Errorf("Write(1<<30, nil) = %v, %d, want %v", b, e, want)
	}
}

// P9.1: Write of a version or a body that may not be.
func TestWriteWrong(t *testing.T) {
	for _, version := range []int{0, -1, -mostVersion, mostVersion + 1, 1 << 31, 1 << 32, 1<<32 + 1, math.MinInt, math.MinInt + 1, math.MaxInt} {
		for _, n := range []int{0, 1, mostBody + 1} {
			if b, e := store.Write(version, make([]byte, n)); len(b) != 0 || e != api.ErrArg {
				t.Errorf("Write(%d, %d bytes) = %d bytes, %d", version, n, len(b), e)
			}
		}
	}
	for _, n := range []int{mostBody + 1, mostBody + 2, 1 << 17, 1 << 24, 1<<24 + 1} {
		if b, e := store.Write(1, make([]byte, n)); len(b) != 0 || e != api.ErrArg {
			t.Errorf("Write(1, %d bytes) = %d bytes, %d", n, len(b), e)
		}
	}
}

// P9.1: Read of what is no record's bytes, the error that is named first.
func TestReadWrong(t *testing.T) {
	long := strings.Repeat("x", mostBody+1)
	for _, c := range []struct {
		what string
		b    []byte
		want api.Errno
	}{
		{"nothing", nil, api.ErrShort},
		{"a byte", []byte{0xFF}, api.ErrShort},
		{"no check", []byte{0xFF, 0xFE}, api.ErrSum},
		{"another check of few bytes", []byte{0, 0, 0, 1, 0, 0}, api.ErrSum},
		{"nothing checked", checked(), api.ErrShort},
		{"a byte checked", checked(1), api.ErrShort},
		{"six bytes checked", checked(0, 0, 0, 1, 0, 0), api.ErrShort},
		{"six bytes of a version that may not be", checked(0, 0, 0, 0, 0, 0), api.ErrShort},
		{"version 0", form(0, 0, ""), api.ErrForm},
		{"version 0 of a body", form(0, 3, "abc"), api.ErrForm},
		{"one too many", form(mostVersion+1, 0, ""), api.ErrForm},
		{"the highest bit", form(1<<31, 1, "a"), api.ErrForm},
		{"the highest bit, and one", form(1<<31|1, 1, "a"), api.ErrForm},
		{"the greatest version", form(math.MaxUint32, 1, "a"), api.ErrForm},
		{"a body too long", form(1, mostBody+1, long), api.ErrForm},
		{"a body too long, told shorter", form(1, mostBody, long), api.ErrForm},
		{"a body too long, told by its low bytes", form(1, 1, long), api.ErrForm},
		{"a body told too long", form(1, mostBody+1, "x"), api.ErrForm},
		{"a body told much too long", form(1, 1<<24-1, "x"), api.ErrForm},
		{"a byte more", form(1, 2, "abc"), api.ErrForm},
		{"a byte less", form(1, 4, "abc"), api.ErrForm},
		{"none of one", form(1, 1, ""), api.ErrForm},
		{"one of none", form(1, 0, "a"), api.ErrForm},
		{"256 more", form(1, 259, "abc"), api.ErrForm},
		{"another byte behind", append(record(1, "abc"), 1), api.ErrSum},
		{"a zero behind, of which the check is right", append(record(1, "abc"), 0), api.ErrForm},
	} {
		v, l, e := store.Read(c.b)
		if v != 0 || len(l) != 0 || e != c.want {
			t.Errorf("Read(%s) = %d, %q, %d, want %d", c.what, v, l, e, c.want)
		}
	}
}

// P9.1, P9.4: of the first bytes of a record none are one, even if they are checked bytes.
func TestReadTorn(t *testing.T) {
	for _, body := range []string{"", "a", "some bytes", string(checked(5, 6)), string(record(3, "inner"))} {
		b := record(7, body)
		for n := range b {
			if v, l, e := store.Read(b[:n]); v != 0 || len(l) != 0 || e == api.OK {
				t.Errorf("Read of %d bytes of %d = %d, %q, %d", n, len(b), v, l, e)
			}
		}
	}
	inner := checked(append([]byte{0, 0, 0, 7, 0, 0, 9}, "abc"...)...)
	read(t, checked(append(inner, "more"...)...), 7, string(inner[7:])+"more", api.OK)
	read(t, inner, 0, "", api.ErrForm)
}

// P9.1, P9.4: bytes that are turned within 16 bits, at each place of a record, are none.
func TestReadTurned(t *testing.T) {
	b := record(3, "body")
	for at := range len(b) {
		for x := 1; x < 1<<16; x += 1 + x%7 {
			turned := slices.Clone(b)
			turned[at] ^= byte(x >> 8)
			if at+1 < len(b) {
				turned[at+1] ^= byte(x)
			} else if x>>8 == 0 {
				continue
			}
			read(t, turned, 0, "", api.ErrSum)
		}
	}
}

// P9.2: a new store has no records, and is not another one.
func TestNew(t *testing.T) {
	for _, room := range []int{math.MinInt, -1, 0, 8, 9, mostRoom, math.MaxInt} {
		s, other := store.New(room), store.New(room)
		ids(t, s)
		left(t, s, 0)
		sync(t, s, api.OK)
		crash(t, s, 5, 0)
		for _, id := range []int{0, 1, 7, mostId, -1, mostId + 1, math.MinInt, math.MaxInt} {
			load(t, s, id, "", 0)
		}
		if room < 9 {
			save(t, s, 7, "", api.ErrFull)
			ids(t, s)
			continue
		}
		save(t, s, 7, "", api.OK)
		load(t, s, 7, "", 1)
		ids(t, s, 7)
		s.Fail(1)
		ids(t, other)
		load(t, other, 7, "", 0)
		sync(t, other, api.OK)
	}
}

// P9.2: each Save is of one version more, and Load tells the last.
func TestSave(t *testing.T) {
	s := store.New(1000)
	for i := range 300 {
		body := strings.Repeat(string(rune('a'+i%26)), i%30)
		save(t, s, 5, body, api.OK)
		load(t, s, 5, body, i+1)
		left(t, s, 0)
		if i%3 == 0 {
			save(t, s, 6, body+"!", api.OK)
		}
		load(t, s, 6, strings.Repeat(string(rune('a'+i/3*3%26)), i/3*3%30)+"!", i/3+1)
		load(t, s, 4, "", 0)
		ids(t, s, 5, 6)
	}
	crash(t, s, 0, 0)
	load(t, s, 5, strings.Repeat("n", 29), 300)
}

// P9.2: ids from 0 to 2^40, and no others, such as twice of which wraps round among them.
func TestIds(t *testing.T) {
	s := store.New(1000)
	for _, id := range []int{7, mostId, 0, 1, mostId - 1, 12345678901} {
		save(t, s, id, "x", api.OK)
		save(t, s, id, "xy", api.OK)
	}
	want := []int{0, 1, 7, 12345678901, mostId - 1, mostId}
	ids(t, s, want...)
	for _, id := range []int{-1, -7, mostId + 1, 1 << 41, math.MaxInt, math.MinInt, math.MinInt + 7, 7 - 1<<62, 1<<62 + 7, math.MinInt + mostId} {
		save(t, s, id, "z", api.ErrArg)
		save(t, s, id, strings.Repeat("z", mostBody+1), api.ErrArg)
		load(t, s, id, "", 0)
	}
	ids(t, s, want...)
	for _, id := range want {
		load(t, s, id, "xy", 2)
	}
	crash(t, s, 0, 0)
	ids(t, s, want...)
	for _, key := range []int{14, 15, 2 * mostId} { // by what is in their slots
		spoil(t, s, key, 0, 1, true)
	}
	ids(t, s, 0, 1, 12345678901, mostId-1, mostId)
	spoil(t, s, 2*mostId+1, 0, 1, true)
	ids(t, s, 0, 1, 12345678901, mostId-1)
}

// P9.2: the body may have 2^16 bytes; one more is told ahead of what the disk tells, and is no time that it fails.
func TestSaveWrong(t *testing.T) {
	s := store.New(mostRoom)
	most := strings.Repeat("m", mostBody)
	save(t, s, 1, most, api.OK)
	load(t, s, 1, most, 1)
	save(t, s, 1, most+"m", api.ErrArg)
	load(t, s, 1, most, 1)
	size(t, s, 3, 0)
	s.Fail(1)
	save(t, s, 1, most+"m", api.ErrArg)
	save(t, s, -1, "", api.ErrArg)
	save(t, s, mostId+1, "", api.ErrArg)
	save(t, s, 1, "a", api.ErrStore)
	save(t, s, 1, "b", api.OK)
	load(t, s, 1, "b", 2)
	s.Fail(-1)
	save(t, s, -1, "", api.ErrArg)
	save(t, s, 1, "c", api.ErrStore)
	load(t, s, 1, "c", 3) // it was put, but not safe
	left(t, s, 10)
	small := store.New(0)
	save(t, small, 1, most+"m", api.ErrArg)
	save(t, small, -1, most, api.ErrArg)
	save(t, small, 1, most, api.ErrFull)
	save(t, small, 1, "", api.ErrFull)
	ids(t, small)
}

// P9.2: a record is put into the slot that has not the id's, the lesser one at first.
func TestSlots(t *testing.T) {
	s := store.New(100)
	save(t, s, 3, "a", api.OK)
	size(t, s, 6, 10)
	size(t, s, 7, 0)
	save(t, s, 3, "bc", api.OK)
	size(t, s, 6, 10)
	size(t, s, 7, 11)
	save(t, s, 3, "def", api.OK)
	size(t, s, 6, 12)
	size(t, s, 7, 11)
	save(t, s, 3, "", api.OK)
	size(t, s, 6, 12)
	size(t, s, 7, 9)
	for _, key := range []int{0, 1, 2, 3, 4, 5, 8, 9, -6, -7} {
		size(t, s, key, 0)
	}
	spoil(t, s, 7, 3, 1, true) // the last one is none then: what is saved stands in its slot
	load(t, s, 3, "def", 3)
	save(t, s, 3, "ghij", api.OK)
	size(t, s, 6, 12)
	size(t, s, 7, 13)
	load(t, s, 3, "ghij", 4)
	spoil(t, s, 6, 3, 1, true) // the one ahead is none then
	load(t, s, 3, "ghij", 4)
	save(t, s, 3, "klmno", api.OK)
	size(t, s, 6, 14)
	size(t, s, 7, 13)
	load(t, s, 3, "klmno", 5)
	spoil(t, s, 6, 3, 1, true)
	spoil(t, s, 7, 3, 1, true)
	load(t, s, 3, "", 0)
	ids(t, s)
	save(t, s, 3, "p", api.OK) // none is: the lesser slot, and version 1
	size(t, s, 6, 10)
	size(t, s, 7, 13)
	load(t, s, 3, "p", 1)
	ids(t, s, 3)
}

// P9.2: what is in the slots tells an id's record: the greater version, the lesser slot of the same one, none of a wrong form.
func TestForged(t *testing.T) {
	for _, c := range []struct {
		what          string
		first, second []byte
		body          string
		version       int
		slot          int // that the next one is put into
	}{
		{"the second", record(1, "a"), record(2, "b"), "b", 2, 6},
		{"the first", record(9, "a"), record(8, "b"), "a", 9, 7},
		{"the greater, by its low byte", record(511, "a"), record(768, "b"), "b", 768, 6},
		{"the greater, by its high byte", record(1<<24, "a"), record(1<<24-1, "b"), "a", 1 << 24, 7},
		{"the same version", record(4, "a"), record(4, "b"), "a", 4, 7},
		{"the same version and body", record(1, "a"), record(1, "a"), "a", 1, 7},
		{"no second", record(4, "a"), form(5, 2, "b"), "a", 4, 7},
		{"no first", form(0, 1, "a"), record(1, "b"), "b", 1, 6},
		{"a version too great", form(mostVersion+1, 1, "a"), record(1, "b"), "b", 1, 6},
		{"the greatest but one", record(mostVersion-2, "a"), record(mostVersion-1, "b"), "b", mostVersion - 1, 6},
		{"neither", form(0, 1, "a"), form(3, 0, "b"), "", 0, 6},
		{"neither, by their checks", append(record(7, ""), 0), append(record(8, ""), 0), "", 0, 6},
	} {
		s := store.New(100)
		save(t, s, 3, "x", api.OK)
		save(t, s, 3, "y", api.OK)
		forge(t, s, 6, record(1, "x"), c.first)
		forge(t, s, 7, record(2, "y"), c.second)
		load(t, s, 3, c.body, c.version)
		if c.version == 0 {
			ids(t, s)
		} else {
			ids(t, s, 3)
		}
		crash(t, s, 0, 0)
		load(t, s, 3, c.body, c.version)
		save(t, s, 3, "longer", api.OK)
		load(t, s, 3, "longer", c.version+1)
		size(t, s, c.slot, 15)
		size(t, s, 13-c.slot, 10)
		if t.Failed() {
			t.Fatalf("at %s", c.what)
		}
	}
}

// P9.2: behind version 2^30 none may be.
func TestSaveMost(t *testing.T) {
	s := store.New(100)
	save(t, s, 3, "a", api.OK)
	forge(t, s, 6, record(1, "a"), record(mostVersion-1, "a"))
	save(t, s, 3, "b", api.OK)
	load(t, s, 3, "b", mostVersion)
	s.Fail(1)
	for _, body := range []string{"", "c", strings.Repeat("d", mostBody)} {
		save(t, s, 3, body, api.ErrArg)
		load(t, s, 3, "b", mostVersion)
	}
	sync(t, s, api.ErrStore) // it was not asked till now
	save(t, s, 4, "e", api.OK)
	spoil(t, s, 7, 0, 1, true)
	load(t, s, 3, "a", mostVersion-1)
	save(t, s, 3, "f", api.OK)
	load(t, s, 3, "f", mostVersion)
}

// P9.2: the errors of Put change nothing; of Sync the record is put, but not safe.
func TestSaveFails(t *testing.T) {
	s := store.New(30)
	save(t, s, 7, "a", api.OK)
	s.Fail(1)
	save(t, s, 7, "b", api.ErrStore)
	load(t, s, 7, "a", 1)
	left(t, s, 0)
	size(t, s, 15, 0)
	save(t, s, 7, strings.Repeat("b", 12), api.ErrFull)
	load(t, s, 7, "a", 1)
	left(t, s, 0)
	s.Fail(1)
	save(t, s, 7, strings.Repeat("b", 12), api.ErrStore) // ahead of ErrFull
	save(t, s, 7, strings.Repeat("b", 11), api.OK)
	load(t, s, 7, strings.Repeat("b", 11), 2)
	save(t, s, 7, "cd", api.ErrFull)
	save(t, s, 7, "c", api.OK) // in place of the first one
	save(t, s, 7, "d", api.OK)
	s.Fail(-1)
	save(t, s, 7, "efg", api.ErrStore)
	load(t, s, 7, "efg", 5)
	left(t, s, 12)
	s.Fail(-2)
	save(t, s, 7, "h", api.ErrStore)
	load(t, s, 7, "h", 6)
	save(t, s, 7, "i", api.ErrStore)
	load(t, s, 7, "h", 6)
	left(t, s, 22)
	crash(t, s, 21, 1)
	load(t, s, 7, "efg", 5)
	s.Fail(-1)
	save(t, s, 7, "j", api.ErrStore)
	sync(t, s, api.OK)
	left(t, s, 0)
	crash(t, s, 0, 0)
	load(t, s, 7, "j", 6)
	s.Fail(3)
	crash(t, s, 0, 0)
	save(t, s, 7, "k", api.OK)
	load(t, s, 7, "k", 7)
}

// P9.2: a Save makes safe what another one left under way.
func TestSaveSyncsAll(t *testing.T) {
	s := store.New(100)
	s.Fail(-1)
	save(t, s, 1, "a", api.ErrStore)
	s.Fail(-1)
	save(t, s, 2, "b", api.ErrStore)
	ids(t, s, 1, 2)
	left(t, s, 20)
	save(t, s, 3, "c", api.OK)
	left(t, s, 0)
	crash(t, s, 0, 0)
	ids(t, s, 1, 2, 3)
}

// P9.3: Spoil turns one byte of a slot, and nothing where there is none.
func TestSpoil(t *testing.T) {
	s := store.New(100)
	save(t, s, 3, "abc", api.OK)
	save(t, s, 3, "def", api.OK)
	for _, c := range []struct{ key, at int }{
		{6, 12}, {6, 13}, {7, 12}, {6, -1}, {7, math.MinInt}, {7, math.MaxInt}, {5, 0}, {8, 0}, {-6, 0}, {math.MinInt, 0}, {math.MinInt + 6, 0}, {math.MaxInt, 0},
	} {
		spoil(t, s, c.key, c.at, 255, false)
		load(t, s, 3, "def", 2)
	}
	for at := range 12 {
		for _, x := range []byte{1, 0x80, 0xFF} {
			spoil(t, s, 7, at, x, true)
			load(t, s, 3, "abc", 1)
			spoil(t, s, 7, at, x^4, true)
			load(t, s, 3, "abc", 1)
			spoil(t, s, 7, at, 4, true) // turned back
			load(t, s, 3, "def", 2)
		}
		spoil(t, s, 7, at, 0, true)
		load(t, s, 3, "def", 2)
	}
	for at := range 12 { // of the other slot
		spoil(t, s, 6, at, 1, true)
		load(t, s, 3, "def", 2)
		spoil(t, s, 6, at, 1, true)
	}
	ids(t, s, 3)
	spoil(t, s, 7, 0, 1, true)
	crash(t, s, 0, 0) // it is safe
	load(t, s, 3, "abc", 1)
	spoil(t, s, 6, 11, 1, true)
	load(t, s, 3, "", 0)
	ids(t, s)
}

// P9.3: Spoil lets it fail no more and syncs; where there is no such byte it does neither.
func TestSpoilSyncs(t *testing.T) {
	for _, n := range []int{1, 2, 3, math.MaxInt, -1, -2, math.MinInt} {
		s := store.New(22)
		save(t, s, 3, "ab", api.OK)
		s.Fail(-1)
		save(t, s, 3, "cd", api.ErrStore)
		left(t, s, 11)
		s.Fail(n)
		spoil(t, s, 6, 11, 1, false)
		spoil(t, s, 8, 0, 1, false)
		left(t, s, 11)
		if n > 0 {
			sync(t, s, api.ErrStore)
			s.Fail(n)
		}
		spoil(t, s, 7, 0, 0, true) // there is room for no more bytes than these
		left(t, s, 0)
		for range 4 {
			sync(t, s, api.OK)
		}
		crash(t, s, 0, 0)
		load(t, s, 3, "cd", 2)
		s.Fail(-1)
		save(t, s, 3, "ef", api.ErrStore)
		s.Fail(n)
		spoil(t, s, 7, 1, 1, true) // another slot than that under way
		left(t, s, 0)
		crash(t, s, 0, 0)
		load(t, s, 3, "ef", 3)
		save(t, s, 3, "gh", api.OK)
		load(t, s, 3, "gh", 4)
	}
}

// P9.3: bytes that a crash has left of a slot may be turned too.
func TestSpoilTorn(t *testing.T) {
	s := store.New(100)
	s.Fail(-1)
	save(t, s, 3, "abc", api.ErrStore)
	crash(t, s, 5, 7)
	load(t, s, 3, "", 0)
	ids(t, s)
	spoil(t, s, 6, 5, 1, false)
	spoil(t, s, 6, 4, 1, true)
	save(t, s, 3, "d", api.OK)
	load(t, s, 3, "d", 1)
	s = store.New(100)
	s.Fail(-1)
	save(t, s, 3, "abc", api.ErrStore)
	crash(t, s, 0, 12)
	spoil(t, s, 6, 0, 1, false)
}

// P9.4: behind a crash at each byte of two Saves that failed the record is the safe one, or one of them.
func TestCrashEach(t *testing.T) {
	for keep := -1; keep < 30; keep++ {
		s := store.New(100)
		save(t, s, 3, "safe", api.OK)
		save(t, s, 4, "other", api.OK)
		s.Fail(-1)
		save(t, s, 3, "new", api.ErrStore) // 12 bytes, into the second slot
		s.Fail(-1)
		save(t, s, 3, "newer", api.ErrStore) // 14 bytes, into the slot of the safe one
		left(t, s, 26)
		crash(t, s, keep, min(max(26-keep, 0), 26))
		switch {
		case keep < 12:
			load(t, s, 3, "safe", 1)
		case keep < 26:
			load(t, s, 3, "new", 2)
		default:
			load(t, s, 3, "newer", 3)
		}
		load(t, s, 4, "other", 1)
		ids(t, s, 3, 4)
		_, version, _ := s.Load(3)
		save(t, s, 3, "then", api.OK)
		load(t, s, 3, "then", version+1)
		crash(t, s, 0, 0)
		load(t, s, 3, "then", version+1)
	}
}

// P9.4: turned within 16 bits at each place, a slot has no record.
func TestSpoilEach(t *testing.T) {
	s := store.New(100)
	save(t, s, 3, "abc", api.OK)
	save(t, s, 3, "def", api.OK)
	for at := range 11 {
		for x := 1; x < 1<<16; x += 1 + x%97 {
			high, low := byte(x>>8), byte(x)
			spoil(t, s, 7, at, high, true)
			spoil(t, s, 7, at+1, low, true)
			load(t, s, 3, "abc", 1)
			spoil(t, s, 7, at, high, true)
			spoil(t, s, 7, at+1, low, true)
		}
	}
	load(t, s, 3, "def", 2)
}

// told is a blob that a plain store was told of a slot.
type told struct {
	slot int
	blob string
}

// plain is a store that knows nothing but the row of blobs it was told, and how many of these are safe.
type plain struct {
	row         []told
	safe        int
	room        int
	spare, fail int
}

func (p *plain) blobs() map[int]string {
	m := map[int]string{}
	for _, x := range p.row {
		m[x.slot] = x.blob
	}
	return m
}

// slot is a slot's version and body: of those, written anew, its blob is the bytes.
func (p *plain) slot(key int) (int, string) {
	b := p.blobs()[key]
	if len(b) < 9 {
		return 0, ""
	}
	version := int(b[0])<<24 | int(b[1])<<16 | int(b[2])<<8 | int(b[3])
	if version < 1 || version > mostVersion || string(record(version, b[7:len(b)-2])) != b {
		return 0, ""
	}
	return version, b[7 : len(b)-2]
}

func (p *plain) load(id int) (int, string) {
	v, b := p.slot(2 * id)
	if w, c := p.slot(2*id + 1); w > v {
		return w, c
	}
	return v, b
}

func (p *plain) ids(most int) []int {
	var l []int
	for id := range most {
		if v, _ := p.load(id); v > 0 {
			l = append(l, id)
		}
	}
	return l
}

func (p *plain) left() int {
	n := 0
	for _, x := range p.row[p.safe:] {
		n += len(x.blob)
	}
	return n
}

func (p *plain) fails() bool {
	if p.spare > 0 {
		p.spare--
		return false
	}
	p.fail--
	return p.fail >= 0
}

func (p *plain) tell(n int) {
	p.spare, p.fail = 0, n
	if n < 0 {
		p.spare, p.fail = 1, -n
	}
}

func (p *plain) sync() api.Errno {
	if p.fails() {
		return api.ErrStore
	}
	p.safe = len(p.row)
	return api.OK
}

func (p *plain) save(id int, body string) api.Errno {
	version, _ := p.load(id)
	key := 2 * id
	if v, _ := p.slot(key); v > 0 && v == version {
		key++
	}
	if p.fails() {
		return api.ErrStore
	}
	m, n := p.blobs(), 0
	m[key] = string(record(version+1, body))
	for _, b := range m {
		n += len(b)
	}
	if n > p.room {
		return api.ErrFull
	}
	p.row = append(p.row, told{key, m[key]})
	return p.sync()
}

func (p *plain) spoil(key, at int, x byte) bool {
	b := []byte(p.blobs()[key])
	if at < 0 || at >= len(b) {
		return false
	}
	b[at] ^= x
	p.row = append(p.row, told{key, string(b)})
	p.safe = len(p.row)
	p.tell(0)
	return true
}

// crash goes byte by byte, and ends at the first blob of which one is not written.
func (p *plain) crash(keep int) int {
	left, written := p.left(), 0
	row := p.row[:p.safe:p.safe]
	for _, x := range p.row[p.safe:] {
		n := 0
		for n < len(x.blob) && written < keep {
			n, written = n+1, written+1
		}
		row = append(row, told{x.slot, x.blob[:n]})
		if n < len(x.blob) {
			break
		}
	}
	p.row, p.safe = row, len(row)
	p.tell(0)
	return left - written
}

// same tells that a store has what a plain one has.
func same(t *testing.T, s *store.Store, p *plain) {
	t.Helper()
	for id := range 4 {
		v, b := p.load(id)
		load(t, s, id, b, v)
	}
	ids(t, s, p.ids(4)...)
	left(t, s, p.left())
}

// P9.2, P9.3, P9.4: long rows of calls, as a plain store tells them; each record is one that was saved.
func TestLikePlain(t *testing.T) {
	for seed := range 60 {
		x := uint64(seed + 1)
		next := func(n int) int {
			x = x*6364136223846793005 + 1442695040888963407
			return int(x >> 33 % uint64(n))
		}
		room := []int{0, 20, 40, 80, 1000}[next(5)]
		s, p := store.New(room), &plain{room: room}
		for step := range 200 {
			switch next(14) {
			case 0:
				if got, want := s.Sync(), p.sync(); got != want {
					t.Fatalf("%d, %d: Sync() = %d, want %d", seed, step, got, want)
				}
			case 1, 2:
				keep := next(p.left()+4) - 2
				if got, want := s.Crash(keep), p.crash(keep); got != want {
					t.Fatalf("%d, %d: Crash(%d) = %d, want %d", seed, step, keep, got, want)
				}
			case 3, 4:
				key, at, by := next(12)-2, next(16)-1, byte(next(256))
				if got, want := s.Spoil(key, at, by), p.spoil(key, at, by); got != want {
					t.Fatalf("%d, %d: Spoil(%d, %d, %d) = %v, want %v", seed, step, key, at, by, got, want)
				}
			default:
				n := next(7) - 3
				if n < 0 && room < 1000 { // so that it is told OK: chapter 8 does not say whether ErrFull is a time that it does not fail
					n = 0
				}
				s.Fail(n)
				p.tell(n)
				id, body := next(4), strings.Repeat(string(rune('a'+next(26))), next(4)*next(4))
				if got, want := s.Save(id, []byte(body)), p.save(id, body); got != want {
					t.Fatalf("%d, %d: Save(%d, %q) = %d, want %d", seed, step, id, body, got, want)
				}
			}
			same(t, s, p)
			if t.Failed() {
				t.Fatalf("at %d, %d", seed, step)
			}
		}
	}
}

// P9.1, P9.2: what is handed in is neither changed nor kept, and what is answered is new memory (rule R4).
func TestNewMemory(t *testing.T) {
	turn := func(b []byte) {
		b = b[:cap(b)]
		for i := range b {
			b[i] ^= 0x55
		}
	}
	room := []byte("abcdefghijklmnop")
	one, _ := store.Write(1, room[:3])
	two, _ := store.Write(1, room[:3])
	if string(room) != "abcdefghijklmnop" {
		t.Errorf("behind Write what was handed in is %q", room)
	}
	turn(one)
	if !bytes.Equal(two, record(1, "abc")) || string(room) != "abcdefghijklmnop" {
		t.Errorf("answers of Write share memory: %v, %q", two, room)
	}
	spare := append(make([]byte, 0, 64), record(5, "abc")...)
	_, one, _ = store.Read(spare)
	_, two, _ = store.Read(spare)
	turn(one)
	if string(two) != "abc" || !bytes.Equal(spare, record(5, "abc")) || !bytes.Equal(spare[:64][12:], make([]byte, 52)) {
		t.Errorf("answers of Read share memory: %q, %v", two, spare)
	}
	s := store.New(100)
	if e := s.Save(7, room[:3]); e != api.OK || string(room) != "abcdefghijklmnop" {
		t.Errorf("Save = %d, what was handed in is %q", e, room)
	}
	turn(room)
	load(t, s, 7, "abc", 1)
	one, _, _ = s.Load(7)
	two, _, _ = s.Load(7)
	turn(one)
	if string(two) != "abc" {
		t.Errorf("answers of Load share memory: %q", two)
	}
	load(t, s, 7, "abc", 1)
	s.Save(9, nil)
	l := s.Ids()
	l = l[:cap(l)]
	for i := range l {
		l[i] = 77
	}
	ids(t, s, 7, 9)
}

// P9.1, P9.2: nil and an empty list are one.
func TestEmpty(t *testing.T) {
	for _, body := range [][]byte{nil, {}, []byte("abc")[:0]} {
		b, e := store.Write(1, body)
		if e != api.OK || !bytes.Equal(b, record(1, "")) {
			t.Errorf("Write(1, nothing) = %v, %d", b, e)
		}
		s := store.New(9)
		if e := s.Save(0, body); e != api.OK {
			t.Errorf("Save of nothing = %d", e)
		}
		load(t, s, 0, "", 1)
		ids(t, s, 0)
		size(t, s, 0, 9)
	}
	for _, b := range [][]byte{nil, {}, record(1, "")[:0]} {
		read(t, b, 0, "", api.ErrShort)
	}
}

// P9.2: the chapter's example.
func TestExample(t *testing.T) {
	s := store.New(100)
	save(t, s, 7, "a", api.OK)
	s.Fail(1)
	save(t, s, 7, "b", api.ErrStore)
	load(t, s, 7, "a", 1)
}
