package disk_test

import (
	"bytes"
	"math"
	"slices"
	"strings"
	"testing"

	"breccia/api"
	"breccia/disk"
)

// most is the most room, and the most times that a disk fails later.
const most = 1 << 20

func put(t *testing.T, d *disk.Disk, key int, s string, want api.Errno) {
	t.Helper()
	if e := d.Put(key, []byte(s)); e != want {
		t.Errorf("Put(%d, %d bytes) = %d, want %d", key, len(s), e, want)
	}
}

func sync(t *testing.T, d *disk.Disk, want api.Errno) {
	t.Helper()
	if e := d.Sync(); e != want {
		t.Errorf("Sync() = %d, want %d", e, want)
	}
}

func crash(t *testing.T, d *disk.Disk, keep, want int) {
	t.Helper()
	if n := d.Crash(keep); n != want {
		t.Errorf("Crash(%d) = %d, want %d", keep, n, want)
	}
	if n := d.Left(); n != 0 {
		t.Errorf("behind Crash(%d) %d bytes are under way", keep, n)
	}
}

// has tells that a disk has those blobs and no others, and how many bytes are under way.
func has(t *testing.T, d *disk.Disk, left int, blobs map[int]string) {
	t.Helper()
	var keys []int
	n := 0
	for key, want := range blobs {
		keys = append(keys, key)
		n += len(want)
		if b, is := d.Get(key); !is || string(b) != want {
			t.Errorf("Get(%d) = %q, %v, want %q", key, b, is, want)
		}
	}
	slices.Sort(keys)
	if got := d.Keys(); !slices.Equal(got, keys) {
		t.Errorf("Keys() = %v, want %v", got, keys)
	}
	if got := d.Len(); got != n {
		t.Errorf("Len() = %d, want %d", got, n)
	}
	if got := d.Left(); got != left {
		t.Errorf("Left() = %d, want %d", got, left)
	}
}

func hasNot(t *testing.T, d *disk.Disk, keys ...int) {
	t.Helper()
	for _, key := range keys {
		if b, is := d.Get(key); len(b) != 0 || is {
			t.Errorf("Get(%d) = %q, %v, want none", key, b, is)
		}
	}
}

// P8.1, P8.3: New is without blobs, and its room is within the bounds.
func TestNew(t *testing.T) {
	for _, c := range []struct{ room, want int }{
		{math.MinInt, 0}, {-most, 0}, {-1, 0}, {0, 0}, {1, 1}, {2, 2}, {200000, 200000},
		{most - 1, most - 1}, {most, most}, {most + 1, most}, {1 << 32, most}, {math.MaxInt, most},
	} {
		d := disk.New(c.room)
		if got := d.Room(); got != c.want {
			t.Errorf("New(%d).Room() = %d, want %d", c.room, got, c.want)
		}
		has(t, d, 0, nil)
		hasNot(t, d, 0, 1, -1, math.MinInt, math.MaxInt)
		sync(t, d, api.OK)
		crash(t, d, 3, 0)
		put(t, d, 1, strings.Repeat("a", c.want+1), api.ErrFull)
		has(t, d, 0, nil)
		put(t, d, 1, strings.Repeat("a", c.want), api.OK)
		put(t, d, 2, "", api.OK)
		put(t, d, 3, "a", api.ErrFull)
		if d.Len() != c.want || d.Left() != c.want || d.Room() != c.want {
			t.Errorf("New(%d), full: %d, %d, %d", c.room, d.Len(), d.Left(), d.Room())
		}
	}
}

// P8.1: two disks share nothing.
func TestTwo(t *testing.T) {
	d, other := disk.New(9), disk.New(9)
	put(t, d, 1, "abc", api.OK)
	d.Fail(1)
	has(t, other, 0, nil)
	sync(t, other, api.OK)
	sync(t, d, api.ErrStore)
}

// P8.1, P8.3: Put and Get, of any keys, in place of what the key had.
func TestPut(t *testing.T) {
	d := disk.New(100)
	put(t, d, 5, "abc", api.OK)
	has(t, d, 3, map[int]string{5: "abc"})
	put(t, d, math.MaxInt, "de", api.OK)
	put(t, d, math.MinInt, "f", api.OK)
	put(t, d, 0, "", api.OK)
	put(t, d, -1, "ghij", api.OK)
	has(t, d, 10, map[int]string{5: "abc", math.MaxInt: "de", math.MinInt: "f", 0: "", -1: "ghij"})
	hasNot(t, d, 1, 4, 6, -5, math.MinInt+1, math.MaxInt-1)
	put(t, d, 5, "klmno", api.OK)
	put(t, d, -1, "", api.OK)
	put(t, d, 0, "p", api.OK)
	has(t, d, 16, map[int]string{5: "klmno", math.MaxInt: "de", math.MinInt: "f", 0: "p", -1: ""})
	sync(t, d, api.OK)
	has(t, d, 0, map[int]string{5: "klmno", math.MaxInt: "de", math.MinInt: "f", 0: "p", -1: ""})
}

// P8.1: Put of more than there is room for, counted as blobs were put last, is refused, and changes nothing.
func TestPutFull(t *testing.T) {
	d := disk.New(10)
	put(t, d, 1, "abcdefghijk", api.ErrFull)
	hasNot(t, d, 1)
	put(t, d, 1, "abcde", api.OK)
	put(t, d, 2, "fghijk", api.ErrFull)
	put(t, d, 2, "fghij", api.OK)
	want := map[int]string{1: "abcde", 2: "fghij"}
	has(t, d, 10, want)
	for _, s := range []string{"k", "kl", strings.Repeat("k", 11)} {
		put(t, d, 3, s, api.ErrFull)
	}
	put(t, d, 1, "klmnop", api.ErrFull)
	has(t, d, 10, want)
	put(t, d, 1, "klmno", api.OK) // what the key had is not counted
	put(t, d, 2, "p", api.OK)
	put(t, d, 1, "qrstuvwxy", api.OK)
	put(t, d, 3, "z", api.ErrFull)
	put(t, d, 3, "", api.OK)
	has(t, d, 25, map[int]string{1: "qrstuvwxy", 2: "p", 3: ""})
	sync(t, d, api.OK)
	put(t, d, 2, "pq", api.ErrFull)
	put(t, d, 1, "", api.OK)
	put(t, d, 2, "0123456789", api.OK)
	has(t, d, 10, map[int]string{1: "", 2: "0123456789", 3: ""})
}

// P8.1: there is room by what was put last, not by what is safe; behind a crash by what it left.
func TestRoomBehindCrash(t *testing.T) {
	d := disk.New(10)
	put(t, d, 1, "abcdefgh", api.OK)
	sync(t, d, api.OK)
	put(t, d, 1, "", api.OK)
	put(t, d, 2, "ijklmnopqr", api.OK)
	crash(t, d, 4, 6)
	has(t, d, 0, map[int]string{1: "", 2: "ijkl"})
	put(t, d, 3, "stuvwxy", api.ErrFull)
	put(t, d, 3, "stuvwx", api.OK)
	crash(t, d, 0, 6)
	put(t, d, 1, "1234567", api.ErrFull)
	put(t, d, 1, "123456", api.OK)
	crash(t, d, 6, 0)
	has(t, d, 0, map[int]string{1: "123456", 2: "ijkl", 3: ""})
}

// P8.1: Fail, so many times in all, of Put and of Sync; what fails changes nothing.
func TestFail(t *testing.T) {
	d := disk.New(10)
	put(t, d, 1, "abc", api.OK)
	want := map[int]string{1: "abc"}
	d.Fail(4)
	put(t, d, 2, "d", api.ErrStore)
	sync(t, d, api.ErrStore)
	has(t, d, 3, want) // what else is asked does not count
	hasNot(t, d, 2)
	put(t, d, 1, "", api.ErrStore)
	put(t, d, 2, strings.Repeat("d", 11), api.ErrStore) // ahead of ErrFull
	has(t, d, 3, want)
	put(t, d, 2, strings.Repeat("d", 11), api.ErrFull)
	put(t, d, 2, "d", api.OK)
	d.Fail(1)
	sync(t, d, api.ErrStore)
	crash(t, d, 1, 3) // what was not synced is under way still
	has(t, d, 0, map[int]string{1: "a"})
	for n := range 20 {
		d.Fail(n)
		for range n {
			sync(t, d, api.ErrStore)
		}
		sync(t, d, api.OK)
		put(t, d, 1, "xy", api.OK)
	}
	d.Fail(math.MaxInt)
	for range 1000 {
		sync(t, d, api.ErrStore)
	}
	d.Fail(0)
	sync(t, d, api.OK)
}

// P8.1: Fail stands in place of what it was told.
func TestFailAgain(t *testing.T) {
	d := disk.New(10)
	for _, c := range []struct{ first, then int }{
		{5, 2}, {2, 5}, {5, 0}, {0, 3}, {-5, 0}, {-5, 2}, {5, -2}, {-2, -5}, {-5, -1}, {math.MaxInt, 1}, {math.MinInt, 1},
	} {
		for told := range 2 { // at once, or when it was asked once
			d.Fail(c.first)
			if told == 1 {
				d.Sync()
			}
			d.Fail(c.then)
			n := c.then
			if n < 0 {
				put(t, d, 1, "a", api.OK)
				n = -n
			}
			for range n {
				put(t, d, 1, "b", api.ErrStore)
			}
			put(t, d, 1, "c", api.OK)
			sync(t, d, api.OK)
		}
	}
}

// P8.1: Fail of a number below 0: once it does not fail, then so many times, 2^20 at most.
func TestFailLater(t *testing.T) {
	for _, c := range []struct{ n, times int }{
		{-1, 1}, {-2, 2}, {-7, 7}, {-most + 1, most - 1}, {-most, most}, {-most - 1, most}, {-1 << 32, most}, {math.MinInt + 1, most}, {math.MinInt, most},
	} {
		d := disk.New(10)
		d.Fail(c.n)
		put(t, d, 1, "ab", api.OK)
		times := 0
		for d.Sync() == api.ErrStore && times <= c.times {
			times++
		}
		if times != c.times {
			t.Errorf("Fail(%d): it fails %d times, want %d", c.n, times, c.times)
		}
		put(t, d, 1, "cd", api.OK)
		has(t, d, 2, map[int]string{1: "cd"})
	}
	d := disk.New(10)
	d.Fail(-1)
	d.Get(1)
	d.Keys()
	has(t, d, 0, nil) // what else is asked is no time
	sync(t, d, api.OK)
	put(t, d, 1, "a", api.ErrStore)
	put(t, d, 1, "a", api.OK)
}

// P8.1: Left counts all that is under way, what was put anew too.
func TestLeft(t *testing.T) {
	d := disk.New(10)
	left := 0
	for i := range 30 {
		s := strings.Repeat("a", i%10)
		put(t, d, i%3-1, s[:len(s)/3], api.OK)
		left += len(s) / 3
		if got := d.Left(); got != left {
			t.Errorf("Left() = %d, want %d", got, left)
		}
	}
	d.Fail(1)
	sync(t, d, api.ErrStore)
	put(t, d, 7, strings.Repeat("a", 11), api.ErrFull)
	if got := d.Left(); got != left {
		t.Errorf("behind refusals Left() = %d, want %d", got, left)
	}
	sync(t, d, api.OK)
	if got := d.Left(); got != 0 {
		t.Errorf("behind Sync Left() = %d", got)
	}
}

// P8.2: a crash at each byte of some blobs, safe ones, new ones and empty ones among them.
func TestCrashEach(t *testing.T) {
	old := map[int]string{1: "old", 2: "older", 9: "safe"}
	with := func(l ...any) map[int]string {
		blobs := map[int]string{1: "old", 2: "older", 9: "safe"}
		for i := 0; i < len(l); i += 2 {
			blobs[l[i].(int)] = l[i+1].(string)
		}
		return blobs
	}
	for _, c := range []struct {
		keep, lost int
		want       map[int]string
	}{
		{math.MinInt, 9, with(3, "", 1, "")},
		{-1, 9, with(3, "", 1, "")},
		{0, 9, with(3, "", 1, "")}, // the empty one is written whole; of the next one nothing is
		{1, 8, with(3, "", 1, "a")},
		{2, 7, with(3, "", 1, "ab", 2, "", 4, "")},
		{3, 6, with(3, "", 1, "ab", 2, "", 4, "c")},
		{4, 5, with(3, "", 1, "ab", 2, "", 4, "cd")},
		{5, 4, with(3, "", 1, "", 2, "", 4, "cde")}, // put anew, and torn
		{6, 3, with(3, "", 1, "f", 2, "", 4, "cde")},
		{7, 2, with(3, "", 1, "fg", 2, "", 4, "cde")},
		{8, 1, with(3, "", 1, "fgh", 2, "", 4, "cde")},
		{9, 0, with(3, "", 1, "fghi", 2, "", 4, "cde", 5, "")},
		{10, 0, with(3, "", 1, "fghi", 2, "", 4, "cde", 5, "")},
		{math.MaxInt, 0, with(3, "", 1, "fghi", 2, "", 4, "cde", 5, "")},
	} {
		d := disk.New(50)
		for key, s := range old {
			put(t, d, key, s, api.OK)
		}
		sync(t, d, api.OK)
		put(t, d, 3, "", api.OK)
		put(t, d, 1, "ab", api.OK)
		put(t, d, 2, "", api.OK)
		put(t, d, 4, "cde", api.OK)
		put(t, d, 1, "fghi", api.OK)
		put(t, d, 5, "", api.OK)
		has(t, d, 9, with(3, "", 1, "fghi", 2, "", 4, "cde", 5, ""))
		crash(t, d, c.keep, c.lost)
		has(t, d, 0, c.want)
		crash(t, d, 0, 0) // what it left is safe
		has(t, d, 0, c.want)
		sync(t, d, api.OK)
		crash(t, d, 5, 0)
		has(t, d, 0, c.want)
	}
}

// P8.2: behind the one that is not written whole all are gone, though bytes enough for them were left over, or they are empty.
func TestCrashGone(t *testing.T) {
	d := disk.New(50)
	put(t, d, 1, "abcde", api.OK)
	put(t, d, 2, "f", api.OK)
	put(t, d, 3, "", api.OK)
	put(t, d, 1, "", api.OK)
	crash(t, d, 4, 2)
	has(t, d, 0, map[int]string{1: "abcd"})
	hasNot(t, d, 2, 3)
	put(t, d, 4, "", api.OK)
	put(t, d, 5, "", api.OK)
	crash(t, d, 0, 0) // empty ones alone are written whole by none
	has(t, d, 0, map[int]string{1: "abcd", 4: "", 5: ""})
}

// P8.2: behind a crash it fails no more, whatever it was told.
func TestCrashFails(t *testing.T) {
	for _, n := range []int{0, 1, 5, math.MaxInt, -1, -5, math.MinInt} {
		d := disk.New(10)
		put(t, d, 1, "ab", api.OK)
		d.Fail(n)
		crash(t, d, 1, 1)
		has(t, d, 0, map[int]string{1: "a"})
		for range 4 {
			put(t, d, 1, "abc", api.OK)
			sync(t, d, api.OK)
		}
		d.Fail(n)
		crash(t, d, 1, 0) // nothing is under way
		put(t, d, 1, "abc", api.OK)
		sync(t, d, api.OK)
		sync(t, d, api.OK)
	}
}

// P8.3: Keys rise, however they came.
func TestKeys(t *testing.T) {
	d := disk.New(0)
	var want []int
	for i := range 200 {
		key := (i*77 + 13) % 200 * 1000001
		if i%2 == 1 {
			key = -key
		}
		put(t, d, key, "", api.OK)
		put(t, d, key, "", api.OK)
		want = append(want, key)
	}
	slices.Sort(want)
	want = slices.Compact(want)
	for range 5 {
		if got := d.Keys(); !slices.Equal(got, want) {
			t.Errorf("Keys() = %v, want %v", got, want)
		}
	}
	crash(t, d, 0, 0)
	if got := d.Keys(); !slices.Equal(got, want) {
		t.Errorf("behind a crash Keys() = %v, want %v", got, want)
	}
}

// P8.4: what is safe is there behind crashes at each byte, but of keys that were put anew.
func TestSafe(t *testing.T) {
	for keep := range 12 {
		d := disk.New(100)
		put(t, d, 1, "one", api.OK)
		put(t, d, 2, "two", api.OK)
		sync(t, d, api.OK)
		put(t, d, 3, "three", api.OK)
		put(t, d, 2, "second", api.OK)
		crash(t, d, keep, max(11-keep, 0))
		if b, is := d.Get(1); !is || string(b) != "one" {
			t.Errorf("behind Crash(%d) Get(1) = %q, %v", keep, b, is)
		}
		want := "two"
		if keep >= 5 {
			want = "second"[:keep-5]
		}
		if b, is := d.Get(2); !is || string(b) != want {
			t.Errorf("behind Crash(%d) Get(2) = %q, %v, want %q", keep, b, is, want)
		}
	}
}

// told is a put that a plain disk was told.
type told struct {
	key  int
	blob string
}

// plain is a disk that knows nothing but the row of what it was told, and how many of these are safe.
type plain struct {
	row         []told
	safe        int
	room        int
	spare, fail int
}

func (p *plain) blobs() map[int]string {
	m := map[int]string{}
	for _, x := range p.row {
		m[x.key] = x.blob
	}
	return m
}

func (p *plain) left() int {
	n := 0
	for _, x := range p.row[p.safe:] {
		n += len(x.blob)
	}
	return n
}

func (p *plain) fails() bool {
	if p.spare > 0 {
		p.spare--
		return false
	}
	p.fail--
	return p.fail >= 0
}

func (p *plain) tell(n int) {
	p.spare, p.fail = 0, n
	if n < 0 {
		p.spare, p.fail = 1, -n
	}
}

func (p *plain) put(key int, s string) api.Errno {
	if p.fails() {
		return api.ErrStore
	}
	m, n := p.blobs(), 0
	m[key] = s
	for _, b := range m {
		n += len(b)
	}
	if n > p.room {
		return api.ErrFull
	}
	p.row = append(p.row, told{key, s})
	return api.OK
}

func (p *plain) sync() api.Errno {
	if p.fails() {
		return api.ErrStore
	}
	p.safe = len(p.row)
	return api.OK
}

// crash goes byte by byte, and ends at the first blob of which one is not written.
func (p *plain) crash(keep int) int {
	left, written := p.left(), 0
	row := p.row[:p.safe:p.safe]
	for _, x := range p.row[p.safe:] {
		n := 0
		for n < len(x.blob) && written < keep {
			n, written = n+1, written+1
		}
		row = append(row, told{x.key, x.blob[:n]})
		if n < len(x.blob) {
			break
		}
	}
	p.row, p.safe, p.spare, p.fail = row, len(row), 0, 0
	return left - written
}

// P8.1, P8.2, P8.3, P8.4: long rows of calls, as a plain disk tells them.
func TestLikePlain(t *testing.T) {
	for seed := range 60 {
		x := uint64(seed + 1)
		next := func(n int) int {
			x = x*6364136223846793005 + 1442695040888963407
			return int(x >> 33 % uint64(n))
		}
		room := []int{0, 1, 12, 30, 100}[next(5)]
		d, p := disk.New(room), &plain{room: room}
		for step := range 250 {
			switch next(12) {
			case 0, 1:
				if got, want := d.Sync(), p.sync(); got != want {
					t.Fatalf("%d, %d: Sync() = %d, want %d", seed, step, got, want)
				}
			case 2:
				keep := next(p.left()+4) - 2
				if got, want := d.Crash(keep), p.crash(keep); got != want {
					t.Fatalf("%d, %d: Crash(%d) = %d, want %d", seed, step, keep, got, want)
				}
			case 3:
				n := next(7) - 3
				d.Fail(n)
				p.tell(n)
			default:
				key, s := next(6)-2, strings.Repeat(string(rune('a'+next(26))), next(4)*next(4))
				if p.spare > 0 { // so that it is told OK: the chapter does not say whether ErrFull is a time that it does not fail
					s = ""
				}
				if got, want := d.Put(key, []byte(s)), p.put(key, s); got != want {
					t.Fatalf("%d, %d: Put(%d, %q) = %d, want %d", seed, step, key, s, got, want)
				}
			}
			has(t, d, p.left(), p.blobs())
			if t.Failed() {
				t.Fatalf("at %d, %d", seed, step)
			}
		}
	}
}

// P8.1: what is handed in is neither changed nor kept, and what is answered is new memory (rule R4).
func TestNewMemory(t *testing.T) {
	d := disk.New(100)
	room := []byte("abcdefgh")
	given := room[:3]
	if e := d.Put(1, given); e != api.OK {
		t.Error(e)
	}
	copy(room, "XXXXXXXX")
	has(t, d, 3, map[int]string{1: "abc"})
	spoil := func(what string) {
		t.Helper()
		b, _ := d.Get(1)
		b = b[:cap(b)]
		for i := range b {
			b[i] = 'Y'
		}
		keys := d.Keys()
		keys = keys[:cap(keys)]
		for i := range keys {
			keys[i] = 77
		}
		if b, is := d.Get(1); !is || string(b) != "abc" || !slices.Equal(d.Keys(), []int{1}) {
			t.Errorf("%s: behind a change of the answers Get(1) = %q, Keys() = %v", what, b, d.Keys())
		}
	}
	spoil("under way")
	sync(t, d, api.OK)
	spoil("safe")
	put(t, d, 1, "defg", api.OK)
	crash(t, d, 0, 4)
	put(t, d, 1, "abcdef", api.OK)
	crash(t, d, 3, 3)
	spoil("torn")
	put(t, d, 1, "abc", api.OK)
	one, _ := d.Get(1)
	two, _ := d.Get(1)
	one[0] = 'Z'
	if string(two) != "abc" {
		t.Errorf("two answers share memory: %q", two)
	}
	if !bytes.Equal(room, []byte("XXXXXXXX")) {
		t.Errorf("what was handed in is %q", room)
	}
}

// P8.1: nil and an empty list are one.
func TestEmpty(t *testing.T) {
	d := disk.New(3)
	for _, b := range [][]byte{nil, {}, []byte("abc")[:0]} {
		put(t, d, 1, "ab", api.OK)
		if e := d.Put(1, b); e != api.OK {
			t.Errorf("Put of nothing = %d", e)
		}
		has(t, d, 2, map[int]string{1: ""})
		sync(t, d, api.OK)
		has(t, d, 0, map[int]string{1: ""})
	}
}
