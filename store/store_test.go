package store

import (
	"bytes"
	"encoding/binary"
	"hash/crc32"
	"math/rand"
	"slices"
	"sync"
	"testing"

	"monticule/api"
	"monticule/disk"
	"monticule/journal"
)

// diskOf is a disk with the given bytes.
func diskOf(t *testing.T, image []byte) *disk.Disk {
	t.Helper()
	d, e := disk.Of(image)
	if e != api.OK {
		t.Fatalf("disk.Of %d bytes: %v", len(image), e)
	}
	return d
}

// noise is an image of bytes that no text and no header has, so that each write is seen.
func noise(sectors int) []byte {
	b := make([]byte, sectors*64)
	r := rand.New(rand.NewSource(int64(sectors)))
	for i := range b {
		b[i] = byte(r.Intn(255) + 1)
	}
	return b
}

// sealed is a text and its checksum, by Go's own CRC-32.
func sealed(text []byte) []byte {
	b := slices.Clone(text)
	return binary.LittleEndian.AppendUint32(b, crc32.ChecksumIEEE(text))
}

// longest is the number of bytes of the longest text on a disk of so many sectors.
func longest(sectors int) int { return (sectors-2)/2*64 - 12 - 4 }

// formatted is a store on a disk that had other bytes before.
func formatted(t *testing.T, sectors int, text string) (*disk.Disk, *Store) {
	t.Helper()
	d := diskOf(t, noise(sectors))
	s, e := Format(d, []byte(text))
	if e != api.OK || s == nil {
		t.Fatalf("Format: %v, %v", s, e)
	}
	return d, s
}

// opened is the store that Open finds.
func opened(t *testing.T, d *disk.Disk) *Store {
	t.Helper()
	s, e := Open(d)
	if e != api.OK || s == nil {
		t.Fatalf("Open: %v, %v", s, e)
	}
	return s
}

// want is what a store must tell.
type want struct {
	text   string
	room   int
	broken bool
	saves  int
}

// check asks a store for all that it tells.
func check(t *testing.T, about string, s *Store, w want) {
	t.Helper()
	if got := s.Text(); string(got) != w.text {
		t.Errorf("%s: Text: %q, not %q", about, got, w.text)
	}
	if got := s.Room(); got != w.room {
		t.Errorf("%s: Room: %d, not %d", about, got, w.room)
	}
	if got := s.Broken(); got != w.broken {
		t.Errorf("%s: Broken: %v, not %v", about, got, w.broken)
	}
	if got := s.Saves(); got != w.saves {
		t.Errorf("%s: Saves: %d, not %d", about, got, w.saves)
	}
}

// sameDisk checks that two disks have the same bytes, pending and durable ones.
func sameDisk(t *testing.T, about string, got, want *disk.Disk) {
	t.Helper()
	if !bytes.Equal(got.Image(), want.Image()) {
		t.Errorf("%s: the disk has\n%x, not\n%x", about, got.Image(), want.Image())
	}
	if got.Waiting() != want.Waiting() {
		t.Errorf("%s: %d writes pending, not %d", about, got.Waiting(), want.Waiting())
	}
	got.Crash(nil, -1, 0)
	want.Crash(nil, -1, 0)
	if !bytes.Equal(got.Image(), want.Image()) {
		t.Errorf("%s: durable are\n%x, not\n%x", about, got.Image(), want.Image())
	}
}

// sampleTexts are texts of all kinds of lengths for a disk of so many sectors, the longest among them.
func sampleTexts(sectors int) [][]byte {
	room := longest(sectors)
	all := noise(sectors)
	return [][]byte{nil, {}, {0}, []byte("x"), {0, 0, 0, 0}, all[:44], all[:47], make([]byte, room), all[:room-1], all[:room]}
}

// callsOf is how many calls on the disk a function makes, if the power lasts.
func callsOf(t *testing.T, image []byte, f func(*disk.Disk)) int {
	t.Helper()
	const plenty = 1000
	d := diskOf(t, image)
	d.Power(plenty)
	f(d)
	left := 0
	for d.Sync() == api.OK {
		left++
	}
	return plenty - left
}

// P5.1: Format is layer 4's Format of the sealed text; the store has the text, is whole, and has saved nothing.
func TestFormat(t *testing.T) {
	for _, sectors := range []int{4, 5, 6, 7, 10, 11} {
		for _, text := range sampleTexts(sectors) {
			d, other := diskOf(t, noise(sectors)), diskOf(t, noise(sectors))
			s, e := Format(d, text)
			if e != api.OK || s == nil {
				t.Fatalf("%d sectors, %d bytes: %v, %v", sectors, len(text), s, e)
			}
			check(t, "Format", s, want{string(text), longest(sectors), false, 0})
			if e := journal.Format(other, sealed(text)); e != api.OK {
				t.Fatal(e)
			}
			sameDisk(t, "Format", d, other)
			check(t, "Open", opened(t, d), want{string(text), longest(sectors), false, 0})
		}
	}
}

// P5.1: a disk that is nil or has no capacity is refused, whatever the text, and whatever power there is.
func TestNoCapacity(t *testing.T) {
	for sectors := range 4 {
		for _, text := range [][]byte{nil, {}, []byte("a"), make([]byte, 1000)} {
			for _, power := range []int{-1, 0, 1} {
				var d *disk.Disk
				if sectors > 0 {
					d = diskOf(t, noise(sectors))
					d.Power(power)
				}
				if s, e := Format(d, text); s != nil || e != api.ErrArg {
					t.Errorf("%d sectors, Format of %d bytes: %v, %v", sectors, len(text), s, e)
				}
				if s, e := Open(d); s != nil || e != api.ErrArg {
					t.Errorf("%d sectors, Open: %v, %v", sectors, s, e)
				}
				if d != nil && (d.Waiting() != 0 || !bytes.Equal(d.Image(), noise(sectors))) {
					t.Errorf("%d sectors: the disk was written", sectors)
				}
			}
		}
	}
}

// P5.1: Format of a text of just the maximum length, and of one of a byte more and others; nothing is written then.
func TestFormatFull(t *testing.T) {
	for _, sectors := range []int{4, 5, 6, 7, 10, 11} {
		room := longest(sectors)
		_, s := formatted(t, sectors, string(make([]byte, room)))
		check(t, "Format", s, want{string(make([]byte, room)), room, false, 0})
		for _, n := range []int{room + 1, room + 2, room + 3, room + 4, room + 5, room + 64, 4 * room} {
			for _, power := range []int{-1, 0, 1} {
				d := diskOf(t, noise(sectors))
				d.Power(power)
				if s, e := Format(d, make([]byte, n)); s != nil || e != api.ErrFull {
					t.Errorf("%d sectors, Format of %d bytes: %v, %v", sectors, n, s, e)
				}
				if d.Waiting() != 0 || !bytes.Equal(d.Image(), noise(sectors)) {
					t.Errorf("%d sectors, %d bytes: the disk was written", sectors, n)
				}
			}
		}
	}
}

// P5.1: the power fails at each call of a Format: its error is layer 4's, and so are the writes that it made.
func TestFormatPower(t *testing.T) {
	text := []byte("some text")
	for _, sectors := range []int{4, 6, 9} {
		n := callsOf(t, noise(sectors), func(d *disk.Disk) { Format(d, text) })
		for power := range n + 2 {
			d, other := diskOf(t, noise(sectors)), diskOf(t, noise(sectors))
			d.Power(power)
			other.Power(power)
			s, e := Format(d, text)
			if f := journal.Format(other, sealed(text)); e != f || (e == api.OK) != (power >= n) || (s != nil) != (e == api.OK) {
				t.Errorf("%d sectors, power %d: %v, %v, not %v", sectors, power, s, e, f)
			}
			sameDisk(t, "Format", d, other)
		}
	}
}

// P5.1: after a Format that failed, and a crash, a disk can be formatted and opened; if it was OK, no crash loses the text.
func TestFormatCrash(t *testing.T) {
	format := func(d *disk.Disk) { Format(d, []byte("whole")) }
	for power := range callsOf(t, noise(6), format) + 1 {
		for _, k := range crashes(waitingAfter(t, noise(6), power, format), 0, 1, 4, 12, 60, 63) {
			d := diskOf(t, noise(6))
			d.Power(power)
			_, e := Format(d, []byte("whole"))
			d.Crash(k.keep, k.torn, k.octets)
			if e == api.OK {
				check(t, "Open", opened(t, d), want{"whole", 112, false, 0})
			}
			if s, e := Format(d, []byte("again")); e != api.OK || string(s.Text()) != "again" {
				t.Fatalf("Format again: %v", e)
			}
			check(t, "Open again", opened(t, d), want{"again", 112, false, 0})
		}
	}
}

// P5.1: Open finds a sealed text that layer 4 laid there, by Format or by Put.
func TestOpenFindsSealed(t *testing.T) {
	for _, sectors := range []int{4, 5, 10} {
		for _, text := range sampleTexts(sectors) {
			for _, lay := range []func(*disk.Disk, []byte) api.Errno{journal.Format, journal.Put} {
				d := diskOf(t, noise(sectors))
				if e := lay(d, sealed(text)); e != api.OK {
					t.Fatal(e)
				}
				before := d.Image()
				d.Power(0)
				check(t, "Open", opened(t, d), want{string(text), longest(sectors), false, 0})
				if d.Waiting() != 0 || !bytes.Equal(d.Image(), before) {
					t.Error("Open wrote, though nothing was to be done")
				}
			}
		}
	}
}

// P5.1: a text that is too short to be sealed, on a new disk too.
func TestOpenShort(t *testing.T) {
	for n := range 4 {
		d := diskOf(t, noise(6))
		if e := journal.Format(d, make([]byte, n)); e != api.OK {
			t.Fatal(e)
		}
		if s, e := Open(d); s != nil || e != api.ErrShort {
			t.Errorf("%d bytes: %v, %v", n, s, e)
		}
	}
	d, e := disk.New(6)
	if e != api.OK {
		t.Fatal(e)
	}
	if s, e := Open(d); s != nil || e != api.ErrShort {
		t.Errorf("a new disk: %v, %v", s, e)
	}
}

// P5.1: a text that is not sealed: each bit of a sealed one turned, bytes added and taken away, other bytes.
func TestOpenSum(t *testing.T) {
	good := sealed([]byte("a text"))
	bad := [][]byte{{1, 2, 3, 4}, []byte("a text"), good[1:], good[:len(good)-1], append(slices.Clone(good), 0), bytes.Repeat([]byte{0xFF}, 5)}
	for i := range 8 * len(good) {
		b := slices.Clone(good)
		b[i/8] ^= 1 << (i % 8)
		bad = append(bad, b)
	}
	for _, b := range bad {
		d := diskOf(t, noise(6))
		if e := journal.Format(d, b); e != api.OK {
			t.Fatal(e)
		}
		if s, e := Open(d); s != nil || e != api.ErrSum {
			t.Errorf("%x: %v, %v", b, s, e)
		}
	}
}

// P5.1: a home area without a text.
func TestOpenForm(t *testing.T) {
	for _, sectors := range []int{4, 6, 7} {
		capacity := uint32(longest(sectors) + 4)
		for _, n := range []uint32{capacity + 1, capacity + 8, 1 << 20, 0x80000000, 0xFFFFFFFF} {
			d := diskOf(t, noise(sectors))
			if e := journal.Format(d, sealed(nil)); e != api.OK {
				t.Fatal(e)
			}
			image := d.Image()
			binary.BigEndian.PutUint32(image[64+64*((sectors-2)/2):], n)
			if s, e := Open(diskOf(t, image)); s != nil || e != api.ErrForm {
				t.Errorf("%d sectors, number %d: %v, %v", sectors, n, s, e)
			}
		}
	}
}

// P5.1: the error of Recover comes before that of Get, and before that of a text that is not sealed.
func TestOpenOrder(t *testing.T) {
	zeros, form := make([]byte, 6*64), make([]byte, 6*64)
	binary.BigEndian.PutUint32(form[3*64:], 117)
	for _, c := range []struct {
		image []byte
		then  api.Errno
	}{{zeros, api.ErrShort}, {form, api.ErrForm}} {
		// The header is not one, so that Recover makes two calls.
		for power := range 4 {
			d := diskOf(t, c.image)
			d.Power(power)
			e := c.then
			if power < 2 {
				e = api.ErrPower
			}
			if s, f := Open(d); s != nil || f != e {
				t.Errorf("power %d: %v, %v, not %v", power, s, f, e)
			}
		}
	}
}

// P5.1: Open has the journal copied home first, if that is due; its calls are those of layer 4's Recover.
func TestOpenRecovers(t *testing.T) {
	for _, sectors := range []int{4, 6, 9} {
		d, s := formatted(t, sectors, "old")
		d.Power((sectors-2)/2 + 3) // the journal, Sync, the header, Sync
		if e := s.Save([]byte("new")); e != api.ErrDisk {
			t.Fatal(e)
		}
		d.Crash(nil, -1, 0)
		image := d.Image()
		n := callsOf(t, image, func(d *disk.Disk) { Open(d) })
		if n != (sectors-2)/2+3 {
			t.Errorf("%d sectors: %d calls", sectors, n)
		}
		for power := range n + 2 {
			d, other := diskOf(t, image), diskOf(t, image)
			d.Power(power)
			other.Power(power)
			s, e := Open(d)
			if f := journal.Recover(other); e != f || (e == api.OK) != (power >= n) || (s != nil) != (e == api.OK) {
				t.Errorf("%d sectors, power %d: %v, %v, not %v", sectors, power, s, e, f)
			}
			if e == api.OK {
				check(t, "Open", s, want{"new", longest(sectors), false, 0})
			}
			sameDisk(t, "Open", d, other)
		}
	}
}

// P5.2: Save puts the sealed text, whatever its length; each one counts, after Format and after Open.
func TestSave(t *testing.T) {
	for _, sectors := range []int{4, 5, 6, 7, 10, 11} {
		d, s := formatted(t, sectors, "first")
		other := diskOf(t, d.Image())
		for round := range 2 {
			for i, text := range sampleTexts(sectors) {
				if e := s.Save(text); e != api.OK {
					t.Fatalf("%d sectors, %d bytes: %v", sectors, len(text), e)
				}
				check(t, "Save", s, want{string(text), longest(sectors), false, i + 1})
				if e := journal.Put(other, sealed(text)); e != api.OK {
					t.Fatal(e)
				}
				sameDisk(t, "Save", d, other)
				check(t, "Open", opened(t, d), want{string(text), longest(sectors), false, 0})
			}
			if round == 0 {
				s = opened(t, d)
			}
		}
	}
}

// P5.2: a text whose sealed bytes exceed the capacity: ErrFull; the store is not broken, and nothing has changed.
func TestSaveFull(t *testing.T) {
	for _, sectors := range []int{4, 5, 6, 7, 10, 11} {
		room := longest(sectors)
		for _, n := range []int{room + 1, room + 2, room + 3, room + 4, room + 5, room + 64, 4 * room} {
			for _, power := range []int{-1, 0, 1} {
				d, s := formatted(t, sectors, "here")
				if e := s.Save([]byte("saved")); e != api.OK {
					t.Fatal(e)
				}
				before := d.Image()
				d.Power(power)
				if e := s.Save(make([]byte, n)); e != api.ErrFull {
					t.Errorf("%d sectors, %d bytes: %v", sectors, n, e)
				}
				check(t, "Save", s, want{"saved", room, false, 1})
				if d.Waiting() != 0 || !bytes.Equal(d.Image(), before) {
					t.Errorf("%d sectors, %d bytes: the disk was written", sectors, n)
				}
				d.Power(-1)
				if e := s.Save(make([]byte, room)); e != api.OK {
					t.Errorf("%d sectors: after ErrFull: %v", sectors, e)
				}
				check(t, "Save", s, want{string(make([]byte, room)), room, false, 2})
			}
		}
	}
}

// P5.2: the power fails at each call of a Save: ErrDisk, and the store is broken for good; the calls are those of layer 4's Put.
func TestSavePower(t *testing.T) {
	for _, sectors := range []int{4, 6, 9} {
		d, _ := formatted(t, sectors, "before")
		image := d.Image()
		text := []byte("some text")
		n := callsOf(t, image, func(d *disk.Disk) { journal.Put(d, sealed(text)) })
		for power := range n + 2 {
			d, other := diskOf(t, image), diskOf(t, image)
			s := opened(t, d)
			d.Power(power)
			other.Power(power)
			e := s.Save(text)
			f := journal.Put(other, sealed(text))
			if power >= n {
				if e != api.OK || f != api.OK {
					t.Errorf("%d sectors, power %d: %v, %v", sectors, power, e, f)
				}
				check(t, "Save", s, want{"some text", longest(sectors), false, 1})
			} else {
				if e != api.ErrDisk || f != api.ErrPower {
					t.Errorf("%d sectors, power %d: %v, %v", sectors, power, e, f)
				}
				check(t, "Save", s, want{"before", longest(sectors), true, 0})
			}
			sameDisk(t, "Save", d, other)
		}
	}
}

// P5.2: a broken store stays so, with power and after a crash; it refuses every text with ErrDisk, too long ones too, and writes nothing.
func TestBroken(t *testing.T) {
	for power := range 10 {
		d, s := formatted(t, 6, "first")
		for _, text := range []string{"second", "third"} {
			if e := s.Save([]byte(text)); e != api.OK {
				t.Fatal(e)
			}
		}
		d.Power(power)
		if e := s.Save([]byte("fourth")); e != api.ErrDisk {
			t.Fatalf("power %d: %v", power, e)
		}
		for _, again := range []func(){func() {}, func() { d.Power(-1) }, func() { d.Sync() }, func() { d.Crash(nil, -1, 0) }, func() { opened(t, d) }} {
			again()
			before, waiting := d.Image(), d.Waiting()
			for _, text := range [][]byte{nil, []byte("fifth"), make([]byte, 112), make([]byte, 113), make([]byte, 1000)} {
				if e := s.Save(text); e != api.ErrDisk {
					t.Errorf("power %d, %d bytes: %v", power, len(text), e)
				}
			}
			check(t, "broken", s, want{"third", 112, true, 2})
			if d.Waiting() != waiting || !bytes.Equal(d.Image(), before) {
				t.Errorf("power %d: a broken store wrote", power)
			}
		}
		// Another store on the same disk is whole.
		after := opened(t, d)
		if e := after.Save([]byte("sixth")); e != api.OK {
			t.Errorf("power %d: after Open: %v", power, e)
		}
		check(t, "Open", after, want{"sixth", 112, false, 1})
		check(t, "broken", s, want{"third", 112, true, 2})
	}
}

// P5.2: a store that was opened, and breaks at its first Save, has the text that was opened.
func TestBrokenAfterOpen(t *testing.T) {
	d, _ := formatted(t, 4, "opened")
	s := opened(t, d)
	d.Power(0)
	if e := s.Save(nil); e != api.ErrDisk {
		t.Error(e)
	}
	check(t, "broken", s, want{"opened", 48, true, 0})
}

// P5.2: Room is the maximum length: the largest disk takes such a text, and none of a byte more.
func TestRoom(t *testing.T) {
	for _, c := range []struct{ sectors, room int }{{4, 48}, {5, 48}, {6, 112}, {7, 112}, {8, 176}, {10, 240}, {65535, 2097008}, {65536, 2097072}} {
		d, s := formatted(t, c.sectors, "")
		check(t, "Format", s, want{"", c.room, false, 0})
		text := bytes.Repeat([]byte{7}, c.room+1)
		if e := s.Save(text); e != api.ErrFull {
			t.Errorf("%d sectors, a byte too many: %v", c.sectors, e)
		}
		if e := s.Save(text[:c.room]); e != api.OK {
			t.Errorf("%d sectors: %v", c.sectors, e)
		}
		check(t, "Save", s, want{string(text[:c.room]), c.room, false, 1})
		check(t, "Open", opened(t, d), want{string(text[:c.room]), c.room, false, 0})
	}
}

// P5.2: Text is the store's own, whatever others do to the disk.
func TestTextIsTheStores(t *testing.T) {
	d, s := formatted(t, 6, "mine")
	if e := journal.Put(d, sealed([]byte("theirs"))); e != api.OK {
		t.Fatal(e)
	}
	check(t, "Format", s, want{"mine", 112, false, 0})
	check(t, "Open", opened(t, d), want{"theirs", 112, false, 0})
	if e := s.Save([]byte("mine again")); e != api.OK {
		t.Error(e)
	}
	check(t, "Open", opened(t, d), want{"mine again", 112, false, 0})
}

// P5.2: Saves and Broken may be asked for while a Save is under way.
func TestAskedConcurrently(t *testing.T) {
	const saves = 200
	d, s := formatted(t, 6, "")
	var askers sync.WaitGroup
	for range 4 {
		askers.Go(func() {
			last := 0
			for range 20000 {
				now := s.Saves()
				if now < last || now > saves {
					t.Errorf("Saves: %d after %d", now, last)
				}
				last = now
				if s.Broken() && s.Saves() != saves {
					t.Error("broken too early")
				}
			}
		})
	}
	for range saves {
		if e := s.Save([]byte("text")); e != api.OK {
			t.Error(e)
		}
	}
	d.Power(0)
	s.Save(nil)
	askers.Wait()
	check(t, "all", s, want{"text", 112, true, saves})
}

// P5.3: the chapter's example.
func TestExample(t *testing.T) {
	d, s := formatted(t, 4, "a")
	if e := s.Save([]byte("b")); e != api.OK {
		t.Fatal(e)
	}
	d.Crash(nil, -1, 0)
	check(t, "Open", opened(t, d), want{"b", 48, false, 0})
}

// crash is what a crash does with the pending writes.
type crash struct {
	keep         []bool
	torn, octets int
}

// crashes are all crashes of so many pending writes: each subset, with each write torn at some places.
func crashes(waiting int, octets ...int) []crash {
	var l []crash
	for bits := range 1 << waiting {
		keep := make([]bool, waiting)
		for k := range keep {
			keep[k] = bits>>k&1 == 1
		}
		l = append(l, crash{keep, -1, 0})
		for torn := range waiting {
			if keep[torn] {
				continue // the disk does not ask whether a torn write is kept
			}
			for _, n := range octets {
				l = append(l, crash{keep, torn, n})
			}
		}
	}
	return l
}

// waitingAfter is how many writes are pending when the power fails in a function.
func waitingAfter(t *testing.T, image []byte, power int, f func(*disk.Disk)) int {
	t.Helper()
	d := diskOf(t, image)
	d.Power(power)
	f(d)
	return d.Waiting()
}

// settle opens a disk for good, and checks that one of the texts is there and that the store works.
func settle(t *testing.T, about string, d *disk.Disk, texts ...string) {
	t.Helper()
	s := opened(t, d)
	if !slices.Contains(texts, string(s.Text())) {
		t.Fatalf("%s: Text: %q, not one of %q", about, s.Text(), texts)
	}
	check(t, about, s, want{string(s.Text()), longest(d.Size()), false, 0})
	if e := s.Save([]byte("next")); e != api.OK {
		t.Fatalf("%s: Save: %v", about, e)
	}
	check(t, about, opened(t, d), want{"next", longest(d.Size()), false, 0})
}

// saveAndCrash saves a text with so much power, crashes the disk, and tells which texts may be there.
func saveAndCrash(t *testing.T, image []byte, power int, c crash, text string) (*disk.Disk, []string) {
	t.Helper()
	d := diskOf(t, image)
	s := opened(t, d)
	old := string(s.Text())
	d.Power(power)
	e := s.Save([]byte(text))
	if e != api.OK && e != api.ErrDisk {
		t.Fatalf("Save: %v", e)
	}
	d.Crash(c.keep, c.torn, c.octets)
	if e == api.OK {
		return d, []string{text}
	}
	return d, []string{old, text}
}

// P5.3: the power fails at each call of a Save, and each crash follows; then it fails at each call of an Open,
// and each crash follows; then an Open returns OK.
func TestCrashes(t *testing.T) {
	cases := []struct {
		sectors int
		octets  []int
	}{{4, []int{0, 1, 4, 7, 8, 9, 12, 13, 40, 59, 60, 61, 63, 64}}, {6, []int{5, 8, 12, 62}}, {8, []int{8, 63}}}
	for _, c := range cases {
		d, s := formatted(t, c.sectors, "first")
		if e := s.Save([]byte("the previous text")); e != api.OK {
			t.Fatal(e)
		}
		image := d.Image()
		text := "another text, in place of that one"
		save := func(d *disk.Disk) { journal.Put(d, sealed([]byte(text))) }
		for power := range callsOf(t, image, save) + 1 {
			for _, k := range crashes(waitingAfter(t, image, power, save), c.octets...) {
				x, texts := saveAndCrash(t, image, power, k, text)
				crashOpen(t, x.Image(), c.octets, texts)
				settle(t, "Save", x, texts...)
			}
		}
	}
}

// crashOpen lets the power fail at each call of an Open, with each crash.
func crashOpen(t *testing.T, image []byte, octets []int, texts []string) {
	t.Helper()
	open := func(d *disk.Disk) { Open(d) }
	for power := range callsOf(t, image, open) + 1 {
		for _, k := range crashes(waitingAfter(t, image, power, open), octets...) {
			d := diskOf(t, image)
			d.Power(power)
			if s, e := Open(d); (s == nil) != (e == api.ErrPower) || (s != nil) != (e == api.OK) {
				t.Fatalf("Open, power %d: %v, %v", power, s, e)
			}
			d.Crash(k.keep, k.torn, k.octets)
			settle(t, "Open", d, texts...)
		}
	}
}

// P5.3: a failed Save leaves both open: after some crashes the text that was tried is there, after others the one before.
func TestCrashGivesBoth(t *testing.T) {
	seen := make(map[string]int)
	d, _ := formatted(t, 4, "old")
	image := d.Image()
	for power := range 8 {
		for _, keep := range [][]bool{nil, {true}} {
			d, texts := saveAndCrash(t, image, power, crash{keep, -1, 0}, "new")
			if len(texts) != 2 {
				t.Fatalf("power %d was enough", power)
			}
			seen[string(opened(t, d).Text())]++
		}
	}
	if seen["old"] == 0 || seen["new"] == 0 || len(seen) != 2 {
		t.Errorf("%v", seen)
	}
}

// P5.2, P5.3: a store in the chapter's words, beside a real one, over random calls, failures and crashes.
func TestModel(t *testing.T) {
	r := rand.New(rand.NewSource(5))
	for range 200 {
		sectors := 4 + r.Intn(10)
		room := longest(sectors)
		d, s := formatted(t, sectors, "first")
		m := want{"first", room, false, 0}
		failed := []string(nil) // the texts of the Saves that failed since the last one that did not
		for range 40 {
			check(t, "model", s, m)
			switch r.Intn(5) {
			case 0:
				d.Power(r.Intn(3*sectors) - 1)
			case 1:
				randomCrash(r, d)
				for range r.Intn(3) {
					d.Power(r.Intn(sectors))
					Open(d)
					randomCrash(r, d)
				}
				s = opened(t, d)
				now := string(s.Text())
				if now != m.text && !slices.Contains(failed, now) {
					t.Fatalf("after a crash: %q, not %q nor one of %q", now, m.text, failed)
				}
				m, failed = want{now, room, false, 0}, nil
			default:
				text := randomText(r, room)
				e := s.Save([]byte(text))
				switch {
				case m.broken:
					if e != api.ErrDisk {
						t.Fatalf("Save on a broken store: %v", e)
					}
				case len(text) > room:
					if e != api.ErrFull {
						t.Fatalf("Save of %d bytes: %v", len(text), e)
					}
				case e == api.OK:
					m.text, m.saves = text, m.saves+1
				case e == api.ErrDisk && d.Sync() == api.ErrPower:
					m.broken, failed = true, append(failed, text)
				default:
					t.Fatalf("Save: %v", e)
				}
			}
		}
	}
}

// randomText is a text of at most a byte too many, often a short or a full one.
func randomText(r *rand.Rand, room int) string {
	n := r.Intn(room + 1)
	switch r.Intn(5) {
	case 0:
		n = room
	case 1:
		n = r.Intn(5)
	case 2:
		n = room + 1
	}
	b := make([]byte, n)
	r.Read(b)
	return string(b)
}

// randomCrash crashes a disk.
func randomCrash(r *rand.Rand, d *disk.Disk) {
	keep := make([]bool, r.Intn(d.Waiting()+2))
	for k := range keep {
		keep[k] = r.Intn(2) == 0
	}
	d.Crash(keep, r.Intn(d.Waiting()+2)-1, r.Intn(70)-3)
}

// P5.3: what a nil store returns, for every text; and a store that no constructor made does not panic.
func TestNil(t *testing.T) {
	for _, s := range []*Store{nil, new(Store)} {
		for _, text := range [][]byte{nil, {}, []byte("a"), make([]byte, 1000)} {
			if e := s.Save(text); e != api.ErrArg {
				t.Errorf("Save: %v", e)
			}
			check(t, "nil", s, want{"", -1, true, 0})
		}
	}
}

// P5.3: a text that is handed in is neither changed nor kept, nor is what lies behind it in its memory.
func TestTextIsLeftAlone(t *testing.T) {
	for _, n := range []int{0, 1, 4, 48, 108, 112, 113} {
		memory := noise(10)
		before := slices.Clone(memory)
		d := diskOf(t, noise(6))
		s, e := Format(d, memory[:n])
		if n == 113 {
			_, s = formatted(t, 6, "")
		} else if e != api.OK {
			t.Fatal(e)
		}
		text := string(s.Text())
		if !bytes.Equal(memory, before) {
			t.Errorf("Format of %d bytes changed the memory", n)
		}
		clear(memory)
		check(t, "Format", s, want{text, 112, false, 0})

		copy(memory, before)
		slices.Reverse(memory)
		before = slices.Clone(memory)
		saves := 1
		if s.Save(memory[:n]) == api.OK {
			text = string(before[:n])
		} else {
			saves = 0
		}
		if !bytes.Equal(memory, before) {
			t.Errorf("Save of %d bytes changed the memory", n)
		}
		clear(memory)
		check(t, "Save", s, want{text, 112, false, saves})
	}
}

// P5.3: what Text returns is new memory: changing it, or appending to it, changes neither the store, nor the disk, nor another result.
func TestTextIsNewMemory(t *testing.T) {
	d, formatted := formatted(t, 6, "some text")
	saved := opened(t, d)
	if e := saved.Save([]byte("some text")); e != api.OK {
		t.Fatal(e)
	}
	for _, s := range []*Store{formatted, saved, opened(t, d)} {
		before := d.Image()
		a, b := s.Text(), s.Text()
		a[0] = 'S'
		a = append(a, "and more"...)
		for i := range a {
			a[i] = 'x'
		}
		if string(b) != "some text" || string(s.Text()) != "some text" || !bytes.Equal(d.Image(), before) {
			t.Errorf("%q, %q", b, s.Text())
		}
		b = append(b, '!')
		if c := s.Text(); string(append(c, '?')) != "some text?" || string(b) != "some text!" {
			t.Errorf("%q, %q", b, c)
		}
	}
}

// P5.3: stores on two disks have nothing in common.
func TestTwoStores(t *testing.T) {
	d, a := formatted(t, 6, "a")
	_, b := formatted(t, 6, "b")
	d.Power(20)
	if e := a.Save([]byte("new a")); e != api.OK {
		t.Error(e)
	}
	d.Power(0)
	a.Save(nil)
	check(t, "a", a, want{"new a", 112, true, 1})
	check(t, "b", b, want{"b", 112, false, 0})
}
