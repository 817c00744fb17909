package journal

import (
	"bytes"
	"encoding/binary"
	"hash/crc32"
	"math"
	"math/rand"
	"slices"
	"testing"

	"monticule/api"
	"monticule/disk"
)

// call is one call on a disk: a Write at a sector, or a Sync if b is empty.
type call struct {
	at int
	b  []byte
}

// diskOf is a disk with the given bytes.
func diskOf(t *testing.T, image []byte) *disk.Disk {
	t.Helper()
	d, e := disk.Of(image)
	if e != api.OK {
		t.Fatalf("disk.Of %d bytes: %v", len(image), e)
	}
	return d
}

// noise is an image of bytes that no text and no header has, so that each write is seen.
func noise(sectors int) []byte {
	b := make([]byte, sectors*64)
	r := rand.New(rand.NewSource(int64(sectors)))
	for i := range b {
		b[i] = byte(r.Intn(255) + 1)
	}
	return b
}

// half is the number of sectors of the journal, and of the home area, in the chapter's words.
func half(sectors int) int { return (sectors - 2) / 2 }

// laid is a text as an area of a disk of so many sectors must have it.
func laid(sectors int, text []byte) []byte {
	b := binary.BigEndian.AppendUint32(nil, uint32(len(text)))
	b = append(b, text...)
	return append(b, make([]byte, half(sectors)*64-len(b))...)
}

// head is a header as the chapter lays it out.
func head(mark, sum uint32) []byte {
	return headOf(0x4D4F4E54, mark, sum, make([]byte, 48))
}

// headOf is a sealed sector of the parts of a header, right or wrong ones.
func headOf(first, mark, sum uint32, rest []byte) []byte {
	b := binary.BigEndian.AppendUint32(nil, first)
	b = binary.BigEndian.AppendUint32(b, mark)
	b = binary.LittleEndian.AppendUint32(b, sum)
	b = append(b, rest...)
	return binary.LittleEndian.AppendUint32(b, crc32.ChecksumIEEE(b))
}

// writes are the calls that write b from sector first on, and a Sync.
func writes(first int, b []byte) []call {
	var l []call
	for i := 0; i < len(b); i += 64 {
		l = append(l, call{first + i/64, b[i : i+64]})
	}
	return append(l, call{})
}

// formatCalls are the calls of a Format, in the chapter's words.
func formatCalls(sectors int, text []byte) []call {
	return slices.Concat(writes(1+half(sectors), laid(sectors, text)), writes(0, head(0, 0)))
}

// putCalls are the calls of a Put, in the chapter's words.
func putCalls(sectors int, text []byte) []call {
	area := laid(sectors, text)
	sum := crc32.ChecksumIEEE(area)
	return slices.Concat(writes(1, area), writes(0, head(1, sum)),
		writes(1+half(sectors), area), writes(0, head(0, sum)))
}

// recoverCalls are the calls of a Recover, in the chapter's words, on a disk with those bytes.
func recoverCalls(image []byte) []call {
	sectors := len(image) / 64
	area := image[64 : 64+64*half(sectors)]
	sum := crc32.ChecksumIEEE(area)
	h := image[:64]
	switch {
	case bytes.Equal(h, head(1, sum)):
		return slices.Concat(writes(1+half(sectors), area), writes(0, head(0, sum)))
	case !bytes.Equal(h, head(0, binary.LittleEndian.Uint32(h[8:]))):
		return writes(0, head(0, 0))
	}
	return nil
}

// sameDisk checks that two disks have the same bytes, pending and durable ones.
func sameDisk(t *testing.T, about string, got, want *disk.Disk) {
	t.Helper()
	if !bytes.Equal(got.Image(), want.Image()) {
		t.Errorf("%s: the disk has\n%x, not\n%x", about, got.Image(), want.Image())
	}
	if got.Waiting() != want.Waiting() {
		t.Errorf("%s: %d writes pending, not %d", about, got.Waiting(), want.Waiting())
	}
	got.Crash(nil, -1, 0)
	want.Crash(nil, -1, 0)
	if !bytes.Equal(got.Image(), want.Image()) {
		t.Errorf("%s: durable are\n%x, not\n%x", about, got.Image(), want.Image())
	}
}

// checkCalls checks that a function makes exactly those calls, by letting the power fail at each of them,
// and that it returns the error of the first one that fails.
func checkCalls(t *testing.T, about string, image []byte, f func(*disk.Disk) api.Errno, calls []call) {
	t.Helper()
	for power := range len(calls) + 3 {
		got, want := diskOf(t, image), diskOf(t, image)
		got.Power(power)
		e := f(got)
		for _, c := range calls[:min(power, len(calls))] {
			if len(c.b) == 0 {
				want.Sync()
			} else if e := want.Write(c.at, c.b); e != api.OK {
				t.Fatalf("%s: the test writes sector %d: %v", about, c.at, e)
			}
		}
		wantError := api.OK
		if power < len(calls) {
			wantError = api.ErrPower
		}
		if e != wantError {
			t.Errorf("%s, power %d: %v, not %v", about, power, e, wantError)
		}
		// What is left of the power tells how many calls there were.
		left := 0
		for got.Waiting() == 0 && got.Sync() == api.OK {
			left++
		}
		if wantLeft := max(power-len(calls), 0); left != wantLeft {
			t.Errorf("%s, power %d: %d calls left, not %d", about, power, left, wantLeft)
		}
		sameDisk(t, about, got, want)
	}
}

// formatted is a disk that was formatted with a text.
func formatted(t *testing.T, sectors int, text string) *disk.Disk {
	t.Helper()
	d := diskOf(t, noise(sectors))
	if e := Format(d, []byte(text)); e != api.OK {
		t.Fatalf("Format: %v", e)
	}
	return d
}

// wantText checks what Get returns.
func wantText(t *testing.T, d *disk.Disk, want string) {
	t.Helper()
	if got, e := Get(d); e != api.OK || string(got) != want {
		t.Errorf("Get: %q, %v, not %q", got, e, want)
	}
}

// sampleTexts are texts of all kinds of lengths for a disk of so many sectors, the capacity's among them.
func sampleTexts(sectors int) [][]byte {
	room := 64*half(sectors) - 12
	all := noise(sectors)
	return [][]byte{nil, {}, {0}, []byte("x"), all[:47], all[:52], make([]byte, room), all[:room-1], all[:room]}
}

// P4.1: the chapter's example, and the capacity of every number of sectors.
func TestRoom(t *testing.T) {
	if got := Room(10); got != 244 {
		t.Errorf("Room(10): %d", got)
	}
	for _, c := range []struct{ sectors, want int }{
		{0, -1}, {1, -1}, {2, -1}, {3, -1}, {4, 52}, {5, 52}, {6, 116}, {7, 116}, {8, 180}, {65535, 2097012}, {65536, 2097076},
	} {
		if got := Room(c.sectors); got != c.want {
			t.Errorf("Room(%d): %d, not %d", c.sectors, got, c.want)
		}
	}
	for n := 4; n <= api.MaxDisk; n++ {
		if got, want := Room(n), (n/2-1)*64-12; got != want {
			t.Fatalf("Room(%d): %d, not %d", n, got, want)
		}
	}
}

// P4.1: no disk has that many sectors.
func TestRoomOfNoDisk(t *testing.T) {
	for _, n := range []int{-1, -2, -3, -4, -5, -1000, 65537, 65538, 1 << 20, 1 << 32, 1<<32 + 10, 1 << 58, math.MaxInt, math.MaxInt - 1,
		math.MinInt, math.MinInt + 1, math.MinInt + 2, math.MinInt / 2, math.MinInt / 64} {
		if got := Room(n); got != -1 {
			t.Errorf("Room(%d): %d", n, got)
		}
	}
}

// P4.1: the calls that Format makes, and its error wherever one fails.
func TestFormatCalls(t *testing.T) {
	for _, sectors := range []int{4, 5, 6, 7, 10, 11} {
		for _, text := range sampleTexts(sectors) {
			checkCalls(t, "Format", noise(sectors), func(d *disk.Disk) api.Errno { return Format(d, text) }, formatCalls(sectors, text))
		}
	}
}

// P4.1: the calls that Put makes, and its error wherever one fails; it does not ask what is on the disk.
func TestPutCalls(t *testing.T) {
	for _, sectors := range []int{4, 5, 6, 7, 10, 11} {
		for _, text := range sampleTexts(sectors) {
			put := func(d *disk.Disk) api.Errno { return Put(d, text) }
			checkCalls(t, "Put", noise(sectors), put, putCalls(sectors, text))
			checkCalls(t, "Put of zeros", make([]byte, sectors*64), put, putCalls(sectors, text))
			d := formatted(t, sectors, "before")
			checkCalls(t, "Put after Format", d.Image(), put, putCalls(sectors, text))
			Put(d, []byte("another"))
			checkCalls(t, "Put after Put", d.Image(), put, putCalls(sectors, text))
		}
	}
}

// P4.1: Format of the chapter's layout, byte by byte.
func TestFormatBytes(t *testing.T) {
	d := diskOf(t, bytes.Repeat([]byte{0xAA}, 7*64))
	if e := Format(d, []byte("abc")); e != api.OK {
		t.Fatal(e)
	}
	image := d.Image()
	want := append([]byte{0x4D, 0x4F, 0x4E, 0x54}, make([]byte, 56)...)
	if !bytes.Equal(image[:60], want) || binary.LittleEndian.Uint32(image[60:64]) != crc32.ChecksumIEEE(want) {
		t.Errorf("header: %x", image[:64])
	}
	unused := bytes.Repeat([]byte{0xAA}, 128)
	if !bytes.Equal(image[64:192], unused) {
		t.Errorf("the journal was written: %x", image[64:192])
	}
	if home := append([]byte{0, 0, 0, 3, 'a', 'b', 'c'}, make([]byte, 121)...); !bytes.Equal(image[192:320], home) {
		t.Errorf("home: %x", image[192:320])
	}
	if !bytes.Equal(image[320:], unused) {
		t.Errorf("sectors behind the home area were written: %x", image[320:])
	}
}

// P4.1: Put of the chapter's layout, byte by byte.
func TestPutBytes(t *testing.T) {
	d := diskOf(t, bytes.Repeat([]byte{0xAA}, 4*64))
	if e := Put(d, []byte{7, 0}); e != api.OK {
		t.Fatal(e)
	}
	image := d.Image()
	area := append([]byte{0, 0, 0, 2, 7, 0}, make([]byte, 58)...)
	if !bytes.Equal(image[64:128], area) || !bytes.Equal(image[128:192], area) {
		t.Errorf("journal: %x, home: %x", image[64:128], image[128:192])
	}
	sum := crc32.ChecksumIEEE(area)
	want := append([]byte{0x4D, 0x4F, 0x4E, 0x54, 0, 0, 0, 0, byte(sum), byte(sum >> 8), byte(sum >> 16), byte(sum >> 24)}, make([]byte, 48)...)
	if !bytes.Equal(image[:60], want) || binary.LittleEndian.Uint32(image[60:64]) != crc32.ChecksumIEEE(want) {
		t.Errorf("header: %x", image[:64])
	}
	if !bytes.Equal(image[192:], bytes.Repeat([]byte{0xAA}, 64)) {
		t.Errorf("the last sector was written: %x", image[192:])
	}
}

// P4.1, P4.3: texts are there after Format and Put, those of just the capacity and empty ones too.
func TestTextsAreThere(t *testing.T) {
	for _, sectors := range []int{4, 5, 6, 7, 8, 9, 10, 33, 64} {
		for _, text := range sampleTexts(sectors) {
			d := diskOf(t, noise(sectors))
			if e := Format(d, text); e != api.OK {
				t.Errorf("%d sectors, Format of %d bytes: %v", sectors, len(text), e)
			}
			wantText(t, d, string(text))
			for _, next := range sampleTexts(sectors) {
				if e := Put(d, next); e != api.OK {
					t.Errorf("%d sectors, Put of %d bytes: %v", sectors, len(next), e)
				}
				wantText(t, d, string(next))
			}
		}
	}
}

// P4.1, P4.3: the largest disk holds a text of its capacity, and refuses one of a byte more.
func TestLargestDisk(t *testing.T) {
	d, e := disk.New(api.MaxDisk)
	if e != api.OK {
		t.Fatal(e)
	}
	text := noise(api.MaxDisk)[:2097077]
	if e := Format(d, text); e != api.ErrFull {
		t.Errorf("Format of a byte too many: %v", e)
	}
	if e := Put(d, text); e != api.ErrFull {
		t.Errorf("Put of a byte too many: %v", e)
	}
	if d.Waiting() != 0 || !bytes.Equal(d.Image(), make([]byte, 64*api.MaxDisk)) {
		t.Error("the disk was written")
	}
	for _, f := range []func(*disk.Disk, []byte) api.Errno{Format, Put} {
		if e := f(d, text[:2097076]); e != api.OK {
			t.Error(e)
		}
		if got, e := Get(d); e != api.OK || !bytes.Equal(got, text[:2097076]) {
			t.Errorf("Get: %d bytes, %v", len(got), e)
		}
	}
}

// P4.1: a text of more bytes than the capacity is refused, and nothing is written; no call on the disk is made.
func TestFull(t *testing.T) {
	for _, sectors := range []int{4, 5, 6, 10, 11} {
		room := 64*half(sectors) - 12
		for _, n := range []int{room + 1, room + 2, room + 8, room + 9, room + 12, room + 13, room + 64, 3 * room} {
			text := bytes.Repeat([]byte{1}, n)
			for _, power := range []int{-1, 0, 1} {
				d := formatted(t, sectors, "here")
				before := d.Image()
				d.Power(power)
				if e := Format(d, text); e != api.ErrFull {
					t.Errorf("%d sectors, Format of %d bytes: %v", sectors, n, e)
				}
				if e := Put(d, text); e != api.ErrFull {
					t.Errorf("%d sectors, Put of %d bytes: %v", sectors, n, e)
				}
				if d.Waiting() != 0 || !bytes.Equal(d.Image(), before) {
					t.Errorf("%d sectors, %d bytes: the disk was written", sectors, n)
				}
				if e := d.Sync(); (e == api.OK) != (power != 0) {
					t.Errorf("%d sectors, power %d: a call was made", sectors, power)
				}
				wantText(t, d, "here")
			}
		}
	}
}

// P4.1, P4.2, P4.3: no disk, and disks without capacity; that comes before a text that is too long, and before the power.
func TestNoCapacity(t *testing.T) {
	disks := []*disk.Disk{nil}
	for n := 1; n <= 3; n++ {
		disks = append(disks, diskOf(t, noise(n)))
	}
	for _, d := range disks {
		for _, text := range [][]byte{nil, {}, []byte("a"), make([]byte, 1000)} {
			if e := Format(d, text); e != api.ErrArg {
				t.Errorf("Format: %v", e)
			}
			if e := Put(d, text); e != api.ErrArg {
				t.Errorf("Put: %v", e)
			}
		}
		if e := Recover(d); e != api.ErrArg {
			t.Errorf("Recover: %v", e)
		}
		if b, e := Get(d); len(b) != 0 || e != api.ErrArg {
			t.Errorf("Get: %x, %v", b, e)
		}
		if d == nil {
			continue
		}
		if d.Waiting() != 0 || !bytes.Equal(d.Image(), noise(d.Size())) {
			t.Errorf("a disk of %d sectors was written", d.Size())
		}
		d.Power(0)
		if e := Put(d, nil); e != api.ErrArg {
			t.Errorf("Put without power: %v", e)
		}
		if e := Recover(d); e != api.ErrArg {
			t.Errorf("Recover without power: %v", e)
		}
	}
}

// imageWith is a disk's bytes with that header, and some journal.
func imageWith(sectors int, header []byte) []byte {
	return append(slices.Clone(header), noise(sectors)[64:]...)
}

// journalSum is the checksum of the journal of imageWith.
func journalSum(sectors int) uint32 {
	return crc32.ChecksumIEEE(noise(sectors)[64 : 64+64*half(sectors)])
}

// P4.2: with mark 1 and the checksum of the journal's bytes, these go to the home area, whatever they are.
func TestRecoverDue(t *testing.T) {
	for _, sectors := range []int{4, 5, 6, 7, 10, 11} {
		sum := journalSum(sectors)
		image := imageWith(sectors, head(1, sum))
		n := 64 * half(sectors)
		journal := image[64 : 64+n]
		checkCalls(t, "Recover", image, Recover, slices.Concat(writes(1+half(sectors), journal), writes(0, head(0, sum))))
		d := diskOf(t, image)
		if e := Recover(d); e != api.OK {
			t.Errorf("%d sectors: %v", sectors, e)
		}
		want := slices.Concat(head(0, sum), journal, journal, image[64+2*n:])
		if !bytes.Equal(d.Image(), want) {
			t.Errorf("%d sectors: %x, not %x", sectors, d.Image(), want)
		}
		checkCalls(t, "Recover again", d.Image(), Recover, nil)
	}
}

// P4.2: with mark 1 and the checksum of a journal that has a text, the text is there.
func TestRecoverText(t *testing.T) {
	for _, text := range sampleTexts(8) {
		d := formatted(t, 8, "before")
		d.Power(5)
		if e := Put(d, text); e != api.ErrPower {
			t.Fatal(e)
		}
		d.Crash([]bool{true}, -1, 0)
		wantText(t, d, "before")
		if e := Recover(d); e != api.OK {
			t.Error(e)
		}
		wantText(t, d, string(text))
	}
}

// P4.2: with mark 0 nothing is done, whatever the checksum, the journal and the home area are; the power does not matter.
func TestRecoverIdle(t *testing.T) {
	for _, sectors := range []int{4, 5, 6, 11} {
		sum := journalSum(sectors)
		for _, s := range []uint32{0, 1, sum, ^sum, sum + 1, sum ^ 0x80000000, math.MaxUint32, 0x01020304, crc32.ChecksumIEEE(nil)} {
			image := imageWith(sectors, head(0, s))
			checkCalls(t, "Recover", image, Recover, nil)
		}
	}
}

// P4.2: every header that does not have the layout, or has mark 1 and another checksum, is replaced.
func TestRecoverOther(t *testing.T) {
	for _, sectors := range []int{4, 5, 6, 11} {
		for _, h := range wrongHeaders(journalSum(sectors)) {
			checkCalls(t, "Recover", imageWith(sectors, h), Recover, writes(0, head(0, 0)))
		}
	}
}

// wrongHeaders are headers in each of which something is wrong, on a disk whose journal has that checksum.
func wrongHeaders(sum uint32) [][]byte {
	l := [][]byte{make([]byte, 64), bytes.Repeat([]byte{0xFF}, 64), noise(1)}
	for _, s := range []uint32{0, ^sum, sum + 1, sum ^ 1, sum ^ 0x80000000, sum>>24 | sum>>8&0xFF00 | sum<<8&0xFF0000 | sum<<24} {
		l = append(l, head(1, s))
	}
	for _, s := range []uint32{0, sum} {
		for _, mark := range []uint32{2, 3, 0x100, 0x1000000, 0x10000, 0x80000000, 0x80000001, math.MaxInt32, math.MaxUint32} {
			l = append(l, head(mark, s))
		}
	}
	for mark := range uint32(2) {
		for _, first := range []uint32{0, 0x4D4F4E55, 0x4D4F4F54, 0x4D4E4E54, 0xCD4F4E54, 0x544E4F4D, math.MaxUint32} {
			l = append(l, headOf(first, mark, sum, make([]byte, 48)))
		}
		for i := range 48 {
			rest := make([]byte, 48)
			rest[i] = 1 << (i % 8)
			l = append(l, headOf(0x4D4F4E54, mark, sum, rest))
		}
		for i := range 64 {
			broken := head(mark, sum)
			broken[i] ^= 1 << (i % 8)
			l = append(l, broken)
		}
		unsealed := head(mark, sum)
		slices.Reverse(unsealed[60:])
		l = append(l, unsealed, append(unsealed[:60:60], 0, 0, 0, 0))
	}
	return l
}

// P4.2: the checksum is that of all bytes of the journal, of the last one too, and of no others.
func TestRecoverChecksAllOfTheJournal(t *testing.T) {
	for _, sectors := range []int{4, 6, 7} {
		good := imageWith(sectors, head(1, journalSum(sectors)))
		n := 64 * half(sectors)
		for i := 64; i < len(good); i++ {
			image := slices.Clone(good)
			image[i] ^= 0x10
			want := writes(0, head(0, 0))
			if i >= 64+n {
				want = slices.Concat(writes(1+half(sectors), image[64:64+n]), writes(0, head(0, journalSum(sectors))))
			}
			checkCalls(t, "Recover", image, Recover, want)
		}
	}
}

// P4.2: Recover sees pending writes as the disk's reads do.
func TestRecoverPending(t *testing.T) {
	image := imageWith(6, head(1, journalSum(6)))
	d := diskOf(t, make([]byte, len(image)))
	for i := range 6 {
		d.Write(i, image[64*i:64*i+64])
	}
	if e := Recover(d); e != api.OK {
		t.Error(e)
	}
	if !bytes.Equal(d.Image()[192:320], image[64:192]) || d.Waiting() != 0 {
		t.Errorf("%x, %d pending", d.Image(), d.Waiting())
	}
}

// P4.3: a number in the home area that exceeds the capacity, or is none.
func TestGetForm(t *testing.T) {
	for _, sectors := range []int{4, 5, 6, 7, 10} {
		room := uint32(64*half(sectors) - 12)
		home := 64 + 64*half(sectors)
		for _, n := range []uint32{room + 1, room + 2, room + 7, room + 8, room + 9, room + 12, room + 13, room + 64, 2 * room,
			65536, 0x01000000, math.MaxInt32, 0x80000000, 0x80000001, 0x80000000 + room, math.MaxUint32} {
			image := noise(sectors)
			binary.BigEndian.PutUint32(image[home:], n)
			d := diskOf(t, image)
			if b, e := Get(d); len(b) != 0 || e != api.ErrForm {
				t.Errorf("%d sectors, number %d: %x, %v", sectors, n, b, e)
			}
			if d.Waiting() != 0 || !bytes.Equal(d.Image(), image) {
				t.Error("Get wrote")
			}
		}
	}
}

// P4.3: every number up to the capacity gives so many bytes; those behind them may be any, and the header too.
func TestGetNumbers(t *testing.T) {
	for _, sectors := range []int{4, 5, 6, 7, 10} {
		home := 64 + 64*half(sectors)
		for n := range 64*half(sectors) - 12 + 1 {
			image := noise(sectors)
			binary.BigEndian.PutUint32(image[home:], uint32(n))
			d := diskOf(t, image)
			d.Power(0)
			if b, e := Get(d); e != api.OK || !bytes.Equal(b, image[home+4:home+4+n]) {
				t.Errorf("%d sectors, number %d: %x, %v", sectors, n, b, e)
			}
		}
	}
}

// P4.3: Get sees the home area alone: neither a header nor a journal that waits is looked at, pending writes are.
func TestGetSeesHome(t *testing.T) {
	d := formatted(t, 6, "home")
	d.Power(4)
	Put(d, []byte("journal"))
	wantText(t, d, "home")
	d.Power(-1)
	area := laid(6, []byte("pending"))
	d.Write(3, area[:64])
	wantText(t, d, "pending")
	d.Crash(nil, -1, 0)
	wantText(t, d, "home")
}

// P4.3: a disk of zeros has an empty text.
func TestGetOfZeros(t *testing.T) {
	d := diskOf(t, make([]byte, 64*4))
	if b, e := Get(d); len(b) != 0 || e != api.OK {
		t.Errorf("%x, %v", b, e)
	}
}

// crash is what a crash does with the pending writes.
type crash struct {
	keep         []bool
	torn, octets int
}

// crashes are all crashes of so many pending writes: each subset, with each write torn at some places.
func crashes(waiting int, octets ...int) []crash {
	var l []crash
	for bits := range 1 << waiting {
		keep := make([]bool, waiting)
		for k := range keep {
			keep[k] = bits>>k&1 == 1
		}
		l = append(l, crash{keep, -1, 0})
		for torn := range waiting {
			if keep[torn] {
				continue // the disk does not ask whether a torn write is kept
			}
			for _, n := range octets {
				l = append(l, crash{keep, torn, n})
			}
		}
	}
	return l
}

// settle recovers a disk for good, and checks that one of the texts is there.
func settle(t *testing.T, about string, d *disk.Disk, texts ...string) {
	t.Helper()
	if e := Recover(d); e != api.OK {
		t.Fatalf("%s: Recover: %v", about, e)
	}
	got, e := Get(d)
	if e != api.OK || !slices.Contains(texts, string(got)) {
		t.Fatalf("%s: Get: %q, %v, not one of %q", about, got, e, texts)
	}
	// The disk is as good as before: a Put works.
	if e := Put(d, []byte("next")); e != api.OK {
		t.Fatalf("%s: Put: %v", about, e)
	}
	wantText(t, d, "next")
}

// putAndCrash puts a text with so much power, crashes the disk, and tells which texts may be there.
func putAndCrash(t *testing.T, image []byte, power int, c crash, old, text string) (*disk.Disk, []string) {
	t.Helper()
	d := diskOf(t, image)
	d.Power(power)
	e := Put(d, []byte(text))
	if e != api.OK && e != api.ErrPower {
		t.Fatalf("Put: %v", e)
	}
	d.Crash(c.keep, c.torn, c.octets)
	if e == api.OK {
		return d, []string{text}
	}
	return d, []string{old, text}
}

// waitingAfter is how many writes are pending when the power fails in a function.
func waitingAfter(t *testing.T, image []byte, power int, f func(*disk.Disk) api.Errno) int {
	t.Helper()
	d := diskOf(t, image)
	d.Power(power)
	f(d)
	return d.Waiting()
}

// P4.4: the power fails at each call of a Put, and each crash follows; then it fails at each call of a Recover,
// and each crash follows; then a Recover returns OK.
func TestCrashes(t *testing.T) {
	cases := []struct {
		sectors int
		octets  []int
	}{{4, []int{0, 1, 4, 7, 8, 9, 11, 12, 13, 59, 60, 61, 63, 64}}, {6, []int{5, 8, 12, 62}}, {9, []int{8, 63}}}
	for _, c := range cases {
		old, text := "the previous text", "another text, put in place of it"
		d := formatted(t, c.sectors, "first")
		if e := Put(d, []byte(old)); e != api.OK {
			t.Fatal(e)
		}
		image := d.Image()
		put := func(d *disk.Disk) api.Errno { return Put(d, []byte(text)) }
		for power := range len(putCalls(c.sectors, nil)) + 1 {
			for _, k := range crashes(waitingAfter(t, image, power, put), c.octets...) {
				x, texts := putAndCrash(t, image, power, k, old, text)
				crashRecover(t, x.Image(), c.octets, texts)
				settle(t, "Put", x, texts...)
			}
		}
	}
}

// crashRecover lets the power fail at each call of a Recover, with each crash.
func crashRecover(t *testing.T, image []byte, octets []int, texts []string) {
	t.Helper()
	for power := range len(recoverCalls(image)) + 1 {
		for _, k := range crashes(waitingAfter(t, image, power, Recover), octets...) {
			d := diskOf(t, image)
			d.Power(power)
			Recover(d)
			d.Crash(k.keep, k.torn, k.octets)
			settle(t, "Recover", d, texts...)
		}
	}
}

// P4.4: after a Put that returned OK, no crash without a later call loses the text, recovered or not.
func TestCrashAfterPut(t *testing.T) {
	for _, text := range sampleTexts(6) {
		d := formatted(t, 6, "first")
		if e := Put(d, text); e != api.OK {
			t.Fatal(e)
		}
		for _, c := range []crash{{nil, -1, 0}, {[]bool{true, true}, 0, 3}, {[]bool{false}, 1, 64}} {
			d.Crash(c.keep, c.torn, c.octets)
			wantText(t, d, string(text))
			if e := Recover(d); e != api.OK {
				t.Error(e)
			}
			wantText(t, d, string(text))
		}
	}
}

// P4.4: many Puts one after the other, each with a failure, crashes and Recovers that fail too.
func TestCrashesAtRandom(t *testing.T) {
	r := rand.New(rand.NewSource(4))
	for range 300 {
		sectors := 4 + r.Intn(12)
		room := 64*half(sectors) - 12
		d := formatted(t, sectors, "first")
		texts := []string{"first"}
		for range 20 {
			now := randomText(r, room)
			d.Power(r.Intn(len(putCalls(sectors, nil)) + 2))
			if Put(d, []byte(now)) == api.OK {
				texts = texts[:0]
			}
			texts = append(texts, now)
			randomCrash(r, d)
			for range r.Intn(4) {
				d.Power(r.Intn(half(sectors) + 4))
				Recover(d)
				randomCrash(r, d)
			}
			if e := Recover(d); e != api.OK {
				t.Fatal(e)
			}
			got, e := Get(d)
			if e != api.OK || !slices.Contains(texts, string(got)) {
				t.Fatalf("Get: %q, %v, not one of %q", got, e, texts)
			}
			texts = []string{string(got)}
		}
	}
}

// randomText is a text of at most room bytes, often a short or a full one.
func randomText(r *rand.Rand, room int) string {
	n := r.Intn(room + 1)
	switch r.Intn(4) {
	case 0:
		n = room
	case 1:
		n = r.Intn(5)
	}
	b := make([]byte, n)
	r.Read(b)
	return string(b)
}

// randomCrash crashes a disk.
func randomCrash(r *rand.Rand, d *disk.Disk) {
	keep := make([]bool, r.Intn(d.Waiting()+2))
	for k := range keep {
		keep[k] = r.Intn(2) == 0
	}
	d.Crash(keep, r.Intn(d.Waiting()+2)-1, r.Intn(70)-3)
}

// P4.1, P4.2: the power failing in a Format leaves a disk that another Format, or a Recover, can use.
func TestCrashInFormat(t *testing.T) {
	format := func(d *disk.Disk) api.Errno { return Format(d, []byte("whole")) }
	for power := range len(formatCalls(6, nil)) + 1 {
		for _, k := range crashes(waitingAfter(t, noise(6), power, format), 1, 8, 40, 63) {
			d := diskOf(t, noise(6))
			d.Power(power)
			e := format(d)
			d.Crash(k.keep, k.torn, k.octets)
			if f := Recover(d); f != api.OK {
				t.Errorf("Recover: %v", f)
			}
			if e == api.OK {
				wantText(t, d, "whole")
			}
			if f := format(d); f != api.OK {
				t.Errorf("Format: %v", f)
			}
			wantText(t, d, "whole")
		}
	}
}

// P4.5: a text that is handed in is neither changed nor kept, nor is what lies behind it in its memory.
func TestTextIsLeftAlone(t *testing.T) {
	for _, f := range []func(*disk.Disk, []byte) api.Errno{Format, Put} {
		for _, n := range []int{0, 1, 4, 52, 116, 117} {
			memory := noise(10)
			before := slices.Clone(memory)
			d := formatted(t, 6, "before")
			e := f(d, memory[:n])
			if !bytes.Equal(memory, before) {
				t.Errorf("%d bytes: the memory was changed", n)
			}
			clear(memory)
			want := string(before[:n])
			if n == 117 {
				want = "before"
			}
			if (e == api.OK) != (n < 117) {
				t.Errorf("%d bytes: %v", n, e)
			}
			wantText(t, d, want)
			Recover(d)
			wantText(t, d, want)
		}
	}
}

// P4.5: what Get returns is new memory: changing it, or appending to it, changes neither the disk nor another result.
func TestGetIsNewMemory(t *testing.T) {
	d := formatted(t, 6, "some text")
	before := d.Image()
	a, _ := Get(d)
	b, _ := Get(d)
	a = append(a, "and more"...)
	for i := range a {
		a[i] = 'x'
	}
	if string(b) != "some text" || !bytes.Equal(d.Image(), before) {
		t.Errorf("%q, %x", b, d.Image())
	}
	wantText(t, d, "some text")
	if e := Put(d, []byte("another")); e != api.OK || string(b) != "some text" {
		t.Errorf("%q, %v", b, e)
	}
}

// P4.5: two disks have nothing in common.
func TestTwoDisks(t *testing.T) {
	a, b := formatted(t, 6, "a"), formatted(t, 6, "b")
	Put(a, []byte("new a"))
	wantText(t, b, "b")
	wantText(t, a, "new a")
}
