package disk

import (
	"bytes"
	"math"
	"math/rand"
	"slices"
	"testing"

	"monticule/api"
)

// full is a sector of one byte.
func full(x byte) []byte { return bytes.Repeat([]byte{x}, api.Sector) }

// torn is a sector of which the first n bytes are new.
func torn(n int, fresh, old byte) []byte {
	return append(bytes.Repeat([]byte{fresh}, n), bytes.Repeat([]byte{old}, api.Sector-n)...)
}

// counting are bytes that differ from sector to sector and within each sector.
func counting(n int) []byte {
	b := make([]byte, n)
	for i := range b {
		b[i] = byte(i*7 + i/api.Sector*13)
	}
	return b
}

// newDisk is a disk of zero sectors.
func newDisk(t *testing.T, sectors int) *Disk {
	t.Helper()
	d, e := New(sectors)
	if e != api.OK || d == nil {
		t.Fatalf("New(%d): %v, %v", sectors, d, e)
	}
	return d
}

// mustWrite writes a sector of one byte.
func (d *Disk) mustWrite(t *testing.T, at int, x byte) {
	t.Helper()
	if e := d.Write(at, full(x)); e != api.OK {
		t.Fatalf("Write(%d): %v", at, e)
	}
}

// mustSync synchronizes.
func (d *Disk) mustSync(t *testing.T) {
	t.Helper()
	if e := d.Sync(); e != api.OK {
		t.Fatalf("Sync: %v", e)
	}
}

// expect checks the bytes of all sectors, by Image and by Read, and the number of pending writes.
func (d *Disk) expect(t *testing.T, waiting int, sectors ...[]byte) {
	t.Helper()
	if got, want := d.Image(), bytes.Join(sectors, nil); !bytes.Equal(got, want) {
		t.Errorf("Image: %x, not %x", got, want)
	}
	for at, want := range sectors {
		if got, e := d.Read(at); e != api.OK || !bytes.Equal(got, want) {
			t.Errorf("Read(%d): %x, %v, not %x", at, got, e, want)
		}
	}
	if got := d.Waiting(); got != waiting {
		t.Errorf("Waiting: %d, not %d", got, waiting)
	}
	if got := d.Size(); got != len(sectors) {
		t.Errorf("Size: %d, not %d", got, len(sectors))
	}
}

// P3.1: New makes disks of 1 to 65536 zero sectors, and Size tells how many.
func TestNewSizes(t *testing.T) {
	for _, n := range []int{1, 2, 3, 63, 64, 65, 1000, 65535, 65536} {
		d, e := New(n)
		if e != api.OK || d == nil {
			t.Fatalf("New(%d): %v", n, e)
		}
		if d.Size() != n {
			t.Errorf("New(%d): Size %d", n, d.Size())
		}
		if !bytes.Equal(d.Image(), make([]byte, n*64)) {
			t.Errorf("New(%d): not all bytes are zero, or not so many", n)
		}
		if got, e := d.Read(n - 1); e != api.OK || !bytes.Equal(got, make([]byte, 64)) {
			t.Errorf("New(%d): last sector %x, %v", n, got, e)
		}
		if d.Waiting() != 0 {
			t.Errorf("New(%d): Waiting %d", n, d.Waiting())
		}
	}
}

// P3.1: New refuses all other sizes.
func TestNewRefuses(t *testing.T) {
	for _, n := range []int{0, -1, -64, 65537, 65536 * 64, math.MaxInt, math.MinInt, math.MaxInt/64 + 2} {
		if d, e := New(n); d != nil || e != api.ErrArg {
			t.Errorf("New(%d): %v, %v", n, d != nil, e)
		}
	}
}

// P3.1: Of makes disks with exactly the given bytes.
func TestOfSizes(t *testing.T) {
	for _, n := range []int{1, 2, 5, 64, 65535, 65536} {
		b := counting(n * 64)
		d, e := Of(b)
		if e != api.OK || d == nil {
			t.Fatalf("Of %d sectors: %v", n, e)
		}
		if d.Size() != n || d.Waiting() != 0 {
			t.Errorf("Of %d sectors: Size %d, Waiting %d", n, d.Size(), d.Waiting())
		}
		if !bytes.Equal(d.Image(), b) {
			t.Errorf("Of %d sectors: other bytes", n)
		}
		for _, at := range []int{0, n / 2, n - 1} {
			if got, e := d.Read(at); e != api.OK || !bytes.Equal(got, b[at*64:at*64+64]) {
				t.Errorf("Of %d sectors: sector %d is %x, %v", n, at, got, e)
			}
		}
	}
}

// P3.1: Of refuses bytes that are no whole number of sectors from 1 to 65536.
func TestOfRefuses(t *testing.T) {
	for _, n := range []int{1, 32, 63, 65, 127, 129, 65536*64 - 1, 65536*64 + 1, 65537 * 64} {
		if d, e := Of(make([]byte, n)); d != nil || e != api.ErrArg {
			t.Errorf("Of %d bytes: %v, %v", n, d != nil, e)
		}
	}
	for _, b := range [][]byte{nil, {}, make([]byte, 0, 64)} {
		if d, e := Of(b); d != nil || e != api.ErrArg {
			t.Errorf("Of no bytes: %v, %v", d != nil, e)
		}
	}
}

// P3.1: Image includes pending writes, and Of makes an equal disk of it on which nothing is pending.
func TestImageOfPending(t *testing.T) {
	d := newDisk(t, 3)
	d.mustWrite(t, 2, 1)
	d.mustSync(t)
	d.mustWrite(t, 1, 2)
	d.mustWrite(t, 2, 3)
	d.expect(t, 2, full(0), full(2), full(3))
	same, e := Of(d.Image())
	if e != api.OK {
		t.Fatal(e)
	}
	same.expect(t, 0, full(0), full(2), full(3))
	same.Crash(nil, -1, 0)
	same.expect(t, 0, full(0), full(2), full(3))
	d.expect(t, 2, full(0), full(2), full(3))
}

// P3.1: the power of a disk is on without a limit, whether New or Of made it.
func TestPowerAtFirst(t *testing.T) {
	of, e := Of(full(9))
	if e != api.OK {
		t.Fatal(e)
	}
	for _, d := range []*Disk{newDisk(t, 1), of} {
		for k := range 1000 {
			if e := d.Write(0, full(byte(k))); e != api.OK {
				t.Fatalf("write %d: %v", k, e)
			}
			if e := d.Sync(); e != api.OK {
				t.Fatalf("sync %d: %v", k, e)
			}
		}
	}
}

// P3.2: reads see pending writes, the last one of each sector, and Waiting counts them until a Sync.
func TestWriteReadSync(t *testing.T) {
	d := newDisk(t, 3)
	d.expect(t, 0, full(0), full(0), full(0))
	d.mustWrite(t, 0, 1)
	d.expect(t, 1, full(1), full(0), full(0))
	d.mustWrite(t, 2, 2)
	d.expect(t, 2, full(1), full(0), full(2))
	d.mustWrite(t, 0, 3)
	d.expect(t, 3, full(3), full(0), full(2))
	d.mustSync(t)
	d.expect(t, 0, full(3), full(0), full(2))
	d.mustSync(t)
	d.expect(t, 0, full(3), full(0), full(2))
	d.mustWrite(t, 1, 0)
	d.expect(t, 1, full(3), full(0), full(2))
}

// P3.2: a write of the bytes that are there already is pending too.
func TestWriteOfTheSame(t *testing.T) {
	d := newDisk(t, 1)
	for k := range 5 {
		d.mustWrite(t, 0, 0)
		d.expect(t, k+1, full(0))
	}
}

// P3.2: all 64 bytes are written and read, at their places.
func TestWriteAllBytes(t *testing.T) {
	d := newDisk(t, 3)
	b := counting(64)
	if e := d.Write(1, b); e != api.OK {
		t.Fatal(e)
	}
	d.expect(t, 1, full(0), b, full(0))
	d.mustSync(t)
	d.expect(t, 0, full(0), b, full(0))
}

// P3.2: the last sector of the largest disk can be written and read.
func TestWriteLastSector(t *testing.T) {
	d := newDisk(t, api.MaxDisk)
	d.mustWrite(t, api.MaxDisk-1, 5)
	if got, e := d.Read(api.MaxDisk - 1); e != api.OK || !bytes.Equal(got, full(5)) {
		t.Errorf("%x, %v", got, e)
	}
	if got, e := d.Read(api.MaxDisk - 2); e != api.OK || !bytes.Equal(got, full(0)) {
		t.Errorf("%x, %v", got, e)
	}
}

// P3.2: a sector that is not there is neither read nor written.
func TestNoSuchSector(t *testing.T) {
	d := newDisk(t, 3)
	d.mustWrite(t, 2, 1)
	for _, at := range []int{3, 4, -1, -3, 65536, math.MaxInt, math.MinInt, math.MaxInt/64 + 1, math.MinInt / 64} {
		if b, e := d.Read(at); len(b) != 0 || e != api.ErrArg {
			t.Errorf("Read(%d): %x, %v", at, b, e)
		}
		if e := d.Write(at, full(2)); e != api.ErrArg {
			t.Errorf("Write(%d): %v", at, e)
		}
	}
	d.expect(t, 1, full(0), full(0), full(1))
}

// P3.2: a write that is not 64 bytes long is refused.
func TestWriteOfOtherLengths(t *testing.T) {
	d := newDisk(t, 3)
	for n := range 200 {
		if n == 64 {
			continue
		}
		if e := d.Write(1, make([]byte, n, 256)); e != api.ErrArg {
			t.Errorf("%d bytes: %v", n, e)
		}
	}
	if e := d.Write(1, nil); e != api.ErrArg {
		t.Errorf("nil: %v", e)
	}
	d.expect(t, 0, full(0), full(0), full(0))
}

// P3.2: with the power off, Write and Sync return ErrPower and have no effect; what is wrong with the arguments comes first.
func TestPowerOff(t *testing.T) {
	d := newDisk(t, 2)
	d.mustWrite(t, 0, 1)
	d.Power(0)
	for range 3 {
		if e := d.Write(1, full(2)); e != api.ErrPower {
			t.Errorf("Write: %v", e)
		}
		if e := d.Sync(); e != api.ErrPower {
			t.Errorf("Sync: %v", e)
		}
		if e := d.Write(2, full(2)); e != api.ErrArg {
			t.Errorf("Write behind the end: %v", e)
		}
		if e := d.Write(-1, full(2)); e != api.ErrArg {
			t.Errorf("Write at -1: %v", e)
		}
		if e := d.Write(1, full(2)[:63]); e != api.ErrArg {
			t.Errorf("Write of 63 bytes: %v", e)
		}
		d.expect(t, 1, full(1), full(0))
	}
	d.Power(-1)
	d.mustWrite(t, 1, 3)
	d.expect(t, 2, full(1), full(3))
}

// P3.2: a Sync without power leaves the writes pending.
func TestSyncWithoutPowerKeepsNothing(t *testing.T) {
	d := newDisk(t, 1)
	d.mustWrite(t, 0, 1)
	d.Power(0)
	d.Sync()
	d.Crash(nil, -1, 0)
	d.expect(t, 0, full(0))
}

// P3.3: exactly the given number of calls is done, and a call of Write counts as one of Sync does.
func TestPowerCounts(t *testing.T) {
	for calls := range 12 {
		d := newDisk(t, 1)
		d.Power(calls)
		for k := range 20 {
			var e api.Errno
			if k%3 == 2 {
				e = d.Sync()
			} else {
				e = d.Write(0, full(byte(k)))
			}
			if want := k >= calls; (e == api.ErrPower) != want || !want && e != api.OK {
				t.Errorf("Power(%d), call %d: %v", calls, k, e)
			}
		}
	}
}

// P3.3: a Sync counts even when nothing is pending.
func TestPowerCountsIdleSync(t *testing.T) {
	d := newDisk(t, 1)
	d.Power(2)
	d.mustSync(t)
	d.mustSync(t)
	if e := d.Sync(); e != api.ErrPower {
		t.Error(e)
	}
}

// P3.3: calls that return ErrArg do not count, nor do those that return ErrPower, nor other functions.
func TestPowerDoesNotCount(t *testing.T) {
	d := newDisk(t, 2)
	d.Power(2)
	idle := func() {
		d.Write(2, full(1))
		d.Write(-1, full(1))
		d.Write(0, nil)
		d.Write(0, full(1)[:63])
		d.Write(0, append(full(1), 1))
		d.Read(0)
		d.Read(2)
		d.Size()
		d.Image()
		d.Waiting()
	}
	idle()
	d.mustWrite(t, 0, 1)
	idle()
	d.mustSync(t)
	idle()
	for range 10 {
		if e := d.Sync(); e != api.ErrPower {
			t.Error(e)
		}
	}
	d.Power(1)
	d.mustWrite(t, 1, 2)
	if e := d.Write(1, full(3)); e != api.ErrPower {
		t.Error(e)
	}
	d.expect(t, 1, full(1), full(2))
}

// P3.3: the last Power decides, whatever was left before; a negative number is no limit.
func TestPowerAgain(t *testing.T) {
	d := newDisk(t, 1)
	d.Power(5)
	d.mustSync(t)
	d.Power(1)
	d.mustSync(t)
	if e := d.Sync(); e != api.ErrPower {
		t.Error(e)
	}
	for _, calls := range []int{-1, -2, -100, math.MinInt, math.MaxInt} {
		d.Power(0)
		if e := d.Sync(); e != api.ErrPower {
			t.Error(e)
		}
		d.Power(calls)
		for k := range 300 {
			if e := d.Write(0, full(1)); e != api.OK {
				t.Fatalf("Power(%d), call %d: %v", calls, k, e)
			}
		}
	}
}

// P3.3: Power and Crash belong to one disk only.
func TestPowerOfTwoDisks(t *testing.T) {
	a, b := newDisk(t, 1), newDisk(t, 1)
	a.Power(0)
	b.mustWrite(t, 0, 1)
	b.Power(0)
	a.Crash([]bool{true}, -1, 0)
	a.mustWrite(t, 0, 2)
	if e := b.Sync(); e != api.ErrPower {
		t.Error(e)
	}
	a.expect(t, 1, full(2))
	b.expect(t, 1, full(1))
}

// P3.3: the example of the chapter.
func TestCrashExample(t *testing.T) {
	d := newDisk(t, 1)
	d.mustWrite(t, 0, 'a')
	d.mustSync(t)
	d.mustWrite(t, 0, 'b')
	d.Crash(nil, -1, 0)
	d.expect(t, 0, full('a'))
}

// P3.3: keep decides each pending write; what it does not have is lost, what it has beyond them is ignored.
func TestCrashKeep(t *testing.T) {
	for _, x := range []struct {
		keep []bool
		want [3]byte
	}{
		{nil, [3]byte{1, 1, 1}},
		{[]bool{}, [3]byte{1, 1, 1}},
		{[]bool{true}, [3]byte{2, 1, 1}},
		{[]bool{false, true}, [3]byte{1, 3, 1}},
		{[]bool{true, true}, [3]byte{2, 3, 1}},
		{[]bool{false, false, true}, [3]byte{1, 1, 4}},
		{[]bool{true, false, true}, [3]byte{2, 1, 4}},
		{[]bool{true, true, true}, [3]byte{2, 3, 4}},
		{[]bool{true, false, true, true, true}, [3]byte{2, 1, 4}},
		{[]bool{false, false, false, true, true}, [3]byte{1, 1, 1}},
		{[]bool{true, true}[:1], [3]byte{2, 1, 1}},
	} {
		d := newDisk(t, 3)
		for at := range 3 {
			d.mustWrite(t, at, 1)
		}
		d.mustSync(t)
		for at := range 3 {
			d.mustWrite(t, at, byte(at+2))
		}
		d.Crash(x.keep, -1, 64)
		d.expect(t, 0, full(x.want[0]), full(x.want[1]), full(x.want[2]))
	}
}

// P3.3: the writes of one sector are decided in their order.
func TestCrashKeepOfOneSector(t *testing.T) {
	for _, x := range []struct {
		keep []bool
		want byte
	}{
		{nil, 1},
		{[]bool{true}, 2},
		{[]bool{false, true}, 3},
		{[]bool{true, true, false}, 3},
		{[]bool{true, false, false}, 2},
		{[]bool{true, false, true}, 4},
		{[]bool{true, true, true}, 4},
	} {
		d := newDisk(t, 1)
		d.mustWrite(t, 0, 1)
		d.mustSync(t)
		for k := range 3 {
			d.mustWrite(t, 0, byte(k+2))
		}
		d.Crash(x.keep, -1, 0)
		d.expect(t, 0, full(x.want))
	}
}

// P3.3: of the torn write only the first bytes are performed, at least 0 and at most 64, whether or not keep contains it.
func TestCrashTorn(t *testing.T) {
	for _, x := range []struct{ octets, performed int }{
		{0, 0}, {1, 1}, {10, 10}, {32, 32}, {63, 63}, {64, 64},
		{65, 64}, {1000, 64}, {math.MaxInt, 64}, {-1, 0}, {-64, 0}, {math.MinInt, 0},
	} {
		for _, keep := range [][]bool{nil, {true}, {false, false}, {false, true}, {true, false, true}, {true, true, true}} {
			d := newDisk(t, 3)
			for at := range 3 {
				d.mustWrite(t, at, 1)
			}
			d.mustSync(t)
			for at := range 3 {
				d.mustWrite(t, at, byte(at+2))
			}
			d.Crash(keep, 1, x.octets)
			want := [][]byte{full(1), torn(x.performed, 3, 1), full(1)}
			for _, at := range []int{0, 2} {
				if at < len(keep) && keep[at] {
					want[at] = full(byte(at + 2))
				}
			}
			d.expect(t, 0, want...)
		}
	}
}

// P3.3: the first and the last write can be torn.
func TestCrashTornAtTheEnds(t *testing.T) {
	for k := range 3 {
		d := newDisk(t, 3)
		for at := range 3 {
			d.mustWrite(t, at, 7)
		}
		d.Crash(nil, k, 5)
		want := [][]byte{full(0), full(0), full(0)}
		want[k] = torn(5, 7, 0)
		d.expect(t, 0, want...)
	}
}

// P3.3: torn numbers the writes, not the sectors; the rest of the sector is as the writes before left it.
func TestCrashTornWithinOneSector(t *testing.T) {
	prepare := func() *Disk {
		d := newDisk(t, 4)
		d.mustWrite(t, 3, 1)
		d.mustSync(t)
		for k := range 3 {
			d.mustWrite(t, 3, byte(k+2))
		}
		return d
	}
	for _, x := range []struct {
		keep []bool
		torn int
		want []byte
	}{
		{nil, 0, torn(10, 2, 1)},
		{nil, 1, torn(10, 3, 1)},
		{nil, 2, torn(10, 4, 1)},
		{[]bool{true, false, false}, 1, torn(10, 3, 2)},
		{[]bool{true, true, false}, 2, torn(10, 4, 3)},
		{[]bool{true, false, true}, 1, full(4)},
		{[]bool{true, false, false}, 2, torn(10, 4, 2)},
	} {
		d := prepare()
		d.Crash(x.keep, x.torn, 10)
		d.expect(t, 0, full(0), full(0), full(0), x.want)
	}
}

// P3.3: a torn number that no write has changes nothing.
func TestCrashTornNowhere(t *testing.T) {
	for _, k := range []int{-1, -2, 2, 3, 64, math.MaxInt, math.MinInt} {
		d := newDisk(t, 3)
		d.mustWrite(t, 0, 1)
		d.mustWrite(t, 1, 2)
		d.Crash([]bool{true, false, true}, k, 64)
		d.expect(t, 0, full(1), full(0), full(0))
	}
	d := newDisk(t, 1)
	d.Crash([]bool{true}, 0, 64)
	d.expect(t, 0, full(0))
}

// P3.3: after a crash nothing is pending, and the power is on without a limit.
func TestCrashPower(t *testing.T) {
	for _, calls := range []int{-1, 0, 1, 5} {
		d := newDisk(t, 1)
		d.mustWrite(t, 0, 1)
		d.Power(calls)
		d.Crash([]bool{true}, -1, 0)
		d.expect(t, 0, full(1))
		for k := range 50 {
			if e := d.Write(0, full(2)); e != api.OK {
				t.Fatalf("Power(%d), write %d: %v", calls, k, e)
			}
		}
		d.mustSync(t)
	}
}

// P3.3: what one crash decided, the next one does not touch again, and its numbers begin at 0 again.
func TestCrashTwice(t *testing.T) {
	d := newDisk(t, 2)
	d.mustWrite(t, 0, 1)
	d.mustWrite(t, 1, 2)
	d.Crash([]bool{true}, 1, 3)
	d.expect(t, 0, full(1), torn(3, 2, 0))
	d.Crash(nil, -1, 0)
	d.expect(t, 0, full(1), torn(3, 2, 0))
	d.mustWrite(t, 1, 5)
	d.mustWrite(t, 0, 6)
	d.Crash([]bool{true}, -1, 0)
	d.expect(t, 0, full(1), full(5))
}

// P3.4: synchronized data survive crashes of all kinds, except where later writes were performed or torn.
func TestSynchronizedSurvives(t *testing.T) {
	for _, keep := range [][]bool{nil, {false}, {true}, {true, true, true, true}} {
		for _, k := range []int{-1, 0, 1, 2} {
			for _, octets := range []int{-1, 0, 20, 64, 100} {
				d := newDisk(t, 4)
				for at := range 4 {
					d.mustWrite(t, at, byte(at+1))
				}
				d.mustSync(t)
				d.Crash(keep, k, octets)
				d.expect(t, 0, full(1), full(2), full(3), full(4))
				d.mustWrite(t, 1, 9)
				d.Crash(keep, k, octets)
				want := full(2)
				if k == 0 {
					want = torn(min(max(octets, 0), 64), 9, 2)
				} else if len(keep) > 0 && keep[0] {
					want = full(9)
				}
				d.expect(t, 0, full(1), want, full(3), full(4))
			}
		}
	}
}

// P3.4: the bytes that Of was given are as durable as synchronized ones.
func TestOfSurvives(t *testing.T) {
	b := counting(3 * 64)
	d, e := Of(b)
	if e != api.OK {
		t.Fatal(e)
	}
	for at := range 3 {
		d.mustWrite(t, at, 9)
	}
	d.Crash(nil, -1, 0)
	if !bytes.Equal(d.Image(), b) {
		t.Errorf("%x", d.Image())
	}
}

// P3.4: a result is new memory; changing it changes neither the disk nor another result.
func TestResultsAreNew(t *testing.T) {
	d := newDisk(t, 2)
	d.mustWrite(t, 0, 1)
	d.mustSync(t)
	d.mustWrite(t, 1, 2)
	first, _ := d.Read(0)
	second, _ := d.Read(0)
	pending, _ := d.Read(1)
	image := d.Image()
	other := d.Image()
	for _, b := range [][]byte{first, pending, image} {
		b = b[:cap(b)]
		for i := range b {
			b[i] = 77
		}
	}
	if !bytes.Equal(second, full(1)) || !bytes.Equal(other, append(full(1), full(2)...)) {
		t.Error("two results share memory")
	}
	d.expect(t, 1, full(1), full(2))
	_ = append(second, 99)
	d.expect(t, 1, full(1), full(2))
	d.Crash(nil, 0, 32)
	d.expect(t, 0, full(1), torn(32, 2, 0))
	if !bytes.Equal(pending, full(77)) {
		t.Error("a result changed with the disk")
	}
}

// P3.4: the bytes that were read do not change when the sector is written, synchronized, or lost in a crash.
func TestResultsStay(t *testing.T) {
	d := newDisk(t, 1)
	d.mustWrite(t, 0, 1)
	b, _ := d.Read(0)
	image := d.Image()
	d.mustWrite(t, 0, 2)
	d.mustSync(t)
	d.mustWrite(t, 0, 3)
	d.Crash(nil, -1, 0)
	if !bytes.Equal(b, full(1)) || !bytes.Equal(image, full(1)) {
		t.Errorf("%x, %x", b, image)
	}
}

// P3.4: Write and Of neither change nor keep the bytes that they are given, nor the spare capacity behind them.
func TestArgumentsAreNotKept(t *testing.T) {
	buffer := append(full(5), full(6)...)
	d, e := Of(buffer[:64])
	if e != api.OK {
		t.Fatal(e)
	}
	d.mustWrite(t, 0, 1)
	d.mustSync(t)
	if !bytes.Equal(buffer, append(full(5), full(6)...)) {
		t.Errorf("Of's argument changed: %x", buffer)
	}
	d, _ = Of(buffer[:64])
	copy(buffer, full(7))
	d.expect(t, 0, full(5))

	if e := d.Write(0, buffer[:64]); e != api.OK {
		t.Fatal(e)
	}
	if !bytes.Equal(buffer, append(full(7), full(6)...)) {
		t.Errorf("Write's argument changed: %x", buffer)
	}
	copy(buffer, full(8))
	d.expect(t, 1, full(7))
	d.Crash([]bool{true}, -1, 0)
	d.expect(t, 0, full(7))
	d.Write(0, buffer[:64])
	d.Crash(nil, 0, 10)
	d.expect(t, 0, torn(10, 8, 7))
	if !bytes.Equal(buffer, append(full(8), full(6)...)) {
		t.Errorf("Write's argument changed: %x", buffer)
	}
}

// P3.4: the bytes of a refused write are not changed either, and Crash does not change keep.
func TestRefusedArgumentsStay(t *testing.T) {
	d := newDisk(t, 1)
	b := append(full(5), 6)
	d.Write(0, b)
	d.Write(4, b[:64])
	d.Power(0)
	d.Write(0, b[:64])
	if !bytes.Equal(b, append(full(5), 6)) {
		t.Errorf("%x", b)
	}
	d.Power(-1)
	d.mustWrite(t, 0, 1)
	d.mustWrite(t, 0, 2)
	keep := []bool{true, false, true, false}
	d.Crash(keep[:2], 1, 5)
	if !slices.Equal(keep, []bool{true, false, true, false}) {
		t.Errorf("%v", keep)
	}
}

// model is a disk by the words of the chapter: durable bytes, and the pending writes in order.
type model struct {
	durable []byte
	writes  []modelWrite
	calls   int
}

type modelWrite struct {
	at    int
	bytes []byte
}

func (m *model) image() []byte {
	b := slices.Clone(m.durable)
	for _, w := range m.writes {
		copy(b[w.at*64:], w.bytes)
	}
	return b
}

func (m *model) power() bool {
	on := m.calls != 0
	if m.calls > 0 {
		m.calls--
	}
	return on
}

func (m *model) write(at int, b []byte) api.Errno {
	if at < 0 || at >= len(m.durable)/64 || len(b) != 64 {
		return api.ErrArg
	}
	if !m.power() {
		return api.ErrPower
	}
	m.writes = append(m.writes, modelWrite{at, slices.Clone(b)})
	return api.OK
}

func (m *model) sync() api.Errno {
	if !m.power() {
		return api.ErrPower
	}
	m.durable, m.writes = m.image(), nil
	return api.OK
}

func (m *model) crash(keep []bool, torn, octets int) {
	var performed []modelWrite
	for k, w := range m.writes {
		if k == torn {
			performed = append(performed, modelWrite{w.at, w.bytes[:max(0, min(64, octets))]})
		} else if k < len(keep) && keep[k] {
			performed = append(performed, w)
		}
	}
	m.writes = performed
	m.durable, m.writes, m.calls = m.image(), nil, -1
}

// step does the same random thing to the disk and to the model.
func step(t *testing.T, random *rand.Rand, d *Disk, m *model) {
	t.Helper()
	switch random.Intn(10) {
	case 0:
		if got, want := d.Sync(), m.sync(); got != want {
			t.Fatalf("Sync: %v, not %v", got, want)
		}
	case 1:
		calls := random.Intn(9) - 2
		d.Power(calls)
		m.calls = calls
	case 2:
		keep := make([]bool, random.Intn(8))
		for k := range keep {
			keep[k] = random.Intn(2) == 0
		}
		torn, octets := random.Intn(8)-1, random.Intn(80)-8
		d.Crash(keep, torn, octets)
		m.crash(keep, torn, octets)
	default:
		at, b := random.Intn(d.Size()+2)-1, make([]byte, 64+random.Intn(12)/10-random.Intn(12)/10)
		random.Read(b)
		if got, want := d.Write(at, b), m.write(at, b); got != want {
			t.Fatalf("Write(%d): %v, not %v", at, got, want)
		}
	}
}

// P3.1 to P3.4: the disk does what the chapter's words say, whatever is done to it in whatever order.
func TestAsDescribed(t *testing.T) {
	for seed := range 200 {
		random := rand.New(rand.NewSource(int64(seed)))
		d := newDisk(t, 1+random.Intn(4))
		m := &model{durable: make([]byte, d.Size()*64), calls: -1}
		for range 200 {
			step(t, random, d, m)
			want := m.image()
			if !bytes.Equal(d.Image(), want) || d.Waiting() != len(m.writes) {
				t.Fatalf("seed %d: %x, not %x; %d writes, not %d", seed, d.Image(), want, d.Waiting(), len(m.writes))
			}
			at := random.Intn(d.Size()+2) - 1
			b, e := d.Read(at)
			if at < 0 || at >= d.Size() {
				if len(b) != 0 || e != api.ErrArg {
					t.Fatalf("Read(%d): %x, %v", at, b, e)
				}
			} else if e != api.OK || !bytes.Equal(b, want[at*64:at*64+64]) {
				t.Fatalf("Read(%d): %x, %v", at, b, e)
			}
		}
	}
}
