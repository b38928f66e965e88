package journal

import (
	"bytes"
	"encoding/binary"
	"encoding/hex"
	"hash/crc32"
	"math/rand"
	"slices"
	"strings"
	"testing"

	"weft/api"
)

const (
	maxRecord = 65536
	maxArea   = 1048576
)

// dice rolls the same way in every run.
func dice() *rand.Rand {
	return rand.New(rand.NewSource(12))
}

func unhex(s string) []byte {
	b, err := hex.DecodeString(strings.NewReplacer(" ", "", ",", "").Replace(s))
	if err != nil {
		panic(err)
	}
	return b
}

// texts is records of these texts.
func texts(list ...string) [][]byte {
	recs := make([][]byte, len(list))
	for i, s := range list {
		recs[i] = []byte(s)
	}
	return recs
}

// run is a record of n bytes that are not all the same.
func run(n int) []byte {
	b := make([]byte, n)
	for i := range b {
		b[i] = byte(i*7 + i>>8)
	}
	return b
}

// joined is parts side by side in new memory.
func joined(parts ...[]byte) []byte {
	return bytes.Join(parts, nil)
}

// words is numbers of four bytes, high byte first.
func words(list ...uint32) []byte {
	var b []byte
	for _, w := range list {
		b = binary.BigEndian.AppendUint32(b, w)
	}
	return b
}

// summed is bytes with their sum behind them.
func summed(b []byte) []byte {
	return joined(b, words(crc32.ChecksumIEEE(b)))
}

func head(gen, base uint32) []byte {
	return summed(joined([]byte("weft"), words(gen, base)))
}

// frame is a record's frame, by the chapter's words.
func frame(gen, number uint32, rec []byte) []byte {
	n, sum := uint32(len(rec)), crc32.ChecksumIEEE(rec)
	third := crc32.ChecksumIEEE(words(gen, number, n, sum))
	return joined(words(n, sum, third), rec)
}

// frames is frames with the numbers from 0 on.
func frames(gen uint32, recs ...[]byte) []byte {
	var b []byte
	for i, r := range recs {
		b = append(b, frame(gen, uint32(i), r)...)
	}
	return b
}

// area is an area of which the first so many records are the base.
func area(gen uint32, inBase int, recs ...[]byte) []byte {
	return joined(head(gen, uint32(len(frames(gen, recs[:inBase]...)))), frames(gen, recs...))
}

// other is bytes with one of them another one.
func other(b []byte, place int, by byte) []byte {
	own := bytes.Clone(b)
	own[place] ^= by
	return own
}

// reading is what the chapter's words tell of an area's bytes.
type reading struct {
	state string
	gen   uint32
	recs  [][]byte
	end   int
}

// told reads an area by the chapter's words, one after the other.
func told(b []byte) reading {
	if len(b) < 16 {
		return reading{state: "short"}
	}
	number := binary.BigEndian.Uint32
	base := number(b[8:12])
	switch {
	case len(b) > maxArea:
		return reading{state: "spoilt"}
	case !bytes.Equal(b[:4], []byte{0x77, 0x65, 0x66, 0x74}), number(b[12:16]) != crc32.ChecksumIEEE(b[:12]):
		return reading{state: "spoilt"}
	case base > maxArea-16:
		return reading{state: "spoilt"}
	case len(b) < 16+int(base):
		return reading{state: "torn"}
	}
	r := reading{state: "whole", gen: number(b[4:8]), end: 16}
	ends := []int{16}
	for rest := b[16:]; len(rest) >= 12; {
		n, sum, third := number(rest), number(rest[4:]), number(rest[8:])
		if third != crc32.ChecksumIEEE(words(r.gen, uint32(len(r.recs)), n, sum)) || n > maxRecord {
			return reading{state: "spoilt"}
		}
		if len(rest) < 12+int(n) {
			break
		}
		rec := bytes.Clone(rest[12 : 12+n])
		if crc32.ChecksumIEEE(rec) != sum {
			return reading{state: "spoilt"}
		}
		rest = rest[12+n:]
		r.recs = append(r.recs, rec)
		r.end += 12 + int(n)
		ends = append(ends, r.end)
	}
	if !slices.Contains(ends, 16+int(base)) {
		return reading{state: "spoilt"}
	}
	return r
}

// drop is one byte on its way down.
type drop struct {
	area, place int
	b           byte
}

// point is what the records were behind an Append or a Rewrite, and how many bytes were not synced then.
type point struct {
	dirty int
	recs  [][]byte
}

// model is the chapter's words over plain lists: each byte goes down for itself.
type model struct {
	down    [2][]byte
	drops   []drop
	current int
	gen     uint32
	recs    [][]byte
	points  []point
}

// opened is what P12.1 says of a disk.
func opened(d api.Disk) (*model, api.Errno) {
	a, b := told(d.A), told(d.B)
	if a.state == "spoilt" || b.state == "spoilt" {
		return nil, api.ErrDisk
	}
	m := &model{down: [2][]byte{bytes.Clone(d.A), bytes.Clone(d.B)}}
	switch {
	case a.state == "whole" && b.state == "whole":
		if ahead := (int64(a.gen) - int64(b.gen) + 1<<32) % (1 << 32); ahead >= 1<<31 {
			m.current = 1
		}
	case a.state == "whole":
	case b.state == "whole":
		m.current = 1
	case a.state == "torn", b.state == "torn":
		return nil, api.ErrDisk
	default:
		m.gen = 1
		m.put(0, head(1, 0))
		m.points = []point{{}}
		return m, api.OK
	}
	now := [2]reading{a, b}[m.current]
	m.gen, m.recs = now.gen, now.recs
	m.points = []point{{recs: m.recs}}
	return m, api.OK
}

// put lets bytes go down in the current area from a place on.
func (m *model) put(place int, b []byte) {
	for i, x := range b {
		m.drops = append(m.drops, drop{area: m.current, place: place + i, b: x})
	}
}

func (m *model) size() int { return 16 + len(frames(0, m.recs...)) }

func (m *model) dirty() int { return len(m.drops) }

func (m *model) add(rec []byte) api.Errno {
	if len(rec) > maxRecord {
		return api.ErrLong
	}
	if m.size()+12+len(rec) > maxArea {
		return api.ErrFull
	}
	m.put(m.size(), frame(m.gen, uint32(len(m.recs)), rec))
	m.recs = append(slices.Clone(m.recs), bytes.Clone(rec))
	m.points = append(m.points, point{dirty: m.dirty(), recs: m.recs})
	return api.OK
}

func (m *model) rewrite(recs ...[]byte) api.Errno {
	for _, r := range recs {
		if len(r) > maxRecord {
			return api.ErrLong
		}
	}
	if 16+len(frames(0, recs...)) > maxArea {
		return api.ErrFull
	}
	m.gen = uint32((int64(m.gen) + 1) % (1 << 32))
	m.current = 1 - m.current
	m.put(0, area(m.gen, len(recs), recs...))
	m.recs = nil
	for _, r := range recs {
		m.recs = append(m.recs, bytes.Clone(r))
	}
	m.points = append(m.points, point{dirty: m.dirty(), recs: m.recs})
	return api.OK
}

// crash is the disk when the first keep bytes got down.
func (m *model) crash(keep int) [2][]byte {
	d := [2][]byte{bytes.Clone(m.down[0]), bytes.Clone(m.down[1])}
	for i, w := range m.drops {
		if i >= keep {
			break
		}
		d[w.area] = append(d[w.area][:w.place], w.b)
	}
	return d
}

func (m *model) sync() {
	m.down = m.crash(m.dirty())
	m.drops = nil
	m.points = []point{{recs: m.recs}}
}

// recovered is what P12.9 says of a keep.
func (m *model) recovered(keep int) [][]byte {
	recs := m.points[0].recs
	for _, p := range m.points[1:] {
		if p.dirty <= keep {
			recs = p.recs
		}
	}
	return recs
}

// both is a journal and its model: each call is asked of both.
type both struct {
	t *testing.T
	l *Log
	m *model
}

// open opens a disk that can be opened, and looks at the records.
func open(t *testing.T, d api.Disk) both {
	t.Helper()
	m, want := opened(d)
	l, recs, err := Open(d)
	if err != want || err != api.OK || l == nil {
		t.Fatalf("P12.1: Open(%.60x | %.60x) = %d, want %d", d.A, d.B, err, want)
	}
	if !same(recs, m.recs) {
		t.Fatalf("P12.1: Open(%.60x | %.60x) = %.40x, want %.40x", d.A, d.B, recs, m.recs)
	}
	b := both{t, l, m}
	b.check()
	return b
}

// fresh is a journal on an empty disk.
func fresh(t *testing.T) both {
	t.Helper()
	return open(t, api.Disk{})
}

// refused is a disk that Open does not take.
func refused(t *testing.T, what string, d api.Disk) {
	t.Helper()
	if l, recs, err := Open(d); l != nil || len(recs) != 0 || err != api.ErrDisk {
		t.Errorf("P12.1: %s: Open = %v, %.40x, %d, want ErrDisk", what, l != nil, recs, err)
	}
}

func same(x, y [][]byte) bool {
	return slices.EqualFunc(x, y, bytes.Equal)
}

// add appends a record, and looks at the answer.
func (b both) add(recs ...[]byte) both {
	b.t.Helper()
	for _, r := range recs {
		b.tryAdd(r)
	}
	return b
}

func (b both) tryAdd(rec []byte) api.Errno {
	b.t.Helper()
	err := b.l.Append(rec)
	if want := b.m.add(rec); err != want {
		b.t.Fatalf("P12.3: Append of %d bytes = %d, want %d", len(rec), err, want)
	}
	b.stand()
	return err
}

// rewrite begins a generation, and looks at the answer.
func (b both) rewrite(recs ...[]byte) both {
	b.t.Helper()
	b.tryRewrite(recs...)
	return b
}

func (b both) tryRewrite(recs ...[]byte) api.Errno {
	b.t.Helper()
	err := b.l.Rewrite(recs...)
	if want := b.m.rewrite(recs...); err != want {
		b.t.Fatalf("P12.4: Rewrite of %d records = %d, want %d", len(recs), err, want)
	}
	b.stand()
	return err
}

func (b both) sync() both {
	b.t.Helper()
	b.l.Sync()
	b.m.sync()
	b.stand()
	return b
}

// stand holds Size and Dirty against the model's.
func (b both) stand() {
	b.t.Helper()
	if n := b.l.Size(); n != b.m.size() {
		b.t.Fatalf("P12.7: Size = %d, want %d", n, b.m.size())
	}
	if n := b.l.Dirty(); n != b.m.dirty() {
		b.t.Fatalf("P12.7: Dirty = %d, want %d", n, b.m.dirty())
	}
}

// is holds Size and Dirty against numbers.
func (b both) is(size, dirty int) {
	b.t.Helper()
	b.stand()
	if b.l.Size() != size || b.l.Dirty() != dirty {
		b.t.Fatalf("P12.7: Size, Dirty = %d, %d, want %d, %d", b.l.Size(), b.l.Dirty(), size, dirty)
	}
}

// lies holds what a crash leaves against bytes.
func (b both) lies(keep int, x, y []byte) {
	b.t.Helper()
	if d := b.l.Crash(keep); !bytes.Equal(d.A, x) || !bytes.Equal(d.B, y) {
		b.t.Fatalf("P12.6: Crash(%d) = %.60x | %.60x, want %.60x | %.60x", keep, d.A, d.B, x, y)
	}
}

// crash asks for the disk at a keep, and holds it against the model's; then it opens it, and looks whether the records are those that P12.9 says.
func (b both) crash(keep int) api.Disk {
	b.t.Helper()
	want := b.m.crash(keep)
	b.lies(keep, want[0], want[1])
	d := b.l.Crash(keep)
	_, recs, err := Open(d)
	if err != api.OK || !same(recs, b.m.recovered(keep)) {
		b.t.Fatalf("P12.9: Open(Crash(%d)) = %.40x, %d, want %.40x", keep, recs, err, b.m.recovered(keep))
	}
	return d
}

// check looks at all that a journal tells, at the edges of what is not synced.
func (b both) check() {
	b.t.Helper()
	b.stand()
	for _, keep := range []int{-1, 0, 1, b.m.dirty() - 1, b.m.dirty(), b.m.dirty() + 1} {
		b.crash(keep)
	}
	b.stand()
}

// every looks at a journal at every keep.
func (b both) every() {
	b.t.Helper()
	for keep := -1; keep <= b.m.dirty()+1; keep++ {
		b.crash(keep)
	}
	b.stand()
}

// again opens what lies on the disk at a keep.
func (b both) again(keep int) both {
	b.t.Helper()
	return open(b.t, b.crash(keep))
}
