package journal

import "weft/api"

// areas is the two areas of a disk, A and B.
type areas [2][]byte

// write is bytes on their way down to an area, at least one.
type write struct {
	area, place int
	bytes       []byte
}

// take brings down the first bytes of a write, at least one. All that lay from its place on goes.
func (a *areas) take(w write, keep int) {
	a[w.area] = append(a[w.area][:w.place], w.bytes[:keep]...)
}

// own is the areas in memory of their own.
func (a areas) own() areas {
	return areas{copied(a[0]), copied(a[1])}
}

// disk hands the areas out.
func (a areas) disk() api.Disk {
	return api.Disk{A: a[0], B: a[1]}
}

// copied is the bytes in memory of their own.
func copied(b []byte) []byte {
	own := make([]byte, len(b))
	copy(own, b)
	return own
}
