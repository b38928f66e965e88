package tables

import (
	"weft/api"
)

// table is one of a kernel's three, as an op sees it. Of the op it reads its own part alone.
type table interface {
	// put lays an entry in, in the place of the one that has its key.
	put(op api.Op) api.Errno
	// delete takes the entry with that key out, if there is one.
	delete(op api.Op) api.Errno
	count() int
}

// admit refuses what a full table has no room for: an entry that takes the place of another needs none.
func admit(t table, room int, replaces bool) api.Errno {
	if !replaces && t.count() >= room {
		return api.ErrFull
	}
	return api.OK
}
