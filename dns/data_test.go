package dns

import (
	"bytes"
	"testing"

	"weft/api"
)

// one is a message with a question for "web.pods" at 12 and a record of the root behind it, whose data lies at 37.
func one(typ int, data ...byte) []byte {
	return join(head(1, 1, 0, 0), que(nam("web.pods")...), rec(nam("."), typ, data...))
}

// told is one with another length of the data than it has, and with bytes behind.
func told(typ, size int, data ...byte) []byte {
	b := one(typ, data...)
	copy(b[35:], two(size))
	return b
}

func TestP24_1Addresses(t *testing.T) {
	for size := range 12 {
		b := one(1, counted(size)...)
		if size != 4 {
			refuses(t, b, api.ErrDNS)
			continue
		}
		if m := mustParse(t, b); !bytes.Equal(m.Answers[0].Data, []byte{1, 2, 3, 4}) {
			t.Errorf("P24.1: an address is %x", m.Answers[0].Data)
		}
	}
	for _, class := range []int{0, 1, 3, 255, 65535} { // the class does not matter
		for _, size := range []int{3, 4, 5} {
			b := one(1, counted(size)...)
			copy(b[29:], two(class))
			if _, err := parsed(t, b); (err == api.OK) != (size == 4) {
				t.Errorf("P24.1: %d bytes of class %d: %d", size, class, err)
			}
		}
	}
	refuses(t, told(1, 4, 1, 2, 3), api.ErrDNS)
	refuses(t, told(1, 4, 1, 2, 3, 4, 5), api.ErrDNS)
}

func TestP24_1Targets(t *testing.T) {
	for _, typ := range []int{5, 12} {
		for _, x := range []struct {
			data []byte
			text string
		}{
			{nam("."), "."}, {nam("a"), "a"}, {nam("Web.Pods"), "Web.Pods"}, {nam(text(255)), text(255)},
			{ptr(12), "web.pods"}, {ptr(16), "pods"}, {ptr(21), "."}, {append(lab("x", "y"), ptr(16)...), "x.y.pods"},
		} {
			m := mustParse(t, one(typ, x.data...))
			if c := m.Answers[0]; string(c.Data) != x.text || c.Name != "." || int(c.Type) != typ {
				t.Errorf("P24.1: the data %x is %+v", x.data, c)
			}
			refuses(t, one(typ, append(x.data, 0)...), api.ErrDNS)         // it ends ahead of the data's end
			refuses(t, one(typ, append(x.data, x.data...)...), api.ErrDNS) // so does this one
			refuses(t, told(typ, len(x.data)+1, x.data...), api.ErrDNS)    // not all of the data is there
			refuses(t, told(typ, len(x.data)-1, x.data...), api.ErrDNS)    // it ends behind it
			refuses(t, told(typ, 0, x.data...), api.ErrDNS)                // nothing of it lies in the data
			refuses(t, told(typ, len(x.data), x.data[:len(x.data)-1]...), api.ErrDNS)
			for n := range len(x.data) { // what lies behind the data's end is no part of the name
				b := join(told(typ, n, x.data...), rec(nam("."), 16))
				b[11] = 1 // of the extra records
				refuses(t, b, api.ErrDNS)
			}
		}
		refuses(t, one(typ), api.ErrDNS)
		refuses(t, one(typ, 0x41), api.ErrDName)
		refuses(t, one(typ, 1, ' ', 0), api.ErrDName)
		refuses(t, one(typ, nam(text(256))...), api.ErrDName)
		refuses(t, one(typ, ptr(11)...), api.ErrPointer)
		refuses(t, one(typ, ptr(37)...), api.ErrPointer)
		refuses(t, one(typ, append(lab("x"), ptr(37)...)...), api.ErrPointer)
		refuses(t, one(typ, append(lab("x"), ptr(39)...)...), api.ErrPointer)
	}
}

// The whole name is read ahead of where it ends; and all of the data is there ahead of the name.
func TestP24_1TargetsFirstFault(t *testing.T) {
	for _, typ := range []int{5, 12} {
		refuses(t, one(typ, append(ptr(37), 0)...), api.ErrPointer)
		refuses(t, one(typ, append(lab("x", "y z"), 0, 0)...), api.ErrDName)
		refuses(t, one(typ, append(ptr(13), 0)...), api.ErrDName) // a run behind a pointer is read too
		refuses(t, told(typ, 3, 0x41, 0), api.ErrDNS)
		refuses(t, told(typ, 3, ptr(37)...), api.ErrDNS)
		refuses(t, told(typ, 1, 0x41, 0), api.ErrDName)
		refuses(t, told(typ, 1, ptr(37)...), api.ErrDNS)  // the pointer's second byte lies behind the data
		refuses(t, told(typ, 2, 2, ' ', 0), api.ErrDNS)   // so does a byte of the label, ahead of what is in it
		refuses(t, told(typ, 2, 1, ' ', 0), api.ErrDName) // the label's byte is there, the 0 is not
		refuses(t, told(typ, 2, 1, 'x', 0), api.ErrDNS)
		refuses(t, told(typ, 3, 1, 'x', 0xc0, 37), api.ErrDNS) // a pointer half behind it, to where it may not lead
		refuses(t, told(typ, 4, 1, 'x', 0xc0, 37), api.ErrPointer)
	}
}

// A run behind a pointer lies in the message as a whole, also where it lies in the same data or in that of another record.
func TestP24_1RunsBehindPointers(t *testing.T) {
	other := rec(nam("."), 16, 0, 3, 'a', 'b') // the data at 37: "ab" and the 0 of the record behind it
	b := join(head(1, 2, 0, 0), que(nam("web.pods")...), other, rec(nam("."), 5, ptr(38)...))
	refuses(t, b, api.ErrDName) // a label of 3, whose last byte is that 0
	other = rec(nam("."), 16, 0, 2, 'a', 'b')
	b = join(head(1, 2, 0, 0), que(nam("web.pods")...), other, rec(nam("."), 5, ptr(38)...))
	if m := mustParse(t, b); string(m.Answers[1].Data) != "ab" {
		t.Errorf("P24.1: a run that goes on behind another record's data: %q", m.Answers[1].Data)
	}
	// the name of a record ahead of its data leads into the record before it, and past that one's end
	b = join(head(1, 2, 0, 0), que(nam("web.pods")...), other, rec(ptr(39), 16))
	refuses(t, b, api.ErrDName) // 'a' is no length
	// a run that goes beyond the end of the data from which a pointer led to it
	b = join(head(0, 2, 0, 0), rec(nam("."), 16, 49, 'x'), rec(nam("."), 5, join(lab("yyyyyyyyyyyyyyyyyyyyyyyyyyyyyyyyyyy"), ptr(23))...))
	refuses(t, b, api.ErrDName) // a label of 49 over the fields between
}

// Other types may have any data, also such as would be no name and no address.
func TestP24_1OtherTypes(t *testing.T) {
	for _, typ := range []int{0, 2, 4, 6, 11, 13, 15, 16, 28, 41, 255, 256 + 1, 256 + 5, 256 + 12, 65535} {
		for _, data := range [][]byte{{}, {0}, {1, 2, 3}, {1, 2, 3, 4}, {0x41}, ptr(37), ptr(12), nam("a"), counted(300)} {
			m := mustParse(t, one(typ, data...))
			if c := m.Answers[0]; !bytes.Equal(c.Data, data) || int(c.Type) != typ {
				t.Errorf("P24.1: the data %x is %+v", data, c)
			}
			refuses(t, told(typ, len(data)+1, data...), api.ErrDNS)
			if len(data) > 0 {
				refuses(t, told(typ, len(data)-1, data...), api.ErrDNS)
			}
		}
	}
}
