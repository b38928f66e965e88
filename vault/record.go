package vault

import "weft/api"

// imageKind is the first byte of an Image's record. Those of the commands' records are the commands' kinds.
const imageKind = 5

// How many bytes the numbers of a record have.
const (
	longLen  = 8
	addrLen  = 4
	countLen = 2
)

// commandRecord is the record of a command that was carried out; got is the subnet of the answer.
func commandRecord(cmd api.Cmd, got api.Prefix) []byte {
	rec := []byte{byte(cmd.Kind)}
	switch cmd.Kind {
	case api.Acquire:
		return putOwner(rec, cmd.Host, got, cmd.Pub, cmd.MAC)
	case api.Renew:
		return putPlace(rec, cmd.Host, cmd.Subnet)
	case api.Release:
		return append(rec, byte(cmd.Host))
	}
	return putNumber(rec, longLen, uint64(cmd.N))
}

// imageRecord is the record of an Image.
func imageRecord(img api.Image) []byte {
	rec := []byte{imageKind}
	rec = putNumber(rec, longLen, uint64(img.Rev))
	rec = putNumber(rec, longLen, uint64(img.Now))
	rec = putNumber(rec, countLen, uint64(len(img.Leases)))
	for _, l := range img.Leases {
		rec = putLease(rec, l)
	}
	rec = putNumber(rec, countLen, uint64(len(img.Events)))
	for _, e := range img.Events {
		rec = putNumber(rec, longLen, uint64(e.Rev))
		rec = append(rec, byte(e.Kind))
		rec = putLease(rec, e.Lease)
	}
	return rec
}

func putLease(to []byte, l api.Lease) []byte {
	to = putOwner(to, l.Host, l.Subnet, l.Pub, l.MAC)
	to = putNumber(to, longLen, uint64(l.Until))
	return putNumber(to, longLen, uint64(l.Rev))
}

func putOwner(to []byte, host int, subnet api.Prefix, pub api.Addr, mac api.MAC) []byte {
	to = putPlace(to, host, subnet)
	to = putNumber(to, addrLen, uint64(pub))
	return append(to, mac[:]...)
}

func putPlace(to []byte, host int, subnet api.Prefix) []byte {
	to = append(to, byte(host))
	to = putNumber(to, addrLen, uint64(subnet.Addr))
	return append(to, byte(subnet.Len))
}

// putNumber lays down a number's last bytes, the highest first.
func putNumber(to []byte, bytes int, n uint64) []byte {
	for i := bytes - 1; i >= 0; i-- {
		to = append(to, byte(n>>(8*i)))
	}
	return to
}
