package journal

// nibbles is what the sum's register becomes when half a byte leaves it, by that half.
var nibbles = [16]uint32{
	0x00000000, 0x1db71064, 0x3b6e20c8, 0x26d930ac,
	0x76dc4190, 0x6b6b51f4, 0x4db26158, 0x5005713c,
	0xedb88320, 0xf00f9344, 0xd6d6a3e8, 0xcb61b38c,
	0x9b64c2b0, 0x86d3d2d4, 0xa00ae278, 0xbdbdf21c,
}

// sumOf is the CRC-32 of bytes. The low half of a byte goes first: the lowest bit is the first on the wire.
func sumOf(b []byte) uint32 {
	sum := ^uint32(0)
	for _, x := range b {
		sum ^= uint32(x)
		sum = nibbles[sum&15] ^ sum>>4
		sum = nibbles[sum&15] ^ sum>>4
	}
	return ^sum
}
