package addr

import "weft/api"

// classRow is a range of addresses that are no plain ones.
type classRow struct {
	base   api.Addr
	length int
	class  int
}

var classRows = [4]classRow{
	{base: 0x00000000, length: 8, class: 1}, // 0.0.0.0/8
	{base: 0x7f000000, length: 8, class: 2}, // 127.0.0.0/8
	{base: 0xe0000000, length: 4, class: 3}, // 224.0.0.0/4
	{base: 0xf0000000, length: 4, class: 4}, // 240.0.0.0/4
}

// Class tells what an address is for.
func Class(a api.Addr) int {
	for _, row := range classRows {
		if Contains(api.Prefix{Addr: row.base, Len: row.length}, a) {
			return row.class
		}
	}
	return 0
}
