package frame

import "sync"

// polynomial of CRC-32C, 0x1EDC6F41, with its bits reflected.
const polynomial = 0x82f63b78

// The table is too great to be written out, and is of no use to who never reads a frame: so it is made once, when it is first asked for.
var (
	tableOnce sync.Once
	table     [256]uint32
)

func makeTable() {
	for i := range table {
		c := uint32(i)
		for range 8 {
			if c&1 == 1 {
				c = c>>1 ^ polynomial
			} else {
				c >>= 1
			}
		}
		table[i] = c
	}
}

// Sum is the CRC-32C of bytes.
func Sum(b []byte) uint32 {
	tableOnce.Do(makeTable)
	c := ^uint32(0)
	for _, x := range b {
		c = table[byte(c)^x] ^ c>>8
	}
	return ^c
}
