package frame

import "sync"

// polynomial of CRC-32C, 0x1EDC6F41, with its bits reflected.
const polynomial = 0x82f63b78

// fold the lowest byte of a sum into the rest of it.
func fold(c uint32) uint32 {
	for range 8 {
		if c&1 == 1 {
			c = c>>1 ^ polynomial
		} else {
			c >>= 1
		}
	}
	return c
}

// Sum is the CRC-32C of bytes. It leans on nothing that is kept: frames are made and taken by it.
func Sum(b []byte) uint32 {
	c := ^uint32(0)
	for _, x := range b {
		c = fold(c ^ uint32(x))
	}
	return ^c
}

// The table is too great to be written out, and is of no use to who never asks for it: so it is made once, when it is first asked for.
var (
	tableOnce sync.Once
	table     [256]uint32
)

func makeTable() {
	for i := range table {
		table[i] = fold(uint32(i))
	}
}

// TableSum is what Sum is, by the table: quicker, for many bytes.
func TableSum(b []byte) uint32 {
	tableOnce.Do(makeTable)
	c := ^uint32(0)
	for _, x := range b {
		c = table[byte(c)^x] ^ c>>8
	}
	return ^c
}
