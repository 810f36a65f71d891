// Package frame: bytes that stand in a file with their length and their sum; and the numbers and texts in them.
package frame

import "sediment/fault"

const (
	lengthBytes = 4
	sumBytes    = 4
)

// AppendNumber puts a number of so many bytes behind b, the highest byte first.
func AppendNumber(b []byte, v uint64, n int) []byte {
	for i := n - 1; i >= 0; i-- {
		b = append(b, byte(v>>(8*i)))
	}
	return b
}

// Make the frame that holds these bytes.
func Make(held []byte) []byte {
	b := AppendNumber(nil, uint64(len(held)), lengthBytes)
	b = AppendNumber(b, uint64(Sum(held)), sumBytes)
	return append(b, held...)
}

// Take the first frame: what it holds, and what stands behind it.
func Take(b []byte) (held, rest []byte, err error) {
	r := NewReader(b)
	length, err := r.Number(lengthBytes)
	if err != nil {
		return nil, nil, fault.At("length of a frame", err)
	}
	sum, err := r.Number(sumBytes)
	if err != nil {
		return nil, nil, fault.At("sum of a frame", err)
	}
	// Held against each other as wide numbers: a length from a torn file may be more than an int holds.
	if length > uint64(len(r.rest)) {
		return nil, nil, fault.At("frame", fault.ErrShort)
	}
	held, rest = r.rest[:length], r.rest[length:]
	if uint64(Sum(held)) != sum {
		return nil, nil, fault.At("frame", fault.ErrSum)
	}
	return held, rest, nil
}

// TakeWhole takes the frame that all of b must be.
func TakeWhole(b []byte) ([]byte, error) {
	held, rest, err := Take(b)
	if err != nil {
		return nil, err
	}
	if len(rest) > 0 {
		return nil, fault.At("frame", fault.ErrTail)
	}
	return held, nil
}
