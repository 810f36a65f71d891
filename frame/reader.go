package frame

import "sediment/fault"

// Reader takes bytes apart, from the first one on.
type Reader struct {
	rest []byte
}

// NewReader of bytes, which are not changed.
func NewReader(b []byte) *Reader { return &Reader{b} }

func (r *Reader) take(n int) ([]byte, error) {
	if n > len(r.rest) {
		return nil, fault.ErrShort
	}
	b := r.rest[:n]
	r.rest = r.rest[n:]
	return b, nil
}

// Number of n bytes (8 at most), the highest byte first.
func (r *Reader) Number(n int) (uint64, error) {
	b, err := r.take(n)
	if err != nil {
		return 0, fault.At("number", err)
	}
	v := uint64(0)
	for _, x := range b {
		v = v<<8 | uint64(x)
	}
	return v, nil
}

// Text behind its length, which is one byte.
func (r *Reader) Text() (string, error) {
	n, err := r.Number(1)
	if err != nil {
		return "", fault.At("length of a text", err)
	}
	b, err := r.take(int(n))
	if err != nil {
		return "", fault.At("text", err)
	}
	return string(b), nil
}

// End is an error where something is left.
func (r *Reader) End() error {
	if len(r.rest) > 0 {
		return fault.ErrTail
	}
	return nil
}
