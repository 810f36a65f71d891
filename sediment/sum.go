package sediment

import "sediment/frame"

// Sum is the CRC-32C of bytes, as frames have it, by a table that is made once: for who looks at the files beside the store. (The calls of a store work their sums out without it: they lean on nothing but the store and its disk.)
func Sum(b []byte) uint32 { return frame.TableSum(b) }
