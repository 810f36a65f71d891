package layout

import (
	"sediment/api"
	"sediment/fault"
	"sediment/frame"
)

// AllowedBatch tells whether a batch may be written.
func AllowedBatch(batch []api.Change) bool {
	if len(batch) < 1 || len(batch) > api.MaxBatch {
		return false
	}
	for _, c := range batch {
		if !allowed(c) {
			return false
		}
	}
	return true
}

// Batch is the frame of an allowed batch.
func Batch(number int, batch []api.Change) []byte {
	return frame.Make(appendEntries(frame.AppendNumber(nil, uint64(number), 8), batch))
}

// TakeBatch takes the first frame of a log, which must be that of the batch of this number; and tells what stands behind it.
func TakeBatch(log []byte, number int) (batch []api.Change, rest []byte, err error) {
	held, rest, err := frame.Take(log)
	if err != nil {
		return nil, nil, fault.At("batch", err)
	}
	batch, err = readBatch(frame.NewReader(held), number)
	if err != nil {
		return nil, nil, fault.At("batch", err)
	}
	return batch, rest, nil
}

func readBatch(r *frame.Reader, number int) ([]api.Change, error) {
	found, err := r.Number(8)
	if err != nil {
		return nil, err
	}
	if found != uint64(number) {
		return nil, fault.At("number of the batch", fault.ErrValue)
	}
	return readEntries(r, api.MaxBatch)
}
