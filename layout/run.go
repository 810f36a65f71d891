package layout

import (
	"slices"
	"strconv"
	"strings"

	"sediment/api"
	"sediment/fault"
	"sediment/frame"
)

// placeBytes: how many bytes tell a place in a run.
const placeBytes = 4

// RunName is that of a run, or of a base.
func RunName(number int) string { return "run-" + strconv.Itoa(number) }

// RunNames are those of runs, in their order.
func RunNames(numbers []int) []string {
	var l []string
	for _, n := range numbers {
		l = append(l, RunName(n))
	}
	return l
}

// MakeRun makes all that the file of a run holds, of entries whose keys rise.
func MakeRun(entries []api.Change) []byte {
	var blocks, places []byte
	count := uint64(0)
	for part := range slices.Chunk(entries, api.MaxBlock) {
		places = frame.AppendNumber(places, uint64(len(blocks)), placeBytes)
		places = appendText(places, part[0].Key)
		blocks = append(blocks, frame.Make(appendEntries(nil, part))...)
		count++
	}
	footer := frame.Make(append(frame.AppendNumber(nil, count, 2), places...))
	begin := uint64(len(blocks))
	return frame.AppendNumber(append(blocks, footer...), begin, placeBytes)
}

// place of a block in a run.
type place struct {
	begin, end int
	first      string // its first key
}

// Run: all that the file of a run holds, and where its blocks lie in it.
type Run struct {
	held   []byte
	places []place
}

// ReadRun reads the footer of a run. Blocks are read, and held against it, only when they are asked for.
func ReadRun(b []byte) (Run, error) {
	end := len(b) - placeBytes
	if end < 0 {
		return Run{}, fault.At("run", fault.ErrShort)
	}
	begin, err := frame.NewReader(b[end:]).Number(placeBytes)
	if err != nil {
		return Run{}, fault.At("run", err)
	}
	if begin > uint64(end) {
		return Run{}, fault.At("place of the footer", fault.ErrValue)
	}
	held, err := frame.TakeWhole(b[begin:end])
	if err != nil {
		return Run{}, fault.At("footer", err)
	}
	places, err := readPlaces(frame.NewReader(held), int(begin))
	if err != nil {
		return Run{}, fault.At("footer", err)
	}
	return Run{b, places}, nil
}

// readPlaces reads where the blocks lie: the first one at 0, each of them up to the next one, the last one up to the footer.
func readPlaces(r *frame.Reader, footer int) ([]place, error) {
	count, err := r.Number(2)
	if err != nil {
		return nil, fault.At("count of blocks", err)
	}
	if count == 0 {
		return nil, fault.At("count of blocks", fault.ErrValue)
	}
	var places []place
	for range count {
		p, err := readPlace(r, footer)
		if err != nil {
			return nil, fault.At("place of a block", err)
		}
		places = append(places, p)
	}
	if err := r.End(); err != nil {
		return nil, err
	}
	if err := join(places); err != nil {
		return nil, err
	}
	return places, nil
}

func readPlace(r *frame.Reader, footer int) (place, error) {
	begin, err := r.Number(placeBytes)
	if err != nil {
		return place{}, err
	}
	if begin > uint64(footer) {
		return place{}, fault.ErrValue
	}
	first, err := r.Text()
	if err != nil {
		return place{}, fault.At("first key", err)
	}
	return place{int(begin), footer, first}, nil
}

// join lets each block end where the next one begins.
func join(places []place) error {
	if places[0].begin != 0 {
		return fault.At("place of the first block", fault.ErrValue)
	}
	for i := range len(places) - 1 {
		next := places[i+1].begin
		if next < places[i].begin {
			return fault.At("place of a block", fault.ErrValue)
		}
		places[i].end = next
	}
	return nil
}

// Count of the blocks.
func (r Run) Count() int { return len(r.places) }

func comparePlace(p place, key string) int { return strings.Compare(p.first, key) }

// Seek the first block that may have an entry whose key is not below this one.
func (r Run) Seek(key string) int {
	at, found := slices.BinarySearchFunc(r.places, key, comparePlace)
	if !found && at > 0 {
		return at - 1
	}
	return at
}

// Block reads the entries of a block. A run all of whose blocks can be read is just as it must be.
func (r Run) Block(i int) ([]api.Change, error) {
	p := r.places[i]
	held, err := frame.TakeWhole(r.held[p.begin:p.end])
	if err != nil {
		return nil, fault.At("block", err)
	}
	entries, err := readEntries(frame.NewReader(held), api.MaxBlock)
	if err != nil {
		return nil, fault.At("block", err)
	}
	if !r.fits(i, entries) {
		return nil, fault.At("block", fault.ErrValue)
	}
	return entries, nil
}

// fits tells whether entries may be those of a block: as many as it must have, with its first key, rising up to the next block's.
func (r Run) fits(i int, entries []api.Change) bool {
	if entries[0].Key != r.places[i].first {
		return false
	}
	for k := 1; k < len(entries); k++ {
		if entries[k].Key <= entries[k-1].Key {
			return false
		}
	}
	if i == len(r.places)-1 {
		return true
	}
	return len(entries) == api.MaxBlock && entries[len(entries)-1].Key < r.places[i+1].first
}
