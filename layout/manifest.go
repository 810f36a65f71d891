package layout

import (
	"slices"
	"strconv"

	"sediment/api"
	"sediment/fault"
	"sediment/frame"
)

// ManifestName is that of the manifest; TemporaryName that of one that does not hold yet.
const (
	ManifestName  = "manifest"
	TemporaryName = "manifest.tmp"
)

// LogName is that of a log.
func LogName(number int) string { return "log-" + strconv.Itoa(number) }

// Manifest: which files the store is made of.
type Manifest struct {
	Next int   // the number that a file gets next
	Last int   // the last batch that lies in runs
	Log  int   // the log's number
	Base int   // the base's; 0: there is none
	Runs []int // the other runs', the newest first
}

// Frame is all that the file manifest holds.
func (m Manifest) Frame() []byte {
	var b []byte
	for _, v := range []int{m.Next, m.Last, m.Log, m.Base} {
		b = frame.AppendNumber(b, uint64(v), 8)
	}
	b = frame.AppendNumber(b, uint64(len(m.Runs)), 2)
	for _, v := range m.Runs {
		b = frame.AppendNumber(b, uint64(v), 8)
	}
	return frame.Make(b)
}

// ReadManifest reads all that the file manifest holds.
func ReadManifest(b []byte) (Manifest, error) {
	held, err := frame.TakeWhole(b)
	if err != nil {
		return Manifest{}, fault.At("manifest", err)
	}
	m, err := readFields(frame.NewReader(held))
	if err != nil {
		return Manifest{}, fault.At("manifest", err)
	}
	if err := m.check(); err != nil {
		return Manifest{}, fault.At("manifest", err)
	}
	return m, nil
}

func readFields(r *frame.Reader) (Manifest, error) {
	var m Manifest
	for _, field := range []*int{&m.Next, &m.Last, &m.Log, &m.Base} {
		v, err := readNumber(r)
		if err != nil {
			return Manifest{}, err
		}
		*field = v
	}
	count, err := r.Number(2)
	if err != nil {
		return Manifest{}, fault.At("count of runs", err)
	}
	for range count {
		v, err := readNumber(r)
		if err != nil {
			return Manifest{}, fault.At("run", err)
		}
		m.Runs = append(m.Runs, v)
	}
	if err := r.End(); err != nil {
		return Manifest{}, err
	}
	return m, nil
}

// readNumber refuses what no number of a manifest may be, ahead of making an int of it.
func readNumber(r *frame.Reader) (int, error) {
	v, err := r.Number(8)
	if err != nil {
		return 0, err
	}
	if v > api.MaxNumber {
		return 0, fault.ErrValue
	}
	return int(v), nil
}

func (m Manifest) check() error {
	if m.Last > api.MaxBatches {
		return fault.At("last batch", fault.ErrValue)
	}
	numbers := m.numbers()
	slices.Sort(numbers)
	for i, v := range numbers {
		if v < 1 || v >= m.Next {
			return fault.At("number of a file", fault.ErrValue)
		}
		if i > 0 && v == numbers[i-1] {
			return fault.At("number of two files", fault.ErrValue)
		}
	}
	return nil
}

// numbers of all files that are named.
func (m Manifest) numbers() []int {
	return append(m.Settled(), m.Log)
}

// Settled tells the numbers of the runs and, behind them, of the base: the newest first.
func (m Manifest) Settled() []int {
	l := slices.Clone(m.Runs)
	if m.Base != 0 {
		l = append(l, m.Base)
	}
	return l
}

// Files: the names of those that are named.
func (m Manifest) Files() []string {
	return append(RunNames(m.Settled()), LogName(m.Log))
}

// TakeNumber takes the next number, for a new file.
func (m *Manifest) TakeNumber() (int, error) {
	if m.Next >= api.MaxNumber {
		return 0, fault.At("next number", fault.ErrFull)
	}
	m.Next++
	return m.Next - 1, nil
}
