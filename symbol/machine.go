package symbol

import "cassegrain/api"

// machine is the machine of frame synchronization. Until the search begins again, the last one of its marks has the position and the inversion that it remembers.
type machine struct {
	receiver
	marks  []api.SymbolMark
	from   int // where the search begins
	count  int // 0 in Search, below Verify in Check, Verify in Lock
	misses int
}

// run returns all marks of a receiver's machine.
func run(r receiver) []api.SymbolMark {
	m := machine{receiver: r}
	for m.step() {
	}
	return m.marks
}

// step makes the next mark. It returns false at the end.
func (m *machine) step() bool {
	if m.count == 0 {
		return m.search()
	}
	last := m.marks[len(m.marks)-1]
	at := last.At + m.Length
	if !m.exists(at + m.Slip) {
		return false
	}
	if mark, ok := m.expected(at, last.Inverted); ok {
		m.take(mark)
	} else {
		m.miss(last, at)
	}
	return true
}

// search makes the mark of the first marker that is found, which begins a new check or lock without misses.
func (m *machine) search() bool {
	for mark := range m.foundFrom(m.from) {
		m.marks = append(m.marks, mark)
		m.count, m.misses = 1, 0
		return true
	}
	return false
}

// take makes the mark of a marker that was found where it was expected.
func (m *machine) take(mark api.SymbolMark) {
	if m.count < m.Verify {
		mark.Kind = api.SymbolChecked
		m.count++
	}
	m.misses = 0
	m.marks = append(m.marks, mark)
}

// miss makes the mark of a marker that was not found where it was expected after the last one.
func (m *machine) miss(last api.SymbolMark, at int) {
	kind := api.SymbolLost
	switch {
	case m.count < m.Verify:
		m.count, m.from = 0, last.At+1
	case m.misses == m.Fly:
		m.count, m.from = 0, at
	default:
		kind = api.SymbolMissed
		m.misses++
	}
	mark, _ := m.markAt(kind, at, last.Inverted)
	m.marks = append(m.marks, mark)
}

// endsFrame says whether a mark of this kind is the end of a frame that begins with the mark before.
func endsFrame(kind int) bool {
	return kind == api.SymbolChecked || kind == api.SymbolLocked || kind == api.SymbolMissed
}

// frameBetween returns the frame between two successive marks.
func (r receiver) frameBetween(first, second api.SymbolMark) api.SymbolFrame {
	frame := api.SymbolFrame{At: first.At, Inverted: first.Inverted, Moved: second.Moved}
	for _, soft := range r.soft[first.At+len(r.Marker) : second.At] {
		if first.Inverted {
			soft = -soft
		}
		frame.Soft = append(frame.Soft, soft)
	}
	return frame
}

// Marks returns all marks of the machine, in their order.
func Marks(r api.SymbolRules, soft []int) ([]api.SymbolMark, api.Errno) {
	x, e := newReceiver(r, soft)
	if e != api.OK {
		return nil, e
	}
	return run(x), api.OK
}

// Frames returns all frames.
func Frames(r api.SymbolRules, soft []int) ([]api.SymbolFrame, api.Errno) {
	x, e := newReceiver(r, soft)
	if e != api.OK {
		return nil, e
	}
	var frames []api.SymbolFrame
	marks := run(x)
	for i, mark := range marks {
		if endsFrame(mark.Kind) {
			frames = append(frames, x.frameBetween(marks[i-1], mark))
		}
	}
	return frames, api.OK
}
