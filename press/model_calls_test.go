package press_test

import (
	"strings"

	"press/api"
	"press/press"
)

// modelEncoder writes the stream of all data anew at each call, but for the frames of its full pieces, which do not change.
type modelEncoder struct {
	data   string
	frames []string // of its full pieces
	told   int      // how many bytes of the stream came out
	closed bool
}

// modelFrame gives the frame of a piece with the tokens that Parse tells.
func modelFrame(piece string) string {
	ts, _ := press.Parse([]byte(piece))
	s := string(modelStream([][]api.Token{ts}))
	return s[3 : len(s)-1]
}

// streamNow gives the stream of the data, and how long it is up to where the frames of all full pieces end.
func (m *modelEncoder) streamNow() (string, int) {
	full := len(m.data) / 64
	for k := len(m.frames); k < full; k++ {
		m.frames = append(m.frames, modelFrame(m.data[64*k:64*k+64]))
	}
	s := "PZ1" + strings.Join(m.frames, "")
	certain := len(s)
	if rest := m.data[64*full:]; rest != "" {
		s += modelFrame(rest)
	}
	return s + "\x80", certain
}

func (m *modelEncoder) write(p string) (string, api.Errno) {
	if m.closed {
		return "", api.ErrClosed
	}
	if len(m.data)+len(p) > 2048 {
		return "", api.ErrLong
	}
	m.data += p
	s, certain := m.streamNow()
	from := m.told
	m.told = certain
	return s[from:certain], api.OK
}

func (m *modelEncoder) close() (string, api.Errno) {
	if m.closed {
		return "", api.ErrClosed
	}
	m.closed = true
	s, _ := m.streamNow()
	return s[m.told:], api.OK
}

// modelDecoder keeps all bytes, and reads them anew at each call.
type modelDecoder struct {
	all    string
	told   int // how many bytes of the data came out
	failed api.Errno
	closed bool
}

func (m *modelDecoder) feed(p string) (string, api.Errno) {
	if m.closed {
		return "", api.ErrClosed
	}
	if m.failed != api.OK {
		return "", m.failed
	}
	m.all += p
	_, data, e := modelReadFar([]byte(m.all))
	if e == api.ErrLong {
		m.failed = e
		return "", e
	}
	from := m.told
	m.told = len(data)
	if e != api.ErrShort {
		m.failed = e
	}
	return data[from:], m.failed
}

func (m *modelDecoder) end() api.Errno {
	if m.closed {
		return api.ErrClosed
	}
	m.closed = true
	if m.failed != api.OK {
		return m.failed
	}
	_, _, e := modelRead([]byte(m.all))
	return e
}

// cuts gives parts that are s together: of n bytes each, but for the last.
func cuts(s string, n int) []string {
	var parts []string
	for ; len(s) > n; s = s[n:] {
		parts = append(parts, s[:n])
	}
	return append(parts, s)
}

// parts gives parts that are s together, of up to n bytes each, some of none.
func (d *dice) parts(s string, n int) []string {
	var parts []string
	for s != "" {
		k := min(len(s), d.below(n+1))
		parts = append(parts, s[:k])
		s = s[k:]
	}
	if d.below(2) == 0 {
		parts = append(parts, "")
	}
	return parts
}
