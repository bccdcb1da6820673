package stream

import (
	"testing"

	"press/api"
)

const (
	fullFrame  = "\x02\x09\x86\x0f\xa0\x58\x37" // of 64 bytes a
	shortFrame = "\x46\x20bb"                   // of the byte b
)

// TestReadOn: how far it comes, from each stage on.
func TestReadOn(t *testing.T) {
	for _, c := range []struct {
		s      string
		from   Stage
		frames int
		stage  Stage
		used   int
		e      api.Errno
	}{
		{"", Begin, 0, Begin, 0, api.ErrShort},
		{"PZ", Begin, 0, Begin, 0, api.ErrShort},
		{"PZ1", Begin, 0, Middle, 3, api.ErrShort},
		{"PZ1" + fullFrame, Begin, 1, Middle, 10, api.ErrShort},
		{"PZ1" + fullFrame + fullFrame[:6], Begin, 1, Middle, 10, api.ErrShort},
		{"PZ1" + fullFrame + shortFrame, Begin, 2, Last, 14, api.ErrShort},
		{"PZ1" + shortFrame + "\x80", Begin, 1, Ended, 8, api.OK},
		{"PZ1" + shortFrame + "\x80x", Begin, 1, Ended, 8, api.ErrMore},
		{"", Middle, 0, Middle, 0, api.ErrShort},
		{fullFrame + fullFrame, Middle, 2, Middle, 14, api.ErrShort},
		{fullFrame + "\x46\x20bc", Middle, 1, Middle, 7, api.ErrSum},
		{shortFrame + shortFrame, Middle, 1, Last, 4, api.ErrFrame},
		{"\x80", Middle, 0, Ended, 1, api.OK},
		{"\x81", Middle, 0, Middle, 0, api.ErrPad},
		{"", Last, 0, Last, 0, api.ErrShort},
		{shortFrame, Last, 0, Last, 0, api.ErrFrame},
		{"\x80", Last, 0, Ended, 1, api.OK},
		{"\x80\x80", Last, 0, Ended, 1, api.ErrMore},
		{"", Ended, 0, Ended, 0, api.OK},
		{"\x80", Ended, 0, Ended, 0, api.ErrMore},
	} {
		got, e := ReadOn([]byte(c.s), c.from)
		if len(got.Frames) != c.frames || got.Stage != c.stage || got.Used != c.used || e != c.e {
			t.Errorf("ReadOn(%q, %d) = %d frames, %d, %d, %d, want %d, %d, %d, %d", c.s, c.from, len(got.Frames), got.Stage, got.Used, e, c.frames, c.stage, c.used, c.e)
		}
	}
}
