package journal

import (
	"bytes"
	"testing"

	"lictor/api"
)

// TestTooLong is P9.1 (J1): a record as long as a frame may be has one; of one that is longer ErrFull, and no frame, also
// of those beside it. No entry that may be is as long, so that it is asked of the bytes alone.
func TestTooLong(t *testing.T) {
	short, most, over := []byte{1}, make([]byte, 65535), make([]byte, 65536)
	if log, err := wrap([][]byte{short, most}); err != api.OK || len(log) != 7+65535+6 || !bytes.HasPrefix(log, []byte{1, 0, 1}) {
		t.Errorf("%d bytes, %d", len(log), err)
	}
	for _, records := range [][][]byte{{over}, {short, over}, {over, short}, {most, over, most}, {make([]byte, 1<<20)}} {
		if log, err := wrap(records); err != api.ErrFull || len(log) != 0 {
			t.Errorf("%d records: %d bytes, %d", len(records), len(log), err)
		}
	}
}
