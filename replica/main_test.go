package replica_test

import (
	"os"
	"runtime/debug"
	"testing"
)

// TestMain has garbage collected seldom: the tests here keep little, and throw much away.
func TestMain(m *testing.M) {
	debug.SetGCPercent(1600)
	os.Exit(m.Run())
}
