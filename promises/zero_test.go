package promises

import (
	"testing"

	"kist/api"
	"kist/arch"
	"kist/check"
)

// TestAnArchiveThatNewDidNotMake answers every step, one after the other and again.
func TestAnArchiveThatNewDidNotMake(t *testing.T) {
	for kind := range 21 {
		var a arch.Arch
		for next := range 21 {
			for _, x := range []api.Step{{Kind: kind}, {Kind: next, Key: "a"}, {Kind: next}} {
				if got := a.Do(x); got.E != api.OK && (got.N != 0 || len(got.Data) != 0) {
					t.Errorf("%+v: %+v", x, got)
				}
			}
		}
		if check.Faults(&a) != 0 || !check.Whole(&a) || len(a.Keys()) != 0 || len(a.Held()) != 0 {
			t.Error(kind, "leaves something in an archive without a library")
		}
	}
}
