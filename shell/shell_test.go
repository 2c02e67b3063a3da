package shell_test

import (
	"math"
	"strings"
	"testing"

	"kist/api"
	"kist/shell"
)

func twelve() api.Config {
	return api.Config{Carts: 12, Recs: 100, Drives: 1, Quota: 9, Cache: 100, Age: 10}
}

func TestTell(t *testing.T) {
	for want, a := range map[string]api.Answer{
		"0 0 x":         {},
		"4 0 x":         {E: api.ErrExists},
		"0 1 x01":       {N: 1, Data: []byte{1}},
		"16 12 x00ff6a": {E: api.ErrOver, N: 12, Data: []byte{0, 255, 'j'}},
		"-1 -20 x":      {E: -1, N: -20, Data: []byte{}},
		"9223372036854775807 -9223372036854775808 x": {E: math.MaxInt, N: math.MinInt},
	} {
		if got := shell.Tell(a); got != want {
			t.Errorf("%+v: %q, want %q", a, got, want)
		}
	}
}

func runs(t *testing.T, c api.Config, script, want string) {
	t.Helper()
	for range 2 {
		if got, e := shell.Run(c, script); got != want || e != api.OK {
			t.Errorf("%q: %q, %d, want %q", script, got, e, want)
		}
	}
}

func fails(t *testing.T, c api.Config, script string, want api.Errno) {
	t.Helper()
	if got, e := shell.Run(c, script); got != "" || e != want {
		t.Errorf("%.40q: %q, %d, want error %d", script, got, e, want)
	}
}

func TestExamples(t *testing.T) {
	runs(t, twelve(), "put x61 x07\nput x61 x\nstatus x61", "0 0 x\n4 0 x\n0 1 x01\n")
	runs(t, api.Config{}, "put x61 x\n"+strings.Repeat("tick\n", 3)+"status x61\n", "0 0 x\n0 0 x\n0 0 x\n0 0 x\n0 0 x01\n")
	runs(t, twelve(), "", "")
}

// TestEveryKind runs a step of each kind.
func TestEveryKind(t *testing.T) {
	ticks, answers := strings.Repeat("tick\n", 30), strings.Repeat("0 0 x\n", 30)
	script := "put x61 x6869\n" + ticks + "status x61\nrecall x61\npoll 1\n" + ticks + "fetch 1\nfetch 1\nlist\n" +
		"put x62 x00112233445566\nput x63 x00112233\nrot 0 1\nlose 3\nlose 12\nbreak 0\nmend 0\nadd\ncare\nretire 0\nretire 0\n" +
		"recall x62\nfuse 0\ndelete x62\ntick\ncrash 0 -1\nopen\nopen\npoll 2\ndelete x62\nlist\nwipe\nlist\n"
	want := "0 0 x\n" + answers + "0 2 x02\n0 1 x\n13 0 x\n" + answers + "0 2 x6869\n5 0 x\n0 1 x0161\n" +
		"0 0 x\n6 0 x\n0 0 x\n0 0 x\n1 0 x\n0 0 x\n0 0 x\n0 12 x\n0 1 x\n0 0 x\n1 0 x\n" +
		"0 2 x\n0 0 x\n11 0 x\n11 0 x\n0 0 x\n0 0 x\n1 0 x\n14 0 x\n0 0 x\n0 1 x0161\n0 0 x\n0 1 x0161\n"
	runs(t, twelve(), script, want)
}

func TestErrors(t *testing.T) {
	wrong := twelve()
	wrong.Drives = 5
	most := strings.Repeat("list\n", 65536)
	fails(t, twelve(), "tick\nbad", api.ErrText)
	fails(t, twelve(), "\n", api.ErrText)
	fails(t, twelve(), most+"list", api.ErrOver)
	fails(t, wrong, "tick", api.ErrArg)
	fails(t, wrong, "", api.ErrArg)
	fails(t, wrong, "bad", api.ErrText) // the script's error comes first
	fails(t, wrong, most+"list", api.ErrOver)
	runs(t, twelve(), most, strings.Repeat("0 0 x\n", 65536))
}
