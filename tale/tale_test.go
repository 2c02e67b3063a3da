package tale_test

import (
	"math"
	"math/rand"
	"reflect"
	"strings"
	"testing"

	"kist/api"
	"kist/tale"
)

// lines has a step of each kind, and more, with their lines.
func lines() map[string]api.Step {
	return map[string]api.Step{
		"put x6162 x07":                       {Kind: 1, Key: "ab", Data: []byte{7}},
		"put x61 x":                           {Kind: 1, Key: "a"},
		"put x x":                             {Kind: 1},
		"put x x00ff":                         {Kind: 1, Data: []byte{0, 255}},
		"recall x61":                          {Kind: 2, Key: "a"},
		"recall x":                            {Kind: 2},
		"poll 1":                              {Kind: 3, A: 1},
		"poll 0":                              {Kind: 3},
		"poll -1":                             {Kind: 3, A: -1},
		"fetch 12":                            {Kind: 4, A: 12},
		"delete x6a6b":                        {Kind: 5, Key: "jk"},
		"tick":                                {Kind: 6},
		"care":                                {Kind: 7},
		"retire 31":                           {Kind: 8, A: 31},
		"list":                                {Kind: 9},
		"status x0a20":                        {Kind: 10, Key: "\n "},
		"rot 3 -4":                            {Kind: 11, A: 3, B: -4},
		"lose 5":                              {Kind: 12, A: 5},
		"break 6":                             {Kind: 13, A: 6},
		"mend 7":                              {Kind: 14, A: 7},
		"add":                                 {Kind: 15},
		"fuse 100":                            {Kind: 16, A: 100},
		"fuse 9223372036854775807":            {Kind: 16, A: math.MaxInt},
		"fuse -9223372036854775808":           {Kind: 16, A: math.MinInt},
		"crash 3 -1":                          {Kind: 17, A: 3, B: -1},
		"crash 0 0":                           {Kind: 17},
		"crash 0 10":                          {Kind: 17, B: 10},
		"open":                                {Kind: 18},
		"wipe":                                {Kind: 19},
		"recall x" + strings.Repeat("00", 99): {Kind: 2, Key: strings.Repeat("\x00", 99)},
	}
}

func TestLines(t *testing.T) {
	for line, x := range lines() {
		if got, e := tale.Line(x); got != line || e != api.OK {
			t.Errorf("%+v: %q, %d, want %q", x, got, e, line)
		}
		if got, e := tale.Step(line); !reflect.DeepEqual(got, x) || e != api.OK {
			t.Errorf("%q: %+v, %d, want %+v", line, got, e, x)
		}
	}
}

func TestUnknownKindsHaveNoLine(t *testing.T) {
	for _, kind := range []int{0, 20, -1, math.MaxInt, math.MinInt} {
		if line, e := tale.Line(api.Step{Kind: kind}); line != "" || e != api.ErrArg {
			t.Error(kind, line, e)
		}
	}
}

// TestFieldsThatTheLineLacks must be empty or 0.
func TestFieldsThatTheLineLacks(t *testing.T) {
	has := map[int]string{
		1: "kd", 2: "k", 3: "a", 4: "a", 5: "k", 8: "a", 10: "k", 11: "ab", 12: "a", 13: "a", 14: "a", 16: "a", 17: "ab",
	}
	for kind := 1; kind <= 19; kind++ {
		for field, x := range map[string]api.Step{
			"k": {Kind: kind, Key: "x"}, "d": {Kind: kind, Data: []byte{0}}, "a": {Kind: kind, A: -1}, "b": {Kind: kind, B: 1},
		} {
			line, e := tale.Line(x)
			if strings.Contains(has[kind], field) {
				if again, err := tale.Step(line); e != api.OK || err != api.OK || !reflect.DeepEqual(again, x) {
					t.Errorf("%+v: %q, %d", x, line, e)
				}
			} else if line != "" || e != api.ErrArg {
				t.Errorf("%+v: %q, %d", x, line, e)
			}
		}
		if line, e := tale.Line(api.Step{Kind: kind, Data: []byte{}}); line == "" || e != api.OK {
			t.Errorf("%d: empty Data counts as Data", kind)
		}
	}
}

// wrongLines has texts that are no line of a step.
func wrongLines() []string {
	return []string{
		"", " ", "tick ", " tick", "Tick", "ticks", "tic", "tick 1", "tick\n", "\ntick", "tick\r", "\x00", "tick x", "nothing", "put", "put ", "put x61", "put x61 ",
		"put x61  x", "put  x61 x", "put x61 x x", "put x61 07", "put 61 x07", "put x61 x7", "put x6 x", "put x6G x", "put x6A x", "put X61 x", "put xx x", "put x61\tx",
		"recall", "recall ", "recall x61 x", "recall 1", "recall x61x61", "poll", "poll ", "poll +1", "poll 01", "poll 00", "poll -0", "poll -01", "poll --1", "poll -", "poll 1.0",
		"poll 1 ", "poll  1", "poll x1", "poll 1 2", "poll 9223372036854775808", "poll -9223372036854775809", "poll 99999999999999999999999", "poll 0x1", "poll 1_0", "poll １",
		"rot", "rot 1", "rot 1 ", "rot 1 2 3", "rot 1  2", "crash 3", "crash 3 01", "crash 03 1", "add 1", "open 0", "wipe x", "list x", "care ", "put\tx61 x",
	}
}

func TestWrongLines(t *testing.T) {
	for _, line := range wrongLines() {
		if x, e := tale.Step(line); !reflect.DeepEqual(x, api.Step{}) || e != api.ErrText {
			t.Errorf("%q: %+v, %d", line, x, e)
		}
	}
}

func reads(t *testing.T, s string, number int, e api.Errno, want ...api.Step) {
	t.Helper()
	got, n, err := tale.Read(s)
	if n != number || err != e || len(got) != len(want) || len(want) > 0 && !reflect.DeepEqual(got, want) || e != api.OK && got != nil {
		if len(got) > 9 {
			got = got[:9]
		}
		t.Errorf("%.40q: %+v, %d, %d, want %d, %d", s, got, n, err, number, e)
	}
}

func TestRead(t *testing.T) {
	tick, put := api.Step{Kind: 6}, api.Step{Kind: 1, Key: "ab", Data: []byte{7}}
	reads(t, "", 0, api.OK)
	reads(t, "tick", 0, api.OK, tick)
	reads(t, "tick\n", 0, api.OK, tick)
	reads(t, "tick\nput x6162 x07", 0, api.OK, tick, put)
	reads(t, "put x6162 x07\ntick\ntick\n", 0, api.OK, put, tick, tick)
}

func TestReadNamesTheFirstWrongLine(t *testing.T) {
	reads(t, "tick\ntick 1", 2, api.ErrText)
	reads(t, "tick\ntick 1\n", 2, api.ErrText)
	reads(t, "tick\nbad\ntick\nbad\n", 2, api.ErrText)
	reads(t, "\n", 1, api.ErrText)
	reads(t, "tick\n\n", 2, api.ErrText)
	reads(t, "\ntick", 1, api.ErrText)
	reads(t, "tick\n\ntick", 2, api.ErrText)
	reads(t, "tick\r\ntick\r\n", 1, api.ErrText)
	for _, line := range wrongLines() {
		if !strings.Contains(line, "\n") && line != "" {
			reads(t, "tick\ntick\n"+line, 3, api.ErrText)
			reads(t, "tick\ntick\n"+line+"\ntick", 3, api.ErrText)
		}
	}
}

func TestReadOfTooManyLines(t *testing.T) {
	most := strings.Repeat("tick\n", 65536)
	steps, n, e := tale.Read(most)
	if len(steps) != 65536 || n != 0 || e != api.OK {
		t.Error(len(steps), n, e)
	}
	steps, n, e = tale.Read(most[:len(most)-1])
	if len(steps) != 65536 || n != 0 || e != api.OK {
		t.Error(len(steps), n, e)
	}
	reads(t, most+"tick", 0, api.ErrOver)
	reads(t, most+"tick\n", 0, api.ErrOver)
	reads(t, most+most, 0, api.ErrOver)
	reads(t, "bad\n"+most, 1, api.ErrText)
	reads(t, most+"bad", 65537, api.ErrText) // named before ErrOver
	reads(t, most+"\n", 65537, api.ErrText)
	reads(t, most+"tick\nbad\n", 65538, api.ErrText)
}

func TestRandomScripts(t *testing.T) {
	r := rand.New(rand.NewSource(1))
	text := func() string {
		b := make([]byte, r.Intn(5))
		r.Read(b)
		return string(b)
	}
	for range 200 {
		var script strings.Builder
		var want []api.Step
		for range r.Intn(30) {
			x := api.Step{Kind: 1 + r.Intn(19), Key: text(), A: r.Intn(9) - 4, B: int(r.Uint64())}
			if b := text(); b != "" {
				x.Data = []byte(b)
			}
			line, e := tale.Line(x)
			if e != api.OK {
				continue
			}
			script.WriteString(line + "\n")
			want = append(want, x)
		}
		reads(t, script.String(), 0, api.OK, want...)
	}
}
