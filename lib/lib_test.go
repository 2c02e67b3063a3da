package lib_test

import (
	"math"
	"testing"

	"kist/api"
	"kist/lib"
)

func goes(t *testing.T, l *lib.Library, n, pos int, want bool) {
	t.Helper()
	if there, e := l.Go(n, pos); there != want || e != api.OK {
		t.Fatalf("Go(%d, %d) = %v, %d", n, pos, there, e)
	}
}

func goFails(t *testing.T, l *lib.Library, n, pos int, want api.Errno) {
	t.Helper()
	if there, e := l.Go(n, pos); there || e != want {
		t.Errorf("Go(%d, %d) = %v, %d, want error %d", n, pos, there, e, want)
	}
}

// drive checks what a working drive holds, and where it stands.
func drive(t *testing.T, l *lib.Library, d, n, pos int) {
	t.Helper()
	if gotN, gotPos, works := l.Drive(d); gotN != n || gotPos != pos || !works {
		t.Errorf("Drive(%d) = %d, %d, %v, want %d, %d", d, gotN, gotPos, works, n, pos)
	}
}

func noDrive(t *testing.T, l *lib.Library, d int) {
	t.Helper()
	if n, pos, works := l.Drive(d); n != -1 || pos != 0 || works {
		t.Errorf("Drive(%d) = %d, %d, %v", d, n, pos, works)
	}
}

func appends(t *testing.T, l *lib.Library, n int, text string, want int) {
	t.Helper()
	if pos, e := l.Append(n, []byte(text)); pos != want || e != api.OK {
		t.Fatalf("Append(%d, %q) = %d, %d", n, text, pos, e)
	}
}

func appendFails(t *testing.T, l *lib.Library, n int, text string, want api.Errno) {
	t.Helper()
	if pos, e := l.Append(n, []byte(text)); pos != 0 || e != want {
		t.Errorf("Append(%d, %q) = %d, %d, want error %d", n, text, pos, e, want)
	}
}

func readFails(t *testing.T, l *lib.Library, n, pos int, want api.Errno) {
	t.Helper()
	if b, e := l.Read(n, pos); b != nil || e != want {
		t.Errorf("Read(%d, %d) = %q, %d, want error %d", n, pos, b, e, want)
	}
}

func TestExample(t *testing.T) {
	l := lib.New(2, 9, 1)
	goes(t, l, 1, 0, false)
	goes(t, l, 1, 0, true)
	appends(t, l, 1, "ab", 0)
	readFails(t, l, 1, 0, api.ErrBusy)
	goes(t, l, 1, 0, false)
	if b, e := l.Read(1, 0); string(b) != "ab" || e != api.OK {
		t.Errorf("%q, %d", b, e)
	}
	goes(t, l, 0, 0, false)
	drive(t, l, 0, 0, 0)
	if !l.Break(0) {
		t.Error("Break(0)")
	}
	goFails(t, l, 0, 0, api.ErrDown)
}

func TestNewClampsItsNumbers(t *testing.T) {
	for _, c := range []struct{ carts, recs, drives, wantCarts, wantRecs, wantDrives int }{
		{0, 5, 0, 0, 0, 0}, {-1, 5, -1, 0, 0, 0}, {32, 5, 4, 32, 5, 4}, {33, -5, 5, 32, 0, 4},
		{math.MinInt, 1, math.MinInt, 0, 0, 0}, {math.MaxInt, math.MaxInt, math.MaxInt, 32, 1024, 4}, {3, 7, 2, 3, 7, 2},
	} {
		l := lib.New(c.carts, c.recs, c.drives)
		if l.Carts() != c.wantCarts || l.Drives() != c.wantDrives || l.Working() != c.wantDrives {
			t.Error(c, l.Carts(), l.Drives(), l.Working())
		}
		for n := range l.Carts() {
			if l.Cart(n).Room() != c.wantRecs {
				t.Error(c, n, l.Cart(n).Room())
			}
		}
		for d := range l.Drives() {
			drive(t, l, d, -1, 0)
		}
		for _, n := range []int{-1, l.Carts(), math.MinInt, math.MaxInt} {
			if l.Cart(n) != nil {
				t.Error(c, "there is a cartridge", n)
			}
		}
		for _, d := range []int{-1, l.Drives(), math.MinInt, math.MaxInt} {
			noDrive(t, l, d)
		}
	}
}

func TestCartIsTheCartridgeItself(t *testing.T) {
	l := lib.New(2, 9, 1)
	if l.Cart(0) == l.Cart(1) || l.Cart(1) != l.Cart(1) {
		t.Error("not one cartridge a number")
	}
	l.Cart(1).Append([]byte("x"))
	goes(t, l, 1, 0, false)
	if b, e := l.Read(1, 0); string(b) != "x" || e != api.OK {
		t.Errorf("%q, %d", b, e)
	}
}

func TestAdd(t *testing.T) {
	l := lib.New(30, 9, 1)
	for want := 30; want < 32; want++ {
		if n, ok := l.Add(want); n != want || !ok || l.Carts() != want+1 || l.Cart(n).Room() != want {
			t.Error(want, n, ok)
		}
	}
	if n, ok := l.Add(9); n != 0 || ok || l.Carts() != 32 {
		t.Error(n, ok, l.Carts())
	}
}

func TestGoChecksItsArguments(t *testing.T) {
	l := lib.New(2, 9, 0)
	for _, c := range [][2]int{{-1, 0}, {2, 0}, {0, -1}, {0, 1025}, {math.MaxInt, 0}, {math.MinInt, 0}, {0, math.MaxInt}, {0, math.MinInt}} {
		goFails(t, l, c[0], c[1], api.ErrArg)
	}
	goFails(t, l, 1, 1024, api.ErrDown) // no drive at all
}

func TestGoMovesStepByStep(t *testing.T) {
	l := lib.New(2, 9, 1)
	goes(t, l, 0, 1024, false)
	drive(t, l, 0, 0, 0)
	goes(t, l, 0, 1024, false)
	drive(t, l, 0, 0, 1024)
	goes(t, l, 0, 1024, true)
	drive(t, l, 0, 0, 1024)
	goes(t, l, 0, 3, false)
	drive(t, l, 0, 0, 3)
	goes(t, l, 1, 3, false) // an exchange begins at 0 again
	drive(t, l, 0, 1, 0)
	l.Cart(0).Lose()
	goes(t, l, 0, 2, false)
	goes(t, l, 0, 2, false)
	goes(t, l, 0, 2, true)
}

// TestWhichDriveIsLoaded: empty ones first, then the one whose cartridge was named least recently.
func TestWhichDriveIsLoaded(t *testing.T) {
	l := lib.New(9, 9, 3)
	for n := range 3 {
		goes(t, l, n, 0, false)
		drive(t, l, n, n, 0)
	}
	goes(t, l, 0, 0, true) // named again by standing still
	goes(t, l, 1, 5, false)
	goes(t, l, 3, 0, false) // in place of 2
	drive(t, l, 2, 3, 0)
	goes(t, l, 4, 0, false) // in place of 0
	drive(t, l, 0, 4, 0)
	goes(t, l, 5, 0, false) // in place of 1
	drive(t, l, 1, 5, 0)
	goes(t, l, 6, 0, false) // in place of 3
	drive(t, l, 2, 6, 0)
}

func TestReadsAndRefusedCallsNameNothing(t *testing.T) {
	l := lib.New(9, 9, 2)
	l.Cart(0).Append([]byte("x"))
	goes(t, l, 0, 0, false)
	goes(t, l, 1, 0, false)
	l.Read(0, 0)
	l.Append(0, []byte("y"))
	goFails(t, l, 0, 1025, api.ErrArg)
	goes(t, l, 2, 0, false)
	drive(t, l, 0, 2, 0)
	drive(t, l, 1, 1, 0)
}

func TestBrokenDrivesAreNotLoaded(t *testing.T) {
	l := lib.New(9, 9, 3)
	for n := range 3 {
		goes(t, l, n, 0, false)
	}
	if !l.Break(0) || l.Break(0) || l.Working() != 2 || l.Drives() != 3 {
		t.Error("Break", l.Working(), l.Drives())
	}
	noDrive(t, l, 0)
	goes(t, l, 0, 0, false) // back on its shelf: loaded into drive 1
	drive(t, l, 1, 0, 0)
	if !l.Mend(0) || l.Mend(0) || l.Working() != 3 {
		t.Error("Mend", l.Working())
	}
	drive(t, l, 0, -1, 0)
	goes(t, l, 1, 0, false) // the mended drive is empty
	drive(t, l, 0, 1, 0)
	for _, d := range []int{-1, 3, math.MinInt, math.MaxInt} {
		if l.Break(d) || l.Mend(d) {
			t.Error("there is a drive", d)
		}
	}
}

func TestRead(t *testing.T) {
	l := lib.New(2, 2, 1)
	l.Cart(0).Append([]byte("a"))
	l.Cart(0).Append([]byte("b"))
	readFails(t, l, 2, 0, api.ErrArg)
	readFails(t, l, -1, 0, api.ErrArg)
	readFails(t, l, 0, 0, api.ErrBusy) // in no drive
	goes(t, l, 0, 0, false)
	readFails(t, l, 0, 1, api.ErrBusy)
	readFails(t, l, 0, -1, api.ErrBusy)
	readFails(t, l, 1, 0, api.ErrBusy)
	drive(t, l, 0, 0, 0)
	l.Cart(0).Rot(0)
	readFails(t, l, 0, 0, api.ErrRot)
	drive(t, l, 0, 0, 1) // it moved over the unreadable record
	if b, e := l.Read(0, 1); string(b) != "b" || e != api.OK {
		t.Errorf("%q, %d", b, e)
	}
	readFails(t, l, 0, 2, api.ErrNone)
	drive(t, l, 0, 0, 3)
	l.Cart(0).Lose()
	readFails(t, l, 0, 3, api.ErrLost)
	drive(t, l, 0, 0, 4)
	l.Break(0)
	readFails(t, l, 0, 0, api.ErrBusy)
	l.Mend(0)
	readFails(t, l, 0, 0, api.ErrBusy)
}

func TestAppend(t *testing.T) {
	l := lib.New(2, 2, 1)
	appendFails(t, l, 2, "x", api.ErrArg)
	appendFails(t, l, -1, "x", api.ErrArg)
	appendFails(t, l, 0, "x", api.ErrBusy)
	goes(t, l, 0, 0, false)
	appends(t, l, 0, "x", 0)
	drive(t, l, 0, 0, 1)
	goes(t, l, 0, 0, false)
	appendFails(t, l, 0, "y", api.ErrBusy) // not at the end
	goes(t, l, 0, 1, false)
	appendFails(t, l, 0, "", api.ErrArg)
	drive(t, l, 0, 0, 1)
	appends(t, l, 0, "y", 1)
	appendFails(t, l, 0, "z", api.ErrRoom)
	drive(t, l, 0, 0, 2)
	goes(t, l, 1, 0, false)
	appendFails(t, l, 0, "z", api.ErrBusy)
	l.Cart(1).Lose()
	appendFails(t, l, 1, "z", api.ErrLost)
	drive(t, l, 0, 1, 0)
}

func TestNilLibrary(t *testing.T) {
	var l *lib.Library
	goFails(t, l, 0, 0, api.ErrArg)
	readFails(t, l, 0, 0, api.ErrArg)
	appendFails(t, l, 0, "x", api.ErrArg)
	noDrive(t, l, 0)
	n, ok := l.Add(9)
	if l.Cart(0) != nil || l.Carts() != 0 || l.Drives() != 0 || l.Working() != 0 || l.Break(0) || l.Mend(0) || n != 0 || ok {
		t.Error("a nil library does something")
	}
}
