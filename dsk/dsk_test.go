package dsk_test

import (
	"math"
	"testing"

	"kist/api"
	"kist/dsk"
)

// does checks the result of an operation.
func does(t *testing.T, got, want api.Errno) {
	t.Helper()
	if got != want {
		t.Errorf("error %d, want %d", got, want)
	}
}

func holds(t *testing.T, d *dsk.Disk, want string, loose int) {
	t.Helper()
	if got := string(d.Bytes()); got != want || d.Loose() != loose {
		t.Errorf("holds %q with %d loose, want %q with %d", got, d.Loose(), want, loose)
	}
}

func appendTo(d *dsk.Disk, text string) api.Errno {
	return d.Append([]byte(text))
}

func TestExample(t *testing.T) {
	d := dsk.New()
	holds(t, d, "", 0)
	does(t, appendTo(d, "ab"), api.OK)
	does(t, d.Sync(), api.OK)
	does(t, appendTo(d, "cde"), api.OK)
	holds(t, d, "abcde", 3)
	d.Crash(1)
	holds(t, d, "abc", 0)
	d.Crash(0)
	holds(t, d, "abc", 0)
	d.Fuse(1)
	does(t, appendTo(d, "d"), api.OK)
	does(t, d.Sync(), api.ErrDown)
	holds(t, d, "abcd", 1)
}

func TestSizeLimit(t *testing.T) {
	d := dsk.New()
	does(t, d.Append(make([]byte, 1<<18+1)), api.ErrOver)
	holds(t, d, "", 0)
	does(t, d.Append(make([]byte, 1<<18-1)), api.OK)
	does(t, appendTo(d, "ab"), api.ErrOver)
	does(t, appendTo(d, "a"), api.OK)
	does(t, appendTo(d, ""), api.OK)
	does(t, appendTo(d, "b"), api.ErrOver)
	if n := len(d.Bytes()); n != 1<<18 {
		t.Error(n)
	}
	does(t, d.Swap(make([]byte, 1<<18+1)), api.ErrOver)
	does(t, d.Swap(make([]byte, 1<<18)), api.OK)
	if d.Loose() != 0 {
		t.Error(d.Loose())
	}
	d.Fuse(0)
	does(t, appendTo(d, "b"), api.ErrOver) // named before ErrDown
	does(t, d.Swap(make([]byte, 1<<18+1)), api.ErrOver)
}

func TestSwap(t *testing.T) {
	d := dsk.New()
	appendTo(d, "ab")
	b := []byte("xyz")
	does(t, d.Swap(b), api.OK)
	b[0] = 'w'
	holds(t, d, "xyz", 0)
	appendTo(d, "c")
	does(t, d.Swap(nil), api.OK)
	holds(t, d, "", 0)
	appendTo(d, "d")
	d.Crash(0)
	holds(t, d, "", 0)
}

func TestFuse(t *testing.T) {
	d := dsk.New()
	d.Fuse(3)
	does(t, appendTo(d, "ab"), api.OK)
	does(t, d.Swap([]byte("x")), api.OK)
	does(t, appendTo(d, string(make([]byte, 1<<18))), api.ErrOver) // no operation
	does(t, d.Swap(make([]byte, 1<<18+1)), api.ErrOver)
	does(t, d.Sync(), api.OK)
	for range 2 {
		does(t, appendTo(d, "y"), api.ErrDown)
		does(t, appendTo(d, ""), api.ErrDown)
		does(t, d.Sync(), api.ErrDown)
		does(t, d.Swap([]byte("z")), api.ErrDown)
	}
	holds(t, d, "x", 0)
	d.Fuse(1)
	does(t, d.Sync(), api.OK)
	does(t, d.Sync(), api.ErrDown)
	d.Fuse(9)
	d.Fuse(1) // replaces
	does(t, appendTo(d, ""), api.OK)
	does(t, d.Sync(), api.ErrDown)
	for _, n := range []int{0, -1, math.MinInt} {
		d.Fuse(n)
		does(t, d.Sync(), api.ErrDown)
	}
	d.Fuse(math.MaxInt)
	does(t, d.Sync(), api.OK)
}

func TestAFailedSyncLeavesBytesLoose(t *testing.T) {
	d := dsk.New()
	appendTo(d, "ab")
	d.Fuse(0)
	does(t, d.Sync(), api.ErrDown)
	holds(t, d, "ab", 2)
	d.Crash(0)
	holds(t, d, "", 0)
}

func TestCrash(t *testing.T) {
	for _, c := range []struct {
		keep int
		want string
	}{{0, "ab"}, {-1, "ab"}, {math.MinInt, "ab"}, {1, "abc"}, {3, "abcde"}, {4, "abcde"}, {math.MaxInt, "abcde"}} {
		d := dsk.New()
		appendTo(d, "ab")
		d.Sync()
		appendTo(d, "cd")
		appendTo(d, "e")
		d.Fuse(0)
		d.Crash(c.keep)
		holds(t, d, c.want, 0)
		does(t, appendTo(d, "x"), api.OK) // the fuse is gone
		holds(t, d, c.want+"x", 1)
		d.Crash(0)
		holds(t, d, c.want, 0)
	}
}

func TestWipe(t *testing.T) {
	d := dsk.New()
	appendTo(d, "ab")
	d.Sync()
	appendTo(d, "cd")
	d.Fuse(0)
	d.Wipe()
	holds(t, d, "", 0)
	does(t, appendTo(d, "x"), api.OK)
	holds(t, d, "x", 1)
}

func TestBytesAreCopied(t *testing.T) {
	d := dsk.New()
	b := []byte("ab")
	d.Append(b)
	b[0] = 'z'
	holds(t, d, "ab", 2)
	got := d.Bytes()
	got[0] = 'z'
	_ = append(got, 'z')
	d.Append([]byte("c"))
	holds(t, d, "abc", 3)
}

func TestNilDisk(t *testing.T) {
	var d *dsk.Disk
	does(t, appendTo(d, "a"), api.ErrArg)
	does(t, d.Sync(), api.ErrArg)
	does(t, d.Swap(nil), api.ErrArg)
	d.Fuse(1)
	d.Crash(1)
	d.Wipe()
	if d.Bytes() != nil || d.Loose() != 0 {
		t.Error(d.Bytes(), d.Loose())
	}
}
