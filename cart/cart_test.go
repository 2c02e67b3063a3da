package cart_test

import (
	"bytes"
	"math"
	"testing"

	"kist/api"
	"kist/cart"
)

func appendOK(t *testing.T, c *cart.Cart, text string, want int) {
	t.Helper()
	if n, e := c.Append([]byte(text)); n != want || e != api.OK {
		t.Fatalf("Append(%q) = %d, %d", text, n, e)
	}
}

func appendFails(t *testing.T, c *cart.Cart, b []byte, want api.Errno) {
	t.Helper()
	before := c.Len()
	if n, e := c.Append(b); n != 0 || e != want || c.Len() != before {
		t.Errorf("Append of %d bytes = %d, %d, want error %d", len(b), n, e, want)
	}
}

func reads(t *testing.T, c *cart.Cart, pos int, want string) {
	t.Helper()
	if b, e := c.Read(pos); string(b) != want || e != api.OK {
		t.Errorf("Read(%d) = %q, %d, want %q", pos, b, e, want)
	}
}

func readFails(t *testing.T, c *cart.Cart, pos int, want api.Errno) {
	t.Helper()
	if b, e := c.Read(pos); b != nil || e != want {
		t.Errorf("Read(%d) = %q, %d, want error %d", pos, b, e, want)
	}
}

func TestExample(t *testing.T) {
	c := cart.New(2)
	appendOK(t, c, "ab", 0)
	appendFails(t, c, nil, api.ErrArg)
	if !c.Tear(1) {
		t.Error("Tear(1)")
	}
	reads(t, c, 0, "a")
	if !c.Rot(0) {
		t.Error("Rot(0)")
	}
	readFails(t, c, 0, api.ErrRot)
	appendOK(t, c, "c", 1)
	appendFails(t, c, []byte("d"), api.ErrRoom)
}

func TestCapacity(t *testing.T) {
	for _, c := range [][2]int{{0, 0}, {-1, 0}, {math.MinInt, 0}, {3, 3}, {1024, 1024}, {1025, 1024}, {math.MaxInt, 1024}} {
		x := cart.New(c[0])
		if x.Room() != c[1] || x.Len() != 0 || x.Lost() {
			t.Error(c, x.Room(), x.Len(), x.Lost())
		}
		for n := range c[1] {
			appendOK(t, x, "r", n)
			if x.Room() != c[1]-n-1 || x.Len() != n+1 {
				t.Fatal(c, n, x.Room(), x.Len())
			}
		}
		appendFails(t, x, []byte("r"), api.ErrRoom)
	}
}

func TestLengthsOfRecords(t *testing.T) {
	c := cart.New(3)
	appendOK(t, c, string(make([]byte, 256)), 0)
	appendOK(t, c, "x", 1)
	appendFails(t, c, make([]byte, 257), api.ErrArg)
	appendFails(t, c, []byte{}, api.ErrArg)
	reads(t, c, 0, string(make([]byte, 256)))
	appendOK(t, c, "y", 2)
	appendFails(t, c, nil, api.ErrArg) // before the lack of room
	c.Lose()
	appendFails(t, c, nil, api.ErrArg) // before the loss
	appendFails(t, c, []byte("z"), api.ErrLost)
}

func TestRecordsAreCopied(t *testing.T) {
	c := cart.New(3)
	b := []byte("ab")
	if _, e := c.Append(b); e != api.OK {
		t.Fatal(e)
	}
	b[0] = 'z'
	got, _ := c.Read(0)
	if !bytes.Equal(got, []byte("ab")) {
		t.Errorf("%q", got)
	}
	got[0] = 'z'
	c.Tear(1)
	torn, _ := c.Read(0)
	_ = append(torn, 'z')
	reads(t, c, 0, "a")
}

func TestReadNamesWhatIsWrong(t *testing.T) {
	c := cart.New(3)
	readFails(t, c, 0, api.ErrNone)
	appendOK(t, c, "a", 0)
	for _, pos := range []int{-1, 1, math.MinInt, math.MaxInt} {
		readFails(t, c, pos, api.ErrNone)
	}
	c.Rot(0)
	readFails(t, c, 0, api.ErrRot)
	c.Lose()
	readFails(t, c, 0, api.ErrLost)
	readFails(t, c, 9, api.ErrLost)
}

func TestRot(t *testing.T) {
	c := cart.New(3)
	appendOK(t, c, "a", 0)
	appendOK(t, c, "b", 1)
	for _, pos := range []int{-1, 2, math.MinInt, math.MaxInt} {
		if c.Rot(pos) {
			t.Error("Rot of no record:", pos)
		}
	}
	if !c.Rot(1) || c.Rot(1) {
		t.Error("a record rots once")
	}
	reads(t, c, 0, "a")
	readFails(t, c, 1, api.ErrRot)
	c.Lose()
	if c.Rot(0) {
		t.Error("Rot on a lost cartridge")
	}
}

func TestTear(t *testing.T) {
	c := cart.New(3)
	if c.Tear(0) {
		t.Error("Tear without a record")
	}
	appendOK(t, c, "first", 0)
	appendOK(t, c, "abcd", 1)
	for _, n := range []int{4, 5, -1, math.MinInt, math.MaxInt} {
		if c.Tear(n) {
			t.Error("Tear to", n)
		}
	}
	reads(t, c, 1, "abcd")
	if !c.Tear(3) || c.Tear(3) {
		t.Error("Tear to 3")
	}
	reads(t, c, 1, "abc")
	c.Rot(1)
	if !c.Tear(2) {
		t.Error("Tear of an unreadable record")
	}
	readFails(t, c, 1, api.ErrRot)
	reads(t, c, 0, "first")
	if c.Len() != 2 || c.Room() != 1 {
		t.Error(c.Len(), c.Room())
	}
}

func TestTearToNothing(t *testing.T) {
	c := cart.New(1)
	appendOK(t, c, "ab", 0)
	if !c.Tear(0) || c.Tear(0) {
		t.Error("Tear to nothing")
	}
	reads(t, c, 0, "")
	c.Lose()
	if c.Tear(0) {
		t.Error("Tear on a lost cartridge")
	}
}

func TestTearOnALostCartridge(t *testing.T) {
	c := cart.New(1)
	appendOK(t, c, "ab", 0)
	c.Lose()
	if c.Tear(1) {
		t.Error("Tear on a lost cartridge")
	}
}

func TestLose(t *testing.T) {
	c := cart.New(3)
	appendOK(t, c, "a", 0)
	if c.Lost() || !c.Lose() || !c.Lost() || c.Lose() || !c.Lost() {
		t.Error("a cartridge is lost once")
	}
	if c.Len() != 1 || c.Room() != 0 {
		t.Error(c.Len(), c.Room())
	}
}

func TestNilCart(t *testing.T) {
	var c *cart.Cart
	appendFails(t, c, []byte("a"), api.ErrArg)
	readFails(t, c, 0, api.ErrArg)
	if c.Rot(0) || c.Tear(0) || c.Lose() || c.Lost() || c.Len() != 0 || c.Room() != 0 {
		t.Error("a nil cartridge does something")
	}
}
