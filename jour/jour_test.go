package jour_test

import (
	"bytes"
	"slices"
	"testing"

	"kist/api"
	"kist/dsk"
	"kist/jour"
)

func open(t *testing.T, d *dsk.Disk, want ...api.Note) *jour.Journal {
	t.Helper()
	j, notes, e := jour.Open(d)
	if e != api.OK || j == nil || !slices.EqualFunc(notes, want, jour.Same) {
		t.Fatalf("Open = %v, %+v, %d, want %+v", j, notes, e, want)
	}
	if j.Size() != len(d.Bytes()) {
		t.Errorf("Size is %d of %d bytes", j.Size(), len(d.Bytes()))
	}
	return j
}

func does(t *testing.T, got, want api.Errno) {
	t.Helper()
	if got != want {
		t.Errorf("error %d, want %d", got, want)
	}
}

func TestNotesLast(t *testing.T) {
	d := dsk.New()
	j := open(t, d)
	notes := validNotes()
	size := 0
	for _, n := range notes {
		does(t, j.Add(n), api.OK)
		size += len(frame(t, n))
		if j.Size() != size || len(d.Bytes()) != size || d.Loose() != 0 {
			t.Error(j.Size(), size, d.Loose())
		}
	}
	open(t, d, notes...)
	does(t, j.Swap(notes[1:3]), api.OK)
	if want := slices.Concat(frame(t, notes[1]), frame(t, notes[2])); !bytes.Equal(d.Bytes(), want) || j.Size() != len(want) || d.Loose() != 0 {
		t.Error(d.Bytes(), want)
	}
	does(t, j.Add(notes[0]), api.OK)
	open(t, d, notes[1], notes[2], notes[0])
	does(t, j.Swap(nil), api.OK)
	if j.Size() != 0 {
		t.Error(j.Size())
	}
	open(t, d)
}

func TestInvalidNotesAreRefused(t *testing.T) {
	d := dsk.New()
	j := open(t, d)
	valid := api.Note{Kind: 1}
	does(t, j.Add(valid), api.OK)
	old := d.Bytes()
	d.Fuse(0)
	for _, n := range invalidNotes() {
		does(t, j.Add(n), api.ErrForm)
		does(t, j.Swap([]api.Note{valid, n}), api.ErrForm)
		does(t, j.Swap([]api.Note{n, valid}), api.ErrForm)
	}
	if !bytes.Equal(d.Bytes(), old) || j.Size() != len(old) {
		t.Error("a refused note changed the disk")
	}
}

func TestOpenRemovesWhatIsBehindTheNotes(t *testing.T) {
	n := api.Note{Kind: 4, Gen: 300}
	d := dsk.New()
	d.Append(append(frame(t, n), 9))
	j := open(t, d, n)
	if !bytes.Equal(d.Bytes(), frame(t, n)) || d.Loose() != 0 || j.Size() != 17 {
		t.Error(d.Bytes(), d.Loose(), j.Size())
	}
}

func TestOpenOfACleanDiskDoesNothing(t *testing.T) {
	n := api.Note{Kind: 4, Gen: 300}
	d := dsk.New()
	d.Append(frame(t, n))
	d.Fuse(0)
	open(t, d, n)
	if d.Loose() != 17 {
		t.Error(d.Loose())
	}
}

func TestOpenUsesOneSwap(t *testing.T) {
	d := dsk.New()
	d.Append([]byte{9})
	d.Fuse(1)
	open(t, d)
	d.Append([]byte{9})
	if len(d.Bytes()) != 0 {
		t.Error("the fuse allowed more than the swap")
	}
}

func TestOpenFails(t *testing.T) {
	d := dsk.New()
	content := append(frame(t, api.Note{Kind: 4, Gen: 300}), 9)
	d.Append(content)
	d.Fuse(0)
	if j, notes, e := jour.Open(d); j != nil || notes != nil || e != api.ErrDown {
		t.Error(j, notes, e)
	}
	if !bytes.Equal(d.Bytes(), content) {
		t.Error(d.Bytes())
	}
	if j, notes, e := jour.Open(nil); j != nil || notes != nil || e != api.ErrArg {
		t.Error(j, notes, e)
	}
}

func TestAddFails(t *testing.T) {
	n := api.Note{Kind: 4, Gen: 300}
	for allowed := range 2 {
		d := dsk.New()
		j := open(t, d)
		d.Fuse(allowed)
		does(t, j.Add(n), api.ErrDown)
		if j.Size() != 0 || d.Loose() != 17*allowed {
			t.Error(allowed, j.Size(), d.Loose())
		}
		d.Crash(0)
		open(t, d)
	}
}

func TestAFailedSwapKeepsTheNotes(t *testing.T) {
	n := api.Note{Kind: 4, Gen: 300}
	d := dsk.New()
	j := open(t, d)
	does(t, j.Add(n), api.OK)
	d.Fuse(0)
	does(t, j.Swap(nil), api.ErrDown)
	if j.Size() != 17 {
		t.Error(j.Size())
	}
	d.Crash(0)
	open(t, d, n)
}

func TestAFullDisk(t *testing.T) {
	d := dsk.New()
	j := open(t, d)
	big := full()
	length := len(frame(t, big))
	count := 1 << 18 / length
	list := slices.Repeat([]api.Note{big}, count)
	does(t, j.Swap(append(list, big)), api.ErrOver)
	does(t, j.Swap(list), api.OK)
	d.Fuse(0)
	does(t, j.Add(big), api.ErrOver)
	if j.Size() != count*length {
		t.Error(j.Size(), count*length)
	}
}

func TestNilJournal(t *testing.T) {
	var j *jour.Journal
	does(t, j.Add(api.Note{Kind: 1}), api.ErrArg)
	does(t, j.Swap(nil), api.ErrArg)
	if j.Size() != 0 {
		t.Error(j.Size())
	}
}
