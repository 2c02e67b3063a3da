package arch

import "kist/api"

// write writes a note. The archive becomes stuck if its disk has failed.
func (a *Arch) write(n api.Note) api.Errno {
	e := a.journalAndApply(n)
	if e == api.ErrDown {
		a.state = api.Stuck
	}
	return e
}

func (a *Arch) journalAndApply(n api.Note) api.Errno {
	if e := a.add(n); e != api.OK {
		return e
	}
	if e := a.catalog.Apply(n); e != api.OK {
		return e
	}
	if a.journal.Size() > api.Room+2*a.catalog.Used() {
		return a.journal.Swap(a.catalog.Notes())
	}
	return api.OK
}

// add adds a note to the journal, which is shortened first if the disk is full.
func (a *Arch) add(n api.Note) api.Errno {
	e := a.journal.Add(n)
	if e != api.ErrOver {
		return e
	}
	if e := a.journal.Swap(a.catalog.Notes()); e != api.OK {
		return e
	}
	return a.journal.Add(n)
}
