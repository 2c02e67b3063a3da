package arch

import (
	"kist/api"
	"kist/cat"
	"kist/jour"
	"kist/renew"
)

// operate does something to a cartridge or drive and reports whether it was possible.
func (a *Arch) operate(x api.Step) bool {
	switch x.Kind {
	case api.StepRot:
		return a.library.Cart(x.A).Rot(x.B)
	case api.StepLose:
		return a.library.Cart(x.A).Lose()
	case api.StepBreak:
		return a.library.Break(x.A)
	case api.StepMend:
		return a.library.Mend(x.A)
	}
	return false
}

func (a *Arch) addCartridge() api.Answer {
	n, ok := a.library.Add(a.config.Recs)
	if !ok {
		return failed(api.ErrArg)
	}
	a.writeLabel(n)
	return api.Answer{N: n}
}

// crash cuts the power: keep unsynced bytes of the disk stay, and torn bytes of the record that was being written.
func (a *Arch) crash(keep, torn int) {
	a.disk.Crash(keep)
	last := a.lastWritten
	c := a.library.Cart(last.at.Cart)
	if a.job(last.job) != nil && c.Len() == last.at.Pos+1 {
		c.Tear(torn)
	}
	a.forget()
	a.catalog = cat.New()
	a.state = api.Off
}

// open restores the state from the disk.
func (a *Arch) open() api.Errno {
	if a.state != api.Off {
		return api.ErrArg
	}
	journal, notes, e := jour.Open(a.disk)
	if e != api.OK {
		return e
	}
	catalog, ok := catalogOf(notes)
	if !ok {
		return api.ErrForm
	}
	a.journal, a.catalog, a.state = journal, catalog, api.Up
	return api.OK
}

// wipe replaces the disk by an empty one, and restores the state from the cartridges.
func (a *Arch) wipe() api.Errno {
	a.disk.Wipe()
	a.forget()
	a.journal, _, _ = jour.Open(a.disk)
	notes := renew.Rebuild(a.library)
	a.catalog, _ = catalogOf(notes)
	e := a.journal.Swap(notes)
	a.state = api.Up
	if e != api.OK {
		a.state = api.Stuck
	}
	return e
}

// catalogOf returns the catalog of notes, and whether it took all of them.
func catalogOf(notes []api.Note) (*cat.Catalog, bool) {
	c := cat.New()
	for _, n := range notes {
		if c.Apply(n) != api.OK {
			return c, false
		}
	}
	return c, true
}
