package arch

import (
	"kist/api"
	"kist/lift"
	"kist/place"
)

func (a *Arch) tick(api.Step) api.Answer {
	a.now++
	a.beginNextTomb()
	a.beginNextFlush()
	a.beginNextCare()
	if a.state == api.Up {
		a.serve()
	}
	if a.state != api.Up {
		return failed(api.ErrDown)
	}
	return api.Answer{}
}

func (a *Arch) beginNextTomb() {
	tombs := a.catalog.Tombs()
	if len(tombs) == 0 || a.hasJob(api.JobTomb) {
		return
	}
	if carts, ok := place.Pick(a.free(), api.Copies, nil); ok {
		a.beginTomb(tombs[0], carts)
	}
}

func (a *Arch) beginNextFlush() {
	if staged := a.catalog.Staged(); len(staged) > 0 && !a.hasJob(api.JobFlush) {
		a.beginFlush(staged[0])
	}
}

func (a *Arch) beginNextCare() {
	for len(a.care) > 0 && !a.hasJob(api.JobCare) && a.state == api.Up {
		key := a.care[0]
		a.care = a.care[1:]
		if e, ok := a.catalog.Entry(key); ok {
			a.beginCare(e)
		}
	}
}

// serve brings a drive one movement nearer to the next request, or carries it out if a drive is there.
func (a *Arch) serve() {
	asks := a.queue.All()
	for i, x := range asks {
		if x.Op == api.Write {
			asks[i].Pos = a.library.Cart(x.Cart).Len()
		}
	}
	next, ok := lift.Next(asks, a.heads(), a.now, a.config.Age)
	if !ok {
		return
	}
	x := asks[next]
	if there, _ := a.library.Go(x.Cart, x.Pos); there {
		a.queue.Take(next)
		a.carryOut(x)
	}
}

// heads returns where the drives that hold a cartridge stand.
func (a *Arch) heads() []api.Head {
	var heads []api.Head
	for d := range a.library.Drives() {
		if n, pos, works := a.library.Drive(d); works && n >= 0 {
			heads = append(heads, api.Head{Cart: n, Pos: pos})
		}
	}
	return heads
}
