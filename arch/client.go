package arch

import (
	"slices"

	"kist/api"
	"kist/fit"
	"kist/word"
)

func (a *Arch) put(x api.Step) api.Answer {
	switch {
	case !fit.Key(x.Key):
		return failed(api.ErrKey)
	case len(x.Data) > api.MaxBlob:
		return failed(api.ErrLarge)
	case a.catalog.Has(x.Key):
		return failed(api.ErrExists)
	case len(x.Data)+a.catalog.Used() > a.config.Quota:
		return failed(api.ErrFull)
	}
	return failed(a.write(api.Note{Kind: api.NotePut, Key: x.Key, Data: x.Data}))
}

func (a *Arch) delete(x api.Step) api.Answer {
	if !a.catalog.Has(x.Key) {
		return failed(api.ErrNone)
	}
	if e := a.write(api.Note{Kind: api.NoteGone, Key: x.Key, Gen: a.catalog.Gen() + 1}); e != api.OK {
		return failed(e)
	}
	for _, t := range a.tickets {
		if t.key == x.Key && t.status == api.ErrOpen {
			t.cancel()
		}
	}
	for _, j := range slices.Clone(a.jobs) {
		if j.key == x.Key && j.kind != api.JobTomb {
			a.end(j)
		}
	}
	a.cache.Drop(x.Key)
	return api.Answer{}
}

func (a *Arch) recall(x api.Step) api.Answer {
	switch {
	case !a.catalog.Has(x.Key):
		return failed(api.ErrNone)
	case len(a.tickets) >= api.MaxTickets:
		return failed(api.ErrBusy)
	}
	a.lastTicket++
	t := &ticket{number: a.lastTicket, key: x.Key, status: api.ErrOpen}
	a.tickets = append(a.tickets, t)
	data, ok := a.catalog.Data(x.Key)
	if !ok {
		data, ok = a.cache.Get(x.Key)
	}
	if ok {
		t.status, t.data = api.OK, data
	} else {
		a.beginRecall(t)
	}
	return api.Answer{N: t.number}
}

func (a *Arch) poll(number int) api.Answer {
	t := a.ticket(number)
	if t == nil {
		return failed(api.ErrNone)
	}
	return api.Answer{E: t.status, N: len(t.data)}
}

func (a *Arch) fetch(number int) api.Answer {
	answer := a.poll(number)
	t := a.ticket(number)
	if t == nil || t.status == api.ErrOpen {
		return answer
	}
	a.tickets = slices.DeleteFunc(a.tickets, func(other *ticket) bool { return other == t })
	answer.Data = t.data
	return answer
}

func (a *Arch) ticket(number int) *ticket {
	for _, t := range a.tickets {
		if t.number == number {
			return t
		}
	}
	return nil
}

// careForAll puts the keys of all entries on the care list.
func (a *Arch) careForAll(api.Step) api.Answer {
	for _, e := range a.catalog.Entries() {
		if !slices.Contains(a.care, e.Key) {
			a.care = append(a.care, e.Key)
		}
	}
	return api.Answer{N: len(a.care)}
}

func (a *Arch) retire(x api.Step) api.Answer {
	if a.library.Cart(x.A) == nil || a.catalog.Retired(x.A) {
		return failed(api.ErrArg)
	}
	return failed(a.write(api.Note{Kind: api.NoteRetire, Cart: x.A}))
}

func (a *Arch) list(api.Step) api.Answer {
	keys := a.Keys()
	var data []byte
	for _, key := range keys {
		data = word.Text(data, key)
	}
	return api.Answer{N: len(keys), Data: data}
}

func (a *Arch) status(x api.Step) api.Answer {
	if data, staged := a.catalog.Data(x.Key); staged {
		return api.Answer{N: len(data), Data: []byte{api.Waits}}
	}
	if e, placed := a.catalog.Entry(x.Key); placed {
		return api.Answer{N: e.Size, Data: []byte{api.Laid}}
	}
	return failed(api.ErrNone)
}
