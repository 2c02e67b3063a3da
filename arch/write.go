package arch

import (
	"slices"

	"kist/api"
	"kist/blob"
	"kist/label"
	"kist/place"
	"kist/plan"
	"kist/spread"
)

func (a *Arch) beginTomb(n api.Note, carts []int) {
	j := &job{kind: api.JobTomb, key: n.Key, proceed: a.finishTomb}
	a.begin(j)
	r := api.Rec{Kind: api.Tomb, Key: n.Key, Gen: n.Gen}
	a.requestWrites(j, slices.Repeat([]api.Rec{r}, len(carts)), carts)
}

func (a *Arch) beginFlush(key string) {
	data, _ := a.catalog.Data(key)
	j := &job{kind: api.JobFlush, key: key}
	a.begin(j)
	a.rewrite(j, data)
}

// inspect ends a Care job if nothing is wrong with its blob or nothing can be done, and rewrites the blob otherwise.
func (a *Arch) inspect(j *job) {
	data, e := plan.Whole(j.entry, j.shards)
	complete := !slices.ContainsFunc(j.shards, func(shard []byte) bool { return len(shard) == 0 })
	if e != api.OK || complete && spread.Well(j.entry, a.catalog) {
		a.end(j)
		return
	}
	a.rewrite(j, data)
}

// rewrite requests the Writes of a job's blob. If that is not possible, the job ends.
func (a *Arch) rewrite(j *job, data []byte) {
	gen := a.catalog.Gen() + 1
	records, e := blob.Records(j.key, gen, data)
	carts, ok := a.choose(records)
	if e != api.OK || !ok || a.write(api.Note{Kind: api.NoteGen, Key: j.key, Gen: gen}) != api.OK {
		a.end(j)
		return
	}
	j.proceed = a.finishRewrite
	a.requestWrites(j, records, carts)
}

// choose returns a cartridge for each record, if there are ten of them for each group.
func (a *Arch) choose(records []api.Rec) ([]int, bool) {
	free := a.free()
	var carts []int
	for group := range slices.Chunk(records, api.N) {
		chosen, ok := place.Pick(free, len(group), nil)
		if !ok {
			return nil, false
		}
		for i := range free {
			if slices.Contains(chosen, free[i].Cart) {
				free[i].Room--
			}
		}
		carts = append(carts, chosen...)
	}
	return carts, true
}

// free returns the cartridges that are not retired, with the room that no Write in the queue will take.
func (a *Arch) free() []api.Free {
	taken := map[int]int{}
	for _, x := range a.queue.All() {
		if x.Op == api.Write {
			taken[x.Cart]++
		}
	}
	var free []api.Free
	for n := range a.library.Carts() {
		if !a.catalog.Retired(n) {
			free = append(free, api.Free{Cart: n, Room: a.library.Cart(n).Room() - taken[n]})
		}
	}
	return free
}

func (a *Arch) requestWrites(j *job, records []api.Rec, carts []int) {
	j.records = records
	j.places = make([]api.Place, len(records))
	for slot, n := range carts {
		a.requestWrite(j, slot, n)
	}
}

func (a *Arch) requestWrite(j *job, slot, n int) {
	j.places[slot] = api.Place{Cart: n}
	a.request(j, api.Write, j.places[slot], slot)
}

// appendRecord writes the record of a slot, or requests to write it elsewhere if that fails.
func (a *Arch) appendRecord(j *job, x api.Ask) {
	b, _ := label.Encode(j.records[x.Slot])
	pos, e := a.library.Append(x.Cart, b)
	if e == api.OK {
		j.places[x.Slot].Pos = pos
		a.lastWritten = written{at: j.places[x.Slot], job: j.number}
		return
	}
	carts, ok := place.Pick(a.free(), 1, groupCarts(j.places, x.Slot))
	if !ok {
		a.end(j)
		return
	}
	a.requestWrite(j, x.Slot, carts[0])
}

// groupCarts returns the cartridges of all places in the group of a slot.
func groupCarts(places []api.Place, slot int) []int {
	start := slot - slot%api.N
	var carts []int
	for _, at := range places[start:min(start+api.N, len(places))] {
		carts = append(carts, at.Cart)
	}
	return carts
}

// finishRewrite and finishTomb end their jobs also if the note can not be written: the work is begun anew then.
func (a *Arch) finishRewrite(j *job) {
	r := j.records[0]
	a.write(api.Note{Kind: api.NotePlaced, Key: r.Key, Gen: r.Gen, Size: r.Size, Sum: r.Sum, Places: j.places})
	a.end(j)
}

func (a *Arch) finishTomb(j *job) {
	r := j.records[0]
	a.write(api.Note{Kind: api.NoteTomb, Key: r.Key, Gen: r.Gen})
	a.end(j)
}
