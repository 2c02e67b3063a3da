package arch

import (
	"slices"

	"kist/api"
	"kist/label"
	"kist/plan"
)

// job is an operation in progress.
type job struct {
	number int
	kind   int
	key    string
	left   int // how many of its requests are in the queue
	// proceed is what the job does when none of its requests is left.
	proceed func(*job)

	ticket *ticket   // of a Recall
	entry  api.Entry // what a Recall or Care reads
	asked  []bool    // the slots that it has requested
	shards [][]byte  // of the slots that count

	records []api.Rec   // what is written
	places  []api.Place // where each record goes, and then where it is
}

// begin makes a job one in progress.
func (a *Arch) begin(j *job) {
	a.lastJob++
	j.number = a.lastJob
	a.jobs = append(a.jobs, j)
}

// end ends a job, whatever it still has to do.
func (a *Arch) end(j *job) {
	a.queue.Drop(j.number)
	a.jobs = slices.DeleteFunc(a.jobs, func(other *job) bool { return other == j })
}

// job returns the job in progress with a number, or nil.
func (a *Arch) job(number int) *job {
	for _, j := range a.jobs {
		if j.number == number {
			return j
		}
	}
	return nil
}

func (a *Arch) hasJob(kind int) bool {
	return slices.ContainsFunc(a.jobs, func(j *job) bool { return j.kind == kind })
}

func (a *Arch) beginRecall(t *ticket) {
	e, _ := a.catalog.Entry(t.key)
	slots, _ := plan.First(e, nil)
	a.beginReading(&job{kind: api.JobRecall, key: t.key, ticket: t, entry: e, proceed: a.finishRecall}, slots)
}

func (a *Arch) beginCare(e api.Entry) {
	var slots []int
	for slot := range e.Places {
		slots = append(slots, slot)
	}
	a.beginReading(&job{kind: api.JobCare, key: e.Key, entry: e, proceed: a.inspect}, slots)
}

func (a *Arch) beginReading(j *job, slots []int) {
	a.begin(j)
	j.asked = make([]bool, len(j.entry.Places))
	j.shards = make([][]byte, len(j.entry.Places))
	for _, slot := range slots {
		a.requestRead(j, slot)
	}
}

func (a *Arch) requestRead(j *job, slot int) {
	j.asked[slot] = true
	a.request(j, api.Read, j.entry.Places[slot], slot)
}

func (a *Arch) request(j *job, op int, at api.Place, slot int) {
	if a.queue.Push(api.Ask{Job: j.number, Op: op, Cart: at.Cart, Pos: at.Pos, Slot: slot, Born: a.now}) {
		j.left++
	}
}

// carryOut carries out a request that was taken from the queue, at a place where a drive stands.
func (a *Arch) carryOut(x api.Ask) {
	j := a.job(x.Job)
	if j == nil {
		return
	}
	j.left--
	if x.Op == api.Read {
		a.read(j, x)
	} else {
		a.appendRecord(j, x)
	}
	// The job may have ended meanwhile, for lack of a cartridge.
	if j.left == 0 && a.job(x.Job) != nil {
		j.proceed(j)
	}
}

// read reads the shard of a slot, and requests another one of the group if it does not count.
func (a *Arch) read(j *job, x api.Ask) {
	b, _ := a.library.Read(x.Cart, x.Pos)
	r, e := label.Decode(b)
	if e == api.OK && plan.Good(j.entry, x.Slot, r) {
		j.shards[x.Slot] = r.Data
		return
	}
	if slot, ok := plan.More(j.entry, j.asked, x.Slot); ok {
		a.requestRead(j, slot)
	}
}

func (a *Arch) finishRecall(j *job) {
	data, e := plan.Whole(j.entry, j.shards)
	if e == api.OK {
		j.ticket.status, j.ticket.data = api.OK, data
		a.cache.Put(j.key, data)
	} else {
		j.ticket.status = api.ErrLost
	}
	a.end(j)
}
