package arch

import "kist/api"

// Do performs a step and returns its answer.
func (a *Arch) Do(x api.Step) api.Answer {
	if a == nil {
		return failed(api.ErrArg)
	}
	switch x.Kind {
	case api.StepPoll:
		return a.poll(x.A)
	case api.StepFetch:
		return a.fetch(x.A)
	case api.StepRot, api.StepLose, api.StepBreak, api.StepMend:
		return done(a.operate(x))
	case api.StepAdd:
		return a.addCartridge()
	case api.StepFuse:
		a.disk.Fuse(x.A)
		return api.Answer{}
	case api.StepCrash:
		a.crash(x.A, x.B)
		return api.Answer{}
	case api.StepOpen:
		return failed(a.open())
	case api.StepWipe:
		return failed(a.wipe())
	}
	return a.doWhenUp(x)
}

// doWhenUp performs a step that needs the disk.
func (a *Arch) doWhenUp(x api.Step) api.Answer {
	step := a.stepWhenUp(x.Kind)
	if step == nil {
		return failed(api.ErrArg)
	}
	if a.state != api.Up {
		return failed(api.ErrDown)
	}
	return step(x)
}

// stepWhenUp returns what a kind of step does, or nil if there is no such kind.
func (a *Arch) stepWhenUp(kind int) func(api.Step) api.Answer {
	switch kind {
	case api.StepPut:
		return a.put
	case api.StepRecall:
		return a.recall
	case api.StepDelete:
		return a.delete
	case api.StepTick:
		return a.tick
	case api.StepCare:
		return a.careForAll
	case api.StepRetire:
		return a.retire
	case api.StepList:
		return a.list
	case api.StepStatus:
		return a.status
	}
	return nil
}

// failed is an answer that has an error, or OK, and nothing else.
func failed(e api.Errno) api.Answer {
	return api.Answer{E: e}
}

// done is the answer to an action that is possible or not.
func done(ok bool) api.Answer {
	if ok {
		return api.Answer{}
	}
	return failed(api.ErrArg)
}
