package life

import (
	"locksmith/api"
	"locksmith/object"
)

// Bounds of the reason of a revocation, and the one that the chapter names.
const (
	minReason  = 1
	compromise = 2
	maxReason  = 7
)

// Places of the five calls in their table.
const (
	activating = iota
	revoking
	destroying
	archiving
	recovering
	callCount
)

// plea is what one of the five calls is asked for.
type plea struct {
	o        api.Object
	reason   int
	message  string
	occurred api.Date
	now      int64
}

// condition is a reason why a call is refused, where it holds.
type condition struct {
	reason int
	holds  func(plea) bool
}

// call is one of the five: what refuses it, in order, and else what comes of
// the object.
type call struct {
	unless []condition
	made   func(plea) api.Object
}

func calls() [callCount]call {
	archived := condition{api.Archived, plea.isArchived}
	return [...]call{
		activating: {[]condition{archived, {api.Illegal, plea.mayNotActivate}}, plea.activated},
		revoking:   {[]condition{{api.Field, plea.isNoRevocation}, archived, {api.Illegal, plea.mayNotRevoke}}, plea.revoked},
		destroying: {[]condition{archived, {api.Illegal, plea.mayNotDestroy}}, plea.destroyed},
		archiving:  {[]condition{archived}, plea.archived},
		recovering: {[]condition{{api.Illegal, plea.isNotArchived}}, plea.recovered},
	}
}

// Activate lets the object be used.
func Activate(o api.Object, now int64) (api.Object, int) {
	return plea{o: o, now: now}.answer(activating)
}

// Revoke takes the object out of use, for a reason; occurred is when it was
// compromised, if that is the reason and the time is known.
func Revoke(o api.Object, reason int, message string, occurred api.Date, now int64) (api.Object, int) {
	return plea{o, reason, message, occurred, now}.answer(revoking)
}

// Destroy takes the material from the object.
func Destroy(o api.Object, now int64) (api.Object, int) {
	return plea{o: o, now: now}.answer(destroying)
}

// Archive lays the object aside.
func Archive(o api.Object, now int64) (api.Object, int) {
	return plea{o: o, now: now}.answer(archiving)
}

// Recover brings back what was laid aside.
func Recover(o api.Object, now int64) (api.Object, int) {
	return plea{o: o, now: now}.answer(recovering)
}

func (p plea) answer(which int) (api.Object, int) {
	c := calls()[which]
	for _, u := range c.unless {
		if u.holds(p) {
			return api.Object{}, u.reason
		}
	}
	p.o = object.Copy(p.o)
	o := c.made(p)
	o.Dates[api.LastChange] = on(p.now)
	return o, api.Fine
}

func (p plea) isArchived() bool { return p.o.Archived }

func (p plea) isNotArchived() bool { return !p.o.Archived }

// isNoRevocation tells whether it can't be a revocation, whatever the object.
func (p plea) isNoRevocation() bool {
	return p.reason < minReason || p.reason > maxReason ||
		p.message != "" && !object.IsText(p.message) ||
		p.occurred.Has && p.occurred.At > p.now ||
		!p.occurred.Has && p.occurred.At != 0
}

// What may not be done is asked of the edges, so that a state which is none
// leads nowhere either.

func (p plea) mayNotActivate() bool { return !Edge(p.o.State, api.Active) }

func (p plea) mayNotRevoke() bool { return !Edge(p.o.State, p.whenRevoked()) }

func (p plea) mayNotDestroy() bool { return !Edge(p.o.State, p.whenDestroyed()) }

func (p plea) whenRevoked() int {
	switch {
	case p.reason != compromise:
		return api.Deactivated
	case p.o.State == api.Destroyed:
		return api.Both
	}
	return api.Compromised
}

func (p plea) whenDestroyed() int {
	if p.o.State == api.Compromised {
		return api.Both
	}
	return api.Destroyed
}

func (p plea) activated() api.Object {
	p.o.State = api.Active
	p.o.Dates[api.Activation] = on(p.now)
	return p.o
}

func (p plea) revoked() api.Object {
	o := p.o
	o.State, o.Reason, o.Message = p.whenRevoked(), p.reason, p.message
	if p.reason != compromise {
		o.Dates[api.Deactivation] = on(p.now)
		return o
	}
	o.Dates[api.CompromiseDate] = on(p.now)
	o.Dates[api.Occurrence] = p.occurred
	if !p.occurred.Has {
		o.Dates[api.Occurrence] = o.Dates[api.Initial]
	}
	return o
}

func (p plea) destroyed() api.Object {
	p.o.State = p.whenDestroyed()
	p.o.Material = nil
	p.o.Dates[api.DestroyDate] = on(p.now)
	return p.o
}

func (p plea) archived() api.Object {
	p.o.Archived = true
	p.o.Dates[api.ArchiveDate] = on(p.now)
	return p.o
}

func (p plea) recovered() api.Object {
	p.o.Archived = false
	return p.o
}
