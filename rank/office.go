package rank

import (
	"slices"

	"fiacre/api"
)

// An office is the ranks while events are carried out: a state that it alone has, and what is seen of the events.
type office struct {
	rules api.RankRules
	state api.RankState
	seen  []api.RankSighting
}

// Apply returns the state behind an event.
func Apply(r api.RankRules, s api.RankState, x api.RankEvent) (api.RankState, api.Errno) {
	if e := CheckState(r, s); e != api.OK {
		return api.RankState{}, e
	}
	o := office{rules: r, state: cloned(s)}
	if e := o.apply(x); e != api.OK {
		return api.RankState{}, e
	}
	return o.state, api.OK
}

func cloned(s api.RankState) api.RankState {
	queues := make([][]string, len(s.Queues))
	for i, queue := range s.Queues {
		queues[i] = slices.Clone(queue)
	}
	return api.RankState{Queues: queues, Taken: slices.Clone(s.Taken), At: s.At}
}

// apply carries an event out, or returns the error for which nothing is changed.
func (o *office) apply(x api.RankEvent) api.Errno {
	if e := errorOfEvent(o.rules, x); e != api.OK {
		return e
	}
	if x.At < o.state.At {
		return api.ErrOrder
	}
	if e := carrierOf(x.Kind)(o, x); e != api.OK {
		return e
	}
	o.state.At = x.At
	o.moveUp()
	return api.OK
}

// carrierOf returns what carries events of a kind out.
func carrierOf(kind int) func(*office, api.RankEvent) api.Errno {
	return [api.RankKinds]func(*office, api.RankEvent) api.Errno{
		api.RankArrive:  (*office).arrive,
		api.RankServe:   (*office).serve,
		api.RankDecline: (*office).decline,
		api.RankLeave:   (*office).leave,
		api.RankCall:    (*office).call,
		api.RankReturn:  (*office).comeBack,
	}[kind]
}

func (o *office) arrive(x api.RankEvent) api.Errno {
	_, queued := spotsOf(o.state)[x.Car]
	feeder := o.rules.Ranks[x.Rank].Feeder
	switch {
	case queued:
		return api.ErrExists
	case feeder != api.RankNone && len(o.state.Queues[feeder]) > 0:
		return api.ErrClash
	case o.isFull(x.Rank):
		return api.ErrFull
	}
	if i := o.takenAt(x.Car); i >= 0 {
		o.forget(i)
	}
	o.put(x.Rank, len(o.state.Queues[x.Rank]), x.Car)
	return api.OK
}

func (o *office) serve(x api.RankEvent) api.Errno {
	if e := o.errorOfFirst(x); e != api.OK {
		return e
	}
	if len(o.state.Taken) >= api.MaxRankCars {
		return api.ErrLarge
	}
	o.remove(x.Rank, 0, api.RankServe)
	o.state.Taken = append(o.state.Taken, api.RankTaken{Car: x.Car, Rank: x.Rank, At: x.At})
	return api.OK
}

func (o *office) decline(x api.RankEvent) api.Errno {
	if e := o.errorOfFirst(x); e != api.OK {
		return e
	}
	queue := o.state.Queues[x.Rank]
	behind := len(queue) - 1
	back := behind
	if o.rules.Back != api.RankLast {
		back = min(o.rules.Back, behind)
	}
	copy(queue, queue[1:back+1])
	queue[back] = x.Car
	o.see(api.RankDecline, x.Rank, x.Car)
	return api.OK
}

func (o *office) leave(x api.RankEvent) api.Errno {
	spot, queued := spotsOf(o.state)[x.Car]
	if !queued || spot.Rank != x.Rank {
		return api.ErrMissing
	}
	o.remove(x.Rank, spot.Place, api.RankLeave)
	return api.OK
}

func (o *office) call(x api.RankEvent) api.Errno {
	p := o.rules.Ranks[x.Rank]
	switch {
	case p.Feeder == api.RankNone:
		return api.ErrMissing
	case !p.Called:
		return api.ErrState
	case len(o.state.Queues[p.Feeder]) == 0:
		return api.ErrNone
	case o.isFull(x.Rank):
		return api.ErrFull
	}
	o.moveInto(x.Rank)
	return api.OK
}

// comeBack carries RankReturn out.
func (o *office) comeBack(x api.RankEvent) api.Errno {
	i := o.takenAt(x.Car)
	switch {
	case i < 0 || o.state.Taken[i].Rank != x.Rank:
		return api.ErrMissing
	case x.At-o.state.Taken[i].At > o.rules.Return:
		return api.ErrLate
	case o.isFull(x.Rank):
		return api.ErrFull
	}
	o.forget(i)
	o.put(x.Rank, 0, x.Car)
	return api.OK
}

// errorOfFirst returns the error of an event that only the first car of a rank can have.
func (o *office) errorOfFirst(x api.RankEvent) api.Errno {
	queue := o.state.Queues[x.Rank]
	switch {
	case len(queue) == 0:
		return api.ErrNone
	case queue[0] != x.Car:
		return api.ErrClash
	}
	return api.OK
}

// moveUp lets cars move up, as long as one can.
func (o *office) moveUp() {
	for rank := rising(o.rules, o.state); rank != api.RankNone; rank = rising(o.rules, o.state) {
		o.moveInto(rank)
	}
}

// moveInto makes the first car of the feeder of a rank the last one of the rank.
func (o *office) moveInto(rank int) {
	feeder := o.rules.Ranks[rank].Feeder
	car := o.state.Queues[feeder][0]
	o.remove(feeder, 0, api.RankLeave)
	o.put(rank, len(o.state.Queues[rank]), car)
}

// put lets a car come to a place of a rank.
func (o *office) put(rank, place int, car string) {
	o.state.Queues[rank] = slices.Insert(o.state.Queues[rank], place, car)
	o.see(api.RankArrive, rank, car)
}

// remove lets the car at a place of a rank go, which is seen as an event of a kind.
func (o *office) remove(rank, place, kind int) {
	o.see(kind, rank, o.state.Queues[rank][place])
	o.state.Queues[rank] = slices.Delete(o.state.Queues[rank], place, place+1)
}

func (o *office) see(kind, rank int, car string) {
	o.seen = append(o.seen, api.RankSighting{Kind: kind, Rank: rank, Car: car})
}

// takenAt returns where in Taken a car is, or a number below 0.
func (o *office) takenAt(car string) int {
	return slices.IndexFunc(o.state.Taken, func(x api.RankTaken) bool { return x.Car == car })
}

func (o *office) forget(taken int) { o.state.Taken = slices.Delete(o.state.Taken, taken, taken+1) }

func (o *office) isFull(rank int) bool {
	return len(o.state.Queues[rank]) >= o.rules.Ranks[rank].Places
}
