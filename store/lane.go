package store

import (
	"lockfast/api"
	"lockfast/oid"
	"lockfast/tx"
)

// rootKey is the root's lock: no object lies at that place.
const rootKey = 0

// lane is what is kept of one: its transaction, and what of the index that has to do with it.
type lane struct {
	t     *tx.Tx
	depth int
	// logs are the chunks in which its log goes on.
	logs []int
	// unmade are the places of objects that it made no more.
	unmade []api.Place
	// freed are those of objects that it freed, in the order in which it did.
	freed []api.Place
	// committing is whether it is, and steps is how far.
	committing bool
	steps      int
}

func newLane() *lane { return &lane{t: tx.New()} }

// made is the header of an object of that name, if the lane's transaction made one.
func (l *lane) made(o api.Oid) (api.Header, bool) {
	f, ok := l.t.Made(o.At)
	if !ok || oid.Name(f.At, f.Header) != o {
		return api.Header{}, false
	}
	return f.Header, true
}
