package silo

import (
	"slices"
	"sync"

	"silo/api"
)

// waiting is a Write that is under way.
type waiting struct {
	settled []api.Pair
	synced  bool     // the journal is to be synced behind it
	done    api.Done // what it is answered, if the run ends now
}

// isWritten tells whether its batch is: it would be answered ErrCancel else.
func (w *waiting) isWritten() bool { return w.done.Err == api.OK }

// queue holds the Writes whose batches are not written, in the order in which they came. Turns come one behind the other, but at the end of a run the clients leave all at once: so it has a lock.
type queue struct {
	lock sync.Mutex
	line []*waiting
}

func (q *queue) add(w *waiting) {
	q.lock.Lock()
	defer q.lock.Unlock()
	q.line = append(q.line, w)
}

func (q *queue) isFirst(w *waiting) bool {
	q.lock.Lock()
	defer q.lock.Unlock()
	return len(q.line) > 0 && q.line[0] == w
}

// takeAll empties the queue, and tells what was in it.
func (q *queue) takeAll() []*waiting {
	q.lock.Lock()
	defer q.lock.Unlock()
	line := q.line
	q.line = nil
	return line
}

// remove takes a Write out, if it is still there.
func (q *queue) remove(w *waiting) {
	q.lock.Lock()
	defer q.lock.Unlock()
	if at := slices.Index(q.line, w); at >= 0 {
		q.line = slices.Delete(q.line, at, at+1)
	}
}
