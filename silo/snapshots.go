package silo

import (
	"slices"

	"silo/api"
)

// snapshot: the number by which it is asked, and that of the last batch ahead of it.
type snapshot struct {
	number, seq int
}

// snapshots holds those that are there.
type snapshots struct {
	snaps    []snapshot
	lastSnap int // kept when its snapshot is let go, for no number comes again
}

func (l *snapshots) isFull() bool { return len(l.snaps) >= api.MaxSnaps }

// addSnap makes a snapshot that sees at the batch number seq, and tells its number.
func (l *snapshots) addSnap(seq int) int {
	l.lastSnap++
	l.snaps = append(l.snaps, snapshot{number: l.lastSnap, seq: seq})
	return l.lastSnap
}

// dropSnap lets a snapshot go, and tells whether there was one.
func (l *snapshots) dropSnap(number int) bool {
	at, ok := l.indexSnap(number)
	if ok {
		l.snaps = slices.Delete(l.snaps, at, at+1)
	}
	return ok
}

// dropAllSnaps lets all snapshots go.
func (l *snapshots) dropAllSnaps() { l.snaps = nil }

// snapSeq tells the batch number at which a snapshot sees.
func (l *snapshots) snapSeq(number int) (int, bool) {
	at, ok := l.indexSnap(number)
	if !ok {
		return 0, false
	}
	return l.snaps[at].seq, true
}

// snapSeqs tells the batch numbers at which the snapshots see.
func (l *snapshots) snapSeqs() []int {
	seqs := make([]int, 0, len(l.snaps))
	for _, snap := range l.snaps {
		seqs = append(seqs, snap.seq)
	}
	return seqs
}

func (l *snapshots) indexSnap(number int) (int, bool) {
	for at, snap := range l.snaps {
		if snap.number == number {
			return at, true
		}
	}
	return 0, false
}
