package store

import (
	"memento/api"
	"memento/pdisk"
	"memento/slot"
	"memento/wal"
)

// slots: the sectors ahead of the areas.
const slots = 2

// area: the half of a disk that counts, and how many of its sectors have records.
type area struct {
	disk *pdisk.Disk
	at   slot.Slot
	used int
}

// chosen: the area of d that counts; of a disk that was never written, the second one, so that the first one is written first.
func chosen(d *pdisk.Disk) area {
	s, ok := slot.Choose(d)
	if !ok {
		s = slot.Slot{Area: 1}
	}
	return area{disk: d, at: s}
}

// size: how many sectors an area has.
func (a *area) size() int {
	return max(a.disk.Len()-slots, 0) / 2
}

// begin: the first sector of area k.
func (a *area) begin(k int) int {
	return slots + k*a.size()
}

// bodies: of the records that the area has.
func (a *area) bodies() [][]byte {
	from := a.begin(a.at.Area)
	l, _ := wal.Scan(a.disk, from, from+a.size(), a.at.Gen)
	return l
}

// fits tells whether records of these bodies fit behind what the area has.
func (a *area) fits(bodies [][]byte) bool {
	return wal.Need(bodies...) <= a.size()-a.used
}

// lay appends records of these bodies to area k, behind its first used sectors; how many are used then.
func (a *area) lay(k, used int, gen uint64, bodies [][]byte) (int, api.Errno) {
	from := a.begin(k)
	at, end := from+used, from+a.size()
	for _, b := range bodies {
		next, e := wal.Append(a.disk, at, end, gen, b)
		if e != api.OK {
			return 0, e
		}
		at = next
	}
	return at - from, a.disk.Flush()
}

// add: records of these bodies behind what the area has.
func (a *area) add(bodies [][]byte) api.Errno {
	used, e := a.lay(a.at.Area, a.used, a.at.Gen, bodies)
	if e == api.OK {
		a.used = used
	}
	return e
}

// anew: records of these bodies to the other area, which counts from then on.
func (a *area) anew(bodies [][]byte) api.Errno {
	if wal.Need(bodies...) > a.size() {
		return api.ErrSpace
	}
	old := a.at
	// The Count goes up ahead of the records: a gen that was begun is never used again, whatever a crash leaves of it.
	if e := slot.Set(a.disk, slot.Slot{Count: old.Count + 1, Gen: old.Gen, Area: old.Area}); e != api.OK {
		return e
	}
	now := slot.Slot{Count: old.Count + 2, Gen: old.Count + 1, Area: 1 - old.Area}
	used, e := a.lay(now.Area, 0, now.Gen, bodies)
	if e != api.OK {
		return e
	}
	if e := slot.Set(a.disk, now); e != api.OK {
		return e
	}
	a.at, a.used = now, used
	return api.OK
}

// Gen: of the records that count.
func (a *area) Gen() uint64 {
	return a.at.Gen
}

// Used: how many sectors of the area have records.
func (a *area) Used() int {
	return a.used
}
