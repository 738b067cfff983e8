package cset

// entry is a count in a queue, told by its mark: the set's common number less the count.
type entry struct {
	mark    int64
	younger *entry
}

// queue is a list of entries, the oldest and greatest count first; their marks rise. It is linked, so that putting one in never moves the others, and one that is gone isn't kept.
type queue struct {
	oldest, youngest *entry
	size             int
}

// put puts a mark to the end, where it may be already: each count is there once.
func (q *queue) put(mark int64) {
	if q.youngest != nil && q.youngest.mark == mark {
		return
	}
	e := &entry{mark: mark}
	if q.youngest == nil {
		q.oldest = e
	} else {
		q.youngest.younger = e
	}
	q.youngest = e
	q.size++
}

// drop takes the oldest entry out.
func (q *queue) drop() {
	q.oldest = q.oldest.younger
	if q.oldest == nil {
		q.youngest = nil
	}
	q.size--
}

// copied is a queue of the same marks, and of entries of its own.
func (q *queue) copied() queue {
	var own queue
	for e := q.oldest; e != nil; e = e.younger {
		own.put(e.mark)
	}
	return own
}
