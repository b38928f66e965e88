package timer

type deadline struct {
	id int
	at int64
}

// ahead holds ids against each other too, so that no two deadlines of a set are equal, and their order hangs on nothing else.
func (d deadline) ahead(other deadline) bool {
	if d.at != other.at {
		return d.at < other.at
	}
	return d.id < other.id
}

func (t *Timers) put(place int, d deadline) {
	t.heap[place] = d
	t.places[d.id] = place
}

// settle puts d into the heap, whose slot at place is free, where it may stand: there, above or below.
func (t *Timers) settle(place int, d deadline) {
	place = t.rise(place, d)
	place = t.sink(place, d)
	t.put(place, d)
}

// rise moves the free slot up past all that d is ahead of, and tells where it is then.
func (t *Timers) rise(place int, d deadline) int {
	for place > 0 {
		above := (place - 1) / 2
		if !d.ahead(t.heap[above]) {
			break
		}
		t.put(place, t.heap[above])
		place = above
	}
	return place
}

// sink moves the free slot down past all that are ahead of d, and tells where it is then.
func (t *Timers) sink(place int, d deadline) int {
	for {
		below := t.firstBelow(place)
		if below >= len(t.heap) || !t.heap[below].ahead(d) {
			return place
		}
		t.put(place, t.heap[below])
		place = below
	}
}

// firstBelow tells which of the two slots below place is ahead; there is none, if that lies behind the heap's end.
func (t *Timers) firstBelow(place int) int {
	left := 2*place + 1
	right := left + 1
	if right < len(t.heap) && t.heap[right].ahead(t.heap[left]) {
		return right
	}
	return left
}

// take closes the gap of what it takes out with the heap's last one.
func (t *Timers) take(place int) {
	end := len(t.heap) - 1
	last := t.heap[end]
	delete(t.places, t.heap[place].id)
	t.heap[end] = deadline{}
	t.heap = t.heap[:end]
	if place < end {
		t.settle(place, last)
	}
}
