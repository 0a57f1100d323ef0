package machine

import "hart/api"

// Tick is a tick; its arguments tell what is stalled in it.
func (m *Machine) Tick(fetch bool, rest bool) {
	if m.halted() {
		return
	}
	if !fetch {
		m.fetchLine()
	}
	if !rest {
		m.doWorks(m.cutWorks())
	}
}

// fetchLine fetches from where it stands in a line to the line's end, all of that or nothing.
func (m *Machine) fetchLine() {
	left := int(m.line-m.ahead%m.line) / parcelSize
	if !m.hasRoom(left) {
		return
	}
	for range left {
		m.put(uint16(m.number(m.ahead, parcelSize)))
	}
}

// cutWorks tells what is to be done in this tick: nothing, if the buffer does not begin with a whole instruction.
func (m *Machine) cutWorks() []work {
	first := m.cut(0)
	if first == nil {
		return nil
	}
	if m.fuses {
		second := m.cut(first.about().parcels)
		if second != nil && isPair(first.about(), second.about()) {
			return []work{first, second}
		}
	}
	return []work{first}
}

func (m *Machine) doWorks(works []work) {
	stored := false
	for _, w := range works {
		w.do(m)
		switch w.(type) {
		case halt:
			// It is no group, and stays in the buffer.
			return
		case store:
			stored = true
		}
		m.done++
	}
	if len(works) > 0 {
		m.note(api.Group{Pc: works[0].about().pc, Count: len(works)})
		m.clearAway(works, stored)
	}
}

// clearAway takes out of the buffer what was done; or all, if what comes next is not what was fetched, or may have been written over.
func (m *Machine) clearAway(works []work, stored bool) {
	last := works[len(works)-1].about()
	if stored || m.pc != last.next() {
		m.restart(m.pc)
		return
	}
	for _, w := range works {
		m.take(w.about().parcels)
	}
}
