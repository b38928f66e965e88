package policy

import (
	"slices"

	"weft/api"
)

// axes is how many of the fields have marks: all but the state, which comes last.
const axes = onState

// greatest is the last number that a field can have.
var greatest = [axes]int{
	onSrc:     1<<32 - 1,
	onDst:     1<<32 - 1,
	onProto:   255,
	onSrcPort: 65535,
	onDstPort: 65535,
}

// A grid is the marks of each field: the lowest packets of all cells. Within a cell all packets of one way and state are judged alike, so these stand for all.
type grid [axes][]int

func (r *Rules) grid() grid {
	var g grid
	for on := range g {
		g[on] = r.marks(on)
	}
	return g
}

// marks is the numbers of a field at which the answer of some condition can change, rising.
func (r *Rules) marks(on int) []int {
	list := []int{0}
	for x := range r.each {
		c := x.conditions[on]
		if c.holds == nil {
			continue
		}
		list = append(list, c.takes.low)
		if c.takes.high < greatest[on] {
			list = append(list, c.takes.high+1)
		}
	}
	if on == onProto && r.asksPorts() {
		list = append(list, api.ProtoTCP, api.ProtoTCP+1, api.ProtoUDP, api.ProtoUDP+1)
	}
	slices.Sort(list)
	return slices.Compact(list)
}

// asksPorts tells whether a rule has a condition on a port: then the protocol matters to it too.
func (r *Rules) asksPorts() bool {
	for x := range r.each {
		if x.conditions[onSrcPort].holds != nil || x.conditions[onDstPort].holds != nil {
			return true
		}
	}
	return false
}

func (g grid) cells() int {
	n := 1
	for _, marks := range g {
		n *= len(marks)
	}
	return n
}

// packets goes through the lowest packets of all cells, of both ways and both states.
func (g grid) packets(yield func(api.Match) bool) {
	for n := range g.cells() {
		t := g.packet(n)
		for _, out := range [...]bool{false, true} {
			for _, old := range [...]bool{false, true} {
				if !yield(api.Match{Out: out, Known: old, Tuple: t}) {
					return
				}
			}
		}
	}
}

// packet is the lowest packet of the n-th cell.
func (g grid) packet(n int) api.Tuple {
	var at [axes]int
	for on, marks := range g {
		at[on] = marks[n%len(marks)]
		n /= len(marks)
	}
	return api.Tuple{
		Src:     api.Addr(at[onSrc]),
		Dst:     api.Addr(at[onDst]),
		Proto:   byte(at[onProto]),
		SrcPort: uint16(at[onSrcPort]),
		DstPort: uint16(at[onDstPort]),
	}
}

// Dead tells the lines that never decide.
func (r *Rules) Dead() ([]int, api.Errno) {
	g := r.grid()
	if g.cells() > maxCells {
		return nil, api.ErrFull
	}
	deciding := map[int]struct{}{}
	for m := range g.packets {
		_, line := r.Judge(m)
		deciding[line] = struct{}{}
	}
	var dead []int
	for x := range r.each {
		if _, alive := deciding[x.line]; !alive && decisive(x.action) {
			dead = append(dead, x.line)
		}
	}
	return dead, api.OK
}

// Witness gives a packet that a line decides.
func (r *Rules) Witness(line int) (api.Match, api.Errno) {
	g := r.grid()
	if g.cells() > maxCells {
		return api.Match{}, api.ErrFull
	}
	for m := range g.packets {
		if _, at := r.Judge(m); at == line {
			return m, api.OK
		}
	}
	return api.Match{}, api.ErrNone
}
