package sound_test

import (
	"errors"
	"math"
	"math/big"
	"math/rand"
	"reflect"
	"slices"
	"sync"
	"testing"

	"escapement/api"
	"escapement/fault"
	"escapement/sound"
	"escapement/table"
)

// at is an error with a place.
func at(code api.Errno, place int) error {
	return &api.Fault{Code: code, At: place}
}

// isCheck holds what Check says of tables against what it should say.
func isCheck(t *testing.T, what string, c api.Config, want error) {
	t.Helper()
	if got := sound.Check(c); !reflect.DeepEqual(got, want) {
		t.Errorf("P6.2: %s: Check: %v, not %v", what, got, want)
	}
}

// clone is tables that share no memory with others.
func clone(c api.Config) api.Config {
	c.Parts = slices.Clone(c.Parts)
	c.Ports = slices.Clone(c.Ports)
	c.Routes = slices.Clone(c.Routes)
	return c
}

// first are the tables of the chapter's example.
func first() api.Config {
	return api.Config{Nodes: 1, Slot: 1000, Gap: 500, Margin: 98}
}

// working are tables of four nodes that work, with drift, delays, windows and routes.
func working() api.Config {
	return api.Config{
		Nodes: 4, Faulty: 1, Slot: 10000, Gap: 5000, Rho: 100, Dmin: 100, Dmax: 151, Margin: 1000,
		Parts: []api.Part{
			{Node: 0, Start: 500, Length: 100},
			{Node: 0, Start: 100, Length: 400},
			{Node: 3, Start: 39999, Length: 1},
			{Node: 1, Start: 0, Length: 40000},
			{Node: 0, Start: 600, Length: 1},
		},
		Ports: []api.Port{
			{Part: 0, Kind: api.Sampling, Out: true, Size: 4},
			{Part: 1, Kind: api.Sampling, Size: 4, Fresh: 2},
			{Part: 1, Kind: api.Queuing, Out: true, Size: 3, Depth: 1},
			{Part: 2, Kind: api.Queuing, Size: 16, Depth: 4},
			{Part: 3, Kind: api.Sampling, Size: 5},
		},
		Routes: []api.Route{{From: 0, To: 1}, {From: 2, To: 3}, {From: 0, To: 4}},
	}
}

// numbers are what P6.1 names, of one node.
type numbers struct{ round, drift, precision, mean, send int }

// numbersOf are those that the program tells.
func numbersOf(c api.Config, node int) numbers {
	return numbers{sound.Round(c), sound.Drift(c), sound.Precision(c), sound.Mean(c), sound.Send(c, node)}
}

// worked are those numbers by a second working of the chapter's words, in numbers without bounds.
func worked(c api.Config, node int) numbers {
	n := func(i int) *big.Int { return big.NewInt(int64(i)) }
	add := func(a, b *big.Int) *big.Int { return new(big.Int).Add(a, b) }
	times := func(a, b *big.Int) *big.Int { return new(big.Int).Mul(a, b) }
	round := add(times(n(c.Nodes), n(c.Slot)), n(c.Gap))
	top := add(times(times(n(2), n(c.Rho)), round), n(999999))
	drift := add(new(big.Int).Div(top, n(1000000)), n(2))
	wide := new(big.Int).Sub(n(c.Dmax), n(c.Dmin))
	precision := add(add(times(n(4), wide), times(n(16), drift)), n(64))
	mean := add(n(c.Dmin), new(big.Int).Div(wide, n(2)))
	send := add(times(n(node), n(c.Slot)), n(c.Margin))
	small := func(b *big.Int) int { return int(b.Int64()) }
	return numbers{small(round), small(drift), small(precision), small(mean), small(send)}
}

func TestExamples(t *testing.T) {
	c := first()
	if got, want := numbersOf(c, 0), (numbers{1500, 2, 96, 0, 98}); got != want {
		t.Errorf("P6.1: %v, not %v", got, want)
	}
	isCheck(t, "the first example", c, nil)
	c.Margin = 97
	isCheck(t, "Margin 97", c, at(api.ErrMargin, -1))
	c = first()
	c.Nodes, c.Faulty = 3, 1
	isCheck(t, "Nodes 3, Faulty 1", c, at(api.ErrNodes, -1))
	isCheck(t, "tables of more", working(), nil)
}

// TestNumbers: what P6.1 names, worked out by hand.
func TestNumbers(t *testing.T) {
	for _, x := range []struct {
		c    api.Config
		node int
		want numbers
	}{
		{working(), 0, numbers{45000, 11, 444, 125, 1000}},
		{working(), 3, numbers{45000, 11, 444, 125, 31000}},
		{api.Config{Nodes: 1, Slot: 1}, 0, numbers{1, 2, 96, 0, 0}},
		{api.Config{Nodes: 7, Slot: 3, Gap: 2, Margin: 5}, 6, numbers{23, 2, 96, 0, 23}},
		{api.Config{Nodes: 1, Slot: 1, Rho: 1}, 0, numbers{1, 3, 112, 0, 0}},
		{api.Config{Nodes: 1, Slot: 1, Dmin: 7, Dmax: 8}, 0, numbers{1, 2, 100, 7, 0}},
		{api.Config{Nodes: 1, Slot: 1, Dmin: 7, Dmax: 9}, 0, numbers{1, 2, 104, 8, 0}},
		{api.Config{Nodes: 1, Slot: 1, Dmin: 8, Dmax: 8}, 0, numbers{1, 2, 96, 8, 0}},
		{api.Config{Nodes: 1, Slot: 1, Dmax: 5}, 0, numbers{1, 2, 116, 2, 0}},
		{
			api.Config{Nodes: 7, Slot: 1 << 24, Gap: 1 << 24, Rho: 200, Dmax: 1 << 20, Margin: 1 << 24},
			6, numbers{1 << 27, 53690, 4<<20 + 859040 + 64, 1 << 19, 7 << 24},
		},
	} {
		if got := numbersOf(x.c, x.node); got != x.want {
			t.Errorf("P6.1: %v, node %d: %v, not %v", x.c, x.node, got, x.want)
		}
	}
}

// TestDrift: at each whole millionth it is one more, just behind it.
func TestDrift(t *testing.T) {
	for _, x := range []struct{ rho, slot, gap, want int }{
		{0, 1 << 24, 1 << 24, 2},
		{1, 1, 0, 3},
		{1, 499999, 0, 3}, {1, 500000, 0, 3}, {1, 500001, 0, 4}, {1, 1, 500000, 4},
		{1, 999999, 1, 4}, {1, 999999, 2, 5},
		{100, 4999, 0, 3}, {100, 4999, 1, 3}, {100, 5000, 1, 4},
		{200, 2499, 1, 3}, {200, 2500, 1, 4}, {200, 1, 2499, 3}, {200, 1, 2500, 4},
	} {
		c := api.Config{Nodes: 1, Slot: x.slot, Gap: x.gap, Rho: x.rho}
		if got := sound.Drift(c); got != x.want {
			t.Errorf("P6.1: Rho %d, Slot %d, Gap %d: Drift %d, not %d", x.rho, x.slot, x.gap, got, x.want)
		}
		if got, want := sound.Precision(c), 16*x.want+64; got != want {
			t.Errorf("P6.1: Rho %d, Slot %d, Gap %d: Precision %d, not %d", x.rho, x.slot, x.gap, got, want)
		}
	}
}

// TestAnyNumbers: of tables by chance, and of any node, the second working's numbers.
func TestAnyNumbers(t *testing.T) {
	chance := rand.New(rand.NewSource(1))
	for range 20000 {
		c := someTables(chance)
		for _, node := range []int{0, c.Nodes - 1, c.Nodes, -1, chance.Intn(1 << 20)} {
			if got, want := numbersOf(c, node), worked(c, node); got != want {
				t.Errorf("P6.1: %v, node %d: %v, not %v", c, node, got, want)
			}
		}
	}
}

// TestNodes: as many nodes as so many faults need, and fewer.
func TestNodes(t *testing.T) {
	for faulty := range 3 {
		for nodes := 1; nodes <= 7; nodes++ {
			c := first()
			c.Nodes, c.Faulty = nodes, faulty
			if nodes < []int{1, 4, 7}[faulty] {
				isCheck(t, "too few nodes", c, at(api.ErrNodes, -1))
			} else {
				isCheck(t, "enough nodes", c, nil)
			}
		}
	}
}

// leastOf is the least number for which a question is answered by yes; from there on it is for all that are greater.
func leastOf(from int, yes func(int) bool) int {
	for !yes(from) {
		from++
	}
	return from
}

// tight are tables in which the margin, the slot and the gap are the least that work with the others. Where clocks drift, a longer round drifts more, so they are looked for together.
func tight(nodes, faulty, rho, dmin, dmax int) api.Config {
	c := api.Config{Nodes: nodes, Faulty: faulty, Slot: 1, Rho: rho, Dmin: dmin, Dmax: dmax}
	for ahead := (api.Config{}); !reflect.DeepEqual(ahead, c); {
		ahead = clone(c)
		w := worked(c, 0)
		c.Margin = w.precision + dmax - dmin + w.drift
		c.Slot = 2*c.Margin + dmax + w.precision
		c.Gap = 2 * (c.Margin + w.precision)
	}
	return c
}

// TestTight: the least margin, slot and gap work; one less of each doesn't.
func TestTight(t *testing.T) {
	for _, nodes := range []int{1, 2, 4, 7} {
		for _, rho := range []int{0, 1, 99, 200} {
			for _, delays := range [][2]int{{0, 0}, {0, 1}, {3, 3}, {17, 1000}, {5000, 20001}, {500000, 500100}} {
				c := tight(nodes, (nodes-1)/3, rho, delays[0], delays[1])
				isCheck(t, "tight tables", c, nil)
				isTight(t, c, func(c *api.Config) *int { return &c.Margin }, api.ErrMargin)
				isTight(t, c, func(c *api.Config) *int { return &c.Slot }, api.ErrSlot)
				isTight(t, c, func(c *api.Config) *int { return &c.Gap }, api.ErrGap)
			}
		}
	}
}

// isTight holds one less of a number to be refused for that reason, and a number that is less by far too. (Of a shorter slot or gap the drift may be less, and then the margin may be less: it is made to be what the chapter asks for.)
func isTight(t *testing.T, c api.Config, of func(*api.Config) *int, code api.Errno) {
	t.Helper()
	for _, less := range []int{1, 2, 3} {
		d := clone(c)
		*of(&d) -= less
		isCheck(t, "one less of a number", d, reason(d))
		if c.Rho == 0 {
			isCheck(t, "one less of a number", d, at(code, -1))
		}
	}
	d := clone(c)
	*of(&d) = *of(&d) / 2
	isCheck(t, "half of a number", d, at(code, -1))
}

// TestBounds: for the margin, the slot and the gap the one number from which on it works, found by trying.
func TestBounds(t *testing.T) {
	for _, x := range []struct {
		what  string
		of    func(*api.Config) *int
		code  api.Errno
		least int
	}{
		{"Margin", func(c *api.Config) *int { return &c.Margin }, api.ErrMargin, 444 + 51 + 11},
		{"Slot", func(c *api.Config) *int { return &c.Slot }, api.ErrSlot, 2*1000 + 151 + (4*51 + 16*5 + 64)},
		{"Gap", func(c *api.Config) *int { return &c.Gap }, api.ErrGap, 2 * (1000 + 4*51 + 16*11 + 64)},
	} {
		c := working()
		c.Parts, c.Ports, c.Routes = nil, nil, nil
		got := leastOf(1, func(n int) bool {
			*x.of(&c) = n
			err := sound.Check(c)
			if err != nil && !errors.Is(err, x.code) {
				t.Fatalf("P6.2: %s %d: %v", x.what, n, err)
			}
			return err == nil
		})
		if got != x.least {
			t.Errorf("P6.2: the least %s is %d, not %d", x.what, got, x.least)
		}
		isCheck(t, x.what+" at its least", c, nil)
		*x.of(&c)--
		isCheck(t, x.what+" below its least", c, at(x.code, -1))
	}
}

// TestFirst: of all that is wrong the first in the chapter's order is told.
func TestFirst(t *testing.T) {
	c := api.Config{Nodes: 3, Faulty: 1, Slot: 1, Dmin: 1, Rho: 1}
	c.Parts = []api.Part{{Length: 10}, {Length: 100000}, {Length: 0}}
	c.Ports = []api.Port{{Kind: api.Sampling, Out: true}, {Kind: api.Sampling}, {Kind: 3}}
	c.Routes = []api.Route{{From: 0, To: 1}, {From: 1, To: 0}, {From: 0, To: 3}}
	steps := []struct {
		mend func()
		want error
	}{
		{func() {}, at(api.ErrRange, -1)},
		{func() { c.Dmax = 1 }, at(api.ErrRange, 2)},
		{func() { c.Parts[2].Length = 1 }, at(api.ErrValue, 2)},
		{func() { c.Ports[2].Kind = api.Sampling }, at(api.ErrRoute, 2)},
		{func() { c.Routes[2].To = 2 }, at(api.ErrNodes, -1)},
		{func() { c.Nodes = 4 }, at(api.ErrMargin, -1)},
		{func() { c.Margin = 200 }, at(api.ErrSlot, -1)},
		{func() { c.Slot = 1000 }, at(api.ErrGap, -1)},
		{func() { c.Gap = 1000 }, at(api.ErrWindow, 1)},
		{func() { c.Parts[1].Start, c.Parts[1].Length = 10, 10 }, at(api.ErrWindow, 2)},
		{func() { c.Parts[2].Start = 20 }, at(api.ErrRoute, 1)},
		{func() { c.Routes[1] = api.Route{From: 0, To: 1} }, at(api.ErrRoute, 1)},
		{func() { c.Routes[1].To = 2 }, at(api.ErrRoute, 2)},
		{func() { c.Routes = c.Routes[:2] }, nil},
	}
	for i, s := range steps {
		s.mend()
		if got := sound.Check(c); !reflect.DeepEqual(got, s.want) {
			t.Errorf("P6.2, R2: step %d: %v, not %v", i, got, s.want)
		}
	}
}

// TestTable: what table.Check refuses is refused for the same reason.
func TestTable(t *testing.T) {
	wrong := func(change func(*api.Config), want error) {
		t.Helper()
		c := working()
		change(&c)
		isCheck(t, "tables that aren't allowed", c, want)
		isCheck(t, "tables that aren't allowed", c, table.Check(c))
	}
	wrong(func(c *api.Config) { *c = api.Config{} }, at(api.ErrRange, -1))
	wrong(func(c *api.Config) { c.Nodes = 0 }, at(api.ErrRange, -1))
	wrong(func(c *api.Config) { c.Nodes = 8 }, at(api.ErrRange, -1))
	wrong(func(c *api.Config) { c.Faulty = 3 }, at(api.ErrRange, -1))
	wrong(func(c *api.Config) { c.Faulty = -1 }, at(api.ErrRange, -1))
	wrong(func(c *api.Config) { c.Slot = 1<<24 + 1 }, at(api.ErrRange, -1))
	wrong(func(c *api.Config) { c.Gap = math.MaxInt }, at(api.ErrRange, -1))
	wrong(func(c *api.Config) { c.Rho = 201 }, at(api.ErrRange, -1))
	wrong(func(c *api.Config) { c.Dmin = 152 }, at(api.ErrRange, -1))
	wrong(func(c *api.Config) { c.Margin = 1<<24 + 1 }, at(api.ErrRange, -1))
	wrong(func(c *api.Config) { c.Parts = make([]api.Part, 13) }, at(api.ErrMany, -1))
	wrong(func(c *api.Config) { c.Ports = make([]api.Port, 25) }, at(api.ErrMany, -1))
	wrong(func(c *api.Config) { c.Routes = make([]api.Route, 25) }, at(api.ErrMany, -1))
	wrong(func(c *api.Config) { c.Parts[3].Node = 4 }, at(api.ErrRange, 3))
	wrong(func(c *api.Config) { c.Parts[1].Length = 0 }, at(api.ErrRange, 1))
	wrong(func(c *api.Config) { c.Parts[2].Start = math.MaxInt }, at(api.ErrRange, 2))
	wrong(func(c *api.Config) { c.Parts[4].Recover[3] = 4 }, at(api.ErrRange, 4))
	wrong(func(c *api.Config) { c.Ports[1].Fresh = 9 }, at(api.ErrValue, 1))
	wrong(func(c *api.Config) { c.Ports[4].Part = 5 }, at(api.ErrValue, 4))
	wrong(func(c *api.Config) { c.Routes[1].To = 5 }, at(api.ErrRoute, 1))
	wrong(func(c *api.Config) { c.Routes[2].From = -1 }, at(api.ErrRoute, 2))
}

// TestMost: as much of everything as there may be works.
func TestMost(t *testing.T) {
	c := api.Config{Nodes: 7, Faulty: 2, Slot: 1 << 24, Gap: 1 << 24, Rho: 200, Dmin: 1 << 20, Dmax: 1 << 20, Margin: 1 << 20}
	for i := range 12 {
		c.Parts = append(c.Parts, api.Part{Node: 6, Start: 11*1000 - 1000*i, Length: 1000})
	}
	c.Parts[0].Length = 7<<24 - 11*1000
	for i := range 24 {
		c.Ports = append(c.Ports, api.Port{Part: i / 2, Kind: api.Queuing, Out: i == 0, Size: 16, Depth: 4})
	}
	for i := range 23 {
		c.Routes = append(c.Routes, api.Route{From: 0, To: 23 - i})
	}
	isCheck(t, "the most of all", c, nil)
	if got := sound.Order(c, 6); !slices.Equal(got, []int{11, 10, 9, 8, 7, 6, 5, 4, 3, 2, 1, 0}) {
		t.Errorf("P6.3: Order %v", got)
	}
	c.Parts[0].Length++
	isCheck(t, "a window one longer", c, at(api.ErrWindow, 0))
	c.Parts[0].Length--
	c.Routes = append(c.Routes, api.Route{From: 0, To: 1})
	isCheck(t, "a route too many", c, at(api.ErrRoute, 23))
}

// windows are tables whose partitions have these windows: node, start, length.
func windows(l ...[3]int) api.Config {
	c := first()
	c.Nodes = 2
	for _, w := range l {
		c.Parts = append(c.Parts, api.Part{Node: w[0], Start: w[1], Length: w[2]})
	}
	return c
}

// TestWindows: windows at the round's ends, side by side, over one another, at other nodes.
func TestWindows(t *testing.T) {
	type ws = [][3]int
	for _, x := range []struct {
		l     ws
		wrong int
	}{
		{ws{}, -1},
		{ws{{0, 0, 2000}}, -1},
		{ws{{0, 0, 2001}}, 0},
		{ws{{1, 1999, 1}}, -1},
		{ws{{1, 1999, 2}}, 0},
		{ws{{1, 2000, 1}}, 0},
		{ws{{0, 2200, 100}}, 0},
		{ws{{0, 1 << 28, 1 << 28}}, 0},
		{ws{{0, 0, 1}, {1, 0, 1 << 28}}, 1},
		{ws{{0, 10, 20}, {0, 30, 20}}, -1},
		{ws{{0, 30, 20}, {0, 10, 20}}, -1},
		{ws{{0, 10, 21}, {0, 30, 20}}, 1},
		{ws{{0, 30, 20}, {0, 10, 21}}, 1},
		{ws{{0, 10, 20}, {0, 29, 1}}, 1},
		{ws{{0, 10, 20}, {0, 10, 20}}, 1},
		{ws{{0, 10, 20}, {0, 10, 1}}, 1},
		{ws{{0, 10, 20}, {0, 0, 11}}, 1},
		{ws{{0, 10, 20}, {0, 0, 10}}, -1},
		{ws{{0, 10, 20}, {0, 15, 5}}, 1},
		{ws{{0, 15, 5}, {0, 10, 20}}, 1},
		{ws{{0, 10, 20}, {1, 10, 20}}, -1},
		{ws{{0, 10, 20}, {1, 10, 20}, {0, 15, 1}}, 2},
		{ws{{0, 10, 20}, {1, 40, 20}, {0, 41, 1}, {1, 59, 1}, {0, 0, 1}}, 3},
		{ws{{0, 0, 10}, {0, 10, 10}, {0, 20, 10}, {0, 5, 10}}, 3},
		{ws{{0, 0, 10}, {0, 20, 10}, {0, 10, 10}, {0, 30, 1970}}, -1},
		{ws{{0, 0, 10}, {0, 0, 10}, {0, 0, 3000}}, 1},
		{ws{{0, 0, 10}, {0, 0, 3000}, {0, 0, 10}}, 1},
	} {
		var want error
		if x.wrong >= 0 {
			want = at(api.ErrWindow, x.wrong)
		}
		isCheck(t, "windows", windows(x.l...), want)
	}
}

// routes are tables with these ports and routes.
func routes(ports []api.Port, l ...api.Route) api.Config {
	c := first()
	c.Parts = []api.Part{{Length: 1}}
	c.Ports, c.Routes = ports, l
	return c
}

// TestRoutes: routes by the ports' ways, kinds and sizes, and by where earlier ones lead.
func TestRoutes(t *testing.T) {
	for _, from := range somePorts() {
		for _, to := range somePorts() {
			var want error
			if !from.Out || to.Out || from.Kind != to.Kind || from.Size > to.Size {
				want = at(api.ErrRoute, 0)
			}
			isCheck(t, "a route", routes([]api.Port{from, to}, api.Route{From: 0, To: 1}), want)
			isCheck(t, "a route", routes([]api.Port{to, from}, api.Route{From: 1, To: 0}), want)
		}
		isCheck(t, "a route to where it comes from", routes([]api.Port{from}, api.Route{}), at(api.ErrRoute, 0))
	}
	out, in := api.Port{Kind: api.Sampling, Out: true}, api.Port{Kind: api.Sampling}
	ports := []api.Port{out, out, in, in, in}
	type rs = []api.Route
	for _, x := range []struct {
		l     rs
		wrong int
	}{
		{rs{}, -1},
		{rs{{From: 0, To: 2}, {From: 0, To: 3}, {From: 0, To: 4}}, -1},
		{rs{{From: 0, To: 2}, {From: 1, To: 3}, {From: 0, To: 4}}, -1},
		{rs{{From: 0, To: 2}, {From: 0, To: 2}}, 1},
		{rs{{From: 0, To: 2}, {From: 1, To: 2}}, 1},
		{rs{{From: 0, To: 2}, {From: 1, To: 3}, {From: 1, To: 2}}, 2},
		{rs{{From: 0, To: 4}, {From: 0, To: 3}, {From: 0, To: 2}, {From: 0, To: 3}, {From: 2, To: 3}}, 3},
		{rs{{From: 0, To: 2}, {From: 2, To: 3}, {From: 0, To: 2}}, 1},
		{rs{{From: 0, To: 1}, {From: 0, To: 2}, {From: 0, To: 2}}, 0},
	} {
		var want error
		if x.wrong >= 0 {
			want = at(api.ErrRoute, x.wrong)
		}
		isCheck(t, "routes", routes(ports, x.l...), want)
	}
}

// somePorts are lawful ports of all kinds, ways and sizes.
func somePorts() []api.Port {
	var out []api.Port
	for _, kind := range []api.PortKind{api.Sampling, api.Queuing} {
		for _, way := range []bool{false, true} {
			for size := range 17 {
				out = append(out, api.Port{Kind: kind, Out: way, Size: size, Depth: int(kind) - 1})
			}
		}
	}
	return out
}

// reason is what Check should say of tables, by a second working of the chapter's words.
func reason(c api.Config) error {
	if err := table.Check(c); err != nil {
		return err
	}
	w := worked(c, 0)
	wide := c.Dmax - c.Dmin
	if c.Nodes <= 3*c.Faulty {
		return at(api.ErrNodes, -1)
	}
	if w.precision+wide+w.drift > c.Margin {
		return at(api.ErrMargin, -1)
	}
	if 2*c.Margin+c.Dmax+w.precision > c.Slot {
		return at(api.ErrSlot, -1)
	}
	if 2*(c.Margin+w.precision) > c.Gap {
		return at(api.ErrGap, -1)
	}
	for i, p := range c.Parts {
		wrong := p.Start+p.Length > c.Nodes*c.Slot
		for _, q := range c.Parts[:i] {
			// what they have in common goes from the later beginning to the earlier end
			from, to := max(p.Start, q.Start), min(p.Start+p.Length, q.Start+q.Length)
			wrong = wrong || p.Node == q.Node && from < to
		}
		if wrong {
			return at(api.ErrWindow, i)
		}
	}
	led := map[int]int{}
	for i, r := range c.Routes {
		from, to := c.Ports[r.From], c.Ports[r.To]
		led[r.To]++
		if !(from.Out && !to.Out && from.Kind == to.Kind && from.Size <= to.Size && led[r.To] == 1) {
			return at(api.ErrRoute, i)
		}
	}
	return nil
}

// someTables are tables by chance that table.Check allows.
func someTables(chance *rand.Rand) api.Config {
	below := func(n int) int { return chance.Intn(n) >> chance.Intn(25) }
	c := api.Config{Nodes: 1 + chance.Intn(7), Faulty: chance.Intn(3), Slot: 1 + below(1<<24), Gap: below(1<<24 + 1)}
	c.Rho, c.Dmax, c.Margin = chance.Intn(201), below(1<<20+1), below(1<<24+1)
	c.Dmin = chance.Intn(c.Dmax + 1)
	return c
}

// nearTables are tables by chance that nearly work, or do: each number that stands ahead of the lists is close to its bound.
func nearTables(chance *rand.Rand) api.Config {
	faulty := chance.Intn(3)
	least := chance.Intn(200)
	c := tight(min(7, 3*faulty+1+chance.Intn(3)), faulty, chance.Intn(201), least, least+chance.Intn(50))
	c.Margin += chance.Intn(40)
	w := worked(c, 0)
	c.Slot = 2*c.Margin + c.Dmax + w.precision + chance.Intn(100)
	c.Gap = 2*(c.Margin+w.precision) + 20 + chance.Intn(200)
	for _, n := range []*int{&c.Margin, &c.Slot, &c.Gap} {
		if chance.Intn(20) == 0 {
			*n -= chance.Intn(100)
		}
	}
	if chance.Intn(20) == 0 {
		c.Nodes = max(c.Nodes-chance.Intn(3), 1)
	}
	return c
}

// withLists are tables with windows, ports and routes by chance.
func withLists(c api.Config, chance *rand.Rand) api.Config {
	end := 0
	for range chance.Intn(8) {
		p := api.Part{Node: chance.Intn(c.Nodes), Start: end + chance.Intn(3), Length: 1 + chance.Intn(100)}
		end = p.Start + p.Length
		switch chance.Intn(12) {
		case 0:
			p.Start = chance.Intn(end)
		case 1:
			p.Start = c.Nodes*c.Slot - p.Length
		case 2:
			p.Start = c.Nodes*c.Slot - p.Length + 1
		}
		c.Parts = append(c.Parts, p)
	}
	chance.Shuffle(len(c.Parts), func(i, j int) { c.Parts[i], c.Parts[j] = c.Parts[j], c.Parts[i] })
	if len(c.Parts) == 0 {
		return c
	}
	for range 1 + chance.Intn(24) {
		c.Ports = append(c.Ports, api.Port{Part: chance.Intn(len(c.Parts)), Kind: api.Sampling, Out: chance.Intn(3) == 0, Size: 7 + chance.Intn(2)})
		if p := &c.Ports[len(c.Ports)-1]; chance.Intn(4) == 0 {
			p.Kind, p.Depth = api.Queuing, 1+chance.Intn(4)
		}
	}
	for range chance.Intn(25) {
		r := api.Route{From: chance.Intn(len(c.Ports)), To: chance.Intn(len(c.Ports))}
		if d := clone(c); chance.Intn(30) > 0 { // most routes are such as may be
			d.Parts, d.Routes = []api.Part{{Length: 1}}, append(d.Routes, r)
			d.Nodes, d.Faulty, d.Slot, d.Gap, d.Rho, d.Dmin, d.Dmax, d.Margin = 1, 0, 1000, 500, 0, 0, 0, 98
			for i := range d.Ports {
				d.Ports[i].Part = 0
			}
			if reason(d) != nil {
				continue
			}
		}
		c.Routes = append(c.Routes, r)
	}
	return c
}

// TestAnyTables: of tables by chance, many of which work and many of which don't, Check says what the second working says.
func TestAnyTables(t *testing.T) {
	chance := rand.New(rand.NewSource(2))
	told := map[api.Errno]int{}
	for range 20000 {
		c := withLists(nearTables(chance), chance)
		want := reason(c)
		told[fault.Code(want)]++
		isCheck(t, "tables by chance", c, want)
	}
	for _, code := range []api.Errno{api.OK, api.ErrNodes, api.ErrMargin, api.ErrSlot, api.ErrGap, api.ErrWindow, api.ErrRoute} {
		if told[code] < 100 {
			t.Errorf("%d of 20000 tables answer %d: chance is badly laid", told[code], code)
		}
	}
}

func TestOrder(t *testing.T) {
	c := working()
	for node, want := range [][]int{{1, 0, 4}, {3}, nil, {2}, nil, nil} {
		if got := sound.Order(c, node); !slices.Equal(got, want) {
			t.Errorf("P6.3: Order of node %d: %v, not %v", node, got, want)
		}
	}
	for _, node := range []int{-1, 7, 256, math.MinInt, math.MaxInt} {
		if got := sound.Order(c, node); len(got) != 0 {
			t.Errorf("P6.3: Order of node %d: %v", node, got)
		}
	}
	c = windows([3]int{1, 5, 1}, [3]int{0, 5, 9}, [3]int{1, 5, 3}, [3]int{0, 4, 9}, [3]int{1, 5, 2}, [3]int{1, 4, 9}, [3]int{1, 1 << 28, 1}, [3]int{1, 0, 1 << 28})
	if got := sound.Order(c, 1); !slices.Equal(got, []int{7, 5, 0, 2, 4, 6}) {
		t.Errorf("P6.3: Order of windows that meet: %v", got)
	}
	if got := sound.Order(c, 0); !slices.Equal(got, []int{3, 1}) {
		t.Errorf("P6.3: Order of windows that meet: %v", got)
	}
	if got := sound.Order(first(), 0); len(got) != 0 {
		t.Errorf("P6.3: Order without partitions: %v", got)
	}
}

// TestAnyOrder: of many windows that begin at few times, each partition of the node once, by the times, then by the places.
func TestAnyOrder(t *testing.T) {
	chance := rand.New(rand.NewSource(3))
	for range 5000 {
		c := api.Config{Nodes: 3, Slot: 1}
		for range chance.Intn(13) {
			c.Parts = append(c.Parts, api.Part{Node: chance.Intn(3), Start: chance.Intn(4), Length: 1 + chance.Intn(9)})
		}
		for node := range 4 {
			var want []int
			for start := range 4 {
				for i, p := range c.Parts {
					if p.Node == node && p.Start == start {
						want = append(want, i)
					}
				}
			}
			if got := sound.Order(c, node); !slices.Equal(got, want) {
				t.Errorf("P6.3: Order of node %d of %v: %v, not %v", node, c.Parts, got, want)
			}
		}
	}
}

// ways are tables of so many partitions, with routes between them: from, to. Each partition's ports are those that the routes need.
func ways(parts int, l ...[2]int) api.Config {
	c := api.Config{Nodes: 2, Slot: 1000, Gap: 500, Margin: 98}
	for i := range parts {
		c.Parts = append(c.Parts, api.Part{Node: i % 2, Start: 10 * i, Length: 10})
	}
	for i, w := range l {
		c.Ports = append(c.Ports, api.Port{Part: w[0], Kind: api.Sampling, Out: true}, api.Port{Part: w[1], Kind: api.Sampling})
		c.Routes = append(c.Routes, api.Route{From: 2 * i, To: 2*i + 1})
	}
	return c
}

// isReach holds which partitions a partition reaches to be just those.
func isReach(t *testing.T, what string, c api.Config, part int, reached ...int) {
	t.Helper()
	want := make([]bool, len(c.Parts))
	for _, i := range reached {
		want[i] = true
	}
	if got := sound.Reach(c, part); !slices.Equal(got, want) {
		t.Errorf("P6.3: %s: Reach of %d: %v, not %v", what, part, got, want)
	}
}

func TestReach(t *testing.T) {
	c := ways(6, [2]int{0, 1}, [2]int{1, 2}, [2]int{4, 2})
	isCheck(t, "a chain", c, nil)
	isReach(t, "a chain", c, 0, 0, 1, 2)
	isReach(t, "a chain", c, 1, 1, 2)
	isReach(t, "a chain", c, 2, 2)
	isReach(t, "a chain", c, 3, 3)
	isReach(t, "a chain", c, 4, 2, 4)
	isReach(t, "a chain", c, 5, 5)
	for _, part := range []int{-1, -2, 6, 7, 12, 1 << 32, math.MinInt, math.MaxInt} {
		isReach(t, "no such partition", c, part)
	}
	c = ways(5, [2]int{3, 2}, [2]int{2, 1}, [2]int{1, 3}, [2]int{1, 0}, [2]int{4, 4})
	isCheck(t, "a ring", c, nil)
	for _, part := range []int{1, 2, 3} {
		isReach(t, "a ring", c, part, 0, 1, 2, 3)
	}
	isReach(t, "a ring", c, 0, 0)
	isReach(t, "a route to itself", c, 4, 4)
	chain := ways(12)
	for i := range 11 {
		next := ways(12, [2]int{11 - i, 10 - i}) // the routes stand against the way that messages take
		chain.Ports = append(chain.Ports, next.Ports...)
		chain.Routes = slices.Insert(chain.Routes, i/2, api.Route{From: 2 * i, To: 2*i + 1})
	}
	isCheck(t, "a long chain", chain, nil)
	isReach(t, "a long chain", chain, 11, 0, 1, 2, 3, 4, 5, 6, 7, 8, 9, 10, 11)
	isReach(t, "a long chain", chain, 5, 0, 1, 2, 3, 4, 5)
	isReach(t, "nothing", first(), 0)
}

// TestReachOfAllowed: tables that don't work, but are allowed, are told of too: few nodes, narrow margins, windows that meet, ports to which several routes lead.
func TestReachOfAllowed(t *testing.T) {
	c := ways(4, [2]int{0, 1}, [2]int{1, 2})
	c.Routes = append(c.Routes, api.Route{From: 0, To: 3})
	c.Nodes, c.Faulty, c.Slot, c.Gap, c.Margin = 2, 2, 1, 0, 0
	for i := range c.Parts {
		c.Parts[i].Start = 7
	}
	if table.Check(c) != nil || sound.Check(c) == nil {
		t.Fatal("these tables are meant to be allowed, and not to work")
	}
	isReach(t, "allowed tables", c, 0, 0, 1, 2)
	isReach(t, "allowed tables", c, 1, 1, 2)
	isReach(t, "allowed tables", c, 3, 3)
	if got := sound.Order(c, 0); !slices.Equal(got, []int{0, 2}) {
		t.Errorf("P6.3: Order of allowed tables: %v", got)
	}
	c.Ports[0].Size, c.Ports[2].Kind, c.Ports[2].Depth = 16, api.Queuing, 1
	isReach(t, "routes that don't fit", c, 0, 0, 1, 2)
}

// TestAnyReach: of routes by chance what a second working says: what is joined over any partition on the way.
func TestAnyReach(t *testing.T) {
	chance := rand.New(rand.NewSource(4))
	for range 3000 {
		n := 1 + chance.Intn(12)
		var l [][2]int
		for range chance.Intn(13) {
			l = append(l, [2]int{chance.Intn(n), chance.Intn(n)})
		}
		c := ways(n, l...)
		isCheck(t, "routes by chance", c, nil)
		var joined [12][12]bool
		for i := range n {
			joined[i][i] = true
		}
		for _, w := range l {
			joined[w[0]][w[1]] = true
		}
		for over := range n {
			for from := range n {
				for to := range n {
					joined[from][to] = joined[from][to] || joined[from][over] && joined[over][to]
				}
			}
		}
		for part := range n {
			if got := sound.Reach(c, part); !slices.Equal(got, joined[part][:n]) {
				t.Errorf("P6.3: Reach of %d over %v: %v, not %v", part, l, got, joined[part][:n])
			}
		}
	}
}

// odd is a number that may be anything.
func odd(chance *rand.Rand) int {
	l := []int{math.MinInt, math.MinInt + 1, -1 << 32, -1 << 28, -2, -1, 0, 1, 2, 7, 12, 24, 255, 1 << 24, 1 << 28, 1 << 32, math.MaxInt - 1, math.MaxInt}
	if chance.Intn(2) == 0 {
		return chance.Intn(8)
	}
	return l[chance.Intn(len(l))]
}

// TestWild: no call panics or goes on for ever, whatever the tables are.
func TestWild(t *testing.T) {
	chance := rand.New(rand.NewSource(5))
	for range 20000 {
		o := func() int { return odd(chance) }
		c := api.Config{Nodes: o(), Faulty: o(), Slot: o(), Gap: o(), Rho: o(), Dmin: o(), Dmax: o(), Margin: o()}
		for range chance.Intn(20) {
			c.Parts = append(c.Parts, api.Part{Node: o(), Start: o(), Length: o(), Budget: o(), Words: o(), Recover: [4]api.Action{api.Action(o())}})
		}
		for range chance.Intn(30) {
			c.Ports = append(c.Ports, api.Port{Part: o(), Kind: api.PortKind(o()), Out: o()%2 == 0, Size: o(), Depth: o(), Fresh: o()})
		}
		for range chance.Intn(30) {
			c.Routes = append(c.Routes, api.Route{From: o(), To: o()})
		}
		before := clone(c)
		numbersOf(c, o())
		isCheck(t, "wild tables", c, reason(c))
		part, node := o(), o()
		if got := sound.Reach(c, part); len(got) != len(c.Parts) {
			t.Errorf("P1: Reach of %d partitions: %d answers", len(c.Parts), len(got))
		}
		sound.Order(c, node)
		if !reflect.DeepEqual(c, before) {
			t.Error("R6: tables are changed")
		}
	}
}

// TestGreat: tables with very long lists, which aren't allowed, are gone over in time.
func TestGreat(t *testing.T) {
	c := ways(1)
	for i := range 200000 {
		c.Parts = append(c.Parts, api.Part{Start: i * 7919 % 200000, Length: 1})
		c.Ports = append(c.Ports, api.Port{Part: i, Out: true}, api.Port{Part: i + 1})
		c.Routes = append(c.Routes, api.Route{From: 2 * i, To: 2*i + 1})
	}
	slices.Reverse(c.Routes)
	isCheck(t, "great tables", c, at(api.ErrMany, -1))
	sound.Order(c, 0)
	sound.Reach(c, 0)
}

// roomy is a list with spare room behind it, all of which is the filler.
func roomy[T any](l []T, filler T) []T {
	out := slices.Clone(l)
	for range 5 {
		out = append(out, filler)
	}
	return out[:len(l)]
}

// stretched is tables with the spare room of their lists as a part of them.
func stretched(c api.Config) api.Config {
	c.Parts = c.Parts[:len(c.Parts)+5]
	c.Ports = c.Ports[:len(c.Ports)+5]
	c.Routes = c.Routes[:len(c.Routes)+5]
	return clone(c)
}

// TestHandedIn: tables that are handed in are not changed, their spare room included.
func TestHandedIn(t *testing.T) {
	c := working()
	c.Parts = roomy(c.Parts, api.Part{Node: 77})
	c.Ports = roomy(c.Ports, api.Port{Part: 77})
	c.Routes = roomy(c.Routes, api.Route{From: 77})
	before := stretched(c)
	numbersOf(c, 1)
	isCheck(t, "roomy tables", c, nil)
	for i := range 6 {
		sound.Order(c, i)
		sound.Reach(c, i)
	}
	if !reflect.DeepEqual(stretched(c), before) {
		t.Error("R6: tables are changed")
	}
}

// TestAnswersNew: answers share no memory, spare room included; an error that was changed is as it should be the next time.
func TestAnswersNew(t *testing.T) {
	c := working()
	for range 2 {
		order, reach := sound.Order(c, 0), sound.Reach(c, 0)
		if !slices.Equal(order, []int{1, 0, 4}) || !slices.Equal(reach, []bool{true, true, true, true, false}) {
			t.Errorf("R6: Order %v, Reach %v", order, reach)
		}
		for i := range order[:cap(order)] {
			order[:cap(order)][i] = 99
		}
		for i := range reach[:cap(reach)] {
			reach[:cap(reach)][i] = i == 4
		}
		for place, wrong := range []api.Config{{}, {Nodes: 1, Faulty: 1, Slot: 1}, windows([3]int{0, 0, 2001})} {
			codes := []api.Errno{api.ErrRange, api.ErrNodes, api.ErrWindow}
			err := sound.Check(wrong)
			f, ok := err.(*api.Fault)
			if !ok || f.Code != codes[place] || f.Cause != nil {
				t.Fatalf("R6: Check: %v", err)
			}
			f.Code, f.At, f.Cause = api.ErrBusy, 77, api.ErrFull
		}
	}
}

// TestSame: the answers depend on the arguments alone, whoever else calls.
func TestSame(t *testing.T) {
	var all sync.WaitGroup
	for seed := range int64(4) {
		all.Add(1)
		go func() {
			defer all.Done()
			chance := rand.New(rand.NewSource(seed))
			for range 300 {
				c := withLists(nearTables(chance), chance)
				isCheck(t, "R8", c, reason(c))
				isCheck(t, "R8", clone(c), sound.Check(c))
				if numbersOf(c, 1) != worked(c, 1) {
					t.Errorf("R8: %v", numbersOf(c, 1))
				}
				for i := range 3 {
					if !slices.Equal(sound.Order(c, i), sound.Order(clone(c), i)) || !slices.Equal(sound.Reach(c, i), sound.Reach(clone(c), i)) {
						t.Error("R8: Order or Reach")
					}
				}
			}
		}()
	}
	all.Wait()
}

// FuzzCheck: of any numbers Check says what the second working says.
func FuzzCheck(f *testing.F) {
	f.Add(1, 0, 1000, 500, 0, 0, 0, 98, 0, 100, 100, 100)
	f.Add(4, 1, 10000, 5000, 100, 100, 151, 1000, 10, 20, 30, 20)
	f.Add(7, 2, 1<<24, 1<<24, 200, 1<<20, 1<<20, 1<<24, 0, 7<<24, 1<<28, 1<<28)
	f.Fuzz(func(t *testing.T, nodes, faulty, slot, gap, rho, dmin, dmax, margin, start1, length1, start2, length2 int) {
		c := api.Config{Nodes: nodes, Faulty: faulty, Slot: slot, Gap: gap, Rho: rho, Dmin: dmin, Dmax: dmax, Margin: margin}
		isCheck(t, "any numbers", c, reason(c))
		c.Parts = []api.Part{{Start: start1, Length: length1}, {Start: start2, Length: length2}}
		isCheck(t, "any numbers", c, reason(c))
		if table.Check(c) == nil && numbersOf(c, 3) != worked(c, 3) {
			t.Errorf("P6.1: %v, not %v", numbersOf(c, 3), worked(c, 3))
		}
	})
}
