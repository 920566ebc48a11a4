package pace_test

import (
	"encoding/binary"
	"math"
	"math/big"
	"math/rand"
	"reflect"
	"slices"
	"sync"
	"testing"

	"escapement/api"
	"escapement/clock"
	"escapement/guard"
	"escapement/pace"
	"escapement/sound"
)

// first are the tables of chapter 6's first example.
func first() api.Config {
	return api.Config{Nodes: 1, Slot: 1000, Gap: 500, Margin: 98}
}

// example are tables of so many nodes, of which some may be faulty, without delays and drift.
func example(nodes, faulty int) api.Config {
	return api.Config{Nodes: nodes, Faulty: faulty, Slot: 1000, Gap: 500, Margin: 98}
}

// working are tables of four nodes that work, with drift, delays, windows, ports and routes.
func working() api.Config {
	return api.Config{
		Nodes: 4, Faulty: 1, Slot: 10000, Gap: 5000, Rho: 100, Dmin: 100, Dmax: 151, Margin: 1000,
		Parts:  []api.Part{{Node: 0, Start: 500, Length: 100}, {Node: 3, Start: 0, Length: 40000}},
		Ports:  []api.Port{{Part: 0, Kind: api.Sampling, Out: true, Size: 4}, {Part: 1, Kind: api.Sampling, Size: 4}},
		Routes: []api.Route{{From: 0, To: 1}},
	}
}

// greatest are tables in which the times are as great as can be.
func greatest() api.Config {
	return api.Config{Nodes: 7, Faulty: 2, Slot: 1 << 24, Gap: 1 << 24, Rho: 200, Dmin: 1<<20 - 1000, Dmax: 1 << 20, Margin: 1 << 22}
}

// allTables are all tables of the tests that work.
func allTables() []api.Config {
	return []api.Config{first(), example(4, 1), example(7, 2), example(7, 0), working(), greatest()}
}

// someTables are tables that work, with as little room as they need, or some more.
func someTables(chance *rand.Rand) api.Config {
	more := func() int { return chance.Intn(2) * chance.Intn(1000) }
	for {
		c := api.Config{Nodes: 1 + chance.Intn(7), Rho: chance.Intn(201), Dmin: chance.Intn(2000), Slot: 20000 + chance.Intn(20000), Gap: 20000}
		c.Faulty = chance.Intn((c.Nodes-1)/3 + 1)
		c.Dmax = c.Dmin + chance.Intn(300)
		c.Margin = sound.Precision(c) + c.Dmax - c.Dmin + sound.Drift(c) + more()
		c.Slot += more()
		if sound.Check(c) == nil {
			return c
		}
	}
}

// made is a pace that there may be.
func made(t *testing.T, c api.Config, self, since, rate int, cold bool) *pace.Pace {
	t.Helper()
	p, err := pace.New(c, self, since, rate, cold)
	if err != nil || p == nil {
		t.Fatalf("P11.1: New(%v, %d, %d, %d, %v): %v, %v", c, self, since, rate, cold, p, err)
	}
	return p
}

// isErrno holds an error to be just that number, without a place.
func isErrno(t *testing.T, call string, err error, want api.Errno) {
	t.Helper()
	if code, ok := err.(api.Errno); !ok || code != want {
		t.Errorf("%s: %v, not %v", call, err, want)
	}
}

// isRefused holds New to answer ErrRange, and no pace.
func isRefused(t *testing.T, c api.Config, self, since, rate int) {
	t.Helper()
	for _, cold := range []bool{false, true} {
		p, err := pace.New(c, self, since, rate, cold)
		isErrno(t, "P11.1: New", err, api.ErrRange)
		if p != nil {
			t.Errorf("R3: New(.., %d, %d, %d, %v): a pace beside an error", self, since, rate, cold)
		}
	}
}

// isHear holds what Hear answers against what it should.
func isHear(t *testing.T, p *pace.Pace, node, real int, want bool) {
	t.Helper()
	if got := p.Hear(node, real); got != want {
		t.Errorf("P11.2: Hear(%d, %d): %v", node, real, got)
	}
}

// isTurn holds by how much the next round is later against what it should be.
func isTurn(t *testing.T, p *pace.Pace, want int) {
	t.Helper()
	if got, err := p.Turn(); err != nil || got != want {
		t.Errorf("P11.3: Turn: %d, %v, not %d", got, err, want)
	}
}

// isNext holds when the next round begins against when it should.
func isNext(t *testing.T, p *pace.Pace, want int) {
	t.Helper()
	if got, err := p.Next(); err != nil || got != want {
		t.Errorf("P11.3: Next: %d, %v, not %d", got, err, want)
	}
}

// isLost holds a pace to have no next round: it heard too few.
func isLost(t *testing.T, p *pace.Pace, want api.Errno) {
	t.Helper()
	turn, err := p.Turn()
	isErrno(t, "P11.3: Turn", err, want)
	next, err := p.Next()
	isErrno(t, "P11.3: Next", err, want)
	if turn != 0 || next != 0 {
		t.Errorf("R3: Turn %d, Next %d beside an error", turn, next)
	}
}

// due is when a node's frame is to come, by an own clock: worked out apart from the program.
func due(c api.Config, node int) int {
	at := c.Margin + (c.Dmin+c.Dmax)/2
	for range node {
		at += c.Slot
	}
	return at
}

// floor is n times a number, divided by another one above 0, rounded down, whatever the product. (Div rounds so.)
func floor(n, times, by int) int {
	product := new(big.Int).Mul(big.NewInt(int64(n)), big.NewInt(int64(times)))
	return int(product.Div(product, big.NewInt(int64(by))).Int64())
}

// coming is a frame that was heard: whose, and how far from its time.
type coming struct{ node, away int }

// worked is a second working of a pace: a list of what was heard, from which all else is worked out anew.
type worked struct {
	c                 api.Config
	self, since, rate int
	cold              bool
	came              []coming
}

// hear: as Hear.
func (w *worked) hear(node, real int) bool {
	nobody := node < 0 || node > w.c.Nodes-1
	own := node == w.self && !w.cold
	ahead := slices.ContainsFunc(w.came, func(x coming) bool { return x.node == node })
	if nobody || own || ahead {
		return false
	}
	w.came = append(w.came, coming{node, floor(real-w.since, 1000000+w.rate, 1000000) - due(w.c, node)})
	return true
}

// turn: as Turn; false: there is none. (Nobody is cut off but by being found among the least or the greatest.)
func (w *worked) turn() (int, bool) {
	var l []int
	for _, x := range w.came {
		if x.node != w.self {
			l = append(l, x.away)
		}
	}
	for !w.cold && len(l) < w.c.Nodes {
		l = append(l, 0)
	}
	if len(l) <= 2*w.c.Faulty {
		return 0, false
	}
	for range w.c.Faulty {
		least := slices.Index(l, slices.Min(l))
		l = slices.Delete(l, least, least+1)
		most := slices.Index(l, slices.Max(l))
		l = slices.Delete(l, most, most+1)
	}
	return floor(slices.Min(l)+slices.Max(l), 1, 2), true
}

// next: as Next.
func (w *worked) next(turn int) int {
	local := w.c.Nodes*w.c.Slot + w.c.Gap + turn
	return w.since - floor(-local, 1000000, 1000000+w.rate)
}

// isWorked holds a pace's Turn and Next to the second working.
func isWorked(t *testing.T, p *pace.Pace, w *worked) {
	t.Helper()
	turn, ok := w.turn()
	if !ok {
		isLost(t, p, api.ErrRange)
		return
	}
	isTurn(t, p, turn)
	isNext(t, p, w.next(turn))
}

func TestExamples(t *testing.T) {
	p := made(t, first(), 0, 7000, 0, false)
	isTurn(t, p, 0)
	isNext(t, p, 7000+1500)
	c := example(4, 1)
	for self := -1; self < 4; self++ {
		p = made(t, c, self, 100, 0, false)
		away := []int{10, 20, 90}
		for node := range c.Nodes {
			if node != max(self, 0) { // at the guardian, node 0 isn't heard
				isHear(t, p, node, 100+due(c, node)+away[0], true)
				away = away[1:]
			}
		}
		isTurn(t, p, 15)
		isNext(t, p, 100+4500+15)
	}
}

// TestTables: tables that don't work give no pace, but just what sound.Check says, whatever else is wrong.
func TestTables(t *testing.T) {
	codes := map[api.Errno]int{}
	for name, change := range map[string]func(c *api.Config){
		"no nodes":             func(c *api.Config) { c.Nodes = 0 },
		"eight nodes":          func(c *api.Config) { c.Nodes = 8 },
		"too few nodes":        func(c *api.Config) { c.Faulty = 2 },
		"a margin too narrow":  func(c *api.Config) { c.Margin = 444 + 51 + 11 - 1 },
		"a slot too short":     func(c *api.Config) { c.Slot = 2000 },
		"a gap too short":      func(c *api.Config) { c.Gap = 2000 },
		"Dmin above Dmax":      func(c *api.Config) { c.Dmin = 152 },
		"a window in the gap":  func(c *api.Config) { c.Parts[1].Length = 40001 },
		"a partition's node":   func(c *api.Config) { c.Parts[1].Node = 4 },
		"a port's partition":   func(c *api.Config) { c.Ports[1].Part = 2 },
		"a route to an out":    func(c *api.Config) { c.Routes[0].To = 0 },
		"too many partitions":  func(c *api.Config) { c.Parts = make([]api.Part, 13) },
		"all zero":             func(c *api.Config) { *c = api.Config{} },
		"a route from nowhere": func(c *api.Config) { c.Routes[0].From = 2 },
	} {
		t.Run(name, func(t *testing.T) {
			c := working()
			change(&c)
			want := sound.Check(c)
			if want == nil {
				t.Fatal("the tables work")
			}
			for _, x := range []struct {
				self, since, rate int
				cold              bool
			}{{0, 0, 0, false}, {0, 0, 0, true}, {-2, 0, 0, false}, {99, 0, 0, true}, {0, -1, 0, false}, {0, 0, 201, false}} {
				p, err := pace.New(c, x.self, x.since, x.rate, x.cold)
				if !reflect.DeepEqual(err, want) {
					t.Errorf("P11.1: New: %v, not %v", err, want)
				}
				if p != nil {
					t.Error("R3: a pace beside an error")
				}
			}
			codes[want.(*api.Fault).Code]++
		})
	}
	for _, code := range []api.Errno{api.ErrRange, api.ErrMany, api.ErrValue, api.ErrNodes, api.ErrMargin, api.ErrSlot, api.ErrGap, api.ErrWindow, api.ErrRoute} {
		if codes[code] == 0 {
			t.Errorf("no tables of %v among these", code)
		}
	}
}

// TestNew: each number at its ends, and one beyond.
func TestNew(t *testing.T) {
	for _, c := range allTables() {
		for _, cold := range []bool{false, true} {
			for self := -1; self < c.Nodes; self++ {
				made(t, c, self, 5, 0, cold)
			}
			for _, since := range []int{0, 1, 1<<50 - 1, 1 << 50} {
				for _, rate := range []int{-200, -1, 0, 1, 200} { // a clock's, whatever the tables' Rho
					made(t, c, 0, since, rate, cold)
				}
			}
		}
		for _, self := range []int{math.MinInt, -1 << 32, -3, -2, c.Nodes, c.Nodes + 1, 8, 1 << 32, math.MaxInt} {
			isRefused(t, c, self, 5, 0)
			isRefused(t, c, self, -1, 201)
		}
		for _, since := range []int{math.MinInt, -1, 1<<50 + 1, math.MaxInt} {
			isRefused(t, c, 0, since, 0)
			isRefused(t, c, -1, since, 0)
		}
		for _, rate := range []int{math.MinInt, -1000000, -201, 201, math.MaxInt} {
			isRefused(t, c, 0, 5, rate)
			isRefused(t, c, -1, 5, rate)
		}
	}
}

// TestClock: Real and Local are those of a clock of that beginning and rate, whoever's it is, and whatever was heard.
func TestClock(t *testing.T) {
	chance := rand.New(rand.NewSource(1))
	for range 2000 {
		since, rate := chance.Intn(1<<50+1), chance.Intn(401)-200
		own, err := clock.New(since, rate)
		if err != nil {
			t.Fatal(err)
		}
		c := allTables()[chance.Intn(6)]
		p := made(t, c, chance.Intn(c.Nodes+1)-1, since, rate, chance.Intn(2) == 0)
		if p.Local(since) != 0 || p.Real(0) != since {
			t.Errorf("P11.1: a round since %d: Local there %d, Real(0) %d", since, p.Local(since), p.Real(0))
		}
		for range 20 {
			away := chance.Intn(1<<chance.Intn(41)) * (chance.Intn(2)*2 - 1)
			if got, want := p.Local(since+away), own.Local(since+away); got != want {
				t.Errorf("P11.1: since %d, rate %d: Local(%d) %d, not %d", since, rate, since+away, got, want)
			}
			if got, want := p.Real(away), own.Real(away); got != want {
				t.Errorf("P11.1: since %d, rate %d: Real(%d) %d, not %d", since, rate, away, got, want)
			}
			p.Hear(chance.Intn(c.Nodes), since+away)
		}
	}
	p := made(t, first(), 0, 100, 200, false) // by hand
	if p.Local(1000100) != 1000200 || p.Local(99) != -2 || p.Real(1000200) != 1000100 || p.Real(1) != 101 {
		t.Error("P11.1: Local and Real by hand")
	}
}

// TestHear: who is heard: each node once, its own never, but of a cold one.
func TestHear(t *testing.T) {
	for _, c := range allTables() {
		for self := -1; self < c.Nodes; self++ {
			for _, cold := range []bool{false, true} {
				p := made(t, c, self, 1000, 0, cold)
				for _, node := range []int{math.MinInt, -1 << 32, -7, -2, -1, c.Nodes, c.Nodes + 1, 7, 8, 64, 1 << 32, math.MaxInt} {
					isHear(t, p, node, 1000, false)
				}
				for i := range c.Nodes {
					node := c.Nodes - 1 - i // falling: nodes needn't come by their numbers
					isHear(t, p, node, 1000, node != self || cold)
					isHear(t, p, node, 1000, false)
					isHear(t, p, node, 999, false)
				}
				for node := range c.Nodes {
					isHear(t, p, node, 1000, false)
				}
			}
		}
	}
}

// TestAnyTime: a frame may come at any real time, ahead of the round too.
func TestAnyTime(t *testing.T) {
	for _, real := range []int{math.MinInt, -1 << 50, -1, 0, 1, 1 << 49, 1<<50 + 1, math.MaxInt} {
		for _, cold := range []bool{false, true} {
			p := made(t, working(), 2, 1<<50, -200, cold)
			isHear(t, p, 1, real, true)
			isHear(t, p, 1, real, false)
		}
	}
}

// TestDeviation: how far a frame is from its time, each node's, found where no other one is heard: the Turn is that.
func TestDeviation(t *testing.T) {
	delays := func(dmin, dmax int) api.Config {
		return api.Config{Nodes: 2, Slot: 5000, Gap: 5000, Dmin: dmin, Dmax: dmax, Margin: 600}
	}
	for _, x := range []struct {
		c                           api.Config
		node, since, rate, at, want int
	}{
		{first(), 0, 0, 0, 98, 0},
		{first(), 0, 0, 0, 99, 1},
		{first(), 0, 0, 0, 97, -1},
		{first(), 0, 0, 0, 0, -98},
		{first(), 0, 5000, 0, 5098, 0},
		{first(), 0, 5000, 0, 0, -5098},
		{first(), 0, 0, 0, 1000000, 999902},
		{example(7, 0), 1, 10, 0, 1110, 2},
		{example(7, 0), 6, 10, 0, 6108, 0},
		{delays(0, 1), 1, 0, 0, 5600, 0},
		{delays(0, 2), 1, 0, 0, 5600, -1},
		{delays(7, 7), 0, 0, 0, 607, 0},
		{delays(7, 9), 0, 0, 0, 607, -1},
		{delays(8, 9), 0, 0, 0, 608, 0},
		{delays(100, 177), 1, 0, 0, 5738, 0},
		{delays(100, 177), 0, 0, 0, 5738, 5000},
		{example(7, 0), 5, 0, 200, 4999, 4999 - 5098}, // by a clock that goes too fast
		{example(7, 0), 5, 0, 200, 5000, 5001 - 5098},
		{example(7, 0), 5, 0, 200, 5098, 1},
		{example(7, 0), 5, 0, -200, 5098, -2}, // by one that goes too slow
		{example(7, 0), 5, 0, -200, 5099, -1},
		{example(7, 0), 5, 9000, 200, 8999, -2 - 5098}, // ahead of the round
		{example(7, 0), 5, 9000, -200, 8999, -1 - 5098},
	} {
		p := made(t, x.c, -1, x.since, x.rate, true)
		isLost(t, p, api.ErrRange)
		isHear(t, p, x.node, x.at, true)
		isTurn(t, p, x.want)
	}
}

// heard is a pace at the rate 0, since 0, that heard nodes so far from their times.
func heard(t *testing.T, c api.Config, self int, cold bool, came ...coming) *pace.Pace {
	t.Helper()
	p := made(t, c, self, 0, 0, cold)
	for _, x := range came {
		isHear(t, p, x.node, due(c, x.node)+x.away, true)
	}
	return p
}

// TestTurn: one that isn't cold, by hand: of those that weren't heard, and of itself, 0.
func TestTurn(t *testing.T) {
	for _, x := range []struct {
		c    api.Config
		self int
		came []coming
		want int
	}{
		{first(), 0, nil, 0},
		{first(), -1, nil, 0},
		{first(), -1, []coming{{0, 40}}, 40}, // the guardian is no node: it has no deviation of its own
		{first(), -1, []coming{{0, -40}}, -40},
		{example(2, 0), 0, []coming{{1, 40}}, 20},
		{example(2, 0), 0, []coming{{1, -41}}, -21}, // rounded down
		{example(2, 0), 1, []coming{{0, 41}}, 20},
		{example(2, 0), 1, nil, 0},
		{example(2, 0), -1, []coming{{0, 40}, {1, 50}}, 45},
		{example(2, 0), -1, []coming{{0, 40}}, 20},
		{example(3, 0), 0, []coming{{1, 40}, {2, 50}}, 25},
		{example(3, 0), 0, []coming{{2, 50}}, 25},
		{example(4, 1), 0, []coming{{1, 10}, {2, 20}, {3, 90}}, 15},
		{example(4, 1), 3, []coming{{0, 90}, {1, 20}, {2, 10}}, 15},
		{example(4, 1), 0, []coming{{1, -10}, {2, -20}, {3, -90}}, -15},
		{example(4, 1), 0, []coming{{1, 10}, {2, 20}}, 5},
		{example(4, 1), 0, []coming{{1, 10}, {2, 21}}, 5},
		{example(4, 1), 0, []coming{{1, -10}, {2, -21}}, -5},
		{example(4, 1), 0, []coming{{1, 90}}, 0},
		{example(4, 1), 2, []coming{{1, -10}, {3, 11}}, 0},
		{example(4, 1), 2, []coming{{0, -10}, {1, -10}, {3, 11}}, -5},
		{example(4, 1), 2, []coming{{0, -10}, {1, -11}, {3, -10}}, -10},
		{example(4, 1), -1, []coming{{0, 5}, {1, 10}, {2, 20}, {3, 90}}, 15},
		{example(4, 1), -1, []coming{{1, 10}, {2, 20}, {3, 90}}, 15},
		{example(4, 0), 0, []coming{{1, 10}, {2, 20}, {3, 90}}, 45},
		{example(7, 2), 6, []coming{{0, 1}, {1, 2}, {2, 3}, {3, 4}, {4, 50}, {5, 60}}, 3},
		{example(7, 2), 0, []coming{{1, 1}, {2, 2}, {3, 3}, {4, 4}, {5, -50}, {6, -60}}, 1},
		{example(7, 2), 0, []coming{{1, 90}, {2, 90}, {3, 8}, {4, -9}}, 4}, // -9 0 0 0 8 90 90
		{example(7, 2), 0, []coming{{1, 90}, {2, 90}}, 0},
	} {
		p := heard(t, x.c, x.self, false, x.came...)
		isTurn(t, p, x.want)
		isTurn(t, p, x.want)
		isNext(t, p, x.c.Nodes*x.c.Slot+x.c.Gap+x.want)
	}
}

// TestCold: a cold one, by hand: those that it heard, but itself; of at least 2 Faulty + 1.
func TestCold(t *testing.T) {
	for _, x := range []struct {
		c    api.Config
		self int
		came []coming
		want int
	}{
		{first(), -1, []coming{{0, 40}}, 40},
		{example(2, 0), 0, []coming{{1, 40}}, 40},
		{example(2, 0), 0, []coming{{1, -400}}, -400},
		{example(2, 0), 0, []coming{{0, 99}, {1, 40}}, 40}, // itself is heard, and doesn't count
		{example(2, 0), 0, []coming{{1, 40}, {0, -99}}, 40},
		{example(2, 0), -1, []coming{{0, 99}, {1, 40}}, 69},
		{example(3, 0), 0, []coming{{1, 40}, {2, 51}}, 45},
		{example(3, 0), 0, []coming{{2, 51}}, 51},
		{example(4, 1), 0, []coming{{1, 10}, {2, 20}, {3, 90}}, 20},
		{example(4, 1), 0, []coming{{1, 10}, {0, 1}, {2, 20}, {3, 90}}, 20},
		{example(4, 1), 3, []coming{{1, 700}, {2, -700}, {0, 3}}, 3},
		{example(4, 1), -1, []coming{{0, 5}, {1, 10}, {2, 20}, {3, 90}}, 15},
		{example(4, 1), -1, []coming{{0, -5}, {3, -10}, {2, -20}}, -10},
		{example(7, 2), 6, []coming{{0, 1}, {1, 2}, {2, 3}, {3, 4}, {4, 50}, {5, 60}}, 3},
		{example(7, 2), 6, []coming{{0, 1}, {1, 2}, {3, 4}, {4, 50}, {5, 60}}, 4},
		{example(7, 2), 6, []coming{{0, 10}, {1, 20}, {2, 30}, {3, 41}, {4, 50}, {5, 60}}, 35},
	} {
		p := heard(t, x.c, x.self, true, x.came...)
		isTurn(t, p, x.want)
		isNext(t, p, x.c.Nodes*x.c.Slot+x.c.Gap+x.want)
	}
	for _, x := range []struct {
		c    api.Config
		self int
		came []coming
	}{
		{first(), -1, nil},
		{first(), 0, nil},
		{first(), 0, []coming{{0, 40}}}, // itself alone
		{example(2, 0), 1, nil},
		{example(4, 1), 0, nil},
		{example(4, 1), 0, []coming{{1, 10}, {2, 20}}},
		{example(4, 1), 0, []coming{{0, 1}, {1, 10}, {2, 20}}},
		{example(4, 1), -1, []coming{{1, 10}, {2, 20}}},
		{example(7, 2), 3, []coming{{0, 1}, {1, 2}, {2, 3}, {6, 4}}},
		{example(7, 2), 3, []coming{{0, 1}, {1, 2}, {2, 3}, {3, 3}, {6, 4}}},
	} {
		isLost(t, heard(t, x.c, x.self, true, x.came...), api.ErrRange)
	}
}

// TestWarm: the same frames, heard by a cold one and by one that isn't: one alone takes the others for being in time.
func TestWarm(t *testing.T) {
	c := example(4, 1)
	came := []coming{{1, 30}, {2, 30}, {3, 30}}
	isTurn(t, heard(t, c, 0, false, came...), 30)
	isTurn(t, heard(t, c, 0, true, came...), 30)
	isTurn(t, heard(t, c, -1, false, came...), 30)
	came = came[:2]
	isTurn(t, heard(t, c, 0, false, came...), 15)
	isLost(t, heard(t, c, 0, true, came...), api.ErrRange)
	isTurn(t, heard(t, c, 0, false), 0)
	isLost(t, heard(t, c, 0, true), api.ErrRange)
}

// TestRefused: what isn't heard changes nothing, and what is heard later counts anew.
func TestRefused(t *testing.T) {
	c := example(4, 1)
	p := heard(t, c, 0, false, coming{1, 10}, coming{2, 20})
	isTurn(t, p, 5)
	for _, node := range []int{-1, 0, 1, 2, 4, 7, 1 << 40} {
		isHear(t, p, node, 5, false)
		isHear(t, p, node, 50000, false)
		isTurn(t, p, 5)
		isNext(t, p, 4505)
	}
	isHear(t, p, 3, due(c, 3)+90, true)
	isTurn(t, p, 15)
	p = heard(t, c, 0, true, coming{1, 10}, coming{0, 11}, coming{2, 20})
	isHear(t, p, 0, 5, false)
	isLost(t, p, api.ErrRange)
	isHear(t, p, 3, due(c, 3)-5, true)
	isTurn(t, p, 10)
	isHear(t, p, 2, 5, false)
	isTurn(t, p, 10)
}

// TestNext: by clocks that go too fast or too slow, by hand.
func TestNext(t *testing.T) {
	million := api.Config{Nodes: 1, Slot: 900000, Gap: 100000, Rho: 200, Margin: 10000}
	for _, x := range []struct{ since, rate, away, want int }{
		{0, 0, 0, 1000000}, {0, 0, 5, 1000005}, {0, 0, -5, 999995}, {77, 0, 0, 1000077},
		{0, 200, 0, 999801}, // 1000000 / 1.0002 is 999800.04, rounded up
		{0, 200, 200, 1000000}, {0, 200, 201, 1000001}, {0, 200, 400, 1000200}, {0, 200, -1, 999800},
		{0, -200, 0, 1000201}, // 1000000 / 0.9998 is 1000200.04
		{0, -200, -200, 1000000}, {0, -200, -201, 999999}, {0, -200, -199, 1000002}, {0, -200, -1, 1000200},
		{1 << 50, 200, 200, 1<<50 + 1000000}, {1 << 50, -200, -200, 1<<50 + 1000000},
	} {
		for _, cold := range []bool{false, true} {
			p := made(t, million, -1, x.since, x.rate, cold)
			real := p.Real(10000 + x.away)
			if p.Local(real) != 10000+x.away {
				t.Fatalf("rate %d: a clock that goes too fast never shows %d", x.rate, 10000+x.away)
			}
			isHear(t, p, 0, real, true)
			isTurn(t, p, x.away)
			isNext(t, p, x.want)
		}
	}
}

// TestAny: paces of any tables, by chance, against the second working: whoever is heard, as often as it comes.
func TestAny(t *testing.T) {
	chance := rand.New(rand.NewSource(2))
	for range 20000 {
		c := someTables(chance)
		if chance.Intn(4) == 0 {
			c = allTables()[chance.Intn(6)]
		}
		w := &worked{c: c, self: chance.Intn(c.Nodes+1) - 1, since: chance.Intn(1 << chance.Intn(51)), rate: chance.Intn(401) - 200, cold: chance.Intn(2) == 0}
		p := made(t, c, w.self, w.since, w.rate, w.cold)
		for range chance.Intn(2*c.Nodes + 2) {
			node := chance.Intn(c.Nodes+2) - 1
			real := w.since + due(c, node) + chance.Intn(1<<chance.Intn(12)) - chance.Intn(1<<chance.Intn(12))
			if chance.Intn(10) == 0 {
				real = w.since + chance.Intn(1<<40) - 1<<39
			}
			isHear(t, p, node, real, w.hear(node, real))
			if chance.Intn(4) == 0 {
				isWorked(t, p, w)
			}
		}
		isWorked(t, p, w)
	}
}

// TestOrder: in whatever order the frames come, the round turns alike.
func TestOrder(t *testing.T) {
	chance := rand.New(rand.NewSource(3))
	for range 300 {
		c := someTables(chance)
		self, cold := chance.Intn(c.Nodes+1)-1, chance.Intn(2) == 0
		away := make([]int, c.Nodes)
		for i := range away {
			away[i] = chance.Intn(2*c.Margin) - c.Margin
		}
		var turns, errors []any
		for range 6 {
			p := made(t, c, self, 1000, 50, cold)
			for _, node := range chance.Perm(c.Nodes) {
				p.Hear(node, 1000+due(c, node)+away[node])
			}
			turn, err := p.Turn()
			turns, errors = append(turns, turn), append(errors, err)
		}
		for i := range turns {
			if turns[i] != turns[0] || errors[i] != errors[0] {
				t.Errorf("P11.3: %v: Turns %v, %v", c, turns, errors)
			}
		}
	}
}

// line is nodes and a guardian on a line (the guardian's place is the last one), for TestTogether.
type line struct {
	c      api.Config
	chance *rand.Rand
	since  []int
}

// rate is a clock's, as far off as it may be, more often than not.
func (l *line) rate() int {
	if l.chance.Intn(3) == 0 {
		return l.chance.Intn(2*l.c.Rho+1) - l.c.Rho
	}
	return l.c.Rho * (l.chance.Intn(2)*2 - 1)
}

// delay is how long bytes go, as short or as long as may be, more often than not.
func (l *line) delay() int {
	if l.chance.Intn(3) == 0 {
		return l.c.Dmin + l.chance.Intn(l.c.Dmax-l.c.Dmin+1)
	}
	return []int{l.c.Dmin, l.c.Dmax}[l.chance.Intn(2)]
}

// faults is what up to Faulty nodes do wrong: false: the node is silent; true: it sends at a wrong time. One may be cold.
func (l *line) faults() (wrong map[int]bool, cold int) {
	wrong, cold = map[int]bool{}, -1
	order := l.chance.Perm(l.c.Nodes)
	for _, node := range order[:l.chance.Intn(l.c.Faulty+1)] {
		if cold < 0 && l.chance.Intn(4) == 0 {
			cold = node
			continue
		}
		wrong[node] = l.chance.Intn(3) > 0
	}
	return wrong, cold
}

// round plays a round: who sends in time passes the guardian, and comes to all; the rounds' next beginnings are kept.
func (l *line) round(t *testing.T) {
	t.Helper()
	wrong, cold := l.faults()
	if cold >= 0 {
		l.since[cold] = l.since[l.c.Nodes]
	}
	paces := make([]*pace.Pace, l.c.Nodes+1)
	for i := range paces {
		paces[i] = made(t, l.c, []int{i, -1}[i/l.c.Nodes], l.since[i], l.rate(), i == cold)
	}
	guardian, _ := guard.New(l.c)
	for node := range l.c.Nodes {
		shifts, faulty := wrong[node]
		if node == cold || faulty && !shifts {
			continue
		}
		shift := 0
		if faulty {
			shift = l.chance.Intn(2*l.c.Margin+1) - l.c.Margin
		}
		sent := paces[node].Real(sound.Send(l.c, node) + shift)
		came := sent + l.delay()
		if guardian.Come(node, paces[l.c.Nodes].Local(came)) != guard.Pass {
			if !faulty {
				t.Errorf("P4: %v: node %d's frame doesn't pass", l.c, node)
			}
			continue
		}
		for i, p := range paces {
			if i != l.c.Nodes {
				p.Hear(node, sent+l.delay())
			} else {
				p.Hear(node, came)
			}
		}
	}
	for i, p := range paces {
		next, err := p.Next()
		if err != nil {
			t.Fatalf("P11.3: %v: place %d: %v", l.c, i, err)
		}
		l.since[i] = next
	}
}

// TestTogether: what paces are for (P3): round by round the rounds begin within the precision of one another, though some nodes are silent, lie or come back.
func TestTogether(t *testing.T) {
	chance := rand.New(rand.NewSource(4))
	for range 300 {
		l := &line{c: someTables(chance), chance: chance}
		within := sound.Precision(l.c)
		for range l.c.Nodes + 1 {
			l.since = append(l.since, 100000+chance.Intn(2)*(within/2))
		}
		for round := range 50 {
			l.round(t)
			if apart := slices.Max(l.since) - slices.Min(l.since); apart > within {
				t.Errorf("P3: %v: behind round %d: %v: %d apart, not within %d", l.c, round, l.since, apart, within)
			}
		}
	}
}

// TestNil: a nil pace shows nothing, hears nobody and has no next round.
func TestNil(t *testing.T) {
	var p *pace.Pace
	for range 2 {
		for _, x := range []int{math.MinInt, -1, 0, 1, 6, 7, 1000000, math.MaxInt} {
			if p.Real(x) != 0 || p.Local(x) != 0 {
				t.Errorf("R7: a nil pace: Real(%d) %d, Local %d", x, p.Real(x), p.Local(x))
			}
			isHear(t, p, x, x, false)
			isHear(t, p, 0, x, false)
		}
		isLost(t, p, api.ErrNil)
	}
}

// TestZero: a pace that New didn't make has no nodes.
func TestZero(t *testing.T) {
	p := new(pace.Pace)
	for _, x := range []int{math.MinInt, -1, 0, 1, 6, 7, math.MaxInt} {
		if p.Real(x) != 0 || p.Local(x) != 0 {
			t.Errorf("P1: a zero pace: Real(%d) %d, Local %d", x, p.Real(x), p.Local(x))
		}
		isHear(t, p, x, x, false)
	}
	isLost(t, p, api.ErrRange)
}

// TestKept: tables are not changed, and what is changed in them later is nothing to the pace.
func TestKept(t *testing.T) {
	c := working()
	kept := c
	kept.Parts, kept.Ports, kept.Routes = slices.Clone(c.Parts), slices.Clone(c.Ports), slices.Clone(c.Routes)
	p := made(t, c, 0, 0, 0, false)
	isHear(t, p, 1, 11125+10, true)
	isHear(t, p, 2, 21125+20, true)
	isTurn(t, p, 5)
	isNext(t, p, 45005)
	if !reflect.DeepEqual(c, kept) {
		t.Error("R6: tables are changed")
	}
	c.Nodes, c.Faulty, c.Slot, c.Gap, c.Dmin, c.Dmax, c.Margin = 1, 0, 2, 3, 4, 5, 6
	c.Parts[0].Node, c.Ports[0].Part, c.Routes[0].To = 9, 9, 9
	isHear(t, p, 3, 31125+90, true)
	isTurn(t, p, 15)
	isNext(t, p, 45015)
}

// TestApart: what a pace answers hangs on no other one, and on nothing that it was asked ahead.
func TestApart(t *testing.T) {
	one, two := made(t, example(4, 0), 0, 0, 0, false), made(t, example(4, 0), 0, 0, 0, false)
	if one == two {
		t.Fatal("R6: New answers one pace twice")
	}
	isHear(t, one, 1, 1098+40, true)
	isTurn(t, one, 20)
	isTurn(t, two, 0)
	isHear(t, two, 1, 1098-40, true)
	for range 3 {
		isTurn(t, one, 20)
		isNext(t, one, 4520)
		isTurn(t, two, -20)
		isNext(t, two, 4480)
	}
}

// TestAtOnce: a pace in which all was heard is asked by many at once, and is only read; others have their own.
func TestAtOnce(t *testing.T) {
	c := example(4, 1)
	p := heard(t, c, 0, false, coming{1, 10}, coming{2, 20}, coming{3, 90})
	var all sync.WaitGroup
	for who := range 8 {
		all.Go(func() {
			for i := range 500 {
				isTurn(t, p, 15)
				isNext(t, p, 4515)
				own, err := pace.New(c, who%4, i, 0, false)
				if err != nil || own.Local(i+who) != who || p.Local(who) != who {
					t.Errorf("R8: %v, Local %d", err, own.Local(i+who))
				}
			}
		})
	}
	all.Wait()
}

// odd is a number at which sums and products wrap, or a small one.
func odd(chance *rand.Rand) int {
	ends := []int{math.MinInt, math.MinInt + 1, -1 << 62, -1 << 32, -1, 0, 1, 7, 8, 1 << 32, 1 << 50, 1 << 62, math.MaxInt - 1, math.MaxInt}
	if n := chance.Intn(len(ends) + 3); n < len(ends) {
		return ends[n]
	}
	return chance.Intn(100) - 50
}

// TestWild: all tables and all numbers are answered; there is a pace just where all is in its range.
func TestWild(t *testing.T) {
	chance := rand.New(rand.NewSource(5))
	for range 20000 {
		c := api.Config{Nodes: odd(chance), Faulty: odd(chance), Slot: odd(chance), Gap: odd(chance), Rho: odd(chance), Dmin: odd(chance), Dmax: odd(chance), Margin: odd(chance)}
		if chance.Intn(2) == 0 {
			c.Parts = []api.Part{{Node: odd(chance), Start: odd(chance), Length: odd(chance)}}
			c.Ports = []api.Port{{Part: odd(chance), Kind: api.PortKind(odd(chance)), Size: odd(chance)}}
			c.Routes = []api.Route{{From: odd(chance), To: odd(chance)}}
		}
		if chance.Intn(2) == 0 {
			c = allTables()[chance.Intn(6)]
		}
		self, since, rate := odd(chance), odd(chance), odd(chance)
		allowed := sound.Check(c) == nil && self >= -1 && self < c.Nodes && since >= 0 && since <= 1<<50 && rate >= -200 && rate <= 200
		p, err := pace.New(c, self, since, rate, chance.Intn(2) == 0)
		if (err == nil) != allowed || (p != nil) != allowed {
			t.Errorf("P11.1: New(%v, %d, %d, %d): %v, %v", c, self, since, rate, p, err)
		}
		for range 10 {
			p.Hear(chance.Intn(9)-1, odd(chance))
			p.Real(odd(chance))
			p.Local(odd(chance))
			turn, err := p.Turn()
			if next, again := p.Next(); err != again || err != nil && (turn != 0 || next != 0) {
				t.Errorf("P11.3: Turn %d, %v, Next %d, %v", turn, err, next, again)
			}
		}
	}
}

// FuzzPace: each three bytes are a node, and how far from its time its frame comes.
func FuzzPace(f *testing.F) {
	f.Add([]byte{1, 0, 10, 2, 0, 20, 3, 0, 90}, int8(0), 0, false)
	f.Add([]byte{0, 255, 255, 0, 0, 1, 1, 127, 255, 2, 128, 0}, int8(0), -200, true)
	f.Add([]byte{4, 0, 0, 255, 0, 0}, int8(-1), 200, true)
	f.Fuzz(func(t *testing.T, steps []byte, who int8, rate int, cold bool) {
		c, self := working(), int(who)
		if self < -1 || self > 3 || rate < -200 || rate > 200 {
			isRefused(t, c, self, 1<<20, rate)
			return
		}
		p, w := made(t, c, self, 1<<20, rate, cold), &worked{c: c, self: self, since: 1 << 20, rate: rate, cold: cold}
		for ; len(steps) >= 3; steps = steps[3:] {
			node := int(int8(steps[0]))
			real := w.since + due(c, node) + int(int16(binary.BigEndian.Uint16(steps[1:])))
			isHear(t, p, node, real, w.hear(node, real))
			isWorked(t, p, w)
		}
	})
}
