package frames_test

import (
	"math"
	"math/rand"
	"reflect"
	"slices"
	"sync"
	"testing"

	"escapement/api"
	"escapement/frames"
	"escapement/sound"
)

// far are places and times beyond all that there may be, and their neighbours.
var far = []int{math.MinInt, math.MinInt + 1, -1 << 32, -1 << 31, -256, -2, -1, 1 << 28, 1<<28 + 1, 1 << 31, 1 << 32, 1<<32 + 10, math.MaxInt - 1, math.MaxInt}

// strangers are numbers that are no nodes of tables of seven nodes or fewer.
var strangers = []int{math.MinInt, math.MinInt + 1, -1 << 32, -256, -8, -2, -1, 7, 8, 255, 256, 1 << 32, 1<<32 + 1, math.MaxInt - 1, math.MaxInt}

// tables are some of so many nodes, with windows: node, start, length. A slot is 1000 long, the gap 500.
func tables(nodes int, l ...[3]int) api.Config {
	c := api.Config{Nodes: nodes, Slot: 1000, Gap: 500, Margin: 98}
	for _, w := range l {
		c.Parts = append(c.Parts, api.Part{Node: w[0], Start: w[1], Length: w[2]})
	}
	return c
}

// works are such tables; they must work.
func works(t testing.TB, nodes int, l ...[3]int) api.Config {
	t.Helper()
	c := tables(nodes, l...)
	mustWork(t, c)
	return c
}

// mustWork ends the test, unless the tables work.
func mustWork(t testing.TB, c api.Config) {
	t.Helper()
	if err := sound.Check(c); err != nil {
		t.Fatalf("tables that should work don't: %v", err)
	}
}

// most are tables of all that there may be: seven long slots, twelve windows of the last node, side by side up to the gap.
func most() api.Config {
	c := api.Config{Nodes: 7, Faulty: 2, Slot: 1 << 24, Gap: 1 << 24, Rho: 200, Dmin: 1 << 20, Dmax: 1 << 20, Margin: 1 << 20}
	for i := range 12 {
		c.Parts = append(c.Parts, api.Part{Node: 6, Start: 11*1000 - 1000*i, Length: 1000})
	}
	c.Parts[0].Length = 7<<24 - 11*1000
	return c
}

// isWindows holds a node's windows to be just these.
func isWindows(t *testing.T, c api.Config, node int, want ...frames.Window) {
	t.Helper()
	if got := frames.Windows(c, node); !slices.Equal(got, want) {
		t.Errorf("P17.1: Windows of node %d: %v, not %v", node, got, want)
	}
}

// isAt holds that partition to have the node at that time; -1: none has.
func isAt(t *testing.T, c api.Config, node, local, want int) {
	t.Helper()
	if got := frames.At(c, node, local); got != want {
		t.Errorf("P17.1: At of node %d, %d: %d, not %d", node, local, got, want)
	}
}

// isNext holds that time to be the next one; -1: there is none.
func isNext(t *testing.T, c api.Config, node, local, want int) {
	t.Helper()
	ok := want >= 0
	if got, found := frames.Next(c, node, local); got != max(want, 0) || found != ok {
		t.Errorf("P17.1: Next of node %d, %d: %d, %v, not %d, %v", node, local, got, found, max(want, 0), ok)
	}
}

// isIdle holds a node to be idle for so long.
func isIdle(t *testing.T, c api.Config, node, want int) {
	t.Helper()
	if got := frames.Idle(c, node); got != want {
		t.Errorf("P17.1: Idle of node %d: %d, not %d", node, got, want)
	}
}

func TestExamples(t *testing.T) {
	c := works(t, 1, [3]int{0, 10, 20}, [3]int{0, 30, 20})
	isAt(t, c, 0, 10, 0)
	isAt(t, c, 0, 30, 1)
	isAt(t, c, 0, 50, -1)
	isNext(t, c, 0, 9, 10)
	isNext(t, c, 0, 10, 30)
	isNext(t, c, 0, 50, -1)
}

// three are tables of three nodes: node 0 has windows with and without time between, whose places aren't their order; node 1 one that is all the time ahead of the gap; node 2 none.
func three(t testing.TB) api.Config {
	t.Helper()
	return works(t, 3, [3]int{0, 500, 100}, [3]int{1, 0, 3000}, [3]int{0, 100, 400}, [3]int{0, 2999, 1}, [3]int{0, 700, 1})
}

func TestWindows(t *testing.T) {
	c := three(t)
	isWindows(t, c, 0, frames.Window{2, 100, 500}, frames.Window{0, 500, 600}, frames.Window{4, 700, 701}, frames.Window{3, 2999, 3000})
	isWindows(t, c, 1, frames.Window{1, 0, 3000})
	isWindows(t, c, 2)
	isWindows(t, works(t, 1), 0)
	isWindows(t, works(t, 1, [3]int{0, 0, 1}), 0, frames.Window{0, 0, 1})
	isWindows(t, works(t, 1, [3]int{0, 999, 1}), 0, frames.Window{0, 999, 1000})
	isWindows(t, works(t, 1, [3]int{0, 1, 1}, [3]int{0, 0, 1}), 0, frames.Window{1, 0, 1}, frames.Window{0, 1, 2})
}

func TestAt(t *testing.T) {
	c := three(t)
	for _, x := range []struct{ local, want int }{
		{-1, -1}, {0, -1}, {1, -1}, {99, -1}, {100, 2}, {101, 2}, {499, 2}, {500, 0}, {501, 0}, {599, 0}, {600, -1}, {601, -1},
		{699, -1}, {700, 4}, {701, -1}, {702, -1}, {2998, -1}, {2999, 3}, {3000, -1}, {3001, -1}, {3499, -1}, {3500, -1}, {3600, -1},
	} {
		isAt(t, c, 0, x.local, x.want)
		isAt(t, c, 2, x.local, -1)
	}
	for _, local := range []int{0, 1, 1500, 2999} {
		isAt(t, c, 1, local, 1)
	}
	for _, local := range append(far, 3000, 3499) {
		for node := range 3 {
			isAt(t, c, node, local, -1)
		}
	}
}

func TestNext(t *testing.T) {
	c := three(t)
	for _, x := range []struct{ local, want int }{
		{math.MinInt, 100}, {-1, 100}, {0, 100}, {99, 100}, {100, 500}, {101, 500}, {499, 500}, {500, 600}, {501, 600}, {599, 600},
		{600, 700}, {699, 700}, {700, 701}, {701, 2999}, {702, 2999}, {2998, 2999}, {2999, 3000}, {3000, -1}, {3001, -1}, {3499, -1}, {3500, -1}, {math.MaxInt, -1},
	} {
		isNext(t, c, 0, x.local, x.want)
		isNext(t, c, 2, x.local, -1)
	}
	for _, x := range []struct{ local, want int }{
		{math.MinInt, 0}, {-2, 0}, {-1, 0}, {0, 3000}, {1, 3000}, {2999, 3000}, {3000, -1}, {3001, -1},
	} {
		isNext(t, c, 1, x.local, x.want)
	}
}

func TestIdle(t *testing.T) {
	c := three(t)
	isIdle(t, c, 0, 3500-502)
	isIdle(t, c, 1, 500)
	isIdle(t, c, 2, 3500)
	isIdle(t, works(t, 1), 0, 1500)
	isIdle(t, works(t, 1, [3]int{0, 10, 20}, [3]int{0, 30, 20}), 0, 1460)
	isIdle(t, works(t, 1, [3]int{0, 10, 1}), 0, 1499)
}

// TestMost: the longest round with the most windows.
func TestMost(t *testing.T) {
	c := most()
	mustWork(t, c)
	end := 7 << 24
	var want []frames.Window
	for i := range 11 {
		want = append(want, frames.Window{11 - i, 1000 * i, 1000 * (i + 1)})
	}
	isWindows(t, c, 6, append(want, frames.Window{0, 11000, end})...)
	isAt(t, c, 6, 10999, 1)
	isAt(t, c, 6, 11000, 0)
	isAt(t, c, 6, end-1, 0)
	isAt(t, c, 6, end, -1)
	isNext(t, c, 6, 10000, 11000)
	isNext(t, c, 6, 11000, end)
	isNext(t, c, 6, end-1, end)
	isNext(t, c, 6, end, -1)
	isIdle(t, c, 6, 1<<24)
	isIdle(t, c, 0, 1<<27)
}

// TestNoSuchNode: nobody has windows there.
func TestNoSuchNode(t *testing.T) {
	c := works(t, 1, [3]int{0, 0, 1000})
	for _, node := range append(strangers, 1, 2, 3) {
		isWindows(t, c, node)
		isAt(t, c, node, 0, -1)
		isNext(t, c, node, 0, -1)
		isNext(t, c, node, -1, -1)
		isIdle(t, c, node, 1500)
	}
}

// TestFarTimes: times that are in no round.
func TestFarTimes(t *testing.T) {
	c := works(t, 1, [3]int{0, 7, 900}, [3]int{0, 950, 3})
	for _, local := range far {
		isAt(t, c, 0, local, -1)
		if local < 0 {
			isNext(t, c, 0, local, 7)
		} else {
			isNext(t, c, 0, local, -1)
		}
	}
}

// owners are for each time of a round from 0 on the partition that has the node then, or -1, by a second working of the chapter's words: each window is painted.
func owners(c api.Config, node int) []int {
	out := slices.Repeat([]int{-1}, c.Nodes*c.Slot+c.Gap)
	for i, p := range c.Parts {
		if p.Node == node {
			for local := p.Start; local < p.Start+p.Length; local++ {
				out[local] = i
			}
		}
	}
	return out
}

// turns are the times at which a window opens or closes, rising.
func turns(c api.Config, node int) []int {
	var out []int
	for _, p := range c.Parts {
		if p.Node == node {
			out = append(out, p.Start, p.Start+p.Length)
		}
	}
	slices.Sort(out)
	return out
}

// nextOf is the first number above one, of rising ones; -1, if there is none.
func nextOf(l []int, above int) int {
	for _, n := range l {
		if n > above {
			return n
		}
	}
	return -1
}

// asWindows are a node's windows, put together from its partitions in sound's Order.
func asWindows(c api.Config, node int) []frames.Window {
	var out []frames.Window
	for _, i := range sound.Order(c, node) {
		out = append(out, frames.Window{i, c.Parts[i].Start, c.Parts[i].Start + c.Parts[i].Length})
	}
	return out
}

// isAsWorked holds all that is told of a node to be what a second working tells.
func isAsWorked(t *testing.T, c api.Config, node int) {
	t.Helper()
	isWindows(t, c, node, asWindows(c, node)...)
	own, ends, idle := owners(c, node), turns(c, node), 0
	for local, part := range own {
		isAt(t, c, node, local, part)
		isNext(t, c, node, local, nextOf(ends, local))
		if part < 0 {
			idle++
		}
	}
	isNext(t, c, node, -1, nextOf(ends, -1))
	isIdle(t, c, node, idle)
}

// isApart holds a node's windows not to meet, to be as long as the tables say, and to close ahead of the gap.
func isApart(t *testing.T, c api.Config, node int) {
	t.Helper()
	behind := 0
	for _, w := range frames.Windows(c, node) {
		if w.Open < behind {
			t.Errorf("P17.2: node %d: the window %v opens ahead of %d, where the one ahead of it closes", node, w, behind)
		}
		if w.Close <= w.Open {
			t.Errorf("P17.2: node %d: the window %v closes when it opens, or ahead of that", node, w)
		}
		behind = w.Close
	}
	if gap := c.Nodes * c.Slot; behind > gap {
		t.Errorf("P17.2: node %d: the last window closes at %d, behind the gap's beginning %d", node, behind, gap)
	}
}

// someTables are tables by chance that work, of short slots; their windows stand close together.
func someTables(chance *rand.Rand) api.Config {
	c := tables(1 + chance.Intn(3))
	c.Slot, c.Gap = 292+chance.Intn(9), 388+chance.Intn(9)
	for node := range c.Nodes {
		end := chance.Intn(20)
		for range chance.Intn(5) {
			p := api.Part{Node: node, Start: end, Length: 1 + chance.Intn(1<<chance.Intn(7))}
			end += p.Length + chance.Intn(3)*chance.Intn(9)
			if p.Start+p.Length <= c.Nodes*c.Slot && len(c.Parts) < 12 {
				c.Parts = append(c.Parts, p)
			}
		}
		if chance.Intn(3) == 0 && end < c.Nodes*c.Slot && len(c.Parts) < 12 {
			c.Parts = append(c.Parts, api.Part{Node: node, Start: end, Length: c.Nodes*c.Slot - end})
		}
	}
	chance.Shuffle(len(c.Parts), func(i, j int) { c.Parts[i], c.Parts[j] = c.Parts[j], c.Parts[i] })
	return c
}

// TestAnyTables: of tables by chance, at each time of the round, what the second working says.
func TestAnyTables(t *testing.T) {
	chance := rand.New(rand.NewSource(17))
	full, none := 0, 0
	for range 400 {
		c := someTables(chance)
		mustWork(t, c)
		for node := range c.Nodes + 1 {
			isAsWorked(t, c, node)
			isApart(t, c, node)
			switch l := frames.Windows(c, node); {
			case len(l) == 0:
				none++
			case l[len(l)-1].Close == c.Nodes*c.Slot:
				full++
			}
		}
	}
	if full < 50 || none < 50 {
		t.Errorf("%d nodes' windows close where the gap begins, %d have none: chance is badly laid", full, none)
	}
}

// TestApart: windows that meet, or go on into the gap, are of no tables that work; those that just don't are.
func TestApart(t *testing.T) {
	for _, x := range []struct {
		c  api.Config
		ok bool
	}{
		{tables(2, [3]int{0, 10, 20}, [3]int{0, 30, 20}), true},
		{tables(2, [3]int{0, 10, 21}, [3]int{0, 30, 20}), false},
		{tables(2, [3]int{0, 10, 21}, [3]int{1, 30, 20}), true},
		{tables(2, [3]int{0, 30, 20}, [3]int{0, 10, 20}), true},
		{tables(2, [3]int{0, 30, 20}, [3]int{0, 10, 21}), false},
		{tables(2, [3]int{1, 10, 20}, [3]int{1, 10, 20}), false},
		{tables(2, [3]int{1, 0, 2000}), true},
		{tables(2, [3]int{1, 0, 2001}), false},
		{tables(2, [3]int{1, 1999, 1}), true},
		{tables(2, [3]int{1, 2000, 1}), false},
	} {
		if err := sound.Check(x.c); (err == nil) != x.ok {
			t.Errorf("P17.2: the windows %v: %v", x.c.Parts, err)
		}
		if x.ok {
			isApart(t, x.c, 0)
			isApart(t, x.c, 1)
		}
	}
	for node := range 8 {
		isApart(t, most(), node)
		isApart(t, three(t), node)
	}
}

// TestNeighbours: what other nodes' partitions are like changes nothing of a node's windows, but for their places; nor does what its own do, their ports and routes.
func TestNeighbours(t *testing.T) {
	chance := rand.New(rand.NewSource(8))
	for range 300 {
		c := someTables(chance)
		for node := range c.Nodes {
			alone, places := only(c, node)
			var want []frames.Window
			for _, w := range frames.Windows(alone, node) {
				want = append(want, frames.Window{places[w.Part], w.Open, w.Close})
			}
			other := withOthers(c, chance)
			isWindows(t, other, node, want...)
			isIdle(t, other, node, frames.Idle(alone, node))
			for range 20 {
				local := chance.Intn(c.Nodes*c.Slot + c.Gap)
				part := frames.At(alone, node, local)
				if part >= 0 {
					part = places[part]
				}
				isAt(t, other, node, local, part)
				next, ok := frames.Next(alone, node, local)
				if got, found := frames.Next(other, node, local); got != next || found != ok {
					t.Errorf("P8: Next of node %d, %d: %d, %v, not %d, %v", node, local, got, found, next, ok)
				}
			}
		}
	}
}

// only are the tables with just one node's partitions, and the places that these had.
func only(c api.Config, node int) (api.Config, []int) {
	out, places := c, []int(nil)
	out.Parts = nil
	for i, p := range c.Parts {
		if p.Node == node {
			out.Parts = append(out.Parts, p)
			places = append(places, i)
		}
	}
	return out, places
}

// withOthers are the tables with other budgets, words and actions, and with ports.
func withOthers(c api.Config, chance *rand.Rand) api.Config {
	c.Parts = slices.Clone(c.Parts)
	for i := range c.Parts {
		p := &c.Parts[i]
		p.Budget, p.Words = chance.Intn(65), chance.Intn(17)
		p.Recover[chance.Intn(4)] = api.Action(chance.Intn(4))
		c.Ports = append(c.Ports, api.Port{Part: i, Kind: api.Sampling, Out: i == 0, Size: 1})
		if i > 0 {
			c.Routes = append(c.Routes, api.Route{From: 0, To: i})
		}
	}
	return c
}

// TestMemory: what is answered is new memory; what is handed in stays as it is, spare room included.
func TestMemory(t *testing.T) {
	c := three(t)
	spare := append(c.Parts, api.Part{Node: 0, Start: 800, Length: 5}, api.Part{Node: 2, Length: 3000})
	c.Parts = spare[:len(c.Parts)]
	ahead := slices.Clone(spare)
	first := frames.Windows(c, 0)
	kept := slices.Clone(first)
	full := first[:cap(first)]
	for i := range full {
		full[i] = frames.Window{9, -9, 9}
	}
	if again := frames.Windows(c, 0); !slices.Equal(again, kept) {
		t.Errorf("R6: Windows behind a change of what it answered: %v, not %v", again, kept)
	}
	frames.At(c, 0, 100)
	frames.Next(c, 0, 100)
	frames.Idle(c, 0)
	if !reflect.DeepEqual(spare, ahead) {
		t.Errorf("R6: what was handed in has changed: %v, not %v", spare, ahead)
	}
	second := frames.Windows(c, 0)
	c.Parts[2].Start = 0
	if !slices.Equal(second, kept) {
		t.Errorf("R6: Windows changes with what was handed in: %v, not %v", second, kept)
	}
	isWindows(t, c, 0, frames.Window{2, 0, 400}, frames.Window{0, 500, 600}, frames.Window{4, 700, 701}, frames.Window{3, 2999, 3000})
}

// TestEmpty: no partitions, and an empty list of them, are the same.
func TestEmpty(t *testing.T) {
	none, empty := tables(1), tables(1)
	empty.Parts = []api.Part{}
	for _, c := range []api.Config{none, empty} {
		isWindows(t, c, 0)
		isAt(t, c, 0, 0, -1)
		isNext(t, c, 0, -1, -1)
		isIdle(t, c, 0, 1500)
	}
}

// TestSame: the same question has the same answer, whoever asks at the same time.
func TestSame(t *testing.T) {
	c := three(t)
	var all sync.WaitGroup
	for range 8 {
		all.Add(1)
		go func() {
			defer all.Done()
			for local := range 800 {
				next, ok := frames.Next(c, 0, local)
				if again, found := frames.Next(c, 0, local); again != next || found != ok {
					t.Errorf("R8: Next at %d: %d, then %d", local, next, again)
				}
				isAt(t, c, 1, local, 1)
				isIdle(t, c, 2, 3500)
			}
			isWindows(t, c, 1, frames.Window{1, 0, 3000})
		}()
	}
	all.Wait()
}

// TestWild: of tables that don't work each call ends, and none panics.
func TestWild(t *testing.T) {
	numbers := append(slices.Clone(far), 0, 1, 2, 7, 10, 1000)
	chance := rand.New(rand.NewSource(1))
	pick := func() int { return numbers[chance.Intn(len(numbers))] }
	for range 3000 {
		c := api.Config{Nodes: pick(), Faulty: pick(), Slot: pick(), Gap: pick(), Rho: pick(), Dmin: pick(), Dmax: pick(), Margin: pick()}
		for range chance.Intn(40) {
			c.Parts = append(c.Parts, api.Part{Node: chance.Intn(3) - 1, Start: pick(), Length: pick(), Budget: pick(), Words: pick()})
			c.Ports = append(c.Ports, api.Port{Part: pick(), Kind: api.PortKind(pick()), Size: pick(), Depth: pick(), Fresh: pick()})
			c.Routes = append(c.Routes, api.Route{From: pick(), To: pick()})
		}
		for _, node := range []int{-1, 0, 1, pick()} {
			local := pick()
			frames.Windows(c, node)
			frames.At(c, node, local)
			frames.Next(c, node, local)
			frames.Idle(c, node)
		}
	}
	many := api.Config{Nodes: 1, Slot: 1, Parts: make([]api.Part, 100000)}
	frames.Windows(many, 0)
	frames.At(many, 0, 0)
	frames.Next(many, 0, 0)
	frames.Idle(many, 0)
}

// FuzzFrames: tables whose windows are made from bytes (node and way from the last one, length), and any time.
func FuzzFrames(f *testing.F) {
	f.Add([]byte{}, 0, 0)
	f.Add([]byte{0, 10, 20, 0, 0, 20}, 0, 10)
	f.Add([]byte{1, 0, 255, 0, 0, 255, 1, 0, 1}, 1, 255)
	f.Add([]byte{0, 255, 255, 0, 255, 255}, -1, math.MaxInt)
	f.Fuzz(func(t *testing.T, b []byte, node, local int) {
		c, ends := tables(2), [2]int{}
		for ; len(b) >= 3 && len(c.Parts) < 12; b = b[3:] {
			end := &ends[b[0]%2]
			c.Parts = append(c.Parts, api.Part{Node: int(b[0] % 2), Start: *end + int(b[1]), Length: int(b[2])})
			*end += int(b[1]) + int(b[2])
		}
		frames.Windows(c, node)
		frames.Idle(c, node)
		part := frames.At(c, node, local)
		next, ok := frames.Next(c, node, local)
		if sound.Check(c) != nil {
			return
		}
		if p := holder(c, node, local); p != part {
			t.Errorf("P17.1: At of node %d, %d: %d, not %d", node, local, part, p)
		}
		if want := nextOf(turns(c, node), local); ok != (want >= 0) || next != max(want, 0) {
			t.Errorf("P17.1: Next of node %d, %d: %d, %v, not %d", node, local, next, ok, want)
		}
		for n := range 2 {
			isAsWorked(t, c, n)
			isApart(t, c, n)
		}
	})
}

// holder is the partition that has the node at a time; -1, if none has.
func holder(c api.Config, node, local int) int {
	if own := owners(c, node); local >= 0 && local < len(own) {
		return own[local]
	}
	return -1
}
