package guard_test

import (
	"bytes"
	"math"
	"math/rand"
	"reflect"
	"slices"
	"sync"
	"testing"

	"escapement/api"
	"escapement/guard"
	"escapement/sound"
)

// most is how many bytes' lists may wait, longest how long each may be, as the chapter writes it.
const (
	most    = 4
	longest = 16
)

// first are the tables of chapter 6's first example.
func first() api.Config {
	return api.Config{Nodes: 1, Slot: 1000, Gap: 500, Margin: 98}
}

// example are the tables of this chapter's example, with as many nodes as there may be.
func example() api.Config {
	return api.Config{Nodes: 7, Slot: 1000, Gap: 500, Margin: 98}
}

// working are tables of four nodes that work, with drift, delays, windows, ports and routes.
func working() api.Config {
	return api.Config{
		Nodes: 4, Faulty: 1, Slot: 10000, Gap: 5000, Rho: 100, Dmin: 100, Dmax: 151, Margin: 1000,
		Parts:  []api.Part{{Node: 0, Start: 500, Length: 100}, {Node: 3, Start: 0, Length: 40000}},
		Ports:  []api.Port{{Part: 0, Kind: api.Sampling, Out: true, Size: 4}, {Part: 1, Kind: api.Sampling, Size: 4}},
		Routes: []api.Route{{From: 0, To: 1}},
	}
}

// greatest are tables in which the times are as great as can be.
func greatest() api.Config {
	return api.Config{Nodes: 7, Faulty: 2, Slot: 1 << 24, Gap: 1 << 24, Rho: 200, Dmin: 1<<20 - 1000, Dmax: 1 << 20, Margin: 1 << 22}
}

// allTables are all tables of the tests that work.
func allTables() []api.Config {
	return []api.Config{first(), example(), working(), greatest()}
}

// someTables are tables that work, with as little room as they need, or some more.
func someTables(chance *rand.Rand) api.Config {
	more := func() int { return chance.Intn(2) * chance.Intn(1000) }
	for {
		c := api.Config{Nodes: 1 + chance.Intn(7), Rho: chance.Intn(201), Dmin: chance.Intn(2000), Slot: 20000 + chance.Intn(20000), Gap: 20000}
		c.Faulty = chance.Intn((c.Nodes-1)/3 + 1)
		c.Dmax = c.Dmin + chance.Intn(300)
		c.Margin = sound.Precision(c) + c.Dmax - c.Dmin + sound.Drift(c) + more()
		c.Slot = max(1, c.Slot+more())
		if sound.Check(c) == nil {
			return c
		}
	}
}

// made is the guardian of tables that work.
func made(t *testing.T, c api.Config) *guard.Guard {
	t.Helper()
	g, err := guard.New(c)
	if err != nil || g == nil {
		t.Fatalf("P9.1: New(%v): %v, %v", c, g, err)
	}
	return g
}

// isCome holds a verdict against what it should be.
func isCome(t *testing.T, g *guard.Guard, node, at int, want guard.Verdict) {
	t.Helper()
	if got := g.Come(node, at); got != want {
		t.Errorf("P9.1: Come(%d, %d): %d, not %d", node, at, got, want)
	}
}

// due is a second working of when a node's bytes are to come.
func due(c api.Config, node int) int {
	middle := c.Dmin
	for range (c.Dmax - c.Dmin) / 2 {
		middle++
	}
	for range node {
		middle += c.Slot
	}
	return middle + c.Margin
}

// lines is a second working of a guardian: the lines over which bytes passed, as bits.
type lines struct {
	tables api.Config
	passed int
}

func (l *lines) come(node, at int) guard.Verdict {
	if node < 0 || node > l.tables.Nodes-1 {
		return 5
	}
	away := float64(at) - float64(due(l.tables, node)) // so far from 0 that ints would wrap, floats are near enough
	if away < -float64(l.tables.Margin) {
		return 2
	}
	if away > float64(l.tables.Margin) {
		return 3
	}
	if l.passed>>node&1 == 1 {
		return 4
	}
	l.passed |= 1 << node
	return 1
}

func TestExamples(t *testing.T) {
	g := made(t, example())
	if got := g.Due(1); got != 1098 {
		t.Errorf("P9.1: Due(1) %d, not 1098", got)
	}
	isCome(t, g, 1, 1000, guard.Pass)
	isCome(t, g, 1, 1000, guard.Again)
	isCome(t, g, 1, 999, guard.Early)
	isCome(t, g, 1, 1197, guard.Late)
	isCome(t, g, 9, 0, guard.Wrong)
}

// TestVerdicts: the numbers of the verdicts, which are constants of a type of their own.
func TestVerdicts(t *testing.T) {
	for i, v := range []guard.Verdict{guard.Pass, guard.Early, guard.Late, guard.Again, guard.Wrong} {
		if int(v) != i+1 {
			t.Errorf("P9.1: verdict %d, not %d", v, i+1)
		}
	}
	const again = guard.Again // only a constant can be one
	if reflect.TypeOf(again) != reflect.TypeFor[guard.Verdict]() {
		t.Errorf("Ways: a verdict is of %v", reflect.TypeOf(again))
	}
}

// TestNew: tables that don't work give no guardian, but just what sound.Check says.
func TestNew(t *testing.T) {
	codes := map[api.Errno]int{}
	for name, change := range map[string]func(c *api.Config){
		"no nodes":             func(c *api.Config) { c.Nodes = 0 },
		"eight nodes":          func(c *api.Config) { c.Nodes = 8 },
		"a node below 0":       func(c *api.Config) { c.Nodes = -1 },
		"too few nodes":        func(c *api.Config) { c.Faulty = 2 },
		"no slot":              func(c *api.Config) { c.Slot = 0 },
		"a margin too narrow":  func(c *api.Config) { c.Margin = 444 + 51 + 11 - 1 },
		"a margin below 0":     func(c *api.Config) { c.Margin = -1 },
		"a slot too short":     func(c *api.Config) { c.Slot = 2000 },
		"a gap too short":      func(c *api.Config) { c.Gap = 2000 },
		"Dmin above Dmax":      func(c *api.Config) { c.Dmin = 152 },
		"a window in the gap":  func(c *api.Config) { c.Parts[1].Length = 40001 },
		"a partition's node":   func(c *api.Config) { c.Parts[1].Node = 4 },
		"a port's partition":   func(c *api.Config) { c.Ports[1].Part = 2 },
		"a route from nowhere": func(c *api.Config) { c.Routes[0].From = 2 },
		"a route to an out":    func(c *api.Config) { c.Routes[0].To = 0 },
		"too many partitions":  func(c *api.Config) { c.Parts = make([]api.Part, 13) },
		"all zero":             func(c *api.Config) { *c = api.Config{} },
	} {
		t.Run(name, func(t *testing.T) {
			c := working()
			change(&c)
			want := sound.Check(c)
			if want == nil {
				t.Fatal("the tables work")
			}
			g, err := guard.New(c)
			if !reflect.DeepEqual(err, want) {
				t.Errorf("P9.1: New: %v, not %v", err, want)
			}
			if g != nil {
				t.Error("R3: a guardian beside an error")
			}
			codes[want.(*api.Fault).Code]++
		})
	}
	for _, code := range []api.Errno{api.ErrRange, api.ErrMany, api.ErrValue, api.ErrNodes, api.ErrMargin, api.ErrSlot, api.ErrGap, api.ErrWindow, api.ErrRoute} {
		if codes[code] == 0 {
			t.Errorf("no tables of %v among these", code)
		}
	}
	for _, c := range allTables() {
		made(t, c)
	}
	c := working()
	c.Margin = 444 + 51 + 11
	made(t, c)
}

// TestDue: worked out by hand.
func TestDue(t *testing.T) {
	delays := func(dmin, dmax int) api.Config {
		return api.Config{Nodes: 2, Slot: 5000, Gap: 5000, Dmin: dmin, Dmax: dmax, Margin: 600}
	}
	for _, x := range []struct {
		c    api.Config
		want []int
	}{
		{first(), []int{98}},
		{example(), []int{98, 1098, 2098, 3098, 4098, 5098, 6098}},
		{working(), []int{1125, 11125, 21125, 31125}},
		{greatest(), []int{5242380, 22019596, 38796812, 55574028, 72351244, 89128460, 105905676}},
		{delays(0, 0), []int{600, 5600}},
		{delays(0, 1), []int{600, 5600}},
		{delays(0, 2), []int{601, 5601}},
		{delays(7, 7), []int{607, 5607}},
		{delays(7, 8), []int{607, 5607}},
		{delays(7, 9), []int{608, 5608}},
		{delays(8, 9), []int{608, 5608}},
		{delays(100, 177), []int{738, 5738}},
	} {
		g := made(t, x.c)
		for node, want := range x.want {
			if got := g.Due(node); got != want {
				t.Errorf("P9.1: %v: Due(%d) %d, not %d", x.c, node, got, want)
			}
		}
	}
}

// TestDueSend: it is Send and Mean of chapter 6, whatever number it is asked for, and whatever came.
func TestDueSend(t *testing.T) {
	chance := rand.New(rand.NewSource(1))
	tables := allTables()
	for range 200 {
		tables = append(tables, someTables(chance))
	}
	for _, c := range tables {
		g := made(t, c)
		for range 2 {
			for node := -3; node < 12; node++ {
				if got, want := g.Due(node), sound.Send(c, node)+sound.Mean(c); got != want {
					t.Errorf("P9.1: %v: Due(%d) %d, not %d", c, node, got, want)
				}
				g.Come(node, g.Due(node))
			}
		}
	}
}

// TestEdges: the first and the last time that pass, and the times beside them, of each node.
func TestEdges(t *testing.T) {
	for _, c := range allTables() {
		for node := range c.Nodes {
			from, to := due(c, node)-c.Margin, due(c, node)+c.Margin
			for _, at := range []int{from, from + 1, due(c, node) - 1, due(c, node), due(c, node) + 1, to - 1, to} {
				g := made(t, c)
				isCome(t, g, node, at, guard.Pass)
				isCome(t, g, node, at, guard.Again)
			}
			g := made(t, c)
			for range 2 { // also behind those that passed
				for _, at := range []int{math.MinInt, math.MinInt + 1, -1 << 50, -1, from - 2, from - 1} {
					isCome(t, g, node, at, guard.Early)
				}
				for _, at := range []int{to + 1, to + 2, sound.Round(c) + to, 1 << 50, math.MaxInt - 1, math.MaxInt} {
					isCome(t, g, node, at, guard.Late)
				}
				g.Come(node, from)
			}
		}
	}
}

// TestWrong: numbers that are no nodes, at all times, also those of other nodes.
func TestWrong(t *testing.T) {
	for _, c := range allTables() {
		g := made(t, c)
		for _, node := range []int{math.MinInt, -1 << 32, -8, -7, -1, c.Nodes, c.Nodes + 1, 7, 8, 9, 64, 1 << 32, math.MaxInt} {
			for _, at := range []int{math.MinInt, -1, 0, g.Due(0), g.Due(node), sound.Round(c), math.MaxInt} {
				isCome(t, g, node, at, guard.Wrong)
				isCome(t, g, node, at, guard.Wrong)
			}
		}
		for node := range c.Nodes { // and no node has passed by that
			isCome(t, g, node, g.Due(node), guard.Pass)
		}
	}
}

// TestOnce: one time alone bytes of a node pass; what didn't pass isn't counted, and no node stands in another one's way.
func TestOnce(t *testing.T) {
	for _, c := range allTables() {
		g := made(t, c)
		for i := range c.Nodes {
			node := c.Nodes - 1 - i // falling: nodes needn't come by their numbers
			from, to := g.Due(node)-c.Margin, g.Due(node)+c.Margin
			isCome(t, g, node, from-1, guard.Early)
			isCome(t, g, node, to+1, guard.Late)
			isCome(t, g, c.Nodes, from, guard.Wrong)
			isCome(t, g, node, to, guard.Pass)
			isCome(t, g, node, to, guard.Again)
			isCome(t, g, node, from, guard.Again)
			isCome(t, g, node, from-1, guard.Early)
			isCome(t, g, node, to+1, guard.Late)
			isCome(t, g, node, g.Due(node), guard.Again)
		}
		for node := range c.Nodes {
			isCome(t, g, node, g.Due(node), guard.Again)
			isCome(t, made(t, c), node, g.Due(node), guard.Pass) // another round
		}
	}
}

// TestSlots: nothing passes outside its slot: at no time may bytes of two nodes pass, and in the gap none.
func TestSlots(t *testing.T) {
	chance := rand.New(rand.NewSource(2))
	tables := []api.Config{first(), example(), working()}
	for range 100 {
		tables = append(tables, someTables(chance))
	}
	for _, c := range tables {
		for at := -1; at <= sound.Round(c); at += 1 + chance.Intn(97) {
			g := made(t, c)
			for node := range c.Nodes {
				if g.Come(node, at) == guard.Pass && at/c.Slot != node {
					t.Errorf("P9.1: %v: node %d passes at %d", c, node, at)
				}
			}
		}
	}
}

// come holds a guardian to the second working, with bytes that come by chance.
func come(t *testing.T, chance *rand.Rand, c api.Config, steps int) {
	t.Helper()
	g, l := made(t, c), &lines{tables: c}
	for range steps {
		node := chance.Intn(c.Nodes+2) - 1
		at := g.Due(node)
		switch chance.Intn(5) {
		case 0:
			at = chance.Intn(sound.Round(c))
		case 1:
			at += (chance.Intn(2)*2-1)*c.Margin + chance.Intn(5) - 2
		case 2:
			at += chance.Intn(3*c.Margin) - 3*c.Margin/2
		case 3:
			at = chance.Int() - chance.Int()
		}
		isCome(t, g, node, at, l.come(node, at))
	}
}

func TestAny(t *testing.T) {
	chance := rand.New(rand.NewSource(3))
	for range 500 {
		come(t, chance, someTables(chance), 100)
	}
	for _, c := range allTables() {
		come(t, chance, c, 5000)
	}
}

// TestNil: a nil guardian has nothing, and lets nothing pass; a nil Best has no room.
func TestNil(t *testing.T) {
	var g *guard.Guard
	var b *guard.Best
	for range 2 {
		for _, node := range []int{math.MinInt, -1, 0, 1, 6, 7, math.MaxInt} {
			if got := g.Due(node); got != 0 {
				t.Errorf("P9.1: Due(%d) of nil: %d", node, got)
			}
			for _, at := range []int{math.MinInt, 0, 98, math.MaxInt} {
				isCome(t, g, node, at, guard.Wrong)
			}
		}
		for _, data := range [][]byte{nil, {}, []byte("a"), make([]byte, 99)} {
			isPut(t, b, data, false)
		}
		isNone(t, b, first(), 1000)
	}
}

// TestZero: a guardian that New didn't make has no nodes.
func TestZero(t *testing.T) {
	g := new(guard.Guard)
	for _, node := range []int{math.MinInt, -1, 0, 1, 6, 7, math.MaxInt} {
		if got := g.Due(node); got != 0 {
			t.Errorf("P9.1: Due(%d) of no tables: %d", node, got)
		}
		isCome(t, g, node, 0, guard.Wrong)
	}
}

// TestTables: tables are not changed, and what is changed in them later is nothing to the guardian.
func TestTables(t *testing.T) {
	c := working()
	kept := c
	kept.Parts, kept.Ports, kept.Routes = slices.Clone(c.Parts), slices.Clone(c.Ports), slices.Clone(c.Routes)
	g := made(t, c)
	isCome(t, g, 3, 31125, guard.Pass)
	var b guard.Best
	isPut(t, &b, []byte("a"), true)
	isTake(t, &b, c, 40000, []byte("a"))
	if !reflect.DeepEqual(c, kept) {
		t.Error("R6: tables are changed")
	}
	c.Slot, c.Margin, c.Nodes, c.Dmin = 1, 2, 3, 4
	c.Parts[0].Node, c.Ports[0].Part, c.Routes[0].To = 9, 9, 9
	if got := g.Due(2); got != 21125 {
		t.Errorf("R8: Due(2) %d behind a change of what was handed in", got)
	}
	isCome(t, g, 3, 31125, guard.Again)
	isCome(t, g, 2, 20125, guard.Pass)
}

// isPut holds what Put answers against what it should.
func isPut(t *testing.T, b *guard.Best, data []byte, want bool) {
	t.Helper()
	if got := b.Put(data); got != want {
		t.Errorf("P9.2: Put(%x): %v", data, got)
	}
}

// isTake holds the eldest bytes to be these.
func isTake(t *testing.T, b *guard.Best, c api.Config, at int, want []byte) {
	t.Helper()
	if got, ok := b.Take(c, at); !ok || !bytes.Equal(got, want) {
		t.Errorf("P9.2: Take at %d: %x, %v, not %x", at, got, ok, want)
	}
}

// isNone holds Take to answer nothing.
func isNone(t *testing.T, b *guard.Best, c api.Config, at int) {
	t.Helper()
	if got, ok := b.Take(c, at); ok || len(got) != 0 {
		t.Errorf("P9.2: Take at %d: %x, %v, not nothing", at, got, ok)
	}
}

// filled is n bytes, each of them b.
func filled(n int, b byte) []byte {
	return bytes.Repeat([]byte{b}, n)
}

// TestBest: bytes wait behind one another, at most four of them, and go one by one.
func TestBest(t *testing.T) {
	if api.MaxDepth != most || api.MaxSize != longest {
		t.Fatalf("P9.2: MaxDepth %d, MaxSize %d", api.MaxDepth, api.MaxSize)
	}
	var b guard.Best
	c := first()
	isNone(t, &b, c, 1200)
	for round := range byte(3) {
		for i := range byte(most) {
			isPut(t, &b, []byte{round, i}, true)
		}
		for range 3 {
			isPut(t, &b, []byte("x"), false)
			isPut(t, &b, nil, false)
		}
		isTake(t, &b, c, 1200, []byte{round, 0})
		isPut(t, &b, []byte("y"), true)
		isPut(t, &b, []byte("z"), false)
		for i := range byte(most - 1) {
			isTake(t, &b, c, 1200, []byte{round, i + 1})
		}
		isTake(t, &b, c, 1200, []byte("y"))
		isNone(t, &b, c, 1200)
	}
}

// TestSize: 16 bytes at most, none at least; what is too long changes nothing.
func TestSize(t *testing.T) {
	var b guard.Best
	c := first()
	for _, n := range []int{17, 18, 255, 256, 272, 1024, 1 << 16} {
		isPut(t, &b, filled(n, 1), false)
		isNone(t, &b, c, 1200)
	}
	for n := range longest + 1 {
		isPut(t, &b, filled(n, byte(n)), true)
		isPut(t, &b, filled(longest+1, 9), false)
		isTake(t, &b, c, 1200, filled(n, byte(n)))
		isNone(t, &b, c, 1200)
	}
	for _, data := range [][]byte{nil, {}, []byte("a"), nil} { // bytes of which there are none wait as others do
		isPut(t, &b, data, true)
	}
	isPut(t, &b, nil, false)
	for _, data := range [][]byte{nil, nil, []byte("a"), nil} {
		isTake(t, &b, c, 1200, data)
	}
	isNone(t, &b, c, 1200)
}

// TestGap: the first and the last time in the gap, and the times beside them.
func TestGap(t *testing.T) {
	for _, c := range allTables() {
		from := 0
		for range c.Nodes {
			from += c.Slot
		}
		to := from + c.Gap
		for _, at := range []int{from, from + 1, from + c.Gap/2, to - 2, to - 1} {
			var b guard.Best
			isPut(t, &b, []byte("a"), true)
			isTake(t, &b, c, at, []byte("a"))
			isNone(t, &b, c, at)
		}
		var b guard.Best
		isPut(t, &b, []byte("b"), true)
		for _, at := range []int{math.MinInt, -to, -1, 0, 1, c.Slot, c.Gap, from - 2, from - 1, to, to + 1, to + from, math.MaxInt} {
			if at < from || at >= to {
				isNone(t, &b, c, at)
			}
		}
		isTake(t, &b, c, from, []byte("b"))
	}
	var b guard.Best // in tables without a gap no time is in it
	isPut(t, &b, []byte("c"), true)
	for at := range 20 {
		isNone(t, &b, api.Config{Nodes: 1, Slot: 10}, at)
		isNone(t, &b, api.Config{}, at)
	}
	isTake(t, &b, api.Config{Nodes: 1, Slot: 10, Gap: 1}, 10, []byte("c"))
}

// TestGapOfEach: a Best keeps no tables: each Take goes by those that it is given.
func TestGapOfEach(t *testing.T) {
	var b guard.Best
	isPut(t, &b, []byte("a"), true)
	isPut(t, &b, []byte("b"), true)
	isPut(t, &b, []byte("c"), true)
	isTake(t, &b, first(), 1499, []byte("a"))
	isNone(t, &b, example(), 1499)
	isTake(t, &b, example(), 7000, []byte("b"))
	isNone(t, &b, first(), 7000)
	isTake(t, &b, working(), 44999, []byte("c"))
}

// roomy is bytes with spare room behind them.
func roomy(s string) []byte {
	return append(make([]byte, 0, 64), s...)
}

// spare is a list with its spare room.
func spare(l []byte) []byte {
	return l[:cap(l)]
}

// TestNewMemory: what is handed in is neither changed nor kept, and what is answered is nowhere else, spare room included.
func TestNewMemory(t *testing.T) {
	var b guard.Best
	var in, out [][]byte
	for _, s := range []string{"abc", "defg", "", "h"} {
		data := roomy(s)
		isPut(t, &b, data, true)
		if want := spare(roomy(s)); string(data) != s || !bytes.Equal(spare(data), want) {
			t.Errorf("R6: %q was handed in, and is %q", s, spare(data))
		}
		in = append(in, data)
	}
	for _, data := range in {
		copy(spare(data), filled(64, '!'))
	}
	for _, want := range []string{"abc", "defg", "", "h"} {
		got, ok := b.Take(first(), 1000)
		if !ok || string(got) != want {
			t.Errorf("R6: Take: %q, not %q", got, want)
		}
		out = append(out, got)
		copy(spare(got), filled(64, '?'))
		for _, earlier := range out[:len(out)-1] {
			if !bytes.Equal(spare(earlier), filled(cap(earlier), '?')) {
				t.Errorf("R6: an answer's memory is changed: %q", spare(earlier))
			}
		}
		isPut(t, &b, []byte("next"), true)
	}
	for _, data := range in {
		if !bytes.Equal(spare(data), filled(64, '!')) {
			t.Errorf("R6: what was handed in is changed: %q", spare(data))
		}
	}
	for range most {
		isTake(t, &b, first(), 1000, []byte("next"))
	}
}

// line is a second working of a Best: the bytes that wait, each with its length ahead.
type line string

func (l *line) put(data []byte) bool {
	waiting := 0
	for rest := *l; rest != ""; rest = rest[1+rest[0]:] {
		waiting++
	}
	if waiting >= most || len(data) > longest {
		return false
	}
	*l += line(byte(len(data))) + line(data)
	return true
}

func (l *line) take(c api.Config, at int) ([]byte, bool) {
	away := at - c.Nodes*c.Slot
	if away < 0 || away >= c.Gap || *l == "" {
		return nil, false
	}
	n := (*l)[0]
	out := []byte((*l)[1 : 1+n])
	*l = (*l)[1+n:]
	return out, true
}

// TestAnyBest: puts and takes by chance.
func TestAnyBest(t *testing.T) {
	chance := rand.New(rand.NewSource(4))
	for range 300 {
		var b guard.Best
		var l line
		c := someTables(chance)
		for range 200 {
			if chance.Intn(2) == 0 {
				data := make([]byte, chance.Intn(20))
				chance.Read(data)
				isPut(t, &b, data, l.put(data))
				continue
			}
			at := c.Nodes*c.Slot + chance.Intn(3*c.Gap) - c.Gap
			want, ok := l.take(c, at)
			if ok {
				isTake(t, &b, c, at, want)
			} else {
				isNone(t, &b, c, at)
			}
		}
	}
}

// TestApart: what a guardian or a Best answers hangs on no other one.
func TestApart(t *testing.T) {
	one, two := made(t, example()), made(t, example())
	if one == two {
		t.Fatal("R6: New answers one guardian twice")
	}
	isCome(t, one, 2, 2098, guard.Pass)
	isCome(t, two, 2, 2098, guard.Pass)
	isCome(t, one, 2, 2098, guard.Again)
	var a, b guard.Best
	isPut(t, &a, []byte("a"), true)
	isNone(t, &b, first(), 1000)
	isPut(t, &b, []byte("b"), true)
	isTake(t, &a, first(), 1000, []byte("a"))
	isTake(t, &b, first(), 1000, []byte("b"))
}

// TestAtOnce: guardians of their own don't meet, whoever asks them at once, though their tables be the same.
func TestAtOnce(t *testing.T) {
	c := working()
	var all sync.WaitGroup
	for seed := range int64(4) {
		all.Go(func() {
			come(t, rand.New(rand.NewSource(seed)), c, 2000)
		})
	}
	all.Wait()
}

// odd is a number at which sums and products wrap, or a small one.
func odd(chance *rand.Rand) int {
	ends := []int{math.MinInt, math.MinInt + 1, -1 << 62, -1 << 32, -1, 0, 1, 7, 8, 1 << 32, 1 << 62, math.MaxInt - 1, math.MaxInt}
	if n := chance.Intn(len(ends) + 3); n < len(ends) {
		return ends[n]
	}
	return chance.Intn(100) - 50
}

// TestWild: all tables and all numbers are answered; of tables that don't work there is no guardian.
func TestWild(t *testing.T) {
	chance := rand.New(rand.NewSource(5))
	for range 20000 {
		c := api.Config{Nodes: odd(chance), Faulty: odd(chance), Slot: odd(chance), Gap: odd(chance), Rho: odd(chance), Dmin: odd(chance), Dmax: odd(chance), Margin: odd(chance)}
		if chance.Intn(2) == 0 {
			c.Parts = []api.Part{{Node: odd(chance), Start: odd(chance), Length: odd(chance)}}
			c.Ports = []api.Port{{Part: odd(chance), Kind: api.PortKind(odd(chance)), Size: odd(chance)}}
			c.Routes = []api.Route{{From: odd(chance), To: odd(chance)}}
		}
		if g, err := guard.New(c); (err == nil) != (sound.Check(c) == nil) || (err == nil) != (g != nil) {
			t.Errorf("P9.1: New(%v): %v, %v", c, g, err)
		}
		var b guard.Best
		b.Put([]byte("a"))
		if got, ok := b.Take(c, odd(chance)); ok != (string(got) == "a") || !ok && len(got) != 0 {
			t.Errorf("P9.2: Take of %v: %x, %v", c, got, ok)
		}
	}
	for _, c := range allTables() {
		g := made(t, c)
		for range 2000 {
			node := odd(chance)
			g.Due(node)
			if got := g.Come(node, odd(chance)); got < guard.Pass || got > guard.Wrong {
				t.Errorf("P9.1: Come of %d: %d", node, got)
			}
		}
	}
}

// FuzzGuard: each two bytes are a line and how far from its time bytes come over it.
func FuzzGuard(f *testing.F) {
	f.Add([]byte{1, 0, 1, 0, 1, 128, 9, 0})
	f.Add([]byte{0, 98, 0, 99, 0, 157, 0, 158, 6, 0, 7, 0})
	f.Fuzz(func(t *testing.T, steps []byte) {
		g, l := made(t, example()), &lines{tables: example()}
		for ; len(steps) >= 2; steps = steps[2:] {
			node, at := int(int8(steps[0])), due(example(), int(int8(steps[0])))+int(int8(steps[1]))
			isCome(t, g, node, at, l.come(node, at))
		}
	})
}

// FuzzBest: each byte is a taking in or outside the gap, or bytes that are put.
func FuzzBest(f *testing.F) {
	f.Add([]byte{1, 2, 3, 4, 5, 0x80, 6, 0xe7, 0xe8, 0x80, 0x80})
	f.Add([]byte{16, 17, 0, 0, 0, 0, 0x80, 0xff})
	f.Fuzz(func(t *testing.T, steps []byte) {
		var b guard.Best
		var l line
		for i, step := range steps {
			if step < 0x80 {
				data := filled(int(step%20), byte(i))
				isPut(t, &b, data, l.put(data))
				continue
			}
			c, at := api.Config{Nodes: 2, Slot: 10, Gap: 100}, int(step)-0x80
			want, ok := l.take(c, at)
			if ok {
				isTake(t, &b, c, at, want)
			} else {
				isNone(t, &b, c, at)
			}
		}
	})
}
