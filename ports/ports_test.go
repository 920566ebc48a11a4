package ports_test

import (
	"bytes"
	"math"
	"math/rand"
	"reflect"
	"slices"
	"strings"
	"sync"
	"testing"

	"escapement/api"
	"escapement/ports"
	"escapement/sound"
)

// odd are numbers that are no port, and no partition.
var odd = []int{math.MinInt, math.MinInt + 1, -1 << 32, -256, -25, -24, -12, -2, -1, 24, 25, 255, 256, 1 << 31, 1 << 32, 1<<32 + 1, 1 << 62, math.MaxInt - 1, math.MaxInt}

// at is an error with a place.
func at(code api.Errno, place int) error {
	return &api.Fault{Code: code, At: max(place, -1)}
}

// bare are tables of some nodes without partitions.
func bare(nodes int) api.Config {
	return api.Config{Nodes: nodes, Slot: 1000, Gap: 500, Margin: 98}
}

// row are as many partitions as the nodes that are named, each on its node, one window behind the other.
func row(nodes ...int) []api.Part {
	var out []api.Part
	for i, node := range nodes {
		out = append(out, api.Part{Node: node, Start: 50 * i, Length: 50})
	}
	return out
}

// example are the tables of the chapter's example: partition 0 of node 0 sends to partition 1 of node 1.
func example() api.Config {
	c := bare(2)
	c.Parts = row(0, 1)
	c.Ports = []api.Port{
		{Part: 0, Kind: api.Queuing, Out: true, Size: 1, Depth: 2},
		{Part: 1, Kind: api.Queuing, Size: 1, Depth: 1},
	}
	c.Routes = []api.Route{{From: 0, To: 1}}
	return c
}

// working are tables of four nodes, of which node 2 has no partition, with ports of all kinds, and routes in a mixed order.
func working() api.Config {
	c := api.Config{Nodes: 4, Faulty: 1, Slot: 10000, Gap: 5000, Rho: 100, Dmin: 100, Dmax: 151, Margin: 1000}
	c.Parts = row(0, 0, 1, 3)
	c.Ports = []api.Port{
		{Part: 0, Kind: api.Sampling, Out: true, Size: 4},           // 0: to 2, 4, 6
		{Part: 0, Kind: api.Queuing, Out: true, Size: 3, Depth: 2},  // 1: to 3, 5, 7
		{Part: 1, Kind: api.Sampling, Size: 4, Fresh: 0},            // 2
		{Part: 1, Kind: api.Queuing, Size: 3, Depth: 1},             // 3
		{Part: 2, Kind: api.Sampling, Size: 16, Fresh: 8},           // 4
		{Part: 2, Kind: api.Queuing, Size: 16, Depth: 4},            // 5
		{Part: 2, Kind: api.Sampling, Size: 5, Fresh: 3},            // 6
		{Part: 2, Kind: api.Queuing, Size: 3, Depth: 2},             // 7
		{Part: 2, Kind: api.Queuing, Out: true, Size: 16, Depth: 4}, // 8: to 10, 14
		{Part: 3, Kind: api.Sampling, Out: true, Size: 0},           // 9: to 11
		{Part: 0, Kind: api.Queuing, Size: 16, Depth: 3},            // 10
		{Part: 1, Kind: api.Sampling, Size: 0, Fresh: 2},            // 11
		{Part: 3, Kind: api.Sampling, Size: 9, Fresh: 1},            // 12: no route leads to it
		{Part: 1, Kind: api.Sampling, Out: true, Size: 16},          // 13: no route leads from it
		{Part: 2, Kind: api.Queuing, Size: 16, Depth: 1},            // 14: from its own partition
	}
	c.Routes = []api.Route{{From: 1, To: 7}, {From: 0, To: 6}, {From: 9, To: 11}, {From: 0, To: 2}, {From: 8, To: 14}, {From: 1, To: 3}, {From: 0, To: 4}, {From: 1, To: 5}, {From: 8, To: 10}}
	return c
}

// pairs are tables of one node: for each of some in ports an out port of the same kind and size, from which a route leads to it.
func pairs(in ...api.Port) api.Config {
	c := bare(1)
	c.Parts = row(0)
	for _, port := range in {
		out := port
		out.Out, out.Fresh = true, 0
		c.Routes = append(c.Routes, api.Route{From: len(c.Ports), To: len(c.Ports) + 1})
		c.Ports = append(c.Ports, out, port)
	}
	return c
}

// someTables are tables by chance that work, with as many ports and routes as there may be, or fewer.
func someTables(chance *rand.Rand) api.Config {
	c := bare(1 + chance.Intn(7))
	for i := range 1 + chance.Intn(12) {
		c.Parts = append(c.Parts, api.Part{Node: chance.Intn(c.Nodes), Start: 50 * i, Length: 50})
	}
	for range 1 + chance.Intn(24) {
		port := api.Port{Part: chance.Intn(len(c.Parts)), Kind: api.Sampling, Out: chance.Intn(2) == 0, Size: []int{0, 1, 2, chance.Intn(17), 16}[chance.Intn(5)]}
		switch {
		case chance.Intn(2) == 0:
			port.Kind, port.Depth = api.Queuing, 1+chance.Intn(4)
		case !port.Out:
			port.Fresh = chance.Intn(9)
		}
		c.Ports = append(c.Ports, port)
	}
	for _, to := range chance.Perm(len(c.Ports)) {
		from := chance.Intn(len(c.Ports))
		if a, b := c.Ports[from], c.Ports[to]; a.Out && !b.Out && a.Kind == b.Kind && a.Size <= b.Size {
			c.Routes = append(c.Routes, api.Route{From: from, To: to})
		}
	}
	return c
}

// clone is tables that share no memory with others.
func clone(c api.Config) api.Config {
	c.Parts, c.Ports, c.Routes = slices.Clone(c.Parts), slices.Clone(c.Ports), slices.Clone(c.Routes)
	return c
}

// made are a node's ports, of tables that work.
func made(t *testing.T, c api.Config, node int) *ports.Ports {
	t.Helper()
	p, err := ports.New(c, node)
	if err != nil || p == nil {
		t.Fatalf("P13.1: New(%v, %d): %v, %v", c, node, p, err)
	}
	return p
}

// isError holds an error against what it should be, to the letter.
func isError(t *testing.T, what string, got, want error) {
	t.Helper()
	if !reflect.DeepEqual(got, want) {
		t.Errorf("%s: %v, not %v", what, got, want)
	}
}

// isWrite holds what Write answers against what it should.
func isWrite(t *testing.T, p *ports.Ports, part, port int, data string, want error) {
	t.Helper()
	if got := p.Write(part, port, []byte(data)); !reflect.DeepEqual(got, want) {
		t.Errorf("P13.2: Write(%d, %d, %q): %v, not %v", part, port, data, got, want)
	}
}

// isRead holds a message that is read against what it should be.
func isRead(t *testing.T, p *ports.Ports, part, port int, data string, fresh bool) {
	t.Helper()
	got, is, err := p.Read(part, port)
	if err != nil || string(got) != data || is != fresh {
		t.Errorf("P13.2: Read(%d, %d): %q, %v, %v, not %q, %v", part, port, got, is, err, data, fresh)
	}
}

// isUnread holds a port not to be read, for that reason.
func isUnread(t *testing.T, p *ports.Ports, part, port int, want error) {
	t.Helper()
	got, is, err := p.Read(part, port)
	if !reflect.DeepEqual(err, want) {
		t.Errorf("P13.2: Read(%d, %d): %v, not %v", part, port, err, want)
	}
	if len(got) != 0 || is {
		t.Errorf("R3: Read(%d, %d): %q, %v beside an error", part, port, got, is)
	}
}

// isEmpty holds a port to hold nothing.
func isEmpty(t *testing.T, p *ports.Ports, part, port int) {
	t.Helper()
	isUnread(t, p, part, port, at(api.ErrEmpty, port))
}

// post is a message of a port with that text.
func post(port int, text string) api.Message {
	return api.Message{Port: port, Data: []byte(text)}
}

// isDelivered holds how many messages found room against how many should.
func isDelivered(t *testing.T, p *ports.Ports, from, want int, l ...api.Message) {
	t.Helper()
	if got := p.Deliver(from, l); got != want {
		t.Errorf("P13.3: Deliver(%d, %v): %d, not %d", from, l, got, want)
	}
}

// isMessages holds messages against what they should be.
func isMessages(t *testing.T, what string, got []api.Message, want ...api.Message) {
	t.Helper()
	same := func(a, b api.Message) bool { return a.Port == b.Port && bytes.Equal(a.Data, b.Data) }
	if !slices.EqualFunc(got, want, same) {
		t.Errorf("%s: %v, not %v", what, got, want)
	}
}

// note is a message, and how many times Age was called before it came.
type note struct {
	text   string
	rounds int
}

// worked is a second working of a node's ports: notes of what came, and by how many calls of Age it did.
type worked struct {
	tables api.Config
	node   int
	rounds int
	notes  map[int][]note
}

// blank is the second working of a node's ports, as New makes them.
func blank(c api.Config, node int) *worked {
	return &worked{tables: c, node: node, notes: map[int][]note{}}
}

// owner is the node of a port; -1, if there is no such port.
func (w *worked) owner(port int) int {
	for i, x := range w.tables.Ports {
		if i == port {
			return w.tables.Parts[x.Part].Node
		}
	}
	return -1
}

// put is a message that comes into a port; false, if it finds no room.
func (w *worked) put(port int, text string) bool {
	n, x := note{text, w.rounds}, w.tables.Ports[port]
	if x.Kind == api.Sampling {
		w.notes[port] = []note{n}
		return true
	}
	if len(w.notes[port]) == x.Depth {
		return false
	}
	w.notes[port] = append(w.notes[port], n)
	return true
}

// use is the error of a port that is used by a partition, as an out port or as an in port; nil, if it may be.
func (w *worked) use(part, port int, out bool) error {
	if w.owner(port) != w.node || w.owner(port) < 0 || w.tables.Ports[port].Part != part {
		return at(api.ErrNone, port)
	}
	if w.tables.Ports[port].Out != out {
		return at(api.ErrMode, port)
	}
	return nil
}

// write: as Write.
func (w *worked) write(part, port int, text string) error {
	if err := w.use(part, port, true); err != nil {
		return err
	}
	if len(text) > w.tables.Ports[port].Size {
		return at(api.ErrSize, port)
	}
	if !w.put(port, text) {
		return at(api.ErrFull, port)
	}
	return nil
}

// read: as Read.
func (w *worked) read(part, port int) (string, bool, error) {
	if err := w.use(part, port, false); err != nil {
		return "", false, err
	}
	l := w.notes[port]
	if len(l) == 0 {
		return "", false, at(api.ErrEmpty, port)
	}
	if x := w.tables.Ports[port]; x.Kind == api.Sampling {
		return l[0].text, w.rounds-l[0].rounds <= x.Fresh, nil
	}
	w.notes[port] = l[1:]
	return l[0].text, true, nil
}

// image: as Image; of the out ports alone, as Seal tells them.
func (w *worked) image(outs bool) []api.Message {
	var l []api.Message
	for port, x := range w.tables.Ports {
		for _, n := range w.notes[port] {
			if x.Out || !outs {
				l = append(l, post(port, n.text))
			}
		}
	}
	return l
}

// seal: as Seal.
func (w *worked) seal() []api.Message {
	l := w.image(true)
	for port, x := range w.tables.Ports {
		if x.Out {
			delete(w.notes, port)
		}
	}
	return l
}

// deliver: as Deliver.
func (w *worked) deliver(from int, l []api.Message) int {
	count := 0
	for _, m := range l {
		if w.owner(m.Port) < 0 || w.owner(m.Port) != from || !w.tables.Ports[m.Port].Out || len(m.Data) > w.tables.Ports[m.Port].Size {
			continue
		}
		for _, r := range w.tables.Routes {
			if r.From == m.Port && w.owner(r.To) == w.node && w.put(r.To, string(m.Data)) {
				count++
			}
		}
	}
	return count
}

// wipe: as Clear.
func (w *worked) wipe(part int) {
	for port, x := range w.tables.Ports {
		if x.Part == part {
			delete(w.notes, port)
		}
	}
}

func TestExamples(t *testing.T) {
	p, q := made(t, example(), 0), made(t, example(), 1)
	isWrite(t, p, 0, 0, "a", nil)
	isWrite(t, p, 0, 0, "b", nil)
	isWrite(t, p, 0, 0, "c", at(api.ErrFull, 0))
	isWrite(t, p, 0, 0, "xx", at(api.ErrSize, 0))
	l := p.Seal()
	isMessages(t, "P13.3: Seal", l, post(0, "a"), post(0, "b"))
	isMessages(t, "P13.3: Seal", p.Seal())
	isDelivered(t, q, 0, 1, l...)
	isRead(t, q, 1, 1, "a", true)
	isEmpty(t, q, 1, 1)
}

// TestNew: tables that don't work give no ports, but just what sound.Check says, whatever the node.
func TestNew(t *testing.T) {
	for name, change := range map[string]func(c *api.Config){
		"no nodes":             func(c *api.Config) { c.Nodes = 0 },
		"eight nodes":          func(c *api.Config) { c.Nodes = 8 },
		"too few nodes":        func(c *api.Config) { c.Faulty = 2 },
		"a margin too narrow":  func(c *api.Config) { c.Margin = 444 + 51 + 11 - 1 },
		"a slot too short":     func(c *api.Config) { c.Slot = 2000 },
		"a gap too short":      func(c *api.Config) { c.Gap = 2000 },
		"windows that meet":    func(c *api.Config) { c.Parts[1].Start = 49 },
		"a partition's node":   func(c *api.Config) { c.Parts[1].Node = 4 },
		"a port's partition":   func(c *api.Config) { c.Ports[1].Part = 4 },
		"a port below 0":       func(c *api.Config) { c.Ports[1].Part = -1 },
		"a port's kind":        func(c *api.Config) { c.Ports[1].Kind = 0 },
		"a port too large":     func(c *api.Config) { c.Ports[4].Size = 17 },
		"a queue too deep":     func(c *api.Config) { c.Ports[5].Depth = 5 },
		"an age too great":     func(c *api.Config) { c.Ports[4].Fresh = 9 },
		"a route from nowhere": func(c *api.Config) { c.Routes[0].From = 15 },
		"a route to nowhere":   func(c *api.Config) { c.Routes[0].To = -1 },
		"a route to an out":    func(c *api.Config) { c.Routes[0].To = 8 },
		"a route from an in":   func(c *api.Config) { c.Routes[0].From = 5 },
		"kinds that differ":    func(c *api.Config) { c.Routes[0].From = 0 },
		"too small an in port": func(c *api.Config) { c.Ports[7].Size = 2 },
		"two routes to a port": func(c *api.Config) { c.Routes[1].To = 2 },
		"too many ports":       func(c *api.Config) { c.Ports = make([]api.Port, 25) },
		"all zero":             func(c *api.Config) { *c = api.Config{} },
	} {
		t.Run(name, func(t *testing.T) {
			c := working()
			change(&c)
			want := sound.Check(c)
			if want == nil {
				t.Fatal("the tables work")
			}
			for _, node := range []int{math.MinInt, -1, 0, 1, 3, 4, 7, math.MaxInt} {
				p, err := ports.New(c, node)
				isError(t, "P13.1, R2: New", err, want)
				if p != nil {
					t.Error("R3: ports beside an error")
				}
			}
		})
	}
}

// TestNewNode: each node has its ports, empty; of numbers that are none there are no ports.
func TestNewNode(t *testing.T) {
	for _, c := range []api.Config{bare(1), bare(7), example(), working()} {
		for node := range c.Nodes {
			p := made(t, c, node)
			isMessages(t, "P13.1: Image", p.Image())
			isMessages(t, "P13.1: Seal", p.Seal())
			for port, x := range c.Ports {
				if !x.Out && c.Parts[x.Part].Node == node {
					isEmpty(t, p, x.Part, port)
				}
			}
		}
		for _, node := range append([]int{c.Nodes, c.Nodes + 1, 7, 8}, odd...) {
			p, err := ports.New(c, node)
			isError(t, "P13.1: New", err, api.ErrRange)
			if p != nil {
				t.Error("R3: ports beside an error")
			}
		}
	}
}

// TestNone: of all ports and partitions, and of numbers that are none, just those that belong to each other, and to the node, may be used.
func TestNone(t *testing.T) {
	c := working()
	parts := append([]int{0, 1, 2, 3, 4, 5, 11, 12}, odd...)
	places := append([]int{15, 16, 23}, odd...)
	for port := range c.Ports {
		places = append(places, port)
	}
	for node := range c.Nodes {
		p := made(t, c, node)
		used := 0
		for _, port := range places {
			for _, part := range parts {
				if port >= 0 && port < len(c.Ports) && c.Ports[port].Part == part && c.Parts[part].Node == node {
					used++
					continue
				}
				for _, data := range []string{"", "a", "far too long a message"} {
					isWrite(t, p, part, port, data, at(api.ErrNone, port))
				}
				isUnread(t, p, part, port, at(api.ErrNone, port))
			}
		}
		if want := []int{7, 6, 0, 2}[node]; used != want {
			t.Errorf("node %d has %d ports, not %d", node, used, want)
		}
		isMessages(t, "R4: Image", p.Image())
	}
}

// TestMode: nothing is written to an in port, and nothing read from an out port, whatever they hold.
func TestMode(t *testing.T) {
	c := working()
	for node := range c.Nodes {
		p := made(t, c, node)
		for range 2 {
			for port, x := range c.Ports {
				switch {
				case c.Parts[x.Part].Node != node:
				case x.Out:
					isUnread(t, p, x.Part, port, at(api.ErrMode, port))
				default:
					for _, data := range []string{"", "a", strings.Repeat("a", x.Size), strings.Repeat("a", 99)} {
						isWrite(t, p, x.Part, port, data, at(api.ErrMode, port))
					}
				}
			}
			isMessages(t, "R4: Image", p.Image()) // behind the first time: nothing was written; behind the second: Seal and Read take what was
			for port, x := range c.Ports {
				if x.Out && c.Parts[x.Part].Node == node {
					isWrite(t, p, x.Part, port, "", nil)
				}
			}
			if l := p.Seal(); node == 2 && len(l) != 0 || node != 2 && len(l) == 0 {
				t.Errorf("P13.3: node %d: Seal: %v", node, l)
			}
		}
	}
}

// TestSizes: of each size as many bytes, and fewer, are a message; one more, and many more, aren't, and change nothing.
func TestSizes(t *testing.T) {
	for size := range 17 {
		for _, port := range []api.Port{{Kind: api.Sampling, Size: size}, {Kind: api.Queuing, Size: size, Depth: 1}} {
			c := pairs(port)
			for length := range size + 1 {
				p, text := made(t, c, 0), strings.Repeat("x", length)
				isWrite(t, p, 0, 0, text, nil)
				for _, more := range []int{size + 1, size + 2, 17, 255, 256, 256 + size, 70000} {
					isWrite(t, p, 0, 0, strings.Repeat("y", max(more, size+1)), at(api.ErrSize, 0))
				}
				isMessages(t, "P13.2, R4: Image", p.Image(), post(0, text))
				isDelivered(t, p, 0, 1, post(0, text))
				isDelivered(t, p, 0, 0, post(0, strings.Repeat("y", size+1)), post(0, strings.Repeat("y", 256+size)))
				isRead(t, p, 0, 1, text, true)
			}
		}
	}
}

// TestFullOrder: ErrSize is told ahead of ErrFull, ErrMode and ErrNone ahead of both.
func TestFullOrder(t *testing.T) {
	p := made(t, working(), 0)
	isWrite(t, p, 0, 1, "a", nil)
	isWrite(t, p, 0, 1, "b", nil)
	isWrite(t, p, 0, 1, "abcd", at(api.ErrSize, 1))
	isWrite(t, p, 0, 1, "abc", at(api.ErrFull, 1))
	isWrite(t, p, 1, 1, "abcd", at(api.ErrNone, 1))
	isWrite(t, p, 0, 10, "far too long a message", at(api.ErrMode, 10))
	isWrite(t, p, 0, 8, "far too long a message", at(api.ErrNone, 8))
	isUnread(t, p, 1, 1, at(api.ErrNone, 1))
	isUnread(t, p, 0, 2, at(api.ErrNone, 2))
}

// TestDepths: a queuing out port holds as many messages as its depth, the others are refused and change nothing; so does an in port, of which one is read, and one more has room.
func TestDepths(t *testing.T) {
	texts := []string{"one", "two", "three", "four", "five", "six"}
	for depth := 1; depth <= 4; depth++ {
		p := made(t, pairs(api.Port{Kind: api.Queuing, Size: 5, Depth: depth}), 0)
		for range 3 {
			var want []api.Message
			for i, text := range texts {
				if i < depth {
					isWrite(t, p, 0, 0, text, nil)
					want = append(want, post(0, text))
				} else {
					isWrite(t, p, 0, 0, text, at(api.ErrFull, 0))
				}
				isMessages(t, "P13.2, R4: Image", p.Image(), want...)
			}
			isMessages(t, "P13.3: Seal", p.Seal(), want...)
		}
		for i, text := range texts {
			isDelivered(t, p, 0, boolean(i < depth), post(0, text))
		}
		isRead(t, p, 0, 1, texts[0], true)
		isDelivered(t, p, 0, 1, post(0, "a"), post(0, "b"))
		for _, text := range texts[1:depth] {
			isRead(t, p, 0, 1, text, true)
		}
		isRead(t, p, 0, 1, "a", true)
		isEmpty(t, p, 0, 1)
	}
}

// TestSampling: a sampling port holds just the last message, is never full, and isn't emptied by reading.
func TestSampling(t *testing.T) {
	p := made(t, pairs(api.Port{Kind: api.Sampling, Size: 5}), 0)
	for _, text := range []string{"a", "bcd", "", "e", "", "efghi"} {
		isWrite(t, p, 0, 0, text, nil)
		isMessages(t, "P13.2: Image", p.Image(), post(0, text))
	}
	isMessages(t, "P13.3: Seal", p.Seal(), post(0, "efghi"))
	isMessages(t, "P13.3: Seal", p.Seal())
	isDelivered(t, p, 0, 4, post(0, "1"), post(0, "22"), post(0, ""), post(0, "4444"))
	for range 3 {
		isRead(t, p, 0, 1, "4444", true)
	}
	isDelivered(t, p, 0, 1, post(0, "5"))
	isRead(t, p, 0, 1, "5", true)
}

// TestNoBytes: a message of no bytes is a message, whether its list is nil or empty.
func TestNoBytes(t *testing.T) {
	for _, data := range [][]byte{nil, {}} {
		p := made(t, pairs(api.Port{Kind: api.Sampling}, api.Port{Kind: api.Queuing, Depth: 2}), 0)
		for _, port := range []int{0, 2, 2} {
			isError(t, "P13.2: Write", p.Write(0, port, data), nil)
		}
		isWrite(t, p, 0, 2, "", at(api.ErrFull, 2))
		l := p.Seal()
		isMessages(t, "P13.3: Seal", l, post(0, ""), post(2, ""), post(2, ""))
		isDelivered(t, p, 0, 3, l...)
		isDelivered(t, p, 0, 1, api.Message{Port: 0, Data: data}, api.Message{Port: 2, Data: data})
		isRead(t, p, 0, 1, "", true)
		isRead(t, p, 0, 1, "", true)
		isRead(t, p, 0, 3, "", true)
		isRead(t, p, 0, 3, "", true)
		isEmpty(t, p, 0, 3)
	}
}

// TestFresh: a sampling port's message is fresh as long as it is no older than its port allows, and never again; reading it makes it no younger.
func TestFresh(t *testing.T) {
	for fresh := range 9 {
		p := made(t, pairs(api.Port{Kind: api.Sampling, Size: 1, Fresh: fresh}), 0)
		for range 12 { // rounds ahead of the first message are nothing to it
			p.Age()
			isEmpty(t, p, 0, 1)
		}
		for _, text := range []string{"a", "b"} {
			isDelivered(t, p, 0, 1, post(0, text))
			for age := range 300 {
				isRead(t, p, 0, 1, text, age <= fresh)
				isRead(t, p, 0, 1, text, age <= fresh)
				isDelivered(t, p, 0, 0, post(0, "ab"))
				isDelivered(t, p, 1, 0, post(0, "c"))
				p.Age()
			}
		}
		p.Clear(0)
		isEmpty(t, p, 0, 1)
		isDelivered(t, p, 0, 1, post(0, "c"))
		isRead(t, p, 0, 1, "c", true)
	}
}

// TestAgeOthers: a queuing port's messages don't grow old, and an out port's are the same, however many rounds go by.
func TestAgeOthers(t *testing.T) {
	p := made(t, pairs(api.Port{Kind: api.Sampling, Size: 1}, api.Port{Kind: api.Queuing, Size: 1, Depth: 2}), 0)
	isWrite(t, p, 0, 0, "a", nil)
	isWrite(t, p, 0, 2, "b", nil)
	isDelivered(t, p, 0, 1, post(2, "c"))
	for range 20 {
		p.Age()
	}
	isDelivered(t, p, 0, 1, post(2, "d"))
	isMessages(t, "P13.4: Image", p.Image(), post(0, "a"), post(2, "b"), post(3, "c"), post(3, "d"))
	isRead(t, p, 0, 3, "c", true)
	isRead(t, p, 0, 3, "d", true)
	isMessages(t, "P13.3: Seal", p.Seal(), post(0, "a"), post(2, "b"))
}

// TestApartAges: each sampling port has an age of its own.
func TestApartAges(t *testing.T) {
	p := made(t, pairs(api.Port{Kind: api.Sampling, Size: 1, Fresh: 2}, api.Port{Kind: api.Sampling, Size: 1, Fresh: 2}, api.Port{Kind: api.Sampling, Size: 1, Fresh: 3}), 0)
	isDelivered(t, p, 0, 2, post(0, "a"), post(4, "a"))
	p.Age()
	p.Age()
	isDelivered(t, p, 0, 1, post(2, "a"))
	p.Age()
	isRead(t, p, 0, 1, "a", false)
	isRead(t, p, 0, 3, "a", true)
	isRead(t, p, 0, 5, "a", true)
	p.Age()
	isRead(t, p, 0, 1, "a", false)
	isRead(t, p, 0, 3, "a", true)
	isRead(t, p, 0, 5, "a", false)
}

// filled are node 0's ports of the working tables with a message in each that can hold one, and two in port 1.
func filled(t *testing.T) *ports.Ports {
	t.Helper()
	p := made(t, working(), 0)
	isWrite(t, p, 1, 13, "thirteen", nil) // falling: neither do partitions write by rising ports
	isWrite(t, p, 0, 1, "one", nil)
	isWrite(t, p, 0, 0, "zero", nil)
	isWrite(t, p, 0, 1, "two", nil)
	isDelivered(t, p, 1, 1, post(8, "ten"))
	isDelivered(t, p, 3, 1, post(9, ""))
	isDelivered(t, p, 0, 2, post(1, "3"), post(0, "2"))
	return p
}

// TestSeal: what stands in the out ports, by rising ports, the eldest first, goes; what stands in the in ports stays.
func TestSeal(t *testing.T) {
	p := filled(t)
	for range 2 {
		isMessages(t, "P13.4: Image", p.Image(), post(0, "zero"), post(1, "one"), post(1, "two"), post(2, "2"), post(3, "3"), post(10, "ten"), post(11, ""), post(13, "thirteen"))
	}
	isMessages(t, "P13.3: Seal", p.Seal(), post(0, "zero"), post(1, "one"), post(1, "two"), post(13, "thirteen"))
	for range 2 {
		isMessages(t, "P13.3: Seal", p.Seal())
		isMessages(t, "P13.4: Image", p.Image(), post(2, "2"), post(3, "3"), post(10, "ten"), post(11, ""))
	}
	isRead(t, p, 1, 2, "2", true)
	isRead(t, p, 1, 3, "3", true)
	isRead(t, p, 0, 10, "ten", true)
	isRead(t, p, 1, 11, "", true)
}

// TestClear: a partition's ports are emptied, in and out, those of others are not; nor are any by numbers that are no partition of the node.
func TestClear(t *testing.T) {
	all := filled(t).Image()
	for _, x := range []struct{ part, want []int }{
		{[]int{0}, []int{2, 3, 11, 13}},
		{[]int{1}, []int{0, 1, 1, 10}},
		{[]int{1, 0}, nil},
		{append([]int{2, 3, 4, 11, 12, 13}, odd...), []int{0, 1, 1, 2, 3, 10, 11, 13}},
	} {
		p := filled(t)
		for _, part := range x.part {
			p.Clear(part)
		}
		want := slices.DeleteFunc(slices.Clone(all), func(m api.Message) bool { return !slices.Contains(x.want, m.Port) })
		if len(want) != len(x.want) {
			t.Fatalf("%d messages, not %d", len(want), len(x.want))
		}
		isMessages(t, "P13.4: Image behind Clear", p.Image(), want...)
	}
	p := filled(t)
	p.Clear(0)
	isEmpty(t, p, 0, 10)
	isRead(t, p, 1, 3, "3", true)
	isWrite(t, p, 0, 1, "a", nil) // there is room again
	isWrite(t, p, 0, 1, "b", nil)
	isDelivered(t, p, 1, 3, post(8, "a"), post(8, "b"), post(8, "c"), post(8, "d"))
	isRead(t, p, 0, 10, "a", true)
	isMessages(t, "P13.3: Seal", p.Seal(), post(1, "a"), post(1, "b"), post(13, "thirteen"))
}

// TestDeliver: by hand, at each node: over which routes messages come, and how many find room.
func TestDeliver(t *testing.T) {
	for _, x := range []struct {
		node, from, count int
		l, want           []api.Message
	}{
		{0, 0, 0, nil, nil},
		{0, 0, 1, []api.Message{post(0, "abcd")}, []api.Message{post(2, "abcd")}},
		{1, 0, 2, []api.Message{post(0, "abcd")}, []api.Message{post(4, "abcd"), post(6, "abcd")}},
		{2, 0, 0, []api.Message{post(0, "abcd")}, nil},
		{3, 0, 0, []api.Message{post(0, "abcd")}, nil},
		{0, 0, 1, []api.Message{post(1, "a"), post(1, "b"), post(1, "c")}, []api.Message{post(3, "a")}},
		{1, 0, 5, []api.Message{post(1, "a"), post(1, "b"), post(1, "c")}, []api.Message{post(5, "a"), post(5, "b"), post(5, "c"), post(7, "a"), post(7, "b")}},
		{1, 0, 6, []api.Message{post(1, "c"), post(1, "b"), post(1, "a"), post(1, "b"), post(1, "a")}, []api.Message{post(5, "c"), post(5, "b"), post(5, "a"), post(5, "b"), post(7, "c"), post(7, "b")}},
		{1, 0, 6, []api.Message{post(0, "1"), post(1, "a"), post(0, "2")}, []api.Message{post(4, "2"), post(5, "a"), post(6, "2"), post(7, "a")}},
		{1, 0, 2, []api.Message{post(1, "long"), post(1, "a"), post(0, "longer")}, []api.Message{post(5, "a"), post(7, "a")}},
		{1, 1, 1, []api.Message{post(8, "a"), post(8, "b")}, []api.Message{post(14, "a")}},
		{0, 1, 2, []api.Message{post(8, "a"), post(8, "sixteen bytes ..")}, []api.Message{post(10, "a"), post(10, "sixteen bytes ..")}},
		{0, 1, 0, []api.Message{post(8, "seventeen bytes .")}, nil},
		{0, 3, 1, []api.Message{post(9, "a"), post(9, ""), post(9, "a")}, []api.Message{post(11, "")}},
		{0, 0, 0, []api.Message{post(13, "a")}, nil},
		{1, 0, 0, []api.Message{post(13, "a")}, nil},
		{0, 0, 0, []api.Message{post(10, "a"), post(2, "a"), post(3, "a"), post(11, "")}, nil}, // in ports
		{1, 1, 0, []api.Message{post(4, "a"), post(5, "a"), post(6, "a"), post(7, "a"), post(14, "a")}, nil},
		{3, 3, 0, []api.Message{post(12, "a")}, nil},
		{1, 1, 0, []api.Message{post(0, "a"), post(1, "a"), post(9, "")}, nil}, // another node's
		{0, 2, 0, []api.Message{post(0, "a"), post(1, "a"), post(8, "a"), post(9, "")}, nil},
		{0, 3, 0, []api.Message{post(0, "a"), post(1, "a"), post(8, "a"), post(13, "")}, nil},
	} {
		p := made(t, working(), x.node)
		isDelivered(t, p, x.from, x.count, x.l...)
		isMessages(t, "P13.3: Image behind Deliver", p.Image(), x.want...)
	}
}

// TestDeliverOdd: ports and nodes that there aren't send nothing, and stand in nobody's way.
func TestDeliverOdd(t *testing.T) {
	for node := range 4 {
		p, want := made(t, working(), node), 0
		var l, good []api.Message
		for _, port := range append([]int{15, 16, 23}, odd...) {
			l = append(l, post(port, ""), post(port, "a"))
		}
		for from := -1; from < 5; from++ {
			isDelivered(t, p, from, 0, l...)
		}
		for port := range 15 {
			good = append(good, post(port, ""))
		}
		for _, from := range append([]int{4, 7}, odd...) {
			isDelivered(t, p, from, 0, good...)
		}
		isMessages(t, "P13.3: Image behind Deliver", p.Image())
		for from, counts := range [][]int{{2, 4, 0, 0}, {1, 1, 0, 0}, {0, 0, 0, 0}, {1, 0, 0, 0}} {
			want += counts[node]
			isDelivered(t, p, from, counts[node], slices.Concat(l, good, l)...)
		}
		if got := len(p.Image()); got != want {
			t.Errorf("P13.3: node %d: %d messages, not %d", node, got, want)
		}
	}
}

// TestNil: nil ports hold nothing.
func TestNil(t *testing.T) {
	var p *ports.Ports
	for range 2 {
		for _, port := range append([]int{0, 1, 23}, odd...) {
			isWrite(t, p, 0, port, "", api.ErrNil)
			isWrite(t, p, port, 0, "far too long a message", api.ErrNil)
			isUnread(t, p, 0, port, api.ErrNil)
			isUnread(t, p, port, 0, api.ErrNil)
			isDelivered(t, p, port, 0, post(0, ""), post(port, "a"))
			p.Clear(port)
		}
		p.Age()
		isMessages(t, "R7: Seal", p.Seal())
		isMessages(t, "R7: Image", p.Image())
	}
}

// TestZero: ports that New didn't make are none.
func TestZero(t *testing.T) {
	p := new(ports.Ports)
	for range 2 {
		for _, port := range append([]int{0, 1, 23}, odd...) {
			isWrite(t, p, 0, port, "", at(api.ErrNone, port))
			isUnread(t, p, 0, port, at(api.ErrNone, port))
			isDelivered(t, p, 0, 0, post(port, ""))
			isDelivered(t, p, port, 0, post(0, ""))
			p.Clear(port)
		}
		p.Age()
		isMessages(t, "P13.3: Seal", p.Seal())
		isMessages(t, "P13.4: Image", p.Image())
	}
}

// TestTables: tables aren't changed, and what is changed in them later is nothing to the ports.
func TestTables(t *testing.T) {
	c := working()
	c.Ports = append(c.Ports, api.Port{Part: 77})[:len(c.Ports)]
	c.Routes = append(c.Routes, api.Route{From: 77})[:len(c.Routes)]
	p, q := made(t, c, 0), made(t, c, 1)
	if !reflect.DeepEqual(c, working()) || c.Ports[:cap(c.Ports)][len(c.Ports)].Part != 77 || c.Routes[:cap(c.Routes)][len(c.Routes)].From != 77 {
		t.Error("R6: New changes the tables")
	}
	for i := range c.Parts {
		c.Parts[i] = api.Part{Node: -1}
	}
	for i := range c.Ports {
		c.Ports[i] = api.Port{Part: 99, Size: -1}
	}
	for i := range c.Routes {
		c.Routes[i] = api.Route{From: 99, To: -99}
	}
	isWrite(t, p, 0, 0, "abcd", nil)
	isWrite(t, p, 0, 1, "abc", nil)
	l := p.Seal()
	isMessages(t, "R6: Seal", l, post(0, "abcd"), post(1, "abc"))
	isDelivered(t, q, 0, 4, l...)
	isRead(t, q, 2, 4, "abcd", true)
	isRead(t, q, 2, 7, "abc", true)
	isUnread(t, q, 2, 8, at(api.ErrMode, 8))
}

// roomy is a list with spare room behind it, all of which is the filler.
func roomy[T any](l []T, filler T) []T {
	out := slices.Concat(l, []T{filler, filler, filler})
	return out[:len(l)]
}

// spoil changes all memory of some bytes, spare room included.
func spoil(b []byte) {
	for i := range b[:cap(b)] {
		b[:cap(b)][i] ^= 0x5a
	}
}

// spoilAll changes all memory of some messages, spare room included.
func spoilAll(l []api.Message) {
	for _, m := range l[:cap(l)] {
		spoil(m.Data)
	}
	for i := range l[:cap(l)] {
		l[:cap(l)][i] = api.Message{Port: 77}
	}
}

// TestHandedIn: bytes and messages that are handed in are neither changed nor kept, spare room included.
func TestHandedIn(t *testing.T) {
	p := made(t, working(), 0)
	for _, x := range []struct {
		port int
		text string
		want error
	}{{0, "zero", nil}, {0, "five5", at(api.ErrSize, 0)}, {1, "one", nil}, {1, "", nil}, {1, "two", at(api.ErrFull, 1)}, {2, "a", at(api.ErrNone, 2)}} {
		data := roomy([]byte(x.text), 0xa5)
		isError(t, "P13.2: Write", p.Write(0, x.port, data), x.want)
		if string(data[:cap(data)][:len(data)+3]) != x.text+"\xa5\xa5\xa5" {
			t.Errorf("R6: Write changes what is handed in: %q", data[:cap(data)])
		}
		spoil(data)
	}
	data := roomy([]byte("abcd"), 0xa5)
	l := roomy([]api.Message{{Port: 0, Data: data[:4]}, {Port: 1, Data: data[1:3]}, {Port: 99, Data: data}}, api.Message{Port: 5})
	isDelivered(t, p, 0, 2, l...)
	if string(data[:7]) != "abcd\xa5\xa5\xa5" || !reflect.DeepEqual(l[:6], []api.Message{post(0, "abcd"), post(1, "bc"), post(99, "abcd"), {Port: 5}, {Port: 5}, {Port: 5}}) {
		t.Errorf("R6: Deliver changes what is handed in: %v", l[:6])
	}
	spoil(data)
	clear(l[:cap(l)])
	isMessages(t, "R6: Image", p.Image(), post(0, "zero"), post(1, "one"), post(1, ""), post(2, "abcd"), post(3, "bc"))
}

// TestAnswersNew: what is answered shares no memory with what is kept, with another answer, or within itself, also where one message came to several ports.
func TestAnswersNew(t *testing.T) {
	p := made(t, working(), 1)
	isDelivered(t, p, 0, 6, post(0, "abcd"), post(1, "one"), post(1, "two"))
	all := []api.Message{post(4, "abcd"), post(5, "one"), post(5, "two"), post(6, "abcd"), post(7, "one"), post(7, "two")}
	for spoilt := range all {
		l := p.Image()
		spoil(l[spoilt].Data)
		isMessages(t, "R6: of one Image", slices.Delete(l, spoilt, spoilt+1), slices.Delete(slices.Clone(all), spoilt, spoilt+1)...)
	}
	spoilAll(p.Image())
	isMessages(t, "R6: another Image", p.Image(), all...)
	one, _, _ := p.Read(2, 4)
	two, _, _ := p.Read(2, 4)
	spoil(one)
	if string(two) != "abcd" {
		t.Errorf("R6: another Read: %q", two)
	}
	isRead(t, p, 2, 4, "abcd", true)
	isRead(t, p, 2, 6, "abcd", true)
	data, _, _ := p.Read(2, 5)
	spoil(data)
	isRead(t, p, 2, 7, "one", true)
	isRead(t, p, 2, 5, "two", true)
	isMessages(t, "R6: Image behind", p.Image(), post(4, "abcd"), post(6, "abcd"), post(7, "two"))
}

// TestSealNew: messages that are sealed share no memory with what is written or delivered later, or with each other.
func TestSealNew(t *testing.T) {
	p := made(t, working(), 0)
	all := []api.Message{post(0, "zero"), post(1, "one"), post(1, "two"), post(13, "more")}
	for spoilt := range all {
		for _, m := range all {
			isWrite(t, p, boolean(m.Port == 13), m.Port, string(m.Data), nil)
		}
		image, l := p.Image(), p.Seal()
		spoil(l[spoilt].Data)
		isMessages(t, "R6: of one Seal", slices.Delete(slices.Clone(l), spoilt, spoilt+1), slices.Delete(slices.Clone(all), spoilt, spoilt+1)...)
		isMessages(t, "R6: the Image ahead", image, all...)
		spoilAll(l)
	}
	isWrite(t, p, 0, 1, "new", nil)
	l := p.Seal()
	isWrite(t, p, 0, 1, "old", nil)
	isWrite(t, p, 0, 1, "odd", nil)
	isMessages(t, "R6: Seal", l, post(1, "new"))
	isDelivered(t, p, 0, 1, l...)
	spoilAll(l)
	isRead(t, p, 1, 3, "new", true)
}

// TestApart: what one node's ports do is nothing to those of another, made of the same tables.
func TestApart(t *testing.T) {
	c := working()
	p, q, r := made(t, c, 0), made(t, c, 0), made(t, c, 1)
	isWrite(t, p, 0, 0, "abcd", nil)
	isDelivered(t, p, 1, 1, post(8, "a"))
	isDelivered(t, r, 0, 2, post(0, "r"))
	for range 9 {
		p.Age()
	}
	isMessages(t, "R8: Image", q.Image())
	isEmpty(t, q, 0, 10)
	isRead(t, r, 2, 4, "r", true)
	p.Clear(2)
	p.Clear(0)
	isMessages(t, "R8: Image", r.Image(), post(4, "r"), post(6, "r"))
}

// TestAtOnce: many nodes' ports, made of the same tables, are used at one time.
func TestAtOnce(t *testing.T) {
	c := working()
	var all sync.WaitGroup
	for range 8 {
		for node := range c.Nodes {
			all.Go(func() {
				chance := rand.New(rand.NewSource(int64(node)))
				p, err := ports.New(c, node)
				if err != nil {
					t.Error(err)
					return
				}
				steps(t, chance, p, blank(c, node), 500)
			})
		}
	}
	all.Wait()
}

// step is one call by chance, held to the second working.
func step(t *testing.T, chance *rand.Rand, p *ports.Ports, w *worked) {
	t.Helper()
	part, port := chance.Intn(len(w.tables.Parts)+2)-1, chance.Intn(len(w.tables.Ports)+2)-1
	if port >= 0 && port < len(w.tables.Ports) && chance.Intn(4) > 0 {
		part = w.tables.Ports[port].Part
	}
	text := strings.Repeat(string(rune('a'+chance.Intn(26))), []int{0, 1, 2, chance.Intn(18), 16, 17}[chance.Intn(6)])
	switch chance.Intn(16) {
	case 0:
		isMessages(t, "P13.3: Seal", p.Seal(), w.seal()...)
	case 1, 2:
		p.Age()
		w.rounds++
	case 3:
		if chance.Intn(8) == 0 {
			p.Clear(part)
			w.wipe(part)
		}
	case 4, 5, 6, 7, 8:
		isWrite(t, p, part, port, text, w.write(part, port, text))
	case 9, 10, 11, 12:
		want, fresh, err := w.read(part, port)
		if err != nil {
			isUnread(t, p, part, port, err)
		} else {
			isRead(t, p, part, port, want, fresh)
		}
	default:
		from := chance.Intn(w.tables.Nodes+2) - 1
		if owner := w.owner(port); owner >= 0 && chance.Intn(4) > 0 {
			from = owner
		}
		l := []api.Message{post(port, text)}
		for chance.Intn(2) == 0 {
			l = append(l, post(chance.Intn(len(w.tables.Ports)+2)-1, text[:len(text)/2]))
		}
		isDelivered(t, p, from, w.deliver(from, l), l...)
	}
}

// steps are many calls by chance; behind each the image is as the second working's.
func steps(t *testing.T, chance *rand.Rand, p *ports.Ports, w *worked, count int) {
	t.Helper()
	for range count {
		step(t, chance, p, w)
		isMessages(t, "P13.4: Image", p.Image(), w.image(false)...)
		if t.Failed() {
			return
		}
	}
}

func TestAny(t *testing.T) {
	chance := rand.New(rand.NewSource(1))
	for node := range 4 {
		steps(t, chance, made(t, working(), node), blank(working(), node), 5000)
	}
	for range 1500 {
		c := someTables(chance)
		kept := clone(c)
		node := chance.Intn(c.Nodes)
		steps(t, chance, made(t, c, node), blank(c, node), 100)
		if !reflect.DeepEqual(c, kept) {
			t.Fatal("R6: the tables are changed")
		}
	}
}

// TestCluster: round by round each node's messages come to all nodes; what each reads is what the second working does, and just what the others wrote.
func TestCluster(t *testing.T) {
	chance := rand.New(rand.NewSource(2))
	for range 150 {
		c := someTables(chance)
		var nodes []*ports.Ports
		var seconds []*worked
		for node := range c.Nodes {
			nodes, seconds = append(nodes, made(t, c, node)), append(seconds, blank(c, node))
		}
		for range 12 {
			for node, p := range nodes {
				for range 30 {
					port := chance.Intn(len(c.Ports))
					x, text := c.Ports[port], strings.Repeat("ab", chance.Intn(3))
					isError(t, "P13.2: Write", p.Write(x.Part, port, []byte(text)), seconds[node].write(x.Part, port, text))
					got, fresh, err := p.Read(x.Part, port)
					want, is, should := seconds[node].read(x.Part, port)
					isError(t, "P13.2: Read", err, should)
					if string(got) != want || fresh != is {
						t.Errorf("P13.2: Read: %q, %v, not %q, %v", got, fresh, want, is)
					}
				}
			}
			for from, p := range nodes {
				l := p.Seal()
				isMessages(t, "P13.3: Seal", l, seconds[from].seal()...)
				for node, q := range nodes {
					isDelivered(t, q, from, seconds[node].deliver(from, l), l...)
				}
			}
			for node, p := range nodes {
				p.Age()
				seconds[node].rounds++
			}
		}
		if t.Failed() {
			return
		}
	}
}

// TestWild: tables that don't work, and numbers of all kinds: each call ends, none panics, and there are ports or an error.
func TestWild(t *testing.T) {
	chance := rand.New(rand.NewSource(3))
	number := func() int { return append([]int{0, 1, 2, 3, 7, 14}, odd...)[chance.Intn(6+len(odd))] }
	for range 20000 {
		c := working()
		for range 1 + chance.Intn(2) {
			i, k, r := chance.Intn(len(c.Parts)), chance.Intn(len(c.Ports)), chance.Intn(len(c.Routes))
			*[]*int{&c.Nodes, &c.Parts[i].Node, &c.Parts[i].Start, &c.Ports[k].Part, &c.Ports[k].Size, &c.Ports[k].Depth, &c.Ports[k].Fresh, &c.Routes[r].From, &c.Routes[r].To}[chance.Intn(9)] = number()
		}
		node := number()
		p, err := ports.New(c, node)
		want := sound.Check(c)
		if want == nil && (node < 0 || node >= c.Nodes) {
			want = api.ErrRange
		}
		isError(t, "P13.1: New", err, want)
		if (p == nil) != (err != nil) {
			t.Fatalf("R3: New: %v, %v", p, err)
		}
		for range 4 {
			p.Write(number(), number(), make([]byte, chance.Intn(40)))
			p.Read(number(), number())
			p.Deliver(number(), []api.Message{post(number(), "a"), {Port: number()}})
			p.Clear(number())
		}
		p.Age()
		p.Seal()
		p.Image()
	}
}

// FuzzPorts: tables and calls by chance, that a seed tells, against the second working; and any bytes as a message.
func FuzzPorts(f *testing.F) {
	f.Add(int64(1), 0, 0, 0, []byte("abc"))
	f.Add(int64(2), -1, 1<<62, 24, []byte{})
	f.Fuzz(func(t *testing.T, seed int64, part, port, from int, data []byte) {
		chance := rand.New(rand.NewSource(seed))
		c := someTables(chance)
		node := chance.Intn(c.Nodes)
		p, w := made(t, c, node), blank(c, node)
		steps(t, chance, p, w, 50)
		isWrite(t, p, part, port, string(data), w.write(part, port, string(data)))
		l := []api.Message{{Port: port, Data: data}, {Port: part, Data: data}}
		isDelivered(t, p, from, w.deliver(from, l), l...)
		steps(t, chance, p, w, 50)
	})
}

// boolean is 1 of true.
func boolean(b bool) int {
	if b {
		return 1
	}
	return 0
}
