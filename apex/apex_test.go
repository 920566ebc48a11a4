package apex_test

import (
	"bytes"
	"math"
	"math/rand"
	"reflect"
	"slices"
	"strconv"
	"testing"

	"escapement/apex"
	"escapement/api"
	"escapement/health"
	"escapement/ports"
	"escapement/replica"
	"escapement/sound"
)

// Limits, as the chapter writes them, and others as DOC.md does.
const (
	maxWords  = 16
	maxKeys   = 8
	maxBudget = 64
	maxRounds = 1 << 20
)

// odd are numbers that are no partition, no port, no word and no key.
var odd = []int{math.MinInt, math.MinInt + 1, -1 << 32, -65536, -256, -8, -2, -1, 24, 255, 256, 65536, 1 << 31, 1 << 32, 1<<32 + 1, math.MaxInt - 1, math.MaxInt}

// wide are numbers of which words keep the lowest 16 bits, and what these are.
var wide = []struct {
	of   int
	want uint16
}{
	{0, 0}, {1, 1}, {7, 7}, {255, 255}, {256, 256}, {32767, 32767}, {32768, 32768}, {65535, 65535},
	{65536, 0}, {65537, 1}, {131071, 65535}, {1 << 32, 0}, {1<<32 + 9, 9}, {math.MaxInt, 65535},
	{-1, 65535}, {-2, 65534}, {-65535, 1}, {-65536, 0}, {-65537, 65535}, {math.MinInt, 0}, {math.MinInt + 3, 3},
}

// Ops, in short.
func spin(n int) api.Op     { return api.Op{Kind: api.OpSpin, A: n} }
func store(a, b int) api.Op { return api.Op{Kind: api.OpStore, A: a, B: b} }
func load(a int) api.Op     { return api.Op{Kind: api.OpLoad, A: a} }
func raise() api.Op         { return api.Op{Kind: api.OpRaise} }
func set(a, b int) api.Op   { return api.Op{Kind: api.OpSet, A: a, B: b} }
func drop(a int) api.Op     { return api.Op{Kind: api.OpDrop, A: a} }
func swap(a, b, c int) api.Op {
	return api.Op{Kind: api.OpSwap, A: a, B: b, C: c}
}
func ask(a int) api.Op     { return api.Op{Kind: api.OpAsk, A: a} }
func read(port int) api.Op { return api.Op{Kind: api.OpRead, Port: port} }
func write(port int, data string) api.Op {
	return api.Op{Kind: api.OpWrite, Port: port, Data: []byte(data)}
}

// Results, in short.
func code(e api.Errno) api.Result { return api.Result{Code: e} }
func value(n int) api.Result      { return api.Result{Value: n} }
func data(s string, fresh bool) api.Result {
	return api.Result{Data: []byte(s), Fresh: fresh}
}

// all is the same action of each kind of error.
func all(a api.Action) [4]api.Action { return [4]api.Action{a, a, a, a} }

// alone are tables of one partition.
func alone(budget, words int, recover [4]api.Action) api.Config {
	return api.Config{Nodes: 1, Slot: 1000, Gap: 500, Margin: 98, Parts: []api.Part{{Length: 50, Budget: budget, Words: words, Recover: recover}}}
}

// linked are tables of two nodes: partition 0 of node 0, 1 and 2 of node 1. Partition 1 has ports of all kinds.
func linked(recover [4]api.Action) api.Config {
	c := api.Config{Nodes: 2, Slot: 1000, Gap: 500, Margin: 98}
	c.Parts = []api.Part{{Length: 50, Budget: 64, Words: 3}, {Node: 1, Length: 50, Budget: 64, Words: 2}, {Node: 1, Start: 50, Length: 50, Budget: 64}}
	for i := range c.Parts {
		c.Parts[i].Recover = recover
	}
	c.Ports = []api.Port{
		{Part: 0, Kind: api.Sampling, Out: true, Size: 3},          // 0: to 2, 7
		{Part: 0, Kind: api.Queuing, Out: true, Size: 3, Depth: 4}, // 1: to 3
		{Part: 1, Kind: api.Sampling, Size: 3, Fresh: 1},           // 2
		{Part: 1, Kind: api.Queuing, Size: 3, Depth: 2},            // 3
		{Part: 1, Kind: api.Sampling, Out: true, Size: 2},          // 4
		{Part: 1, Kind: api.Queuing, Out: true, Size: 2, Depth: 2}, // 5: to 6
		{Part: 2, Kind: api.Queuing, Size: 2, Depth: 1},            // 6
		{Part: 2, Kind: api.Sampling, Size: 4, Fresh: 0},           // 7
	}
	c.Routes = []api.Route{{From: 0, To: 2}, {From: 1, To: 3}, {From: 5, To: 6}, {From: 0, To: 7}}
	return c
}

// made is the partition; it must be one.
func made(t testing.TB, c api.Config, part int) *apex.Partition {
	t.Helper()
	p, err := apex.New(c, part)
	if err != nil || p == nil {
		t.Fatalf("P16.1: New(%v, %d): %v, %v", c.Parts, part, p, err)
	}
	return p
}

// host is what a node of working tables gives its partitions, all of it empty.
func host(t testing.TB, c api.Config, node int) apex.Host {
	t.Helper()
	p, err := ports.New(c, node)
	if err != nil {
		t.Fatal(err)
	}
	return apex.Host{Ports: p, Table: replica.New(), Monitor: health.New(node, c.Parts), Command: new(api.Command)}
}

// sameResults: the same ones? An empty list and none are.
func sameResults(a, b []api.Result) bool {
	return slices.EqualFunc(a, b, func(x, y api.Result) bool {
		same := bytes.Equal(x.Data, y.Data)
		x.Data, y.Data = nil, nil
		return same && reflect.DeepEqual(x, y)
	})
}

// isRun holds a run to bring these results, that action, and to take so many steps.
func isRun(t *testing.T, p *apex.Partition, h apex.Host, round uint32, ops []api.Op, want []api.Result, did api.Action, took int) {
	t.Helper()
	got, action, steps := p.Run(h, round, ops)
	if !sameResults(got, want) {
		t.Errorf("P16.2: Run(%d, %v): %v, not %v", round, ops, got, want)
	}
	if action != did {
		t.Errorf("P16.2: Run(%d, %v): action %d, not %d", round, ops, action, did)
	}
	if steps != took {
		t.Errorf("P16.2: Run(%d, %v): %d steps, not %d", round, ops, steps, took)
	}
}

// isOne holds a single op, of a partition with steps, to bring that result; of an error that is told, that action is done.
func isOne(t *testing.T, p *apex.Partition, h apex.Host, o api.Op, want api.Result, did api.Action) {
	t.Helper()
	isRun(t, p, h, 0, []api.Op{o}, []api.Result{want}, did, 1)
}

// isMemory holds a partition's words to be these.
func isMemory(t *testing.T, p *apex.Partition, want ...uint16) {
	t.Helper()
	if got := p.Memory(); !slices.Equal(got, want) {
		t.Errorf("P16.1: Memory: %v, not %v", got, want)
	}
}

// isTold holds a monitor to have kept these records since the last time.
func isTold(t *testing.T, h apex.Host, want ...api.Record) {
	t.Helper()
	if got := h.Monitor.Seal(); !slices.Equal(got, want) {
		t.Errorf("P16.2: reported: %v, not %v", got, want)
	}
}

func TestExamples(t *testing.T) {
	c := alone(3, 1, [4]api.Action{api.KindOverrun: api.Reset})
	isRun(t, made(t, c, 0), host(t, c, 0), 0, []api.Op{spin(2), store(0, 7), load(0)}, []api.Result{{}, value(7), code(api.ErrBudget)}, api.Reset, 3)
	c = alone(3, 1, all(api.Ignore))
	isRun(t, made(t, c, 0), host(t, c, 0), 0, []api.Op{load(99), store(0, 5)}, []api.Result{code(api.ErrMemory), value(5)}, api.Ignore, 2)
	h := host(t, c, 0)
	isRun(t, made(t, c, 0), h, 0, []api.Op{set(1, 5), set(2, 6)}, []api.Result{{}, code(api.ErrBusy)}, api.Ignore, 2)
	if want := (api.Command{Kind: api.CmdSet, Key: 1, Val: 5}); *h.Command != want {
		t.Errorf("P16.2: %v waits, not %v", *h.Command, want)
	}
}

// isNone holds New to refuse a partition.
func isNone(t *testing.T, c api.Config, part int) {
	t.Helper()
	p, err := apex.New(c, part)
	if e, ok := err.(api.Errno); !ok || e != api.ErrRange {
		t.Errorf("P16.1: New(%v, %d): %v, not ErrRange itself", c.Parts, part, err)
	}
	if p != nil {
		t.Errorf("R3: New(%v, %d): a partition beside an error", c.Parts, part)
	}
}

// TestNew: each partition of some, numbers that are none, and words at the ends and beyond.
func TestNew(t *testing.T) {
	isNone(t, api.Config{}, 0)
	for n := 1; n <= 13; n++ {
		c := api.Config{}
		for i := range n {
			c.Parts = append(c.Parts, api.Part{Words: i})
		}
		for i := range n {
			isMemory(t, made(t, c, i), make([]uint16, i)...)
		}
		isNone(t, c, n)
		for _, part := range odd {
			isNone(t, c, part)
		}
	}
	for words := range maxWords + 1 {
		isMemory(t, made(t, alone(64, words, all(0)), 0), make([]uint16, words)...)
	}
	for _, words := range append([]int{maxWords + 1}, odd...) {
		isNone(t, alone(64, words, all(0)), 0)
		c := alone(64, 2, all(0))
		c.Parts = append(c.Parts, api.Part{Words: words})
		isNone(t, c, 1)
		isMemory(t, made(t, c, 0), 0, 0)
	}
}

// TestNewOfAnyTables: nothing else of the tables is looked at.
func TestNewOfAnyTables(t *testing.T) {
	c := api.Config{Nodes: -1, Slot: -5, Rho: 1 << 40, Ports: []api.Port{{Part: 9}}, Routes: []api.Route{{From: 7, To: -7}}}
	c.Parts = []api.Part{{Node: 99, Start: -4, Length: math.MinInt, Budget: 2, Words: 3, Recover: all(77)}}
	p := made(t, c, 0)
	isMemory(t, p, 0, 0, 0)
	isRun(t, p, apex.Host{}, 0, []api.Op{store(2, 8)}, []api.Result{value(8)}, 0, 1)
}

// TestNewKeepsNoTables: tables that are changed behind New change nothing, and New doesn't change them.
func TestNewKeepsNoTables(t *testing.T) {
	c := linked(all(0))
	before := linked(all(0))
	p := made(t, c, 1)
	if !reflect.DeepEqual(c, before) {
		t.Error("R6: New changed its tables")
	}
	c.Parts[1] = api.Part{Budget: 1, Words: 9}
	h := host(t, before, 1)
	isRun(t, p, h, 0, []api.Op{spin(60), load(2), write(4, "ab"), spin(2)}, []api.Result{{}, code(api.ErrMemory), {}, {}}, 0, 64)
}

// TestMemory: what is answered is new, spare room too; each partition has its own.
func TestMemory(t *testing.T) {
	c := alone(64, 4, all(0))
	p, q := made(t, c, 0), made(t, c, 0)
	isRun(t, p, apex.Host{}, 0, []api.Op{store(0, 1), store(3, 9)}, []api.Result{value(1), value(9)}, 0, 2)
	isMemory(t, p, 1, 0, 0, 9)
	isMemory(t, q, 0, 0, 0, 0)
	a, b := p.Memory(), p.Memory()
	a = a[:cap(a)]
	for i := range a {
		a[i] = 77
	}
	isMemory(t, p, 1, 0, 0, 9)
	if !slices.Equal(b, []uint16{1, 0, 0, 9}) {
		t.Errorf("R6: an earlier answer is %v now", b)
	}
	isRun(t, p, apex.Host{}, 0, []api.Op{store(1, 5)}, []api.Result{value(5)}, 0, 1)
	if !slices.Equal(b, []uint16{1, 0, 0, 9}) {
		t.Errorf("R6: an earlier answer is %v now", b)
	}
	none := made(t, alone(64, 0, all(0)), 0)
	if l := none.Memory(); len(l) != 0 {
		t.Errorf("P16.1: Memory of no words: %v", l)
	}
}

// TestClear: all words are 0, and can be stored to again; what was answered stays.
func TestClear(t *testing.T) {
	for words := range maxWords + 1 {
		p := made(t, alone(64, words, all(0)), 0)
		want := make([]uint16, words)
		for a := range words {
			isOne(t, p, apex.Host{}, store(a, 65535-a), value(65535-a), 0)
			want[a] = uint16(65535 - a)
		}
		isMemory(t, p, want...)
		before := p.Memory()
		p.Clear()
		isMemory(t, p, make([]uint16, words)...)
		if !slices.Equal(before, want) {
			t.Errorf("R6: an earlier answer is %v now", before)
		}
		for a := range words {
			isOne(t, p, apex.Host{}, load(a), value(0), 0)
		}
		p.Clear()
		isMemory(t, p, make([]uint16, words)...)
		if words > 0 {
			isOne(t, p, apex.Host{}, store(words-1, 3), value(3), 0)
		}
	}
}

// TestMemoryStays: words stay from run to run, whatever the runs end in.
func TestMemoryStays(t *testing.T) {
	c := alone(3, 2, all(api.Shutdown))
	p, h := made(t, c, 0), host(t, c, 0)
	isRun(t, p, h, 1, []api.Op{store(0, 4), raise(), store(1, 5)}, []api.Result{value(4), code(api.ErrRaised)}, api.Shutdown, 2)
	isMemory(t, p, 4, 0)
	isRun(t, p, h, 2, []api.Op{load(0), store(1, 6), spin(2)}, []api.Result{value(4), value(6), code(api.ErrBudget)}, api.Shutdown, 3)
	isMemory(t, p, 4, 6)
	isRun(t, p, h, 3, []api.Op{load(0), load(1)}, []api.Result{value(4), value(6)}, api.Ignore, 2)
}

// TestCost: of each kind, with numbers of all sizes.
func TestCost(t *testing.T) {
	for _, x := range []struct{ a, want int }{{math.MinInt, 1}, {-5, 1}, {-1, 1}, {0, 1}, {1, 1}, {2, 2}, {3, 3}, {63, 63}, {64, 64}, {65, 65}, {1 << 32, 1 << 32}, {math.MaxInt, math.MaxInt}} {
		for kind := range 256 {
			want := 1
			if kind == 5 {
				want = x.want
			}
			for _, o := range []api.Op{{A: x.a}, {A: x.a, B: 9, C: 9, Port: 9, Data: []byte("abc")}} {
				o.Kind = api.OpKind(kind)
				if got := apex.Cost(o); got != want {
					t.Errorf("P16.1: Cost(%v): %d, not %d", o, got, want)
				}
			}
		}
	}
}

// TestBudget: with each budget as many loads as it has steps, and one more, whatever is done of it.
func TestBudget(t *testing.T) {
	for budget := range maxBudget + 1 {
		for _, action := range []api.Action{api.Ignore, api.Restart, api.Reset, api.Shutdown} {
			c := alone(budget, 1, [4]api.Action{action, api.Shutdown, api.Shutdown, api.Shutdown})
			p, h := made(t, c, 0), host(t, c, 0)
			fit := slices.Repeat([]api.Op{load(0)}, budget)
			brought := make([]api.Result, budget)
			isRun(t, p, h, 5, fit, brought, api.Ignore, budget)
			isTold(t, h)
			over := append(fit, store(0, 9), raise(), load(0))
			isRun(t, p, h, 6, over, append(brought, code(api.ErrBudget)), action, budget)
			isTold(t, h, api.Record{Round: 6, Kind: api.KindOverrun, Did: action})
			isMemory(t, p, 0)
		}
	}
}

// TestSpin: a spin takes its steps if just so many are left, and all that are left if one is missing.
func TestSpin(t *testing.T) {
	for budget := 1; budget <= maxBudget; budget++ {
		for ahead := range budget + 1 {
			left := budget - ahead
			c := alone(budget, 1, all(api.Ignore))
			p, h := made(t, c, 0), host(t, c, 0)
			first := slices.Repeat([]api.Op{load(0)}, ahead)
			brought := make([]api.Result, ahead)
			if left > 0 {
				isRun(t, p, h, 0, append(first, spin(left)), append(brought, api.Result{}), api.Ignore, budget)
				isRun(t, p, h, 0, append(first, spin(left), spin(0)), append(brought, api.Result{}, code(api.ErrBudget)), api.Ignore, budget)
				isRun(t, p, h, 0, append(first, spin(-7)), append(brought, api.Result{}), api.Ignore, ahead+1)
			}
			for _, n := range []int{left + 1, left + 2, 1 << 40, math.MaxInt} {
				isRun(t, p, h, 0, append(first, spin(n), load(0)), append(brought, code(api.ErrBudget)), api.Ignore, budget)
			}
		}
	}
}

// TestBudgetEachRound: a run has all its steps anew.
func TestBudgetEachRound(t *testing.T) {
	c := alone(2, 0, all(api.Ignore))
	p, h := made(t, c, 0), host(t, c, 0)
	for round := range uint32(20) {
		isRun(t, p, h, round, []api.Op{spin(2), spin(1)}, []api.Result{{}, code(api.ErrBudget)}, api.Ignore, 2)
		isRun(t, p, h, round, []api.Op{spin(1)}, []api.Result{{}}, api.Ignore, 1)
		isRun(t, p, h, round, nil, nil, api.Ignore, 0)
	}
}

// TestCutOff: nothing of what is cut off is done, whatever it is, though an error of it would come first.
func TestCutOff(t *testing.T) {
	c := linked([4]api.Action{api.Ignore, api.Shutdown, api.Shutdown, api.Shutdown})
	c.Parts[1].Budget = 2
	for _, o := range []api.Op{write(4, "a"), write(5, "a"), write(4, "toolong"), read(2), read(3), read(5), store(0, 1), store(9, 1), load(9), raise(), set(1, 1), set(9, 9), drop(2), swap(3, 1, 1), ask(9), {Kind: 77}} {
		p, h := made(t, c, 1), host(t, c, 1)
		h.Ports.Deliver(0, []api.Message{{Port: 1, Data: []byte("abc")}, {Port: 0, Data: []byte("x")}})
		before := h.Ports.Image()
		isRun(t, p, h, 3, []api.Op{spin(2), o, o}, []api.Result{{}, code(api.ErrBudget)}, api.Ignore, 2)
		isTold(t, h, api.Record{Round: 3, Node: 1, Part: 1, Kind: api.KindOverrun})
		if after := h.Ports.Image(); !reflect.DeepEqual(before, after) {
			t.Errorf("P9: %v was cut off, and ports hold %v, not %v", o, after, before)
		}
		if *h.Command != (api.Command{}) {
			t.Errorf("P9: %v was cut off, and %v waits", o, *h.Command)
		}
		isMemory(t, p, 0, 0)
	}
}

// TestWildBudget: budgets that tables wouldn't allow: the run ends all the same, with no steps of one below 0.
func TestWildBudget(t *testing.T) {
	for _, budget := range []int{math.MinInt, -64, -1} {
		c := alone(budget, 1, all(api.Ignore))
		p, h := made(t, c, 0), apex.Host{Monitor: health.New(0, c.Parts)}
		got, did, took := p.Run(h, 0, []api.Op{store(0, 1), store(0, 2)})
		if !sameResults(got, []api.Result{code(api.ErrBudget)}) || did != api.Ignore || took > 0 {
			t.Errorf("P9: budget %d: %v, %d, %d", budget, got, did, took)
		}
		isMemory(t, p, 0)
	}
	for _, budget := range []int{65, 1 << 32, math.MaxInt} {
		c := alone(budget, 1, all(api.Ignore))
		p, h := made(t, c, 0), apex.Host{Monitor: health.New(0, c.Parts)}
		isRun(t, p, h, 0, []api.Op{spin(budget - 1), store(0, 1), load(0)}, []api.Result{{}, value(1), code(api.ErrBudget)}, api.Ignore, budget)
		isRun(t, p, h, 0, []api.Op{spin(1), spin(budget)}, []api.Result{{}, code(api.ErrBudget)}, api.Ignore, budget)
	}
}

// told are an op of each kind of error that is told, with its code.
func told() []struct {
	op   api.Op
	code api.Errno
	kind api.ErrorKind
} {
	return []struct {
		op   api.Op
		code api.Errno
		kind api.ErrorKind
	}{
		{spin(65), api.ErrBudget, api.KindOverrun},
		{load(2), api.ErrMemory, api.KindMemory},
		{store(-1, 2), api.ErrMemory, api.KindMemory},
		{raise(), api.ErrRaised, api.KindRaised},
		{api.Op{}, api.ErrRaised, api.KindRaised},
		{ask(8), api.ErrRange, api.KindRaised},
		{set(8, 1), api.ErrRange, api.KindRaised},
		{drop(-1), api.ErrRange, api.KindRaised},
		{swap(8, 1, 2), api.ErrRange, api.KindRaised},
		{write(99, "a"), api.ErrNone, api.KindPort},
		{write(2, "a"), api.ErrMode, api.KindPort},
		{write(4, "abc"), api.ErrSize, api.KindPort},
		{read(0), api.ErrNone, api.KindPort},
		{read(4), api.ErrMode, api.KindPort},
	}
}

// TestEnds: of each error that is told, and each action, whether the run goes on, what it answers, and what is recorded.
func TestEnds(t *testing.T) {
	for _, x := range told() {
		for action := range api.Action(6) {
			recover := all(api.Shutdown)
			if action == api.Shutdown {
				recover = all(api.Reset)
			}
			recover[x.kind] = action
			c := linked(recover)
			p, h := made(t, c, 1), host(t, linked(all(0)), 1)
			h.Monitor = health.New(1, c.Parts)
			want, did, took := []api.Result{value(7), code(x.code)}, action, 2
			switch {
			case x.code == api.ErrBudget:
				took = 64
			case action == api.Ignore:
				want, took = append(want, value(7), code(api.ErrEmpty)), 4
			}
			isRun(t, p, h, 1000, []api.Op{store(1, 7), x.op, load(1), ask(1)}, want, did, took)
			isTold(t, h, api.Record{Round: 1000, Node: 1, Part: 1, Kind: x.kind, Did: action})
		}
	}
}

// TestEndsLast: what is ignored ahead doesn't count: the run answers the action of the error that ended it.
func TestEndsLast(t *testing.T) {
	c := linked([4]api.Action{api.Ignore, api.Ignore, api.Reset, api.Ignore})
	p, h := made(t, c, 1), host(t, c, 1)
	isRun(t, p, h, 9, []api.Op{load(9), read(99), load(8), raise(), load(0)}, []api.Result{code(api.ErrMemory), code(api.ErrNone), code(api.ErrMemory), code(api.ErrRaised)}, api.Reset, 4)
	isTold(t, h,
		api.Record{Round: 9, Node: 1, Part: 1, Kind: api.KindMemory},
		api.Record{Round: 9, Node: 1, Part: 1, Kind: api.KindPort},
		api.Record{Round: 9, Node: 1, Part: 1, Kind: api.KindMemory},
		api.Record{Round: 9, Node: 1, Part: 1, Kind: api.KindRaised, Did: api.Reset})
	isRun(t, p, h, 9, []api.Op{load(9), load(0)}, []api.Result{code(api.ErrMemory), value(0)}, api.Ignore, 2)
	isRun(t, p, h, 9, []api.Op{load(9), spin(63), load(0), load(0)}, []api.Result{code(api.ErrMemory), {}, code(api.ErrBudget)}, api.Ignore, 64)
}

// TestThirdRestart: what the monitor makes of a Restart is what the run answers, of each partition by itself.
func TestThirdRestart(t *testing.T) {
	c := linked(all(api.Restart))
	one, two, h := made(t, c, 1), made(t, c, 2), host(t, c, 1)
	for _, x := range []struct {
		p    *apex.Partition
		op   api.Op
		want api.Errno
		in   uint32
		did  api.Action
	}{
		{one, raise(), api.ErrRaised, 4, api.Restart},
		{one, load(2), api.ErrMemory, 5, api.Restart},
		{two, raise(), api.ErrRaised, 5, api.Restart},
		{one, read(4), api.ErrMode, 6, api.Reset},
		{two, raise(), api.ErrRaised, 7, api.Restart},
		{one, raise(), api.ErrRaised, 8, api.Restart},
	} {
		isRun(t, x.p, h, x.in, []api.Op{x.op, load(0)}, []api.Result{code(x.want)}, x.did, 1)
	}
}

// TestNotReported: of a monitor that refuses a report the run ends, and nothing is done.
func TestNotReported(t *testing.T) {
	for _, x := range told() {
		for _, action := range []api.Action{api.Ignore, api.Shutdown} {
			c := linked(all(action))
			took := 2
			if x.code == api.ErrBudget {
				took = 64
			}
			ops := []api.Op{load(0), x.op, load(1)}
			want := []api.Result{{}, code(x.code)}
			for _, round := range []uint32{maxRounds, maxRounds + 1, math.MaxUint32} {
				h := host(t, c, 1)
				isRun(t, made(t, c, 1), h, round, ops, want, api.Ignore, took)
				isTold(t, h)
			}
			for _, m := range []*health.Monitor{nil, health.New(1, nil), health.New(1, c.Parts[:1])} {
				h := host(t, c, 1)
				h.Monitor = m
				isRun(t, made(t, c, 1), h, 0, ops, want, api.Ignore, took)
				isTold(t, h)
			}
			h := host(t, c, 1)
			got, did, _ := made(t, c, 1).Run(h, maxRounds-1, ops)
			if did != action || (action == 0 && took == 2) != (len(got) == 3) {
				t.Errorf("P16.2: %v in the last round: %v, %d", x.op, got, did)
			}
		}
	}
}

// TestNoError: that something is empty, full or busy isn't told to the monitor, and no run ends by it.
func TestNoError(t *testing.T) {
	c := linked(all(api.Shutdown))
	p, h := made(t, c, 1), host(t, c, 1)
	ops := []api.Op{read(2), read(3), write(5, "a"), write(5, "b"), write(5, "c"), set(1, 2), drop(1), set(1, 2), swap(1, 2, 3), ask(1), load(0)}
	want := []api.Result{code(api.ErrEmpty), code(api.ErrEmpty), {}, {}, code(api.ErrFull), {}, code(api.ErrBusy), code(api.ErrBusy), code(api.ErrBusy), code(api.ErrEmpty), {}}
	isRun(t, p, h, 0, ops, want, api.Ignore, len(ops))
	isTold(t, h)
}

// TestPorts: what is written goes out as it was, and what came is read, of both kinds of ports, by their own partition alone.
func TestPorts(t *testing.T) {
	c := linked(all(api.Ignore))
	zero, one, two := made(t, c, 0), made(t, c, 1), made(t, c, 2)
	there, here := host(t, c, 0), host(t, c, 1)
	isRun(t, zero, there, 0, []api.Op{write(0, "abc"), write(0, "xy"), write(1, "1"), write(1, ""), write(1, "333")}, make([]api.Result, 5), 0, 5)
	here.Ports.Deliver(0, there.Ports.Seal())
	isRun(t, one, here, 0, []api.Op{read(2), read(2), read(3), read(3), read(3)}, []api.Result{data("xy", true), data("xy", true), data("1", true), data("", true), code(api.ErrEmpty)}, 0, 5)
	here.Ports.Age()
	isRun(t, one, here, 0, []api.Op{read(2)}, []api.Result{data("xy", true)}, 0, 1)
	isRun(t, two, here, 0, []api.Op{read(7)}, []api.Result{data("xy", false)}, 0, 1)
	here.Ports.Age()
	isRun(t, one, here, 0, []api.Op{read(2)}, []api.Result{data("xy", false)}, 0, 1)
	isRun(t, two, here, 0, []api.Op{read(2), read(3), write(4, ""), read(6), write(6, "")}, []api.Result{code(api.ErrNone), code(api.ErrNone), code(api.ErrNone), code(api.ErrEmpty), code(api.ErrMode)}, 0, 5)
	isRun(t, zero, here, 0, []api.Op{read(2), write(0, "a"), write(4, "a")}, []api.Result{code(api.ErrNone), code(api.ErrNone), code(api.ErrNone)}, 0, 3)
	isRun(t, one, here, 0, []api.Op{write(4, "a"), write(4, "abc"), write(5, "bb"), write(5, "ccc"), write(5, "d"), write(5, "e")}, []api.Result{{}, code(api.ErrSize), {}, code(api.ErrSize), {}, code(api.ErrFull)}, 0, 6)
	want := []api.Message{{Port: 4, Data: []byte("a")}, {Port: 5, Data: []byte("bb")}, {Port: 5, Data: []byte("d")}}
	if got := here.Ports.Seal(); !reflect.DeepEqual(got, want) {
		t.Errorf("P16.2: %v was written, not %v", got, want)
	}
}

// TestEachPort: an op of each port, and of numbers that are none, brings what chapter 13's call answers.
func TestEachPort(t *testing.T) {
	c := linked(all(api.Ignore))
	numbers := slices.Clone(odd)
	for port := range len(c.Ports) + 2 {
		numbers = append(numbers, port)
	}
	for part := range c.Parts {
		for node := range c.Nodes {
			for _, port := range numbers {
				for _, text := range []string{"", "a", "ab", "abc", "abcd", "0123456789abcdef0"} {
					isPort(t, c, part, node, port, text)
				}
			}
		}
	}
}

// isPort holds a partition's ops of a port of a node to bring what the node's ports answer.
func isPort(t *testing.T, c api.Config, part, node, port int, text string) {
	t.Helper()
	p, h, other := made(t, c, part), host(t, c, node), host(t, c, node)
	for _, x := range []apex.Host{h, other} {
		x.Ports.Deliver(0, []api.Message{{Port: 0, Data: []byte("zz")}, {Port: 1, Data: []byte("y")}})
	}
	bare := func(err error) api.Errno {
		switch e := err.(type) {
		case *api.Fault:
			return e.Code
		case api.Errno:
			return e
		}
		return api.OK
	}
	err := other.Ports.Write(part, port, []byte(text))
	isOne(t, p, h, write(port, text), code(bare(err)), 0)
	got, fresh, err := other.Ports.Read(part, port)
	isOne(t, p, h, read(port), api.Result{Code: bare(err), Data: got, Fresh: fresh}, 0)
	if a, b := h.Ports.Image(), other.Ports.Image(); !reflect.DeepEqual(a, b) {
		t.Errorf("P16.2: partition %d, node %d, port %d: the ports hold %v, not %v", part, node, port, a, b)
	}
}

// TestNoPorts: of a host without ports: ErrNil, which is told as raised.
func TestNoPorts(t *testing.T) {
	c := linked([4]api.Action{api.Shutdown, api.Shutdown, api.Ignore, api.Shutdown})
	p := made(t, c, 1)
	h := apex.Host{Monitor: health.New(1, c.Parts)}
	isRun(t, p, h, 2, []api.Op{write(4, "a"), read(2)}, []api.Result{code(api.ErrNil), code(api.ErrNil)}, 0, 2)
	isTold(t, h, api.Record{Round: 2, Node: 1, Part: 1, Kind: api.KindRaised}, api.Record{Round: 2, Node: 1, Part: 1, Kind: api.KindRaised})
}

// TestWords: each word of each memory, and those beyond.
func TestWords(t *testing.T) {
	for words := range maxWords + 1 {
		c := alone(64, words, all(api.Ignore))
		h := host(t, c, 0)
		for a := range words {
			p := made(t, c, 0)
			isOne(t, p, h, load(a), value(0), 0)
			isOne(t, p, h, store(a, 513), value(513), 0)
			isOne(t, p, h, load(a), value(513), 0)
			want := make([]uint16, words)
			want[a] = 513
			isMemory(t, p, want...)
		}
		p := made(t, c, 0)
		for _, a := range append([]int{words, words + 1, words + 65536}, odd...) {
			isOne(t, p, h, load(a), code(api.ErrMemory), 0)
			isOne(t, p, h, store(a, 5), code(api.ErrMemory), 0)
		}
		isMemory(t, p, make([]uint16, words)...)
	}
	c := alone(64, 2, all(api.Ignore))
	p := made(t, c, 0)
	for _, x := range wide {
		isOne(t, p, apex.Host{}, store(1, x.of), value(int(x.want)), 0)
		isOne(t, p, apex.Host{}, load(1), value(int(x.want)), 0)
		isMemory(t, p, 0, x.want)
	}
}

// waits holds an op to bring that result, and that command to wait behind it.
func waits(t *testing.T, h apex.Host, o api.Op, want api.Result, wait api.Command) {
	t.Helper()
	p := made(t, alone(64, 0, all(api.Ignore)), 0)
	isOne(t, p, h, o, want, 0)
	if h.Command != nil && *h.Command != wait {
		t.Errorf("P16.2: behind %v %v waits, not %v", o, *h.Command, wait)
	}
}

// TestCommands: each kind at each key, at numbers that are no keys, and with values of all sizes.
func TestCommands(t *testing.T) {
	c := alone(64, 0, all(api.Ignore))
	for key := range maxKeys {
		waits(t, host(t, c, 0), api.Op{Kind: 7, A: key, B: 3, C: 4}, api.Result{}, api.Command{Kind: 1, Key: uint8(key), Val: 3})
		waits(t, host(t, c, 0), api.Op{Kind: 8, A: key, B: 3, C: 4}, api.Result{}, api.Command{Kind: 2, Key: uint8(key)})
		waits(t, host(t, c, 0), api.Op{Kind: 9, A: key, B: 3, C: 4}, api.Result{}, api.Command{Kind: 3, Key: uint8(key), Val: 3, Old: 4})
	}
	for _, key := range append([]int{8, 9}, odd...) {
		for kind := api.OpSet; kind <= api.OpSwap; kind++ {
			h := host(t, c, 0)
			o := api.Op{Kind: kind, A: key, B: 1, C: 2}
			waits(t, h, o, code(api.ErrRange), api.Command{})
			*h.Command = api.Command{Kind: 2, Key: 5}
			waits(t, h, o, code(api.ErrRange), api.Command{Kind: 2, Key: 5})
			waits(t, apex.Host{Monitor: h.Monitor}, o, code(api.ErrRange), api.Command{})
		}
	}
	for _, x := range wide {
		for _, y := range wide {
			waits(t, host(t, c, 0), set(2, x.of), api.Result{}, api.Command{Kind: 1, Key: 2, Val: x.want})
			waits(t, host(t, c, 0), swap(2, x.of, y.of), api.Result{}, api.Command{Kind: 3, Key: 2, Val: x.want, Old: y.want})
		}
	}
}

// TestBusy: while a command waits, whatever it is, and where there is no place, none is taken; of CmdNone none waits.
func TestBusy(t *testing.T) {
	c := alone(64, 0, all(api.Shutdown))
	for kind := api.OpSet; kind <= api.OpSwap; kind++ {
		o := api.Op{Kind: kind, A: 7, B: 8, C: 9}
		for waiting := 1; waiting <= 255; waiting++ {
			h := host(t, c, 0)
			*h.Command = api.Command{Kind: api.CmdKind(waiting), Key: 2, Val: 3, Old: 4}
			waits(t, h, o, code(api.ErrBusy), *h.Command)
		}
		h := host(t, c, 0)
		h.Command = nil
		waits(t, h, o, code(api.ErrBusy), api.Command{})
		h = host(t, c, 0)
		*h.Command = api.Command{Key: 2, Val: 3, Old: 4}
		want := api.Command{Kind: api.CmdKind(kind - 6), Key: 7, Val: 8, Old: 9}
		if kind != api.OpSwap {
			want.Old = 0
		}
		if kind == api.OpDrop {
			want.Val = 0
		}
		waits(t, h, o, api.Result{}, want)
		*h.Command = api.Command{}
		waits(t, h, o, api.Result{}, want)
	}
}

// TestCommandsOnlyWait: a command isn't done by the run: the table stays as it is.
func TestCommandsOnlyWait(t *testing.T) {
	c := alone(64, 0, all(api.Ignore))
	p, h := made(t, c, 0), host(t, c, 0)
	h.Table.Apply(api.Command{Kind: api.CmdSet, Key: 3, Val: 30})
	isRun(t, p, h, 0, []api.Op{set(3, 9), ask(3)}, []api.Result{{}, value(30)}, 0, 2)
	if h.Table.Done() != 1 {
		t.Errorf("P16.2: %d commands were done", h.Table.Done())
	}
}

// TestAsk: keys with values, without, and numbers that are no keys.
func TestAsk(t *testing.T) {
	c := alone(64, 0, all(api.Ignore))
	p, h := made(t, c, 0), host(t, c, 0)
	for key := range maxKeys {
		isOne(t, p, h, ask(key), code(api.ErrEmpty), 0)
		h.Table.Apply(api.Command{Kind: api.CmdSet, Key: uint8(key), Val: uint16(65535 - key)})
		isOne(t, p, h, ask(key), value(65535-key), 0)
	}
	for key := range maxKeys {
		isOne(t, p, h, ask(key), value(65535-key), 0)
	}
	h.Table.Apply(api.Command{Kind: api.CmdSet, Key: 2})
	isOne(t, p, h, ask(2), value(0), 0)
	h.Table.Apply(api.Command{Kind: api.CmdDrop, Key: 2})
	isOne(t, p, h, ask(2), code(api.ErrEmpty), 0)
	isTold(t, h)
	for _, key := range append([]int{8, 9}, odd...) {
		isOne(t, p, h, ask(key), code(api.ErrRange), 0)
		isTold(t, h, api.Record{Kind: api.KindRaised})
	}
	h.Table = nil
	isOne(t, p, h, ask(0), code(api.ErrEmpty), 0)
	isTold(t, h)
	isOne(t, p, h, ask(8), code(api.ErrRange), 0)
	isTold(t, h, api.Record{Kind: api.KindRaised})
}

// TestOtherKinds: numbers that are no kinds of ops, and OpRaise: raised, whatever else they say.
func TestOtherKinds(t *testing.T) {
	for kind := range 256 {
		if kind >= 1 && kind <= 10 && kind != 6 {
			continue
		}
		c := linked([4]api.Action{0, 0, api.Reset, 0})
		p, h := made(t, c, 1), host(t, c, 1)
		before := h.Ports.Image()
		o := api.Op{Kind: api.OpKind(kind), Port: 4, A: 1, B: 2, C: 3, Data: []byte("a")}
		isRun(t, p, h, 8, []api.Op{o, load(0)}, []api.Result{code(api.ErrRaised)}, api.Reset, 1)
		isTold(t, h, api.Record{Round: 8, Node: 1, Part: 1, Kind: api.KindRaised, Did: api.Reset})
		if !reflect.DeepEqual(before, h.Ports.Image()) || *h.Command != (api.Command{}) {
			t.Errorf("R4: an op of kind %d did something", kind)
		}
		isMemory(t, p, 0, 0)
	}
}

// TestNil: a nil partition, and one that New didn't make.
func TestNil(t *testing.T) {
	var none *apex.Partition
	c := alone(64, 1, all(api.Shutdown))
	h := host(t, c, 0)
	isRun(t, none, h, 0, []api.Op{spin(1), raise(), set(1, 1)}, nil, api.Ignore, 0)
	isRun(t, none, apex.Host{}, math.MaxUint32, nil, nil, api.Ignore, 0)
	isTold(t, h)
	if *h.Command != (api.Command{}) {
		t.Error("R7: a nil partition left a command")
	}
	isMemory(t, none)
	none.Clear()
	isMemory(t, none)
	var bare apex.Partition
	bare.Clear()
	isMemory(t, &bare)
	isRun(t, &bare, h, 0, nil, nil, api.Ignore, 0)
	isRun(t, &bare, h, 0, []api.Op{load(0)}, []api.Result{code(api.ErrBudget)}, api.Shutdown, 0)
}

// TestNoOps: without ops nothing happens.
func TestNoOps(t *testing.T) {
	c := linked(all(api.Shutdown))
	for part := range c.Parts {
		h := host(t, c, 1)
		p := made(t, c, part)
		isRun(t, p, h, 0, nil, nil, api.Ignore, 0)
		isRun(t, p, h, 0, []api.Op{}, nil, api.Ignore, 0)
		isRun(t, p, apex.Host{}, maxRounds, nil, nil, api.Ignore, 0)
		isTold(t, h)
	}
}

// TestHandedIn: ops are neither changed nor kept, nor is spare room of theirs.
func TestHandedIn(t *testing.T) {
	c := linked(all(api.Ignore))
	p, h := made(t, c, 1), host(t, c, 1)
	text := []byte("ab----")
	room := []api.Op{write(4, ""), store(0, 7), set(1, 1), raise(), write(5, "spare"), load(1)}
	room[0].Data = text[:2]
	ops := room[:4]
	before := slices.Clone(room)
	isRun(t, p, h, 0, ops, []api.Result{{}, value(7), {}, code(api.ErrRaised)}, 0, 4)
	if !reflect.DeepEqual(room, before) || string(text) != "ab----" {
		t.Errorf("R6: ops are %v now, not %v", room, before)
	}
	copy(text, "xxxxxx")
	clear(room)
	if got := h.Ports.Seal(); len(got) != 1 || string(got[0].Data) != "ab" {
		t.Errorf("R6: ops changed later, and %v is sent", got)
	}
	isMemory(t, p, 7, 0)
}

// TestAnswered: results, and the bytes in them, are new memory, spare room too.
func TestAnswered(t *testing.T) {
	c := linked(all(api.Ignore))
	p, h := made(t, c, 1), host(t, c, 1)
	h.Ports.Deliver(0, []api.Message{{Port: 0, Data: []byte("abc")}})
	want := []api.Result{data("abc", true), data("abc", true), value(5)}
	ops := []api.Op{read(2), read(2), store(1, 5)}
	first, _, _ := p.Run(h, 0, ops)
	second, _, _ := p.Run(h, 0, ops)
	spoil := first[0].Data[:cap(first[0].Data)]
	for i := range spoil {
		spoil[i] = 'x'
	}
	if string(first[1].Data) != "abc" {
		t.Errorf("R6: two results share their bytes: %v", first)
	}
	clear(first[:cap(first)])
	if !sameResults(second, want) {
		t.Errorf("R6: the second run's results are %v now", second)
	}
	isRun(t, p, h, 0, ops, want, 0, 3)
	isMemory(t, p, 0, 5)
}

// TestCommandKept: where a command goes isn't kept: it goes to the place that each run names.
func TestCommandKept(t *testing.T) {
	c := alone(64, 0, all(api.Ignore))
	p, h := made(t, c, 0), host(t, c, 0)
	first := h.Command
	isRun(t, p, h, 0, []api.Op{set(1, 1)}, []api.Result{{}}, 0, 1)
	h.Command = new(api.Command)
	isRun(t, p, h, 1, []api.Op{set(2, 2)}, []api.Result{{}}, 0, 1)
	if *first != (api.Command{Kind: 1, Key: 1, Val: 1}) || *h.Command != (api.Command{Kind: 1, Key: 2, Val: 2}) {
		t.Errorf("P16.2: %v and %v wait", *first, *h.Command)
	}
}

// TestManyOps: a run of far more ops than steps.
func TestManyOps(t *testing.T) {
	c := alone(64, 1, all(api.Ignore))
	p, h := made(t, c, 0), host(t, c, 0)
	ops := slices.Repeat([]api.Op{load(1)}, 100000)
	want := slices.Repeat([]api.Result{code(api.ErrMemory)}, 64)
	isRun(t, p, h, 0, ops, append(want, code(api.ErrBudget)), 0, 64)
	if got := h.Monitor.Seal(); len(got) != api.MaxRecords {
		t.Errorf("P16.2: %d records", len(got))
	}
}

// worked is a second working of a partition, by the chapter's words.
type worked struct {
	own   api.Part
	part  int
	words map[int]int // those that aren't 0
}

// kindOf is what kind a code's error is of, and whether it is told.
func kindOf(e api.Errno) (api.ErrorKind, bool) {
	switch e {
	case 0, 10, 11, 14:
		return 0, false
	case 151:
		return 0, true
	case 150:
		return 1, true
	case 17, 13, 12:
		return 3, true
	}
	return 2, true
}

// root is the number of an error of the ports, which lay no error over another.
func root(err error) api.Errno {
	if f, ok := err.(*api.Fault); ok {
		return f.Code
	}
	e, _ := err.(api.Errno)
	return e
}

// low is a number modulo 2^16.
func low(n int) int { return (n%65536 + 65536) % 65536 }

// do: an op's result, and whether its Code, if there is one, is an error's.
func (w *worked) do(h apex.Host, o api.Op) (api.Result, bool) {
	word := o.A >= 0 && o.A < w.own.Words
	key := o.A >= 0 && o.A <= 7
	switch {
	case o.Kind == 1:
		return code(root(h.Ports.Write(w.part, o.Port, o.Data))), true
	case o.Kind == 2:
		b, fresh, err := h.Ports.Read(w.part, o.Port)
		return api.Result{Code: root(err), Data: b, Fresh: fresh}, true
	case (o.Kind == 3 || o.Kind == 4) && !word:
		return code(150), true
	case o.Kind == 3:
		w.words[o.A] = low(o.B)
		return value(low(o.B)), false
	case o.Kind == 4:
		return value(w.words[o.A]), false
	case o.Kind == 5:
		return api.Result{}, false
	case o.Kind >= 7 && o.Kind <= 10 && !key:
		return code(2), true
	case o.Kind == 10:
		for _, c := range h.Table.Image() {
			if int(c.Key) == o.A {
				return value(int(c.Val)), false
			}
		}
		return code(10), false
	case o.Kind >= 7 && o.Kind <= 9:
		if h.Command == nil || h.Command.Kind != 0 {
			return code(14), true
		}
		val := []int{o.B, 0, o.B}[o.Kind-7]
		old := []int{0, 0, o.C}[o.Kind-7]
		*h.Command = api.Command{Kind: api.CmdKind(o.Kind - 6), Key: uint8(o.A), Val: uint16(low(val)), Old: uint16(low(old))}
		return api.Result{}, false
	}
	return code(152), true
}

// run: as Run.
func (w *worked) run(h apex.Host, round uint32, ops []api.Op) ([]api.Result, api.Action, int) {
	var out []api.Result
	took := 0
	for _, o := range ops {
		cost := 1
		if o.Kind == 5 && o.A > 1 {
			cost = o.A
		}
		r, wrong := code(151), true
		if cost <= w.own.Budget-took {
			took += cost
			r, wrong = w.do(h, o)
		} else {
			took = w.own.Budget
		}
		out = append(out, r)
		kind, told := kindOf(r.Code)
		if !wrong || !told {
			continue
		}
		did, err := h.Monitor.Report(round, w.part, kind)
		if err != nil {
			return out, 0, took
		}
		if did != 0 || r.Code == 151 {
			return out, did, took
		}
	}
	return out, 0, took
}

// memory: as Memory.
func (w *worked) memory() []uint16 {
	out := make([]uint16, w.own.Words)
	for a, val := range w.words {
		out[a] = uint16(val)
	}
	return out
}

// someNumber is a number by chance, mostly a small one.
func someNumber(chance *rand.Rand) int {
	switch chance.Intn(10) {
	case 0:
		return odd[chance.Intn(len(odd))]
	case 1:
		return int(chance.Uint64())
	case 2:
		return chance.Intn(70)
	}
	return chance.Intn(10)
}

// someOp is an op by chance; mostly of a kind that there is.
func someOp(chance *rand.Rand) api.Op {
	o := api.Op{Kind: api.OpKind(1 + chance.Intn(10)), Port: chance.Intn(9), A: someNumber(chance), B: someNumber(chance), C: someNumber(chance)}
	if o.Kind == api.OpRaise || chance.Intn(12) == 0 {
		o.Kind = api.OpKind(chance.Intn(256))
	}
	if chance.Intn(10) == 0 {
		o.Port = someNumber(chance)
	}
	if o.Kind == api.OpSpin {
		o.A = min(o.A, chance.Intn(8))
	}
	if o.Kind == api.OpStore || o.Kind == api.OpLoad {
		o.A = min(o.A, chance.Intn(18))
	}
	if n := chance.Intn(5); n > 0 {
		o.Data = make([]byte, n-1)
		chance.Read(o.Data)
	}
	return o
}

// someOps are ops by chance.
func someOps(chance *rand.Rand) []api.Op {
	var out []api.Op
	for range chance.Intn(24) {
		out = append(out, someOp(chance))
	}
	return out
}

// someTables are linked ones, with budgets, words and actions by chance.
func someTables(chance *rand.Rand) api.Config {
	c := linked(all(api.Ignore))
	for i := range c.Parts {
		part := &c.Parts[i]
		part.Budget, part.Words = chance.Intn(maxBudget+1), chance.Intn(maxWords+1)
		for kind := range part.Recover {
			if chance.Intn(3) == 0 {
				part.Recover[kind] = api.Action(chance.Intn(4))
			}
		}
	}
	return c
}

// side is a node's host, and what its partitions are to it.
type side struct {
	host apex.Host
	run  func(part int, round uint32, ops []api.Op) ([]api.Result, api.Action, int)
}

// sides are the same node twice: with partitions of the package, and with those of the second working.
func sides(t testing.TB, c api.Config, node int) (side, side, func(part int) ([]uint16, []uint16), func(part int)) {
	ours, theirs := side{host: host(t, c, node)}, side{host: host(t, c, node)}
	var first []*apex.Partition
	var second []*worked
	for i, part := range c.Parts {
		first = append(first, made(t, c, i))
		second = append(second, &worked{own: part, part: i, words: map[int]int{}})
	}
	ours.run = func(part int, round uint32, ops []api.Op) ([]api.Result, api.Action, int) {
		return first[part].Run(ours.host, round, ops)
	}
	theirs.run = func(part int, round uint32, ops []api.Op) ([]api.Result, api.Action, int) {
		return second[part].run(theirs.host, round, ops)
	}
	memories := func(part int) ([]uint16, []uint16) { return first[part].Memory(), second[part].memory() }
	wipe := func(part int) {
		first[part].Clear()
		clear(second[part].words)
	}
	return ours, theirs, memories, wipe
}

// between is what happens at a node between its partitions' runs.
func between(h apex.Host) []api.Record {
	h.Ports.Age()
	h.Ports.Deliver(0, []api.Message{{Port: 0, Data: []byte("ab")}, {Port: 1, Data: []byte("c")}})
	h.Ports.Deliver(1, h.Ports.Seal())
	h.Table.Apply(*h.Command)
	*h.Command = api.Command{}
	return h.Monitor.Seal()
}

// TestSecondWorking: rounds by chance, against a second working of the chapter's words.
func TestSecondWorking(t *testing.T) {
	chance := rand.New(rand.NewSource(16))
	for range 2000 {
		c := someTables(chance)
		if sound.Check(c) != nil {
			t.Fatal("tables that don't work")
		}
		ours, theirs, memories, wipe := sides(t, c, chance.Intn(2))
		round := uint32(chance.Intn(3))
		if chance.Intn(20) == 0 {
			round = maxRounds - 3
		}
		for range 6 {
			for part := range c.Parts {
				ops := someOps(chance)
				a, did, took := ours.run(part, round, ops)
				b, wantDid, wantTook := theirs.run(part, round, ops)
				if !sameResults(a, b) || did != wantDid || took != wantTook {
					t.Fatalf("P16.2: %v in %d, %v: %v, %d, %d, not %v, %d, %d", c.Parts[part], round, ops, a, did, took, b, wantDid, wantTook)
				}
				if took < 0 || took > c.Parts[part].Budget {
					t.Fatalf("P9: %d steps of %d", took, c.Parts[part].Budget)
				}
				if a, b := memories(part); !slices.Equal(a, b) {
					t.Fatalf("P16.2: %v: memory %v, not %v", ops, a, b)
				}
				if chance.Intn(8) == 0 {
					wipe(part)
				}
			}
			sameHosts(t, ours.host, theirs.host)
			round++
		}
	}
}

// sameHosts holds two hosts to hold the same, and goes on to the next round with both.
func sameHosts(t testing.TB, a, b apex.Host) {
	t.Helper()
	if *a.Command != *b.Command {
		t.Fatalf("P16.2: %v waits, not %v", *a.Command, *b.Command)
	}
	if x, y := a.Ports.Image(), b.Ports.Image(); !reflect.DeepEqual(x, y) {
		t.Fatalf("P16.2: ports hold %v, not %v", x, y)
	}
	if x, y := between(a), between(b); !slices.Equal(x, y) {
		t.Fatalf("P16.2: told: %v, not %v", x, y)
	}
	if x, y := a.Table.Image(), b.Table.Image(); !slices.Equal(x, y) {
		t.Fatalf("P16.2: the table holds %v, not %v", x, y)
	}
}

// TestAlikeRuns: the same calls answer the same (R8).
func TestAlikeRuns(t *testing.T) {
	chance := rand.New(rand.NewSource(17))
	for range 500 {
		c, ops, round := someTables(chance), someOps(chance), chance.Uint32()>>chance.Intn(32)
		a, did, took := made(t, c, 1).Run(host(t, c, 1), round, ops)
		isRun(t, made(t, c, 1), host(t, c, 1), round, ops, a, did, took)
	}
}

// TestWild: wild tables, hosts, rounds and ops: each call ends, and none panics.
func TestWild(t *testing.T) {
	chance := rand.New(rand.NewSource(18))
	for range 5000 {
		var c api.Config
		for range chance.Intn(5) {
			c.Parts = append(c.Parts, api.Part{Node: someNumber(chance), Start: someNumber(chance), Budget: someNumber(chance), Words: someNumber(chance), Recover: all(api.Action(chance.Int()))})
		}
		part := someNumber(chance)
		p, err := apex.New(c, part)
		right := part >= 0 && part < len(c.Parts) && c.Parts[part].Words >= 0 && c.Parts[part].Words <= maxWords
		if right != (err == nil) || right != (p != nil) {
			t.Fatalf("P16.1: New(%v, %d): %v", c.Parts, part, err)
		}
		var h apex.Host
		if chance.Intn(2) == 0 {
			h.Ports = &ports.Ports{}
		}
		if chance.Intn(2) == 0 {
			h.Table = &replica.Table{}
		}
		if chance.Intn(2) == 0 {
			h.Monitor = health.New(someNumber(chance), c.Parts)
		}
		if chance.Intn(2) == 0 {
			h.Command = &api.Command{}
		}
		ops := someOps(chance)
		l, _, _ := p.Run(h, chance.Uint32(), ops)
		if len(l) > len(ops) {
			t.Fatalf("P16.2: %d results of %d ops", len(l), len(ops))
		}
		p.Clear()
		p.Memory()
	}
}

// TestFewOps: all lists of up to three of some ops, with each budget up to 4 and each of some actions, against a second working.
func TestFewOps(t *testing.T) {
	some := []api.Op{spin(2), store(0, 7), load(0), load(1), raise(), set(1, 2), ask(9), read(2), write(5, "a"), write(2, "a")}
	var lists [][]api.Op
	grow := [][]api.Op{nil}
	for range 3 {
		var next [][]api.Op
		for _, l := range grow {
			for _, o := range some {
				next = append(next, append(slices.Clone(l), o))
			}
		}
		lists = append(lists, next...)
		grow = next
	}
	for n, recover := range [][4]api.Action{all(api.Ignore), {api.Ignore, api.Restart, api.Ignore, api.Reset}, {api.Shutdown, api.Ignore, api.Restart, api.Ignore}} {
		for budget := range 5 {
			t.Run(strconv.Itoa(10*n+budget), func(t *testing.T) {
				c := linked(recover)
				c.Parts[1].Budget, c.Parts[1].Words = budget, 1
				for _, ops := range lists {
					ours, theirs, memories, _ := sides(t, c, 1)
					want, did, took := theirs.run(1, 3, ops)
					got, gotDid, gotTook := ours.run(1, 3, ops)
					if !sameResults(got, want) || gotDid != did || gotTook != took {
						t.Fatalf("P16.2: %v: %v, %d, %d, not %v, %d, %d", ops, got, gotDid, gotTook, want, did, took)
					}
					if a, b := memories(1); !slices.Equal(a, b) {
						t.Fatalf("P16.2: %v: memory %v, not %v", ops, a, b)
					}
					sameHosts(t, ours.host, theirs.host)
				}
			})
		}
	}
}

// FuzzRun: ops, a budget, words and actions made of bytes, against a second working.
func FuzzRun(f *testing.F) {
	f.Add([]byte{3, 1, 0, 2, 5, 2, 0, 3, 0, 7, 4, 0, 0})
	f.Add([]byte{9, 2, 255, 0, 4, 99, 0, 7, 1, 5, 7, 2, 6})
	f.Add([]byte{64, 16, 1, 0, 1, 4, 2, 2, 2, 0, 2, 3, 0, 9, 3, 1, 0, 0, 0})
	f.Fuzz(func(t *testing.T, b []byte) {
		if len(b) < 4 {
			return
		}
		c := linked(all(api.Ignore))
		own := &c.Parts[1]
		own.Budget, own.Words = int(b[0])%65, int(b[1])%17
		for kind := range own.Recover {
			own.Recover[kind] = api.Action(b[2] >> (2 * kind) & 3)
		}
		round := uint32(b[3])
		var ops []api.Op
		for b = b[4:]; len(b) >= 3; b = b[3:] {
			ops = append(ops, api.Op{Kind: api.OpKind(b[0]), Port: int(int8(b[1])), A: int(int8(b[1])), B: int(int8(b[2])) * 1000, C: int(b[2]), Data: b[:b[2]%4]})
		}
		ours, theirs, memories, wipe := sides(t, c, 1)
		for range 3 {
			want, did, took := theirs.run(1, round, ops)
			got, gotDid, gotTook := ours.run(1, round, ops)
			if !sameResults(got, want) || gotDid != did || gotTook != took {
				t.Fatalf("P16.2: %v: %v, %d, %d, not %v, %d, %d", ops, got, gotDid, gotTook, want, did, took)
			}
			if a, b := memories(1); !slices.Equal(a, b) {
				t.Fatalf("P16.2: %v: memory %v, not %v", ops, a, b)
			}
			sameHosts(t, ours.host, theirs.host)
			round++
		}
		wipe(1)
		if got, _ := memories(1); !slices.Equal(got, make([]uint16, own.Words)) {
			t.Fatalf("P16.1: Clear: memory %v", got)
		}
	})
}
