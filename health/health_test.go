package health_test

import (
	"errors"
	"math"
	"math/rand"
	"reflect"
	"slices"
	"sync"
	"testing"

	"escapement/api"
	"escapement/fault"
	"escapement/frame"
	"escapement/health"
	"escapement/ports"
)

// Limits, as the chapter writes them.
const (
	maxRounds  = 1 << 20
	maxRecords = 4
	maxLog     = 16
)

// wrongParts are numbers that are no partitions, whatever the tables.
var wrongParts = []int{-1, -2, -256, -1 << 32, math.MinInt, 256, 1 << 32, math.MaxInt}

// other is an error that is neither an Errno nor a Fault; it may stand over another one.
type other struct{ cause error }

func (o other) Error() string { return "other" }
func (o other) Unwrap() error { return o.cause }

// all is a partition of which the same is done of each kind of error.
func all(a api.Action) api.Part {
	return api.Part{Recover: [4]api.Action{a, a, a, a}}
}

// chain is a Fault of each number but the last one, the outermost first, over that one.
func chain(codes ...api.Errno) error {
	var err error = codes[len(codes)-1]
	for i := len(codes) - 2; i >= 0; i-- {
		err = fault.Wrap(codes[i], i, err)
	}
	return err
}

// kindOf is a second working of what kind an error is that has just these numbers.
func kindOf(codes ...api.Errno) (api.ErrorKind, bool) {
	for _, x := range []struct {
		codes []api.Errno
		kind  api.ErrorKind
		told  bool
	}{
		{[]api.Errno{151}, 0, true},
		{[]api.Errno{150}, 1, true},
		{[]api.Errno{17, 13, 12}, 3, true},
		{[]api.Errno{10, 11, 14}, 0, false},
	} {
		for _, code := range codes {
			if slices.Contains(x.codes, code) {
				return x.kind, x.told
			}
		}
	}
	return 2, true
}

// isKind holds what Kind answers against what it should.
func isKind(t *testing.T, err error, kind api.ErrorKind, told bool) {
	t.Helper()
	gotKind, gotTold := health.Kind(err)
	if gotKind != kind || gotTold != told {
		t.Errorf("P15.1: Kind(%v): %d, %v, not %d, %v", err, gotKind, gotTold, kind, told)
	}
}

// isDone holds what is done of an error against what should be.
func isDone(t *testing.T, m *health.Monitor, round uint32, part int, kind api.ErrorKind, want api.Action) {
	t.Helper()
	did, err := m.Report(round, part, kind)
	if err != nil || did != want {
		t.Errorf("P15.3: Report(%d, %d, %d): %d, %v, not %d", round, part, kind, did, err, want)
	}
}

// isRefused holds a report to be refused, for that reason.
func isRefused(t *testing.T, m *health.Monitor, round uint32, part int, kind api.ErrorKind, want api.Errno) {
	t.Helper()
	did, err := m.Report(round, part, kind)
	if code, ok := err.(api.Errno); !ok || code != want {
		t.Errorf("P15.3: Report(%d, %d, %d): %v, not %v itself", round, part, kind, err, want)
	}
	if did != 0 {
		t.Errorf("R3: Report(%d, %d, %d): %d beside an error", round, part, kind, did)
	}
}

// isSealed holds the records that a monitor tells against what it should, and to be gone then.
func isSealed(t *testing.T, m *health.Monitor, want ...api.Record) {
	t.Helper()
	if got := m.Seal(); !slices.Equal(got, want) {
		t.Errorf("P15.3: Seal: %v, not %v", got, want)
	}
	if got := m.Seal(); len(got) != 0 {
		t.Errorf("P15.3: Seal, again: %v", got)
	}
}

// isLog holds a log's list against what it should be.
func isLog(t *testing.T, l *health.Log, want ...api.Record) {
	t.Helper()
	if got := l.List(); !slices.Equal(got, want) {
		t.Errorf("P15.4: List: %v, not %v", got, want)
	}
}

// reported is a report that wasn't refused.
type reported struct {
	round uint32
	part  int
	kind  api.ErrorKind
}

// worked is a second working of a monitor: all that was reported, gone over anew for each answer.
type worked struct {
	node  int
	parts []api.Part
	all   []reported
	told  []api.Record // since the last Seal
}

// row is how many Restarts are in a row with the last of the partition's, itself among them.
func (w *worked) row(part int) int {
	var rounds []int
	for _, r := range w.all {
		if r.part == part && w.parts[part].Recover[r.kind] == 1 {
			rounds = append(rounds, int(r.round))
		}
	}
	n := 1
	for i := len(rounds) - 1; i > 0 && rounds[i]-rounds[i-1] <= 1; i-- {
		n++
	}
	return n
}

// report: as Report.
func (w *worked) report(round uint32, part int, kind api.ErrorKind) (api.Action, error) {
	if part < 0 || part >= len(w.parts) || kind > 3 || round >= maxRounds {
		return 0, api.ErrRange
	}
	w.all = append(w.all, reported{round, part, kind})
	did := w.parts[part].Recover[kind]
	if did == 1 && w.row(part) >= 3 {
		did = 2
	}
	w.told = append(w.told, api.Record{Round: round, Node: uint8(w.node), Part: uint8(part), Kind: kind, Did: did})
	return did, nil
}

// seal: as Seal.
func (w *worked) seal() []api.Record {
	l := w.told
	w.told = nil
	return l[:min(len(l), maxRecords)]
}

// reportBoth holds a monitor to do what the second working does.
func reportBoth(t *testing.T, m *health.Monitor, w *worked, round uint32, part int, kind api.ErrorKind) {
	t.Helper()
	got, err := m.Report(round, part, kind)
	want, wantErr := w.report(round, part, kind)
	if got != want || !reflect.DeepEqual(err, wantErr) {
		t.Errorf("P15.3: Report(%d, %d, %d) behind %v: %d, %v, not %d, %v", round, part, kind, w.all, got, err, want, wantErr)
	}
}

// sealBoth holds a monitor to tell what the second working does.
func sealBoth(t *testing.T, m *health.Monitor, w *worked) {
	t.Helper()
	isSealed(t, m, w.seal()...)
}

// someParts are partitions by chance, of which mostly Restart is done.
func someParts(chance *rand.Rand, n int) []api.Part {
	out := make([]api.Part, n)
	for i := range out {
		for kind := range out[i].Recover {
			out[i].Recover[kind] = api.Restart
			if chance.Intn(3) == 0 {
				out[i].Recover[kind] = api.Action(chance.Intn(4))
			}
		}
	}
	return out
}

// someRecord is a record by chance, of any numbers.
func someRecord(chance *rand.Rand) api.Record {
	return api.Record{Round: chance.Uint32(), Node: uint8(chance.Int()), Part: uint8(chance.Int()), Kind: api.ErrorKind(chance.Int()), Did: api.Action(chance.Int())}
}

func TestExamples(t *testing.T) {
	isKind(t, fault.Wrap(api.ErrNone, 3, api.ErrEmpty), api.KindPort, true)
	parts := []api.Part{{Recover: [4]api.Action{api.KindRaised: api.Restart}}}
	m := health.New(0, parts)
	isDone(t, m, 4, 0, api.KindRaised, api.Restart)
	isDone(t, m, 5, 0, api.KindRaised, api.Restart)
	isDone(t, m, 6, 0, api.KindRaised, api.Reset)
	m = health.New(0, parts)
	isDone(t, m, 4, 0, api.KindRaised, api.Restart)
	isDone(t, m, 5, 0, api.KindRaised, api.Restart)
	isDone(t, m, 7, 0, api.KindRaised, api.Restart)
}

// TestKind: each number that the chapter names, and some that it doesn't.
func TestKind(t *testing.T) {
	isKind(t, nil, 0, false)
	for _, x := range []struct {
		code api.Errno
		kind api.ErrorKind
		told bool
	}{
		{api.ErrBudget, api.KindOverrun, true},
		{api.ErrMemory, api.KindMemory, true},
		{api.ErrNone, api.KindPort, true},
		{api.ErrMode, api.KindPort, true},
		{api.ErrSize, api.KindPort, true},
		{api.ErrEmpty, 0, false},
		{api.ErrFull, 0, false},
		{api.ErrBusy, 0, false},
		{api.ErrRaised, api.KindRaised, true},
		{api.ErrNil, api.KindRaised, true},
		{api.ErrRange, api.KindRaised, true},
		{api.ErrValue, api.KindRaised, true},
		{api.ErrState, api.KindRaised, true},
		{api.ErrPower, api.KindRaised, true},
		{api.ErrRecord, api.KindRaised, true},
		{9, api.KindRaised, true},
		{-1, api.KindRaised, true},
	} {
		isKind(t, x.code, x.kind, x.told)
		for _, at := range []int{-1, 0, 3, math.MaxInt} {
			isKind(t, fault.New(x.code, at), x.kind, x.told)
		}
		isKind(t, chain(api.ErrFrame, x.code), x.kind, x.told)
		isKind(t, chain(api.ErrRaised, api.ErrTable, x.code), x.kind, x.told)
		isKind(t, other{x.code}, x.kind, x.told)
		isKind(t, other{other{chain(api.ErrFrame, x.code)}}, x.kind, x.told)
	}
}

// TestKindFirst: of an error that has two or three numbers the first line that holds counts, wherever in it they stand.
func TestKindFirst(t *testing.T) {
	for _, x := range []struct {
		codes []api.Errno
		kind  api.ErrorKind
		told  bool
	}{
		{[]api.Errno{api.ErrMemory, api.ErrBudget}, api.KindOverrun, true},
		{[]api.Errno{api.ErrNone, api.ErrBudget}, api.KindOverrun, true},
		{[]api.Errno{api.ErrEmpty, api.ErrBudget}, api.KindOverrun, true},
		{[]api.Errno{api.ErrRaised, api.ErrBudget}, api.KindOverrun, true},
		{[]api.Errno{api.ErrSize, api.ErrMemory}, api.KindMemory, true},
		{[]api.Errno{api.ErrFull, api.ErrMemory}, api.KindMemory, true},
		{[]api.Errno{api.ErrRaised, api.ErrMemory}, api.KindMemory, true},
		{[]api.Errno{api.ErrEmpty, api.ErrNone}, api.KindPort, true},
		{[]api.Errno{api.ErrFull, api.ErrMode}, api.KindPort, true},
		{[]api.Errno{api.ErrBusy, api.ErrSize}, api.KindPort, true},
		{[]api.Errno{api.ErrRaised, api.ErrMode}, api.KindPort, true},
		{[]api.Errno{api.ErrRaised, api.ErrEmpty}, 0, false},
		{[]api.Errno{api.ErrRange, api.ErrFull}, 0, false},
		{[]api.Errno{api.ErrBusy, api.ErrRange}, 0, false},
		{[]api.Errno{api.ErrRaised, api.ErrRange}, api.KindRaised, true},
	} {
		isKind(t, chain(x.codes...), x.kind, x.told)
		isKind(t, chain(x.codes[1], x.codes[0]), x.kind, x.told)
		isKind(t, chain(x.codes[0], api.ErrFrame, x.codes[1]), x.kind, x.told)
		isKind(t, chain(x.codes[1], api.ErrRaised, x.codes[0]), x.kind, x.told)
		isKind(t, chain(api.ErrTable, x.codes[0], x.codes[1]), x.kind, x.told)
	}
}

// TestKindEach: each number from below 0 to above the last, and each two and three of those that matter, against a second working.
func TestKindEach(t *testing.T) {
	for code := api.Errno(-300); code <= 600; code++ {
		if code == api.OK {
			continue
		}
		kind, told := kindOf(code)
		isKind(t, code, kind, told)
		isKind(t, fault.New(code, int(code)), kind, told)
	}
	some := []api.Errno{1, 2, 8, 9, 10, 11, 12, 13, 14, 15, 16, 17, 18, 40, 50, 149, 150, 151, 152, 153}
	for _, a := range some {
		for _, b := range some {
			kind, told := kindOf(a, b)
			isKind(t, chain(a, b), kind, told)
			for _, c := range some {
				kind, told := kindOf(a, b, c)
				isKind(t, chain(a, b, c), kind, told)
			}
		}
	}
}

// TestKindWrong: errors that are none of the document's, or no errors.
func TestKindWrong(t *testing.T) {
	var none *api.Fault
	isKind(t, none, 0, false)
	isKind(t, errors.New("error 150"), api.KindRaised, true)
	isKind(t, other{}, api.KindRaised, true)
	isKind(t, &api.Fault{}, api.KindRaised, true)
	isKind(t, &api.Fault{Code: api.ErrMemory, At: -7, Cause: errors.New("")}, api.KindMemory, true)
	isKind(t, &api.Fault{Code: api.ErrRange, Cause: none}, api.KindRaised, true)
	ring := &api.Fault{Code: api.ErrFrame, At: 1}
	ring.Cause = &api.Fault{Code: api.ErrFull, At: 2, Cause: ring}
	isKind(t, ring, 0, false)
	ring.Cause = &api.Fault{Code: api.ErrMode, At: 2, Cause: ring}
	isKind(t, ring, api.KindPort, true)
	ring.Cause = ring
	isKind(t, ring, api.KindRaised, true)
}

// TestKindOfPorts: what goes wrong at a port is told, but not that it is full or empty.
func TestKindOfPorts(t *testing.T) {
	c := api.Config{Nodes: 1, Slot: 1000, Gap: 500, Margin: 98, Parts: []api.Part{{Length: 50}}}
	c.Ports = []api.Port{{Kind: api.Queuing, Out: true, Size: 1, Depth: 1}, {Kind: api.Queuing, Size: 1, Depth: 1}}
	p, err := ports.New(c, 0)
	if err != nil {
		t.Fatal(err)
	}
	_, _, none := p.Read(0, 2)
	_, _, mode := p.Read(0, 0)
	_, _, empty := p.Read(0, 1)
	isKind(t, none, api.KindPort, true)
	isKind(t, mode, api.KindPort, true)
	isKind(t, empty, 0, false)
	isKind(t, p.Write(0, 0, []byte("xx")), api.KindPort, true)
	isKind(t, p.Write(0, 0, []byte("x")), 0, false)
	isKind(t, p.Write(0, 0, []byte("x")), 0, false)
	isKind(t, p.Write(0, 1, nil), api.KindPort, true)
	isKind(t, p.Write(1, 0, nil), api.KindPort, true)
}

// TestOf: each action there may be.
func TestOf(t *testing.T) {
	for a := range 256 {
		var want health.Effect
		switch a {
		case 1:
			want = health.Effect{Part: true}
		case 2:
			want = health.Effect{Part: true, Node: true}
		case 3:
			want = health.Effect{Part: true, Node: true, Good: true}
		}
		if got := health.Of(api.Action(a)); got != want {
			t.Errorf("P15.2: Of(%d): %v, not %v", a, got, want)
		}
	}
}

// TestReport: each kind of error of each partition has its own action.
func TestReport(t *testing.T) {
	parts := []api.Part{
		{Recover: [4]api.Action{api.Ignore, api.Restart, api.Reset, api.Shutdown}},
		{Recover: [4]api.Action{api.Shutdown, api.Ignore, api.Restart, api.Reset}},
		{Recover: [4]api.Action{api.Reset, api.Shutdown, api.Ignore, api.Restart}},
	}
	want := [][4]api.Action{{0, 1, 2, 3}, {3, 0, 1, 2}, {2, 3, 0, 1}}
	for part := range parts {
		for kind := range api.ErrorKind(4) {
			m := health.New(5, parts)
			isDone(t, m, 9, part, kind, want[part][kind])
			isSealed(t, m, api.Record{Round: 9, Node: 5, Part: uint8(part), Kind: kind, Did: want[part][kind]})
		}
	}
}

// TestWildAction: what Recover says is done, also if it is no action.
func TestWildAction(t *testing.T) {
	for a := range 256 {
		m := health.New(0, []api.Part{all(api.Action(a))})
		isDone(t, m, 0, 0, 3, api.Action(a))
		isSealed(t, m, api.Record{Kind: 3, Did: api.Action(a)})
	}
}

// TestRange: the last round, kind and partition, and what lies beyond them; what is refused leaves no record.
func TestRange(t *testing.T) {
	for n := range 13 {
		parts := make([]api.Part, n)
		for i := range parts {
			parts[i] = all(api.Shutdown)
		}
		m := health.New(0, parts)
		for _, part := range append([]int{n, n + 1, n + 255}, wrongParts...) {
			for kind := range 256 {
				isRefused(t, m, 0, part, api.ErrorKind(kind), api.ErrRange)
			}
			isRefused(t, m, maxRounds-1, part, 0, api.ErrRange)
			isRefused(t, m, maxRounds, part, 0, api.ErrRange)
		}
		for part := range n {
			for kind := 4; kind < 256; kind++ {
				isRefused(t, m, 7, part, api.ErrorKind(kind), api.ErrRange)
			}
			for _, round := range []uint32{maxRounds, maxRounds + 1, 2 * maxRounds, 1 << 31, math.MaxUint32} {
				for kind := range api.ErrorKind(5) {
					isRefused(t, m, round, part, kind, api.ErrRange)
				}
			}
		}
		isSealed(t, m)
		for part := range n {
			isDone(t, m, 0, part, 0, api.Shutdown)
			isDone(t, m, maxRounds-1, part, 3, api.Shutdown)
			isSealed(t, m, api.Record{Part: uint8(part), Did: 3}, api.Record{Round: maxRounds - 1, Part: uint8(part), Kind: 3, Did: 3})
		}
	}
}

// TestOtherNodes: partitions are told by their places, whatever node they are said to be of.
func TestOtherNodes(t *testing.T) {
	parts := []api.Part{all(api.Restart), all(api.Reset), all(api.Shutdown)}
	for i := range parts {
		parts[i].Node = i
	}
	for node := range 7 {
		m := health.New(node, parts)
		for part := range parts {
			isDone(t, m, 3, part, 2, api.Action(part+1))
			isSealed(t, m, api.Record{Round: 3, Node: uint8(node), Part: uint8(part), Kind: 2, Did: api.Action(part + 1)})
		}
	}
}

// TestRow: Restarts of a partition in some rounds, and what is done of each.
func TestRow(t *testing.T) {
	for _, x := range []struct {
		name   string
		rounds []uint32
		want   []api.Action
	}{
		{"one", []uint32{0}, []api.Action{1}},
		{"round by round", []uint32{0, 1, 2, 3, 4, 5}, []api.Action{1, 1, 2, 2, 2, 2}},
		{"in one round", []uint32{8, 8, 8, 8}, []api.Action{1, 1, 2, 2}},
		{"twice in a round, then in the next one", []uint32{8, 8, 9}, []api.Action{1, 1, 2}},
		{"then twice in the next round", []uint32{8, 9, 9}, []api.Action{1, 1, 2}},
		{"each second round", []uint32{0, 2, 4, 6, 8}, []api.Action{1, 1, 1, 1, 1}},
		{"two at a time", []uint32{1, 2, 4, 5, 7, 8}, []api.Action{1, 1, 1, 1, 1, 1}},
		{"a gap behind the first one", []uint32{4, 6, 7, 8}, []api.Action{1, 1, 1, 2}},
		{"a gap behind the second one", []uint32{4, 5, 7, 8, 9}, []api.Action{1, 1, 1, 1, 2}},
		{"a gap behind a row of three", []uint32{4, 5, 6, 8, 9, 10}, []api.Action{1, 1, 2, 1, 1, 2}},
		{"a gap behind a long row", []uint32{4, 5, 6, 7, 8, 10}, []api.Action{1, 1, 2, 2, 2, 1}},
		{"a row goes on behind a Reset", []uint32{4, 5, 6, 7, 9, 10, 11}, []api.Action{1, 1, 2, 2, 1, 1, 2}},
		{"far apart", []uint32{0, 1, maxRounds - 2, maxRounds - 1}, []api.Action{1, 1, 1, 1}},
		{"at the last round", []uint32{maxRounds - 3, maxRounds - 2, maxRounds - 1, maxRounds - 1}, []api.Action{1, 1, 2, 2}},
		{"an earlier round", []uint32{9, 3, 4}, []api.Action{1, 1, 2}},
		{"earlier and earlier", []uint32{9, 5, 1, 0}, []api.Action{1, 1, 2, 2}},
		{"the last one counts, not the latest", []uint32{9, 3, 10}, []api.Action{1, 1, 1}},
		{"from round 0 on", []uint32{0, 0, 1}, []api.Action{1, 1, 2}},
		{"first in round 1", []uint32{1, 2, 3}, []api.Action{1, 1, 2}},
		{"first in round 1, then not in 2", []uint32{1, 3, 4}, []api.Action{1, 1, 1}},
	} {
		t.Run(x.name, func(t *testing.T) {
			m := health.New(1, []api.Part{all(api.Restart)})
			for i, round := range x.rounds {
				isDone(t, m, round, 0, api.ErrorKind(i%4), x.want[i])
				isSealed(t, m, api.Record{Round: round, Node: 1, Kind: api.ErrorKind(i % 4), Did: x.want[i]})
			}
		})
	}
}

// TestRowOfRestarts: only Restarts count, and only those that were done; what else is done, or refused, or told, doesn't end a row.
func TestRowOfRestarts(t *testing.T) {
	parts := []api.Part{{Recover: [4]api.Action{api.Restart, api.Ignore, api.Reset, api.Shutdown}}, all(api.Restart)}
	m := health.New(0, parts)
	for range 5 {
		isDone(t, m, 3, 0, 1, api.Ignore)
		isDone(t, m, 3, 0, 2, api.Reset)
		isDone(t, m, 3, 0, 3, api.Shutdown)
	}
	isDone(t, m, 4, 0, 0, api.Restart)
	isDone(t, m, 4, 0, 1, api.Ignore)
	isRefused(t, m, 4, 0, 4, api.ErrRange)
	isRefused(t, m, 4, 0, 200, api.ErrRange)
	isRefused(t, m, 1<<20, 0, 0, api.ErrRange)
	isDone(t, m, 5, 0, 0, api.Restart)
	isDone(t, m, 9, 0, 2, api.Reset)
	isDone(t, m, 9, 0, 3, api.Shutdown)
	isRefused(t, m, 9, -1, 0, api.ErrRange)
	isDone(t, m, 6, 0, 0, api.Reset)
	m.Seal()
	isDone(t, m, 7, 0, 2, api.Reset)
	isDone(t, m, 7, 0, 0, api.Reset)
	isDone(t, m, 8, 0, 1, api.Ignore)
	isDone(t, m, 9, 0, 0, api.Restart)
}

// TestRowOfOne: each partition has a row of its own.
func TestRowOfOne(t *testing.T) {
	parts := make([]api.Part, 12)
	for i := range parts {
		parts[i] = all(api.Restart)
	}
	m := health.New(0, parts)
	for part := range parts {
		isDone(t, m, 4, part, 0, api.Restart)
	}
	for part := range parts {
		isDone(t, m, 5, part, 1, api.Restart)
	}
	for part := range 6 {
		isDone(t, m, 6, 2*part, 2, api.Reset)
	}
	for part := range parts {
		want := api.Restart
		if part%2 == 0 {
			want = api.Reset
		}
		isDone(t, m, 7, part, 3, want)
	}
}

// TestEach: all ways to report up to five of some errors, two partitions among them, against a second working.
func TestEach(t *testing.T) {
	parts := []api.Part{{Recover: [4]api.Action{1, 1, 0, 2}}, all(api.Restart)}
	alphabet := []reported{{3, 0, 0}, {4, 0, 1}, {5, 0, 0}, {6, 0, 0}, {4, 0, 2}, {4, 0, 3}, {4, 1, 0}, {4, 2, 0}}
	var check func(l []reported)
	check = func(l []reported) {
		m, w := health.New(3, parts), worked{node: 3, parts: parts}
		for _, r := range l {
			reportBoth(t, m, &w, r.round, r.part, r.kind)
		}
		sealBoth(t, m, &w)
		if len(l) == 5 {
			return
		}
		for _, r := range alphabet {
			check(append(slices.Clone(l), r))
		}
	}
	check(nil)
}

// TestRecords: up to four are kept, what is ignored too; of what is done beyond them no record is.
func TestRecords(t *testing.T) {
	m := health.New(6, []api.Part{all(api.Ignore), all(api.Restart)})
	isSealed(t, m)
	for n := range 9 {
		var want []api.Record
		for i := range n {
			part := i % 2
			isDone(t, m, uint32(100*n+10*i), part, api.ErrorKind(i%4), api.Action(part))
			if i < maxRecords {
				want = append(want, api.Record{Round: uint32(100*n + 10*i), Node: 6, Part: uint8(part), Kind: api.ErrorKind(i % 4), Did: api.Action(part)})
			}
		}
		isSealed(t, m, want...)
	}
}

// TestRowBeyondRecords: what is not kept counts in its row nevertheless.
func TestRowBeyondRecords(t *testing.T) {
	m := health.New(0, []api.Part{all(api.Ignore), all(api.Restart)})
	for range maxRecords {
		isDone(t, m, 2, 0, 0, api.Ignore)
	}
	isDone(t, m, 2, 1, 0, api.Restart)
	isDone(t, m, 2, 1, 0, api.Restart)
	isDone(t, m, 3, 1, 0, api.Reset)
	isSealed(t, m, slices.Repeat([]api.Record{{Round: 2}}, maxRecords)...)
	isDone(t, m, 4, 1, 0, api.Reset)
	isSealed(t, m, api.Record{Round: 4, Part: 1, Did: 2})
}

// TestOverrun: steps that have run out are told as an overrun, whatever they led to, and something is done about it, however much was reported ahead.
func TestOverrun(t *testing.T) {
	for a := range api.Action(4) {
		m := health.New(0, []api.Part{{Recover: [4]api.Action{api.KindOverrun: a}}})
		for i := range 7 {
			kind, told := health.Kind(chain(api.ErrFrame, api.ErrEmpty, api.ErrBudget))
			if kind != api.KindOverrun || !told {
				t.Fatalf("P9: Kind: %d, %v", kind, told)
			}
			isDone(t, m, uint32(10*i), 0, kind, a)
		}
		l := m.Seal()
		if len(l) != maxRecords || l[0].Kind != api.KindOverrun || l[0].Did != a {
			t.Errorf("P9: Seal: %v", l)
		}
	}
}

// TestFrame: what a node's monitor tells may go in a frame, whatever is reported.
func TestFrame(t *testing.T) {
	chance := rand.New(rand.NewSource(1))
	for range 300 {
		node := chance.Intn(7)
		m := health.New(node, someParts(chance, 12))
		for range chance.Intn(9) {
			m.Report(uint32(chance.Intn(maxRounds)), chance.Intn(14), api.ErrorKind(chance.Intn(5)))
		}
		f := api.Frame{Sender: uint8(node), Records: m.Seal()}
		if err := frame.Check(f); err != nil {
			t.Fatalf("P15.3: %v is no frame: %v", f, err)
		}
		for _, r := range f.Records {
			if int(r.Node) != node {
				t.Errorf("P15.3: a record of node %d: %v", node, r)
			}
		}
	}
}

// TestMemory: partitions are neither changed nor kept; a list of records is new memory, spare room too.
func TestMemory(t *testing.T) {
	room := []api.Part{all(api.Restart), all(api.Ignore), all(api.Shutdown)}
	was := slices.Clone(room)
	m := health.New(0, room[:2])
	isRefused(t, m, 0, 2, 0, api.ErrRange)
	isDone(t, m, 0, 0, 0, api.Restart)
	isDone(t, m, 0, 1, 0, api.Ignore)
	if !slices.Equal(room, was) {
		t.Errorf("R6: New or Report changed the partitions: %v", room)
	}
	room[0], room[1] = all(api.Shutdown), all(api.Reset)
	isDone(t, m, 1, 0, 0, api.Restart)
	isDone(t, m, 1, 1, 0, api.Ignore)
	one := m.Seal()
	want := slices.Clone(one)
	for i := range 4 {
		isDone(t, m, uint32(10+10*i), 0, 0, api.Restart)
	}
	if !slices.Equal(one, want) {
		t.Errorf("R6: a list of records changed with its monitor: %v", one)
	}
	one = append(one[:0], slices.Repeat([]api.Record{{Round: 77}}, cap(one))...)
	var later []api.Record
	for i := range 4 {
		later = append(later, api.Record{Round: uint32(10 + 10*i), Did: 1})
	}
	isSealed(t, m, later...)
	for _, r := range one {
		if r.Round != 77 {
			t.Errorf("R6: two lists of records share memory: %v", one)
		}
	}
}

// TestTwoMonitors: what is reported to one is to be seen in no other one, though they were given the same partitions.
func TestTwoMonitors(t *testing.T) {
	parts := []api.Part{all(api.Restart)}
	one, two := health.New(1, parts), health.New(2, parts)
	for range 3 {
		one.Report(5, 0, 0)
	}
	isSealed(t, two)
	isDone(t, two, 5, 0, 0, api.Restart)
	isDone(t, one, 6, 0, 0, api.Reset)
	isSealed(t, two, api.Record{Round: 5, Node: 2, Did: 1})
	if l := one.Seal(); len(l) != maxRecords || l[0].Node != 1 {
		t.Errorf("P15.3: Seal: %v", l)
	}
}

// TestMonitorWorked: reports and seals by chance, against a second working.
func TestMonitorWorked(t *testing.T) {
	chance := rand.New(rand.NewSource(2))
	for range 300 {
		parts := someParts(chance, chance.Intn(13))
		node := chance.Intn(7)
		m, w := health.New(node, parts), worked{node: node, parts: parts}
		round := chance.Intn(maxRounds)
		for range 60 {
			round = max(0, round+chance.Intn(4)-1)
			part, kind := chance.Intn(len(parts)+1), chance.Intn(4)
			switch chance.Intn(30) {
			case 0:
				part = wrongParts[chance.Intn(len(wrongParts))]
			case 1:
				kind = chance.Intn(256)
			case 2:
				round = chance.Intn(2 * maxRounds)
			}
			reportBoth(t, m, &w, uint32(round), part, api.ErrorKind(kind))
			if chance.Intn(8) == 0 {
				sealBoth(t, m, &w)
			}
		}
		sealBoth(t, m, &w)
	}
}

// TestLog: the last sixteen, the eldest first, at each length.
func TestLog(t *testing.T) {
	if api.MaxLog != maxLog || api.MaxRecords != maxRecords || api.MaxRounds != maxRounds {
		t.Fatal("P15.4: limits")
	}
	chance := rand.New(rand.NewSource(3))
	var l health.Log
	var put []api.Record
	isLog(t, &l)
	for range 60 {
		r := someRecord(chance)
		put = append(put, r)
		l.Put(r)
		isLog(t, &l, put[max(0, len(put)-maxLog):]...)
		isLog(t, &l, put[max(0, len(put)-maxLog):]...)
	}
}

// TestLogAlike: records that are alike are kept one by one, zero ones too.
func TestLogAlike(t *testing.T) {
	var l health.Log
	for n := range 40 {
		isLog(t, &l, make([]api.Record, min(n, maxLog))...)
		l.Put(api.Record{})
	}
	l.Put(api.Record{Round: 1})
	isLog(t, &l, append(make([]api.Record, maxLog-1), api.Record{Round: 1})...)
}

// TestLogMemory: a list is new memory, spare room too.
func TestLogMemory(t *testing.T) {
	for _, n := range []int{1, 3, 15, 16, 17, 40} {
		var l health.Log
		for i := range n {
			l.Put(api.Record{Round: uint32(i)})
		}
		one, two := l.List(), l.List()
		want := slices.Clone(one)
		for i := range one[:cap(one)] {
			one[:cap(one)][i] = api.Record{Round: 77}
		}
		if !slices.Equal(two, want) {
			t.Errorf("R6: a list changed with another one: %v", two)
		}
		isLog(t, &l, want...)
		for range 20 {
			l.Put(api.Record{Round: 88})
		}
		if !slices.Equal(two, want) {
			t.Errorf("R6: a list changed with its log: %v", two)
		}
	}
}

// TestLogsAlike: logs to which the same records are put, in the same order, are the same, whatever they are asked in between; one to which they aren't isn't touched.
func TestLogsAlike(t *testing.T) {
	chance := rand.New(rand.NewSource(4))
	var one, two, untouched health.Log
	for range 200 {
		r := someRecord(chance)
		one.Put(r)
		if chance.Intn(3) == 0 {
			two.List()
		}
		two.Put(r)
		if a, b := one.List(), two.List(); !slices.Equal(a, b) {
			t.Fatalf("P6: %v and %v", a, b)
		}
	}
	isLog(t, &untouched)
}

// TestNil: a nil monitor and a nil log hold nothing, and nothing is done to them.
func TestNil(t *testing.T) {
	var m *health.Monitor
	for _, part := range append([]int{0, 1}, wrongParts...) {
		isRefused(t, m, 0, part, 0, api.ErrNil)
		isRefused(t, m, maxRounds, part, 4, api.ErrNil)
	}
	isSealed(t, m)
	var l *health.Log
	l.Put(api.Record{Round: 1})
	isLog(t, l)
}

// TestNone: a monitor of no partitions, and one that New didn't make, refuse all.
func TestNone(t *testing.T) {
	for _, m := range []*health.Monitor{health.New(0, nil), health.New(6, []api.Part{}), new(health.Monitor)} {
		for _, part := range append([]int{0, 1}, wrongParts...) {
			isRefused(t, m, 0, part, 0, api.ErrRange)
		}
		isSealed(t, m)
	}
}

// TestWildNew: any number as a node's, and any number of partitions: a monitor that answers.
func TestWildNew(t *testing.T) {
	for _, node := range []int{-1, 7, 255, 256, math.MinInt, math.MaxInt} {
		for _, n := range []int{0, 1, 13, 256, 1000} {
			parts := make([]api.Part, n)
			for i := range parts {
				parts[i] = all(api.Restart)
			}
			m := health.New(node, parts)
			if m == nil {
				t.Fatalf("P1: New(%d, %d partitions): nil", node, n)
			}
			isRefused(t, m, 0, n, 0, api.ErrRange)
			for part := range n {
				isDone(t, m, 0, part, 0, api.Restart)
			}
		}
	}
}

// TestAtOnce: what is only asked may be asked by many at once.
func TestAtOnce(t *testing.T) {
	var l health.Log
	for i := range 20 {
		l.Put(api.Record{Round: uint32(i)})
	}
	want := l.List()
	err := chain(api.ErrFrame, api.ErrMode)
	var all sync.WaitGroup
	for range 8 {
		all.Go(func() {
			for range 200 {
				isLog(t, &l, want...)
				isKind(t, err, api.KindPort, true)
				if health.Of(api.Reset) != (health.Effect{Part: true, Node: true}) {
					t.Error("P15.2: Of")
				}
			}
		})
	}
	all.Wait()
}

// FuzzMonitor: the first bytes are the partitions' Recovers, each three bytes of the others a report, or a seal.
func FuzzMonitor(f *testing.F) {
	f.Add([]byte{1, 1, 1, 1, 0, 1, 2, 3, 4, 0, 0, 5, 0, 1, 6, 0, 2, 0, 255, 0, 7, 1, 3})
	f.Add([]byte{1, 1, 1, 1, 1, 1, 1, 1, 4, 0, 0, 4, 0, 0, 4, 0, 0, 255, 2, 4, 255, 200, 9})
	f.Fuzz(func(t *testing.T, b []byte) {
		if len(b) < 8 {
			return
		}
		var parts []api.Part
		for i := range 2 {
			parts = append(parts, api.Part{Recover: [4]api.Action{api.Action(b[4*i]), api.Action(b[4*i+1]), api.Action(b[4*i+2]), api.Action(b[4*i+3])}})
		}
		m, w := health.New(4, parts), worked{node: 4, parts: parts}
		for b = b[8:]; len(b) >= 3 && len(w.all) < 100; b = b[3:] {
			if b[1] == 255 {
				sealBoth(t, m, &w)
				continue
			}
			round := uint32(b[0])
			if round >= 128 {
				round += maxRounds - 128 - 64
			}
			reportBoth(t, m, &w, round, int(int8(b[1])), api.ErrorKind(b[2]))
		}
		sealBoth(t, m, &w)
	})
}

// FuzzKind: each byte is an error's number, the outermost first.
func FuzzKind(f *testing.F) {
	f.Add([]byte{17, 10})
	f.Add([]byte{152, 14, 150, 151})
	f.Fuzz(func(t *testing.T, b []byte) {
		var codes []api.Errno
		for _, n := range b[:min(len(b), 1000)] {
			if n > 0 {
				codes = append(codes, api.Errno(n))
			}
		}
		if len(codes) == 0 {
			return
		}
		err := chain(codes...)
		kind, told := kindOf(codes...)
		isKind(t, err, kind, told)
		isKind(t, other{err}, kind, told)
	})
}
