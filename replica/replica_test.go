package replica_test

import (
	"math/rand"
	"reflect"
	"slices"
	"sync"
	"testing"

	"escapement/api"
	"escapement/member"
	"escapement/replica"
)

// keys is how many keys there are, as the chapter writes it.
const keys = 8

// none stands for no value, where values are ints.
const none = -1

// beyond are keys that are none.
var beyond = []uint8{8, 9, 10, 15, 16, 127, 128, 136, 200, 254, 255}

// set, drop and swap are commands.
func set(key uint8, val uint16) api.Command {
	return api.Command{Kind: api.CmdSet, Key: key, Val: val}
}

func drop(key uint8) api.Command {
	return api.Command{Kind: api.CmdDrop, Key: key}
}

func swap(key uint8, val, old uint16) api.Command {
	return api.Command{Kind: api.CmdSwap, Key: key, Val: val, Old: old}
}

// isError holds an answer to be that number itself, or nil of OK.
func isError(t *testing.T, what string, err error, want api.Errno) {
	t.Helper()
	if want == api.OK {
		if err != nil {
			t.Errorf("%s: %v", what, err)
		}
		return
	}
	if code, ok := err.(api.Errno); !ok || code != want {
		t.Errorf("%s: %v, not %v itself", what, err, want)
	}
}

// isDone holds a command to be done, to change something or not, and to be counted.
func isDone(t *testing.T, r *replica.Table, c api.Command, want bool) {
	t.Helper()
	n := r.Done()
	changed, err := r.Apply(c)
	isError(t, "P14.1: Apply", err, api.OK)
	if changed != want {
		t.Errorf("P14.1: Apply(%v): %v", c, changed)
	}
	if r.Done() != n+1 {
		t.Errorf("P14.1: Apply(%v): Done %d behind %d", c, r.Done(), n)
	}
}

// isUndone holds a command not to be done, for that reason (OK: it is none), and nothing to be changed.
func isUndone(t *testing.T, r *replica.Table, c api.Command, want api.Errno) {
	t.Helper()
	l, n := r.Image(), r.Done()
	changed, err := r.Apply(c)
	isError(t, "P14.1: Apply", err, want)
	if changed {
		t.Errorf("P14.1, R3: Apply(%v): true", c)
	}
	if !slices.Equal(r.Image(), l) || r.Done() != n {
		t.Errorf("P14.1, R4: Apply(%v): %v, %d, not %v, %d", c, r.Image(), r.Done(), l, n)
	}
}

// isValue holds a key's value (none: it has none) against what it should be.
func isValue(t *testing.T, r *replica.Table, key uint8, want int) {
	t.Helper()
	got, err := r.Ask(key)
	if want == none {
		isError(t, "P14.2: Ask", err, api.ErrNone)
		if got != 0 {
			t.Errorf("R3: Ask(%d): %d beside an error", key, got)
		}
		return
	}
	isError(t, "P14.2: Ask", err, api.OK)
	if int(got) != want {
		t.Errorf("P14.2: Ask(%d): %d, not %d", key, got, want)
	}
}

// isImage holds an image against what it should be.
func isImage(t *testing.T, r *replica.Table, want ...api.Command) {
	t.Helper()
	if got := r.Image(); !slices.Equal(got, want) {
		t.Errorf("P14.2: Image: %v, not %v", got, want)
	}
}

// isVote holds what a vote answers (none: there is no such value) against what it should.
func isVote(t *testing.T, l []*replica.Table, key uint8, want int) {
	t.Helper()
	got, err := replica.Vote(l, key)
	if want == none {
		isError(t, "P14.2: Vote", err, api.ErrNone)
		if got != 0 {
			t.Errorf("R3: Vote(%d): %d beside an error", key, got)
		}
		return
	}
	isError(t, "P14.2: Vote", err, api.OK)
	if int(got) != want {
		t.Errorf("P14.2: Vote(%d): %d, not %d", key, got, want)
	}
}

// isAlike holds two tables to answer the same, whatever they are asked.
func isAlike(t *testing.T, one, two *replica.Table) {
	t.Helper()
	for key := range 256 {
		a, errA := one.Ask(uint8(key))
		b, errB := two.Ask(uint8(key))
		if a != b || !reflect.DeepEqual(errA, errB) {
			t.Errorf("P14.3: Ask(%d): %d, %v and %d, %v", key, a, errA, b, errB)
		}
	}
	if a, b := one.Image(), two.Image(); !slices.Equal(a, b) || one.Done() != two.Done() {
		t.Errorf("P14.3: %v, %d and %v, %d", a, one.Done(), b, two.Done())
	}
}

// made is a table to which some commands were applied.
func made(l ...api.Command) *replica.Table {
	r := replica.New()
	for _, c := range l {
		r.Apply(c)
	}
	return r
}

// holding are tables of which each has one of the values (none: no value) at the key.
func holding(key uint8, values ...int) []*replica.Table {
	var out []*replica.Table
	for _, v := range values {
		r := replica.New()
		if v != none {
			r.Apply(set(key, uint16(v)))
		}
		out = append(out, r)
	}
	return out
}

// worked is a second working of the chapter's words: all commands that were done, gone over anew for each answer.
type worked []api.Command

// value is a key's value; none, if it has none.
func (w worked) value(key uint8) int {
	v := none
	for _, c := range w {
		if c.Key != key {
			continue
		}
		if c.Kind == api.CmdDrop {
			v = none
		} else if c.Kind == api.CmdSet || v == int(c.Old) {
			v = int(c.Val)
		}
	}
	return v
}

// apply: as Apply.
func (w *worked) apply(c api.Command) (bool, error) {
	if c.Kind == api.CmdNone {
		return false, nil
	}
	if c.Key >= keys {
		return false, api.ErrRange
	}
	if c.Kind > 3 {
		return false, api.ErrKind
	}
	v := w.value(c.Key)
	*w = append(*w, c)
	return w.value(c.Key) != v, nil
}

// image: as Image.
func (w worked) image() []api.Command {
	var l []api.Command
	for key := range uint8(keys) {
		if v := w.value(key); v != none {
			l = append(l, set(key, uint16(v)))
		}
	}
	return l
}

// most is a second working of what a vote is: the value of which there are more than half; none, if there is no such value.
func most(values []int) int {
	for _, v := range values {
		count := 0
		for _, other := range values {
			if other == v {
				count++
			}
		}
		if v != none && count+count > len(values) {
			return v
		}
	}
	return none
}

// applyBoth holds a table to answer a command as the second working does.
func applyBoth(t *testing.T, r *replica.Table, w *worked, c api.Command) {
	t.Helper()
	got, err := r.Apply(c)
	want, wantErr := w.apply(c)
	if got != want || !reflect.DeepEqual(err, wantErr) {
		t.Errorf("P14.1: Apply(%v) behind %v: %v, %v, not %v, %v", c, *w, got, err, want, wantErr)
	}
}

// isWorked holds a table to be as the second working.
func isWorked(t *testing.T, r *replica.Table, w worked) {
	t.Helper()
	for key := range uint8(keys) {
		isValue(t, r, key, w.value(key))
	}
	isImage(t, r, w.image()...)
	if r.Done() != len(w) {
		t.Errorf("P14.1: Done: %d, not %d", r.Done(), len(w))
	}
}

// someCommand is a command by chance, mostly one that may be done, of few values.
func someCommand(chance *rand.Rand) api.Command {
	c := api.Command{Kind: api.CmdKind(chance.Intn(4)), Key: uint8(chance.Intn(keys)), Val: uint16(chance.Intn(3)), Old: uint16(chance.Intn(3))}
	switch chance.Intn(20) {
	case 0:
		c.Kind = api.CmdKind(chance.Intn(256))
	case 1:
		c.Key = uint8(chance.Intn(256))
	case 2:
		c.Val = uint16(chance.Intn(1 << 16))
	}
	return c
}

func TestExamples(t *testing.T) {
	r := replica.New()
	isDone(t, r, set(3, 7), true)
	isValue(t, r, 3, 7)
	isDone(t, r, swap(3, 9, 7), true)
	isDone(t, r, swap(3, 9, 7), false)
	isDone(t, r, swap(4, 9, 0), false)
	isDone(t, r, drop(3), true)
	isDone(t, r, drop(3), false)
	if r.Done() != 6 {
		t.Errorf("P14.1: Done: %d", r.Done())
	}
	isImage(t, r)
}

// TestNew: no key has a value, nothing was done.
func TestNew(t *testing.T) {
	r := replica.New()
	if r == nil {
		t.Fatal("P14.1: New: nil")
	}
	isWorked(t, r, nil)
	for _, key := range beyond {
		isValue(t, r, key, none)
	}
}

// TestCmdNone: no command does nothing, and isn't counted, whatever stands in its other fields.
func TestCmdNone(t *testing.T) {
	for _, r := range []*replica.Table{replica.New(), made(set(0, 5), set(7, 0))} {
		isUndone(t, r, api.Command{}, api.OK)
		for key := range 256 {
			for _, v := range []uint16{0, 1, 5, 65535} {
				isUndone(t, r, api.Command{Key: uint8(key), Val: v}, api.OK)
				isUndone(t, r, api.Command{Key: uint8(key), Old: v}, api.OK)
			}
		}
	}
}

// TestRefused: each key beyond the last is refused, whatever the kind; then each kind beyond the last.
func TestRefused(t *testing.T) {
	r := made(set(0, 1), set(3, 7), set(7, 65535), drop(1))
	for kind := 1; kind < 256; kind++ {
		for key := range 256 {
			c := api.Command{Kind: api.CmdKind(kind), Key: uint8(key), Val: 7, Old: 7}
			switch {
			case key >= keys:
				isUndone(t, r, c, api.ErrRange)
			case kind > 3:
				isUndone(t, r, c, api.ErrKind)
			}
		}
	}
	for _, key := range beyond {
		isValue(t, r, key, none)
	}
	isImage(t, r, set(0, 1), set(3, 7), set(7, 65535))
}

// TestKeys: each of the eight keys has a value of its own.
func TestKeys(t *testing.T) {
	if api.MaxKeys != keys {
		t.Fatalf("P14.1: MaxKeys %d", api.MaxKeys)
	}
	r := replica.New()
	for key := range uint8(keys) {
		isDone(t, r, set(key, 100+uint16(key)), true)
	}
	for key := range uint8(keys) {
		isValue(t, r, key, 100+int(key))
		isDone(t, r, swap(key, 200+uint16(key), 100+uint16(key)), true)
		isValue(t, r, (key+1)%keys, []int{101, 102, 103, 104, 105, 106, 107, 200}[key])
	}
	for key := range uint8(keys) {
		isDone(t, r, drop(key), true)
		for other := range uint8(keys) {
			want := 200 + int(other)
			if other <= key {
				want = none
			}
			isValue(t, r, other, want)
		}
	}
	isImage(t, r)
}

// TestOne: each command at a key with each value, or none: what it has behind it, and whether that is another one.
func TestOne(t *testing.T) {
	for _, x := range []struct {
		name    string
		before  int
		command api.Command
		after   int
		changed bool
	}{
		{"set, where there is none", none, set(2, 7), 7, true},
		{"set to 0, where there is none", none, set(2, 0), 0, true},
		{"set to another one", 7, set(2, 8), 8, true},
		{"set to one 256 more", 7, set(2, 263), 263, true},
		{"set to the greatest", 7, set(2, 65535), 65535, true},
		{"set to 0", 7, set(2, 0), 0, true},
		{"set to the same", 7, set(2, 7), 7, false},
		{"set 0 to 0", 0, set(2, 0), 0, false},
		{"set 0 to 1", 0, set(2, 1), 1, true},
		{"set, whatever is Old", 7, api.Command{Kind: api.CmdSet, Key: 2, Val: 8, Old: 9}, 8, true},
		{"set to the same, whatever is Old", 7, api.Command{Kind: api.CmdSet, Key: 2, Val: 7, Old: 9}, 7, false},
		{"drop, where there is none", none, drop(2), none, false},
		{"drop", 7, drop(2), none, true},
		{"drop of 0", 0, drop(2), none, true},
		{"drop, whatever is Val", 7, api.Command{Kind: api.CmdDrop, Key: 2, Val: 7, Old: 9}, none, true},
		{"swap, where there is none", none, swap(2, 8, 7), none, false},
		{"swap of 0, where there is none", none, swap(2, 8, 0), none, false},
		{"swap of 0 for 0, where there is none", none, swap(2, 0, 0), none, false},
		{"swap of the value", 7, swap(2, 8, 7), 8, true},
		{"swap of the value for 0", 7, swap(2, 0, 7), 0, true},
		{"swap of 0", 0, swap(2, 8, 0), 8, true},
		{"swap of the greatest", 65535, swap(2, 0, 65535), 0, true},
		{"swap of the value for itself", 7, swap(2, 7, 7), 7, false},
		{"swap of 0 for itself", 0, swap(2, 0, 0), 0, false},
		{"swap of another one", 7, swap(2, 8, 6), 7, false},
		{"swap of one 256 more", 7, swap(2, 8, 263), 7, false},
		{"swap of what it would be", 7, swap(2, 8, 8), 7, false},
		{"swap of another one for the value", 7, swap(2, 7, 8), 7, false},
		{"swap of 0, where it is another one", 7, swap(2, 8, 0), 7, false},
	} {
		t.Run(x.name, func(t *testing.T) {
			r := made(set(1, 7), set(3, 8))
			if x.before != none {
				isDone(t, r, set(2, uint16(x.before)), true)
			}
			isDone(t, r, x.command, x.changed)
			isValue(t, r, 2, x.after)
			isDone(t, r, x.command, false)
			isValue(t, r, 2, x.after)
			isValue(t, r, 1, 7)
			isValue(t, r, 3, 8)
		})
	}
}

// TestEach: all ways to apply up to five of some commands to a table, two keys among them.
func TestEach(t *testing.T) {
	alphabet := []api.Command{set(0, 0), set(0, 1), drop(0), swap(0, 1, 0), swap(0, 0, 1), swap(0, 1, 1), set(7, 1), swap(7, 0, 1), {Kind: 4}}
	var check func(l []api.Command)
	check = func(l []api.Command) {
		r, w := replica.New(), worked(nil)
		for _, c := range l {
			applyBoth(t, r, &w, c)
		}
		isWorked(t, r, w)
		if len(l) == 5 {
			return
		}
		for _, c := range alphabet {
			check(append(slices.Clone(l), c))
		}
	}
	check(nil)
}

// TestAsk: asking changes nothing, and tells of no key beyond the last.
func TestAsk(t *testing.T) {
	r := made(set(0, 1), set(7, 2))
	for range 2 {
		for key := range 256 {
			want := none
			switch key {
			case 0:
				want = 1
			case 7:
				want = 2
			}
			isValue(t, r, uint8(key), want)
		}
		isImage(t, r, set(0, 1), set(7, 2))
	}
	if r.Done() != 2 {
		t.Errorf("P14.1: Done: %d", r.Done())
	}
}

// TestImage: rising, in whatever order the keys came; applied to a new table, it gives the same values.
func TestImage(t *testing.T) {
	chance := rand.New(rand.NewSource(1))
	for range 300 {
		r := replica.New()
		var want []api.Command
		order := chance.Perm(keys)[:chance.Intn(keys+1)]
		for _, key := range order {
			r.Apply(set(uint8(key), 1))
			r.Apply(swap(uint8(key), uint16(10*key), 1))
		}
		slices.Sort(order)
		for _, key := range order {
			want = append(want, set(uint8(key), uint16(10*key)))
		}
		isImage(t, r, want...)
		isImage(t, made(r.Image()...), want...)
	}
}

// TestImageMemory: an image is new memory, spare room too.
func TestImageMemory(t *testing.T) {
	r := made(set(1, 10), set(2, 20), set(6, 60))
	one := r.Image()
	two := r.Image()
	for i := range one {
		one[i] = api.Command{Kind: api.CmdSwap, Key: 7, Val: 1, Old: 1}
	}
	if spare := one[:cap(one)]; len(spare) > len(one) {
		spare[len(one)] = set(0, 0)
	}
	one = append(one, set(0, 9))
	if !slices.Equal(two, []api.Command{set(1, 10), set(2, 20), set(6, 60)}) {
		t.Errorf("R6: an image changed with another one: %v", two)
	}
	isImage(t, r, set(1, 10), set(2, 20), set(6, 60))
	isDone(t, r, set(1, 11), true)
	isDone(t, r, drop(6), true)
	if !slices.Equal(two, []api.Command{set(1, 10), set(2, 20), set(6, 60)}) {
		t.Errorf("R6: an image changed with its table: %v", two)
	}
}

// TestVote: more than half of all tables, those without a value too; just half aren't enough.
func TestVote(t *testing.T) {
	for _, x := range []struct {
		name   string
		values []int
		want   int
	}{
		{"no tables", nil, none},
		{"one", []int{5}, 5},
		{"one that has 0", []int{0}, 0},
		{"one that has the greatest", []int{65535}, 65535},
		{"one that has none", []int{none}, none},
		{"two alike", []int{5, 5}, 5},
		{"two that differ", []int{5, 6}, none},
		{"two, one of which has none", []int{5, none}, none},
		{"two, one of which has none, of 0", []int{0, none}, none},
		{"two of three", []int{5, 6, 5}, 5},
		{"two of three, the first two", []int{5, 5, 6}, 5},
		{"two of three, the last two", []int{6, 5, 5}, 5},
		{"two of three, one has none", []int{5, none, 5}, 5},
		{"two of three have none", []int{5, none, none}, none},
		{"three that differ", []int{5, 6, 7}, none},
		{"all have none", []int{none, none, none}, none},
		{"two of four", []int{5, 5, 6, 7}, none},
		{"two of four, two of another", []int{5, 6, 5, 6}, none},
		{"two of four, the others none", []int{5, none, 5, none}, none},
		{"three of four", []int{5, 6, 5, 5}, 5},
		{"three of five", []int{6, 5, 7, 5, 5}, 5},
		{"two of five, no others alike", []int{5, 6, 7, 8, 5}, none},
		{"three of six", []int{5, 5, 5, 6, 6, 7}, none},
		{"four of six", []int{6, 7, 5, 5, 5, 5}, 5},
		{"four of seven", []int{5, 6, 5, 6, 5, 6, 5}, 5},
		{"three of seven, the others none", []int{5, none, 5, none, 5, none, none}, none},
		{"256 apart", []int{5, 261, 5 + 512}, none},
	} {
		t.Run(x.name, func(t *testing.T) {
			for _, key := range []uint8{0, 3, 7} {
				l := holding(key, x.values...)
				isVote(t, l, key, x.want)
				isVote(t, l, (key+1)%keys, none)
				for _, other := range beyond {
					isVote(t, l, other, none)
				}
			}
		})
	}
}

// TestVoteNil: a nil table is one without a value; it counts among the tables.
func TestVoteNil(t *testing.T) {
	five := made(set(3, 5))
	isVote(t, []*replica.Table{nil}, 3, none)
	isVote(t, []*replica.Table{nil, nil, nil}, 3, none)
	isVote(t, []*replica.Table{nil, five}, 3, none)
	isVote(t, []*replica.Table{five, nil, made(set(3, 5))}, 3, 5)
	isVote(t, []*replica.Table{five, nil, nil}, 3, none)
	isVote(t, []*replica.Table{five, new(replica.Table), made(set(3, 5))}, 3, 5)
	isVote(t, []*replica.Table{five, five, made(set(3, 6))}, 3, 5)
}

// TestVoteEach: all lists of up to seven tables of few values, against a second working.
func TestVoteEach(t *testing.T) {
	var check func(values []int)
	check = func(values []int) {
		isVote(t, holding(7, values...), 7, most(values))
		if len(values) == 7 {
			return
		}
		for _, v := range []int{none, 0, 1} {
			check(append(slices.Clone(values), v))
		}
	}
	check(nil)
}

// TestVoteMany: many tables, each with a value of its own; then not more than half of them with one value, then one more.
func TestVoteMany(t *testing.T) {
	for _, n := range []int{1000, 1001, 65536} {
		values := make([]int, n)
		for i := range values {
			values[i] = i
		}
		isVote(t, holding(5, values...), 5, none)
		for i := range n / 2 {
			values[2*i] = 0
		}
		isVote(t, holding(5, values...), 5, none)
		values[1] = 0
		isVote(t, holding(5, values...), 5, 0)
	}
}

// TestVoteMemory: a vote changes neither the list, nor its spare room, nor a table.
func TestVoteMemory(t *testing.T) {
	all := []*replica.Table{made(set(3, 5)), nil, made(set(3, 6), set(2, 1)), made(set(3, 5)), made(set(3, 5), drop(1))}
	was := slices.Clone(all)
	for key := range 256 {
		want := none
		if key == 3 {
			want = 5
		}
		isVote(t, all[:4], uint8(key), none)
		isVote(t, all, uint8(key), want)
		isVote(t, all[:1], uint8(key), want)
	}
	if !slices.Equal(all, was) {
		t.Error("R6: Vote changed its list")
	}
	isImage(t, all[0], set(3, 5))
	isImage(t, all[2], set(2, 1), set(3, 6))
	if all[0].Done() != 1 || all[2].Done() != 2 || all[4].Done() != 2 {
		t.Errorf("R6: Vote changed a table: Done %d, %d, %d", all[0].Done(), all[2].Done(), all[4].Done())
	}
}

// TestAlike: tables to which the same commands are applied are alike at each step, whatever they are asked in between, and as the second working.
func TestAlike(t *testing.T) {
	chance := rand.New(rand.NewSource(2))
	for range 100 {
		one, two, w := replica.New(), new(replica.Table), worked(nil)
		for range 100 {
			c := someCommand(chance)
			a, errA := two.Apply(c)
			if chance.Intn(3) == 0 {
				two.Image()
				two.Ask(c.Key)
				replica.Vote([]*replica.Table{two, one}, c.Key)
			}
			n := len(w)
			applyBoth(t, one, &w, c)
			b, errB := made(w[:n]...).Apply(c)
			if a != b || !reflect.DeepEqual(errA, errB) {
				t.Errorf("P14.3: Apply(%v): %v, %v and %v, %v", c, a, errA, b, errB)
			}
		}
		isAlike(t, one, two)
		isAlike(t, one, made(w...))
		isWorked(t, one, w)
	}
}

// TestOrder: of the same commands in another order tables needn't be alike: they are done one behind the other.
func TestOrder(t *testing.T) {
	l := []api.Command{set(3, 7), swap(3, 9, 7), drop(3)}
	for _, x := range []struct {
		order [3]int
		want  []api.Command
	}{
		{[3]int{0, 1, 2}, nil},
		{[3]int{0, 2, 1}, nil},
		{[3]int{1, 0, 2}, nil},
		{[3]int{1, 2, 0}, []api.Command{set(3, 7)}},
		{[3]int{2, 0, 1}, []api.Command{set(3, 9)}},
		{[3]int{2, 1, 0}, []api.Command{set(3, 7)}},
	} {
		r := replica.New()
		for _, i := range x.order {
			r.Apply(l[i])
		}
		isImage(t, r, x.want...)
		if r.Done() != 3 {
			t.Errorf("P14.1: Done: %d", r.Done())
		}
	}
}

// TestHeard: nodes that hear the same frames, each in an order of its own, and apply their commands by rising senders, have the same table.
func TestHeard(t *testing.T) {
	chance := rand.New(rand.NewSource(3))
	var nodes [7]*replica.Table
	for i := range nodes {
		nodes[i] = replica.New()
	}
	var w worked
	for round := range uint32(200) {
		stamp := api.Stamp{Round: round, Members: 0x7f}
		var frames []api.Frame
		for sender := range uint8(7) {
			frames = append(frames, api.Frame{Sender: sender, Stamp: stamp, Command: someCommand(chance)})
			if chance.Intn(5) == 0 {
				frames[sender].Stamp.Round++
			} else {
				w.apply(frames[sender].Command)
			}
		}
		for _, r := range nodes {
			h := member.Listen(stamp, true)
			for _, i := range chance.Perm(7) {
				h.Hear(i, frames[i])
			}
			for _, f := range h.Frames() {
				r.Apply(f.Command)
			}
		}
	}
	for _, r := range nodes {
		isAlike(t, nodes[0], r)
		isWorked(t, r, w)
		for key := range uint8(keys) {
			isVote(t, nodes[:], key, w.value(key))
		}
	}
}

// TestNil: a nil table has nothing, and nothing is done to it.
func TestNil(t *testing.T) {
	var r *replica.Table
	for _, c := range []api.Command{{}, set(0, 1), set(8, 1), drop(3), swap(7, 1, 0), {Kind: 4}, {Kind: 255, Key: 255}} {
		changed, err := r.Apply(c)
		isError(t, "R7: Apply", err, api.ErrNil)
		if changed {
			t.Errorf("R3: Apply(%v): true", c)
		}
	}
	for key := range 256 {
		val, err := r.Ask(uint8(key))
		isError(t, "R7: Ask", err, api.ErrNil)
		if val != 0 {
			t.Errorf("R3: Ask(%d): %d", key, val)
		}
	}
	if r.Done() != 0 || len(r.Image()) != 0 {
		t.Errorf("R7: Done %d, Image %v", r.Done(), r.Image())
	}
}

// TestZero: a table that New didn't make is an empty one.
func TestZero(t *testing.T) {
	for _, c := range []api.Command{{}, set(3, 0), set(8, 1), drop(3), swap(3, 1, 0), {Kind: 4}} {
		r, w := new(replica.Table), worked(nil)
		isWorked(t, r, w)
		applyBoth(t, r, &w, c)
		isWorked(t, r, w)
		isAlike(t, r, made(c))
	}
}

// TestApart: what is done to one table is to be seen in no other one.
func TestApart(t *testing.T) {
	one, two := replica.New(), replica.New()
	if one == two {
		t.Fatal("R6: New answers one table twice")
	}
	isDone(t, one, set(3, 7), true)
	isWorked(t, two, nil)
	isDone(t, two, set(3, 8), true)
	isDone(t, two, set(4, 1), true)
	isDone(t, one, drop(3), true)
	isImage(t, one)
	isImage(t, two, set(3, 8), set(4, 1))
	isWorked(t, replica.New(), nil)
}

// TestAtOnce: one table is only read where it is asked, however many ask at once.
func TestAtOnce(t *testing.T) {
	r := made(set(3, 7), set(5, 0))
	l := []*replica.Table{r, r, nil}
	var all sync.WaitGroup
	for range 8 {
		all.Go(func() {
			for range 200 {
				isValue(t, r, 3, 7)
				isValue(t, r, 4, none)
				isVote(t, l, 5, 0)
				isImage(t, r, set(3, 7), set(5, 0))
				if r.Done() != 2 {
					t.Errorf("P14.1: Done: %d", r.Done())
				}
			}
		})
	}
	all.Wait()
}

// FuzzTable: each six bytes are a command.
func FuzzTable(f *testing.F) {
	f.Add([]byte{1, 3, 0, 7, 0, 0, 3, 3, 0, 9, 0, 7, 3, 4, 0, 9, 0, 0, 2, 3, 0, 0, 0, 0})
	f.Add([]byte{0, 200, 1, 1, 1, 1, 4, 0, 0, 0, 0, 0, 1, 8, 0, 0, 0, 0, 255, 255, 255, 255, 255, 255})
	f.Fuzz(func(t *testing.T, b []byte) {
		r, w := replica.New(), worked(nil)
		var all []api.Command
		for ; len(b) >= 6 && len(all) < 100; b = b[6:] {
			c := api.Command{Kind: api.CmdKind(b[0]), Key: b[1], Val: uint16(b[2])<<8 | uint16(b[3]), Old: uint16(b[4])<<8 | uint16(b[5])}
			all = append(all, c)
			applyBoth(t, r, &w, c)
		}
		isWorked(t, r, w)
		isAlike(t, r, made(all...))
		for key := range 256 {
			want := none
			if key < keys {
				want = w.value(uint8(key))
			}
			isVote(t, []*replica.Table{r, nil, r}, uint8(key), want)
		}
	})
}
