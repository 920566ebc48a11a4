package member_test

import (
	"math"
	"math/rand"
	"reflect"
	"slices"
	"sync"
	"testing"

	"escapement/api"
	"escapement/member"
)

// none are numbers that are no nodes.
var none = []int{math.MinInt, math.MinInt + 1, -1 << 32, -256, -64, -8, -7, -2, -1, 7, 8, 9, 15, 63, 64, 65, 255, 256, 257, 262, 1 << 31, 1 << 32, 1<<32 + 3, 1 << 62, math.MaxInt - 1, math.MaxInt}

// stampA, stampB and stampC are stamps that differ in their rounds, or their members.
var (
	stampA = api.Stamp{Round: 7, Members: 0x7f}
	stampB = api.Stamp{Round: 8, Members: 0x7f}
	stampC = api.Stamp{Round: 7, Members: 0x3f}
)

// of is a frame of a node with that stamp.
func of(sender int, stamp api.Stamp) api.Frame {
	return api.Frame{Sender: uint8(sender), Stamp: stamp}
}

// full is a frame of a node with something in each of its fields, which tell it from all others.
func full(sender int, stamp api.Stamp) api.Frame {
	n := uint8(sender)
	return api.Frame{
		Sender: n, Stamp: stamp,
		Messages: []api.Message{{Port: sender, Data: []byte{n, 1}}, {Port: 23, Data: []byte{2, n, 3}}},
		Command:  api.Command{Kind: api.CmdSwap, Key: n, Val: uint16(n) + 300, Old: 7},
		Records:  []api.Record{{Round: 9, Node: n, Part: 2, Kind: api.KindPort, Did: api.Reset}, {Round: 1 << 20, Node: n}},
	}
}

// plain is a frame whose empty lists are all nil, since an empty list may be either; it shares no memory with the frame.
func plain(f api.Frame) api.Frame {
	out := f
	out.Messages, out.Records = nil, nil
	for _, m := range f.Messages {
		out.Messages = append(out.Messages, api.Message{Port: m.Port, Data: append([]byte(nil), m.Data...)})
	}
	out.Records = append(out.Records, f.Records...)
	return out
}

// isHear holds what Hear answers against what it should.
func isHear(t *testing.T, h *member.Heard, line int, f api.Frame, want bool) {
	t.Helper()
	if got := h.Hear(line, f); got != want {
		t.Errorf("P12.2: Hear(%d, a frame of %d): %v", line, f.Sender, got)
	}
}

// isRight holds the right stamp, and the members that follow from it, against what they should be.
func isRight(t *testing.T, h *member.Heard, stamp api.Stamp, members member.Set) {
	t.Helper()
	if got, ok := h.Right(); !ok || got != stamp {
		t.Errorf("P12.2: Right: %v, %v, not %v", got, ok, stamp)
	}
	if got := h.Members(); got != members {
		t.Errorf("P12.2: Members: %b, not %b", got, members)
	}
	isSenders(t, h, members)
}

// isNone holds no stamp to be the right one, and nobody to be a member.
func isNone(t *testing.T, h *member.Heard) {
	t.Helper()
	if got, ok := h.Right(); ok || got != (api.Stamp{}) {
		t.Errorf("P12.2: Right: %v, %v, though there is none", got, ok)
	}
	if got := h.Members(); got != 0 {
		t.Errorf("P12.2: Members: %b, without a right stamp", got)
	}
	if got := h.Frames(); len(got) != 0 {
		t.Errorf("P12.2: Frames: %v, without a right stamp", got)
	}
}

// isSenders holds the frames to be those of the members, by rising senders.
func isSenders(t *testing.T, h *member.Heard, members member.Set) {
	t.Helper()
	var senders []int
	for _, f := range h.Frames() {
		senders = append(senders, int(f.Sender))
	}
	if !slices.Equal(senders, members.List()) {
		t.Errorf("P12.2: Frames of %v, not of %v", senders, members.List())
	}
}

// isFrames holds frames against what they should be.
func isFrames(t *testing.T, rule string, got, want []api.Frame) {
	t.Helper()
	if len(got) != len(want) {
		t.Errorf("%s: %d frames, not %d", rule, len(got), len(want))
		return
	}
	for i := range want {
		if !reflect.DeepEqual(plain(got[i]), plain(want[i])) {
			t.Errorf("%s: frame %d: %v, not %v", rule, i, got[i], want[i])
		}
	}
}

// worked is a second working of what a node gathers: a list of frames as they came, from which all else is worked out anew.
type worked struct {
	mine  api.Stamp
	known bool
	came  []api.Frame
}

// hear: as Hear.
func (w *worked) hear(line int, f api.Frame) bool {
	for _, g := range w.came {
		if int(g.Sender) == line {
			return false
		}
	}
	if int(f.Sender) != line || line > 6 {
		return false
	}
	w.came = append(w.came, plain(f))
	return true
}

// right: as Right. (Each stamp is counted, and held against the frames that don't bear it.)
func (w *worked) right() (api.Stamp, bool) {
	if w.known {
		return w.mine, true
	}
	count := map[[2]uint32]int{}
	for _, f := range w.came {
		count[[2]uint32{f.Stamp.Round, uint32(f.Stamp.Members)}]++
	}
	for s, n := range count {
		if n > len(w.came)-n {
			return api.Stamp{Round: s[0], Members: uint8(s[1])}, true
		}
	}
	return api.Stamp{}, false
}

// frames: as Frames.
func (w *worked) frames() []api.Frame {
	right, ok := w.right()
	var out []api.Frame
	for _, f := range w.came {
		if ok && f.Stamp.Round == right.Round && f.Stamp.Members == right.Members {
			out = append(out, f)
		}
	}
	slices.SortFunc(out, func(a, b api.Frame) int { return int(a.Sender) - int(b.Sender) })
	return out
}

// isWorked holds all that is answered to the second working.
func isWorked(t *testing.T, h *member.Heard, w *worked) {
	t.Helper()
	stamp, ok := w.right()
	if got, known := h.Right(); known != ok || got != stamp {
		t.Errorf("P12.2: Right: %v, %v, not %v, %v", got, known, stamp, ok)
	}
	members := 0
	for _, f := range w.frames() {
		members += 1 << f.Sender
	}
	if got := h.Members(); int(got) != members {
		t.Errorf("P12.2: Members: %b, not %b", got, members)
	}
	isFrames(t, "P12.2", h.Frames(), w.frames())
}

func TestExamples(t *testing.T) {
	if got := member.Of(0, 2, 9); got != 5 {
		t.Errorf("P12.1: Of(0, 2, 9): %b", got)
	}
	h := member.Listen(api.Stamp{}, false)
	isHear(t, h, 3, of(3, stampA), true)
	isHear(t, h, 0, of(0, stampB), true)
	isNone(t, h)
	isHear(t, h, 1, of(1, stampA), true)
	isRight(t, h, stampA, member.Of(1, 3))
	h = member.Listen(stampA, true)
	isHear(t, h, 3, of(3, stampA), true)
	isHear(t, h, 0, of(0, stampB), true)
	isRight(t, h, stampA, member.Of(3))
}

// TestOf: by hand; and each set from its nodes, rising, falling, twice, with numbers among them that are no nodes.
func TestOf(t *testing.T) {
	for _, x := range []struct {
		nodes []int
		want  member.Set
	}{
		{nil, 0}, {[]int{}, 0}, {[]int{0}, 1}, {[]int{1}, 2}, {[]int{6}, 64}, {[]int{7}, 0}, {[]int{8}, 0}, {[]int{-1}, 0}, {none, 0},
		{[]int{0, 1, 2, 3, 4, 5, 6}, 127}, {[]int{0, 1, 2, 3, 4, 5, 6, 7, 8}, 127}, {[]int{3, 3, 3}, 8}, {[]int{6, 0, 6}, 65}, {[]int{256, 1, 64}, 2},
	} {
		if got := member.Of(x.nodes...); got != x.want {
			t.Errorf("P12.1: Of(%v): %b, not %b", x.nodes, got, x.want)
		}
	}
	for want := range 128 {
		var nodes []int
		for n := range 7 {
			if want/(1<<n)%2 == 1 {
				nodes = append(nodes, n)
			}
		}
		falling := slices.Clone(nodes)
		slices.Reverse(falling)
		for _, l := range [][]int{nodes, falling, slices.Concat(nodes, nodes), slices.Concat(none, nodes), slices.Concat(falling, none)} {
			if got := member.Of(l...); int(got) != want {
				t.Errorf("P12.1: Of(%v): %b, not %b", l, got, want)
			}
		}
	}
}

// TestEachSet: all eight bits' sets, with each node: one bit is asked, set or cleared, the others stay.
func TestEachSet(t *testing.T) {
	for i := range 256 {
		s, bits, list := member.Set(i), 0, []int(nil)
		for n := range 8 {
			set := i/(1<<n)%2 == 1
			if set {
				bits++
			}
			if set && n < 7 {
				list = append(list, n)
			}
			if n == 7 {
				continue
			}
			with, without := i, i
			if set {
				without -= 1 << n
			} else {
				with += 1 << n
			}
			if s.Has(n) != set || int(s.With(n)) != with || int(s.Without(n)) != without {
				t.Errorf("P12.1: %b: node %d: Has %v, With %b, Without %b", i, n, s.Has(n), s.With(n), s.Without(n))
			}
			if !s.With(n).Has(n) || s.Without(n).Has(n) {
				t.Errorf("P12.1: %b: node %d isn't in it With it, or is Without", i, n)
			}
		}
		if s.Len() != bits {
			t.Errorf("P12.1: %b: Len %d, not %d", i, s.Len(), bits)
		}
		if !slices.Equal(s.List(), list) {
			t.Errorf("P12.1: %b: List %v, not %v", i, s.List(), list)
		}
		for _, n := range none {
			if s.Has(n) || s.With(n) != s || s.Without(n) != s {
				t.Errorf("P12.1: %b: %d, no node: Has %v, With %b, Without %b", i, n, s.Has(n), s.With(n), s.Without(n))
			}
		}
	}
}

// TestEighth: the bit that is no node's is counted, and stays, but names none.
func TestEighth(t *testing.T) {
	s := member.Set(0x80)
	if s.Len() != 1 || len(s.List()) != 0 || s.Has(7) {
		t.Errorf("P12.1: 80: Len %d, List %v, Has(7) %v", s.Len(), s.List(), s.Has(7))
	}
	if s.With(0) != 0x81 || s.With(0).Without(0) != s || s.Without(7) != s || s.With(7) != s || member.Set(0).With(7) != 0 {
		t.Error("P12.1: 80: With, Without")
	}
	if s := member.Set(0xff); s.Len() != 8 || !slices.Equal(s.List(), []int{0, 1, 2, 3, 4, 5, 6}) {
		t.Errorf("P12.1: ff: Len %d, List %v", s.Len(), s.List())
	}
}

// TestSetMemory: nodes that are handed in stay as they are; each List is new.
func TestSetMemory(t *testing.T) {
	all := []int{5, 9, -1, 2, 77, 77}
	nodes := all[:4]
	s := member.Of(nodes...)
	if !slices.Equal(all, []int{5, 9, -1, 2, 77, 77}) {
		t.Errorf("R6: Of changes its nodes: %v", all)
	}
	clear(all)
	one, two := s.List(), s.List()
	for i := range one[:cap(one)] {
		one[:cap(one)][i] = 99
	}
	if !slices.Equal(two, []int{2, 5}) || !slices.Equal(s.List(), []int{2, 5}) {
		t.Errorf("R6: List shares memory: %v, %v", two, s.List())
	}
}

// TestHear: who is heard: over each line one frame, of just that sender.
func TestHear(t *testing.T) {
	for _, known := range []bool{false, true} {
		h := member.Listen(stampA, known)
		for _, line := range none {
			for sender := range 256 {
				isHear(t, h, line, of(sender, stampA), false)
			}
		}
		for i := range 7 {
			line := 6 - i // falling: frames needn't come by their numbers
			for sender := range 256 {
				if sender != line {
					isHear(t, h, line, of(sender, stampA), false)
				}
			}
			isHear(t, h, line, of(line, stampA), true)
			isHear(t, h, line, of(line, stampA), false)
			isHear(t, h, line, of(line, stampB), false)
			isRight(t, h, stampA, member.Set(128-1<<line))
		}
	}
}

// TestRefused: what isn't heard changes nothing, and stands in nobody's way.
func TestRefused(t *testing.T) {
	refused := func(h *member.Heard) {
		for line := -2; line < 10; line++ {
			for sender := range 10 {
				if line != sender || line == 2 || line == 4 || line > 6 {
					isHear(t, h, line, full(sender, stampB), false)
				}
			}
		}
		isHear(t, h, 256+3, full(3, stampB), false)
		isHear(t, h, 3, full(3+64, stampB), false)
	}
	h := member.Listen(stampB, false)
	isHear(t, h, 4, full(4, stampA), true)
	isHear(t, h, 2, full(2, stampA), true)
	refused(h)
	isRight(t, h, stampA, member.Of(2, 4))
	isFrames(t, "R4", h.Frames(), []api.Frame{full(2, stampA), full(4, stampA)})
	for _, n := range []int{0, 1} {
		isHear(t, h, n, full(n, stampB), true)
	}
	isNone(t, h)
	refused(h)
	isNone(t, h)
	isHear(t, h, 3, full(3, stampA), true)
	isRight(t, h, stampA, member.Of(2, 3, 4))
}

// TestRight: by hand: more than half, and just half, of even and odd many; what is known counts whatever is heard.
func TestRight(t *testing.T) {
	type stamps map[int]api.Stamp
	zero := api.Stamp{}
	for _, x := range []struct {
		heard   stamps
		right   bool
		stamp   api.Stamp
		members member.Set
	}{
		{stamps{}, false, zero, 0},
		{stamps{5: stampB}, true, stampB, member.Of(5)},
		{stamps{0: zero}, true, zero, member.Of(0)},
		{stamps{0: stampA, 6: stampA}, true, stampA, member.Of(0, 6)},
		{stamps{0: stampA, 6: stampB}, false, zero, 0},
		{stamps{0: stampA, 6: stampC}, false, zero, 0},
		{stamps{0: stampA, 1: stampA, 6: stampB}, true, stampA, member.Of(0, 1)},
		{stamps{0: stampB, 1: stampA, 6: stampA}, true, stampA, member.Of(1, 6)},
		{stamps{0: stampA, 1: stampB, 6: stampA}, true, stampA, member.Of(0, 6)},
		{stamps{0: stampA, 1: stampB, 6: stampC}, false, zero, 0},
		{stamps{0: zero, 1: stampB, 6: zero}, true, zero, member.Of(0, 6)},
		{stamps{0: stampA, 1: stampA, 2: stampB, 3: stampB}, false, zero, 0},
		{stamps{0: stampA, 1: stampA, 2: stampB, 3: stampC}, false, zero, 0},
		{stamps{0: stampA, 1: stampB, 2: stampB, 3: stampB}, true, stampB, member.Of(1, 2, 3)},
		{stamps{0: stampA, 1: stampA, 2: stampB, 3: stampB, 4: stampC}, false, zero, 0},
		{stamps{0: stampA, 1: stampC, 2: stampB, 3: stampC, 4: stampC}, true, stampC, member.Of(1, 3, 4)},
		{stamps{0: stampA, 1: stampA, 2: stampA, 3: stampB, 4: stampB, 5: stampB}, false, zero, 0},
		{stamps{0: stampA, 1: stampA, 2: stampA, 3: stampB, 4: stampB, 5: stampB, 6: stampA}, true, stampA, member.Of(0, 1, 2, 6)},
		{stamps{0: stampA, 1: stampA, 2: stampA, 3: stampB, 4: stampB, 5: stampB, 6: stampC}, false, zero, 0},
		{stamps{0: stampA, 1: stampA, 2: stampA, 3: stampA, 4: stampA, 5: stampA, 6: stampA}, true, stampA, 127},
	} {
		for _, mine := range []api.Stamp{zero, stampA, stampB} { // not known: it is no stamp that was heard
			h := member.Listen(mine, false)
			for node, stamp := range x.heard {
				isHear(t, h, node, of(node, stamp), true)
			}
			if x.right {
				isRight(t, h, x.stamp, x.members)
			} else {
				isNone(t, h)
			}
			h, bearers := member.Listen(mine, true), member.Set(0)
			for node, stamp := range x.heard {
				isHear(t, h, node, of(node, stamp), true)
				if stamp == mine {
					bearers += 1 << node
				}
			}
			isRight(t, h, mine, bearers)
		}
	}
}

// TestEach: all ways in which seven nodes may be silent, or bear one of three stamps, against the second working.
func TestEach(t *testing.T) {
	kinds := []api.Stamp{stampA, stampB, stampC}
	for way := range 1 << 14 {
		for _, w := range []*worked{{}, {mine: stampA}, {mine: stampB, known: true}, {known: true}} {
			h := member.Listen(w.mine, w.known)
			for node := range 7 {
				if kind := way >> (2 * node) % 4; kind < 3 {
					f := of(node, kinds[kind])
					isHear(t, h, node, f, w.hear(node, f))
				}
			}
			isWorked(t, h, w)
		}
		if t.Failed() {
			return
		}
	}
}

// TestStamps: stamps of which a single bit differs are not the same, and all bits alike are.
func TestStamps(t *testing.T) {
	for _, stamp := range []api.Stamp{{}, stampA, {Round: math.MaxUint32, Members: 255}, {Round: 1 << 31, Members: 128}, {Round: 128, Members: 0}} {
		for bit := range 40 {
			other := stamp
			if bit < 8 {
				other.Members ^= 1 << bit
			} else {
				other.Round ^= 1 << (bit - 8)
			}
			h := member.Listen(api.Stamp{}, false)
			isHear(t, h, 0, of(0, stamp), true)
			isHear(t, h, 1, of(1, other), true)
			isNone(t, h)
			isHear(t, h, 2, of(2, other), true)
			isRight(t, h, other, member.Of(1, 2))
			h = member.Listen(stamp, true)
			isHear(t, h, 0, of(0, stamp), true)
			isHear(t, h, 1, of(1, other), true)
			isRight(t, h, stamp, member.Of(0))
		}
	}
	h := member.Listen(api.Stamp{}, false) // a round and members that swap their bytes
	isHear(t, h, 0, of(0, api.Stamp{Round: 1, Members: 2}), true)
	isHear(t, h, 1, of(1, api.Stamp{Round: 2, Members: 1}), true)
	isNone(t, h)
}

// TestTurns: the right stamp follows what is heard by then: it comes, goes, and becomes another one.
func TestTurns(t *testing.T) {
	h := member.Listen(stampC, false)
	isNone(t, h)
	isHear(t, h, 6, of(6, stampA), true)
	isRight(t, h, stampA, member.Of(6))
	isHear(t, h, 0, of(0, stampB), true)
	isNone(t, h)
	isHear(t, h, 3, of(3, stampB), true)
	isRight(t, h, stampB, member.Of(0, 3))
	isHear(t, h, 5, of(5, stampA), true)
	isNone(t, h)
	isHear(t, h, 1, of(1, stampA), true)
	isRight(t, h, stampA, member.Of(1, 5, 6))
	isHear(t, h, 2, of(2, stampC), true)
	isNone(t, h)
	isHear(t, h, 4, of(4, stampA), true)
	isRight(t, h, stampA, member.Of(1, 4, 5, 6))
}

// TestOrder: in whatever order the frames come, all is answered alike.
func TestOrder(t *testing.T) {
	chance := rand.New(rand.NewSource(1))
	for range 300 {
		var frames []api.Frame
		for node := range 7 {
			frames = append(frames, full(node, []api.Stamp{stampA, stampA, stampB, stampC}[chance.Intn(4)]))
		}
		mine, known := frames[0].Stamp, chance.Intn(2) == 0
		first := member.Listen(mine, known)
		for node, f := range frames {
			isHear(t, first, node, f, true)
		}
		for range 6 {
			h := member.Listen(mine, known)
			for _, node := range chance.Perm(7) {
				isHear(t, h, node, frames[node], true)
			}
			stamp, ok := h.Right()
			want, has := first.Right()
			if stamp != want || ok != has || h.Members() != first.Members() {
				t.Errorf("P12.2: Right %v, %v, Members %b; in another order %v, %v, %b", stamp, ok, h.Members(), want, has, first.Members())
			}
			isFrames(t, "P12.2", h.Frames(), first.Frames())
		}
	}
}

// TestFrames: the members' frames are answered whole, and no others, also such as no bytes tell.
func TestFrames(t *testing.T) {
	large := full(6, stampA)
	large.Command = api.Command{Kind: 255, Key: 255, Val: math.MaxUint16, Old: math.MaxUint16}
	large.Messages = append(large.Messages, api.Message{Port: math.MinInt, Data: make([]byte, 5000)}, api.Message{Port: math.MaxInt})
	for range 2000 {
		large.Messages = append(large.Messages, api.Message{Port: -1, Data: []byte("ab")})
		large.Records = append(large.Records, api.Record{Round: math.MaxUint32, Node: 255, Part: 255, Kind: 255, Did: 255})
	}
	empty := of(0, stampA)
	empty.Messages, empty.Records = []api.Message{{Data: []byte{}}, {}}, []api.Record{}
	for _, known := range []bool{false, true} {
		h := member.Listen(stampA, known)
		isHear(t, h, 6, large, true)
		isHear(t, h, 2, full(2, stampB), true)
		isHear(t, h, 4, full(4, stampA), true)
		isHear(t, h, 0, empty, true)
		for range 2 {
			isFrames(t, "P12.2", h.Frames(), []api.Frame{empty, full(4, stampA), large})
		}
	}
}

// roomy is a list with spare room behind it, all of which is the filler.
func roomy[T any](l []T, filler T) []T {
	out := slices.Concat(l, []T{filler, filler, filler})
	return out[:len(l)]
}

// roomyFrame is a frame all of whose lists have spare room.
func roomyFrame(f api.Frame) api.Frame {
	for i := range f.Messages {
		f.Messages[i].Data = roomy(f.Messages[i].Data, 0xa5)
	}
	f.Messages = roomy(f.Messages, api.Message{Port: 5, Data: []byte{9}})
	f.Records = roomy(f.Records, api.Record{Round: 5})
	return f
}

// stretched is a copy of a frame with the spare room of its lists as a part of them.
func stretched(f api.Frame) api.Frame {
	f.Messages = slices.Clone(f.Messages[:cap(f.Messages)])
	for i, m := range f.Messages {
		f.Messages[i].Data = m.Data[:cap(m.Data)]
	}
	f.Records = f.Records[:cap(f.Records)]
	return plain(f)
}

// spoil changes all memory of a frame, spare room included.
func spoil(f api.Frame) {
	for _, m := range f.Messages[:cap(f.Messages)] {
		for i := range m.Data[:cap(m.Data)] {
			m.Data[:cap(m.Data)][i] ^= 0x5a
		}
	}
	clear(f.Messages[:cap(f.Messages)])
	for i := range f.Records[:cap(f.Records)] {
		f.Records[:cap(f.Records)][i] = api.Record{Round: 77, Did: api.Shutdown}
	}
}

// TestHandedIn: a frame that is handed in is neither changed nor kept, spare room included, whether it is heard or not.
func TestHandedIn(t *testing.T) {
	for _, known := range []bool{false, true} {
		h := member.Listen(stampA, known)
		f := roomyFrame(full(3, stampA))
		ahead := stretched(f)
		isHear(t, h, 2, f, false)
		isHear(t, h, 3, f, true)
		isHear(t, h, 3, f, false)
		h.Right()
		h.Members()
		spoil(h.Frames()[0])
		if !reflect.DeepEqual(stretched(f), ahead) {
			t.Error("R6: a frame that is handed in is changed")
		}
		spoil(f)
		isFrames(t, "R6", h.Frames(), []api.Frame{full(3, stampA)})
	}
}

// TestAnswersNew: frames that are answered share no memory with what is kept, with another answer, or with each other, though those that were handed in did.
func TestAnswersNew(t *testing.T) {
	data := []byte{1, 2, 3, 4}
	shared := of(0, stampA)
	shared.Messages = []api.Message{{Port: 1, Data: data[:2]}, {Port: 2, Data: data[:4]}, {Port: 3, Data: data[2:]}}
	shared.Records = []api.Record{{Round: 1}, {Round: 2}}
	want := []api.Frame{plain(shared), plain(shared), plain(shared)}
	h := member.Listen(stampA, true)
	for node := range want {
		want[node].Sender, shared.Sender = uint8(node), uint8(node)
		isHear(t, h, node, shared, true)
	}
	for spoilt := range want {
		one, two := h.Frames(), h.Frames()
		spoil(one[spoilt])
		left, others := slices.Delete(one, spoilt, spoilt+1), slices.Delete(slices.Clone(want), spoilt, spoilt+1)
		isFrames(t, "R6: of one answer", left, others)
		isFrames(t, "R6: of another answer", two, want)
		for i := range two[0].Messages {
			message := two[spoilt].Messages[i].Data
			for at := range message[:cap(message)] {
				message[:cap(message)][at] ^= 0x5a
			}
			two[spoilt].Messages[i].Data = plain(want[spoilt]).Messages[i].Data
			isFrames(t, "R6: of one frame", two, want)
		}
		clear(two[:cap(two)])
		isFrames(t, "R6: of what is kept", h.Frames(), want)
	}
	spoil(shared)
	isFrames(t, "R6: of what was handed in", h.Frames(), want)
}

// someStamp is a stamp of few, so that some are the same.
func someStamp(chance *rand.Rand) api.Stamp {
	if chance.Intn(8) == 0 {
		return api.Stamp{Round: chance.Uint32(), Members: uint8(chance.Intn(256))}
	}
	return api.Stamp{Round: uint32(chance.Intn(2)) * math.MaxUint32, Members: uint8(chance.Intn(2)) * 0x81}
}

// someFrame is a frame by chance.
func someFrame(chance *rand.Rand, sender int) api.Frame {
	f := of(sender, someStamp(chance))
	for range chance.Intn(4) {
		data := make([]byte, chance.Intn(20))
		chance.Read(data)
		f.Messages = append(f.Messages, api.Message{Port: chance.Intn(30) - 3, Data: data})
	}
	for range chance.Intn(4) {
		f.Records = append(f.Records, api.Record{Round: chance.Uint32(), Node: uint8(chance.Intn(9)), Kind: api.ErrorKind(chance.Intn(5)), Did: api.Action(chance.Intn(5))})
	}
	f.Command = api.Command{Kind: api.CmdKind(chance.Intn(5)), Key: uint8(chance.Intn(9)), Val: uint16(chance.Intn(1 << 16))}
	return f
}

// TestAny: frames by chance, over right lines and wrong ones, against the second working.
func TestAny(t *testing.T) {
	chance := rand.New(rand.NewSource(2))
	for range 5000 {
		w := &worked{mine: someStamp(chance), known: chance.Intn(2) == 0}
		h := member.Listen(w.mine, w.known)
		for range chance.Intn(16) {
			line := chance.Intn(10) - 1
			f := someFrame(chance, line)
			if chance.Intn(5) == 0 {
				f.Sender = uint8(chance.Intn(9))
			}
			if chance.Intn(20) == 0 {
				line = none[chance.Intn(len(none))]
			}
			isHear(t, h, line, f, w.hear(line, f))
			if chance.Intn(3) == 0 {
				isWorked(t, h, w)
			}
		}
		isWorked(t, h, w)
	}
}

// TestTogether: what sets are for (P5): of 3 f + 1 nodes or more, f of which are silent, listen, or bear whatever stamp, one that listens finds the stamp that the others hold for right, and the same members.
func TestTogether(t *testing.T) {
	chance := rand.New(rand.NewSource(3))
	for range 5000 {
		nodes := 1 + chance.Intn(7)
		faulty := chance.Intn((nodes-1)/3 + 1)
		right := someStamp(chance)
		active, listening := member.Listen(right, true), member.Listen(someStamp(chance), false)
		order := chance.Perm(nodes)
		var plain member.Set
		for _, node := range order[faulty:] {
			plain = plain.With(node)
		}
		all := plain
		for node := range nodes {
			f := of(node, right)
			if !plain.Has(node) {
				f.Stamp = someStamp(chance)
				if chance.Intn(3) == 0 {
					continue
				}
				if f.Stamp == right {
					all = all.With(node)
				}
			}
			isHear(t, active, node, f, true)
			isHear(t, listening, node, f, true)
		}
		isRight(t, active, right, all)
		isRight(t, listening, right, all)
	}
}

// TestNil: a nil one hears nobody, and knows nothing.
func TestNil(t *testing.T) {
	var h *member.Heard
	for range 2 {
		for _, line := range append([]int{0, 3, 6}, none...) {
			isHear(t, h, line, full(line&7, stampA), false)
		}
		isNone(t, h)
	}
}

// TestZero: one that Listen didn't make has heard nothing, and knows no stamp.
func TestZero(t *testing.T) {
	h := new(member.Heard)
	isNone(t, h)
	for _, line := range none {
		isHear(t, h, line, of(line&7, stampA), false)
	}
	isHear(t, h, 6, of(6, stampA), true)
	isRight(t, h, stampA, member.Of(6))
}

// TestApart: what one gathers hangs on no other one, though both begin alike, and on nothing that it was asked ahead.
func TestApart(t *testing.T) {
	one, two := member.Listen(stampA, true), member.Listen(stampA, true)
	if one == two {
		t.Fatal("R6: Listen answers one twice")
	}
	isHear(t, one, 1, full(1, stampA), true)
	isRight(t, one, stampA, member.Of(1))
	isRight(t, two, stampA, 0)
	isHear(t, two, 1, full(1, stampB), true)
	isHear(t, two, 2, full(2, stampA), true)
	for range 3 {
		isRight(t, one, stampA, member.Of(1))
		isFrames(t, "R8", one.Frames(), []api.Frame{full(1, stampA)})
		isRight(t, two, stampA, member.Of(2))
		isFrames(t, "R8", two.Frames(), []api.Frame{full(2, stampA)})
	}
}

// TestAtOnce: one by whom all was heard is asked by many at once, and is only read; others have their own.
func TestAtOnce(t *testing.T) {
	h := member.Listen(stampC, false)
	for _, node := range []int{5, 1, 3} {
		isHear(t, h, node, full(node, stampA), true)
	}
	var all sync.WaitGroup
	for who := range 7 {
		all.Go(func() {
			own := member.Listen(stampB, false)
			isHear(t, own, who, full(who, stampC), true)
			for range 300 {
				isRight(t, h, stampA, member.Of(1, 3, 5))
				isRight(t, own, stampC, member.Of(who))
				spoil(h.Frames()[who%3])
			}
		})
	}
	all.Wait()
	isFrames(t, "R8", h.Frames(), []api.Frame{full(1, stampA), full(3, stampA), full(5, stampA)})
}

// FuzzSet: each byte is a number from -32 to 31 (its lower six bits) that is put in, or (if its highest bit is set) taken out.
func FuzzSet(f *testing.F) {
	f.Add([]byte{0, 2, 9, 0x80})
	f.Add([]byte{6, 7, 0x3f, 0x86, 0x87, 0xbf, 6})
	f.Fuzz(func(t *testing.T, steps []byte) {
		var s member.Set
		in, put := map[int]bool{}, []int(nil)
		for _, b := range steps {
			n, out := int(int8(b<<2)>>2), b >= 0x80
			in[n] = !out && n >= 0 && n < 7
			if out {
				s, put = s.Without(n), slices.DeleteFunc(put, func(m int) bool { return m == n })
			} else {
				s, put = s.With(n), append(put, n)
			}
		}
		var list []int
		for n := -40; n < 40; n++ {
			if in[n] {
				list = append(list, n)
			}
			if s.Has(n) != in[n] {
				t.Errorf("P12.1: %b: Has(%d): %v", s, n, s.Has(n))
			}
		}
		if !slices.Equal(s.List(), list) || s.Len() != len(list) || member.Of(put...) != s {
			t.Errorf("P12.1: %b: List %v, not %v; Len %d; Of %b", s, s.List(), list, s.Len(), member.Of(put...))
		}
	})
}

// FuzzHeard: each three bytes are a line, a sender and a stamp.
func FuzzHeard(f *testing.F) {
	f.Add([]byte{3, 3, 1, 0, 0, 2, 1, 1, 1}, byte(0), false)
	f.Add([]byte{6, 6, 0, 7, 7, 0, 255, 255, 0, 6, 6, 1}, byte(1), true)
	f.Fuzz(func(t *testing.T, steps []byte, mine byte, known bool) {
		stamp := func(b byte) api.Stamp { return api.Stamp{Round: uint32(b>>4) << 28, Members: b << 4} }
		w := &worked{mine: stamp(mine), known: known}
		h := member.Listen(w.mine, known)
		for ; len(steps) >= 3; steps = steps[3:] {
			line, g := int(int8(steps[0])), full(int(steps[1]), stamp(steps[2]))
			isHear(t, h, line, g, w.hear(line, g))
			isWorked(t, h, w)
		}
	})
}
