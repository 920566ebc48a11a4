package midpoint_test

import (
	"encoding/binary"
	"math"
	"math/big"
	"math/rand"
	"slices"
	"sync"
	"testing"

	"escapement/api"
	"escapement/midpoint"
)

// isCut holds what is left of a list against what should be.
func isCut(t *testing.T, l []int, f int, want []int) {
	t.Helper()
	got, err := midpoint.Cut(l, f)
	if err != nil || !slices.Equal(got, want) {
		t.Errorf("P10.1: Cut(%v, %d): %v, %v, not %v", l, f, got, err, want)
	}
}

// isMiddle holds the middle of a list against what it should be.
func isMiddle(t *testing.T, l []int, f int, want int) {
	t.Helper()
	got, err := midpoint.Middle(l, f)
	if err != nil || got != want {
		t.Errorf("P10.1: Middle(%v, %d): %d, %v, not %d", l, f, got, err, want)
	}
}

// isRange holds an error to be ErrRange itself.
func isRange(t *testing.T, call string, l []int, f int, err error) {
	t.Helper()
	if code, ok := err.(api.Errno); !ok || code != api.ErrRange {
		t.Errorf("P10.1: %s of %d numbers, %d: %v, not ErrRange", call, len(l), f, err)
	}
}

// isRefused holds Cut and Middle to answer ErrRange, and nothing else.
func isRefused(t *testing.T, l []int, f int) {
	t.Helper()
	left, err := midpoint.Cut(l, f)
	isRange(t, "Cut", l, f, err)
	if len(left) != 0 {
		t.Errorf("R3: Cut(%v, %d): %v beside an error", l, f, left)
	}
	middle, err := midpoint.Middle(l, f)
	isRange(t, "Middle", l, f, err)
	if middle != 0 {
		t.Errorf("R3: Middle(%v, %d): %d beside an error", l, f, middle)
	}
}

// isMost holds what stands in most places against what should.
func isMost(t *testing.T, l []int, want int) {
	t.Helper()
	if got, ok := midpoint.Most(l); !ok || got != want {
		t.Errorf("P10.2: Most(%v): %d, %v, not %d", l, got, ok, want)
	}
}

// isNone holds Most to answer that there is none.
func isNone(t *testing.T, l []int) {
	t.Helper()
	if got, ok := midpoint.Most(l); ok || got != 0 {
		t.Errorf("P10.2: Most(%v): %d, %v, not none", l, got, ok)
	}
}

// cutWorked is a second working of Cut: from each number's place among the others it follows whether it is left, and where.
func cutWorked(l []int, f int) ([]int, bool) {
	if f < 0 || f > len(l) || len(l) < 2*f+1 {
		return nil, false
	}
	out := make([]int, len(l)-2*f)
	for i, x := range l {
		place := 0
		for j, y := range l {
			if y < x || y == x && j < i {
				place++
			}
		}
		if place >= f && place < len(l)-f {
			out[place-f] = x
		}
	}
	return out, true
}

// middleWorked is a second working of Middle, in numbers without bounds. (Div rounds down, where what is divided by is above 0.)
func middleWorked(left []int) int {
	sum := new(big.Int).Add(big.NewInt(int64(left[0])), big.NewInt(int64(left[len(left)-1])))
	return int(sum.Div(sum, big.NewInt(2)).Int64())
}

// mostWorked is a second working of Most.
func mostWorked(l []int) (int, bool) {
	places := map[int]int{}
	for _, x := range l {
		places[x] += 2
		if places[x] > len(l) {
			return x, true
		}
	}
	return 0, false
}

// checkList holds all three calls to the second workings.
func checkList(t *testing.T, l []int, f int) {
	t.Helper()
	if left, ok := cutWorked(l, f); ok {
		isCut(t, l, f, left)
		isMiddle(t, l, f, middleWorked(left))
	} else {
		isRefused(t, l, f)
	}
	if n, ok := mostWorked(l); ok {
		isMost(t, l, n)
	} else {
		isNone(t, l)
	}
}

// eachList goes through all lists of so many of these numbers.
func eachList(numbers []int, places int, visit func(l []int)) {
	l := make([]int, places)
	var from func(place int)
	from = func(place int) {
		if place == places {
			visit(l)
			return
		}
		for _, x := range numbers {
			l[place] = x
			from(place + 1)
		}
	}
	from(0)
}

// someNumber is a number as near to 0 or as far from it as chance has it.
func someNumber(chance *rand.Rand) int {
	switch chance.Intn(8) {
	case 0:
		return []int{math.MinInt, math.MinInt + 1, -1, 0, 1, math.MaxInt - 1, math.MaxInt}[chance.Intn(7)]
	case 1:
		return chance.Intn(7) - 3
	default:
		return int(chance.Uint64()) >> chance.Intn(64)
	}
}

// someList is a list of so many numbers, some of which may be the same.
func someList(chance *rand.Rand, places int) []int {
	l := make([]int, places)
	for i := range l {
		l[i] = someNumber(chance)
		if i > 0 && chance.Intn(3) == 0 {
			l[i] = l[chance.Intn(i)]
		}
	}
	return l
}

func TestExamples(t *testing.T) {
	isCut(t, []int{5, 1, 9, 3}, 1, []int{3, 5})
	isMiddle(t, []int{5, 1, 9, 3}, 1, 4)
	isMiddle(t, []int{7}, 0, 7)
	isRefused(t, []int{1, 2}, 1)
	isMiddle(t, []int{-3, 0}, 0, -2)
	isMost(t, []int{1, 2, 1}, 1)
	isNone(t, []int{1, 2})
	isNone(t, nil)
	isNone(t, []int{})
}

// TestCut: by hand: rising, whatever the order, each number as often as it stood there.
func TestCut(t *testing.T) {
	for _, x := range []struct {
		l    []int
		f    int
		want []int
	}{
		{[]int{7}, 0, []int{7}},
		{[]int{0}, 0, []int{0}},
		{[]int{2, 1}, 0, []int{1, 2}},
		{[]int{1, 1}, 0, []int{1, 1}},
		{[]int{3, 2, 1}, 0, []int{1, 2, 3}},
		{[]int{3, 1, 2}, 1, []int{2}},
		{[]int{9, 1, 9}, 1, []int{9}},
		{[]int{1, 9, 1}, 1, []int{1}},
		{[]int{4, 4, 4, 4}, 1, []int{4, 4}},
		{[]int{20, 90, 0, 10}, 1, []int{10, 20}},
		{[]int{-1, 1, -2, 2, 0}, 1, []int{-1, 0, 1}},
		{[]int{-1, 1, -2, 2, 0}, 2, []int{0}},
		{[]int{7, 6, 5, 4, 3, 2, 1}, 2, []int{3, 4, 5}},
		{[]int{7, 6, 5, 4, 3, 2, 1}, 3, []int{4}},
		{[]int{10, 9, 100, 11}, 0, []int{9, 10, 11, 100}},
		{[]int{math.MaxInt, 0, math.MinInt}, 0, []int{math.MinInt, 0, math.MaxInt}},
		{[]int{math.MaxInt, 0, math.MinInt}, 1, []int{0}},
		{[]int{math.MaxInt, math.MinInt, math.MaxInt, math.MinInt, math.MinInt}, 1, []int{math.MinInt, math.MinInt, math.MaxInt}},
	} {
		isCut(t, x.l, x.f, x.want)
	}
}

// TestRange: at every length the greatest f that may be, and one more; and f as far from that as ints go.
func TestRange(t *testing.T) {
	for places := range 40 {
		l := make([]int, places)
		for i := range l {
			l[i] = places - i
		}
		for f := range places + 3 {
			if places < 2*f+1 {
				isRefused(t, l, f)
				continue
			}
			left, err := midpoint.Cut(l, f)
			if err != nil || len(left) != places-2*f || left[0] != f+1 || left[len(left)-1] != places-f {
				t.Errorf("P10.1: Cut of %d numbers, %d: %v, %v", places, f, left, err)
			}
			isMiddle(t, l, f, (places+1)/2)
		}
		for _, f := range []int{-1, -2, -places, -1 << 31, -1 << 32, -1 << 62, -1<<62 - 1, math.MinInt + 1, math.MinInt} {
			if f < 0 {
				isRefused(t, l, f)
			}
		}
		for _, f := range []int{1 << 31, 1 << 32, 1<<62 - 1, 1 << 62, 1<<62 + 1, 1<<62 + places, math.MaxInt - 1, math.MaxInt} {
			isRefused(t, l, f)
		}
	}
	isRefused(t, nil, 0)
	isRefused(t, []int{}, 0)
}

// TestMiddle: by hand: rounded down on both sides of 0, as far from it as ints go.
func TestMiddle(t *testing.T) {
	const least, greatest = math.MinInt, math.MaxInt
	for _, x := range []struct{ a, b, want int }{
		{0, 0, 0}, {0, 1, 0}, {0, 2, 1}, {0, 3, 1}, {1, 2, 1}, {1, 3, 2}, {5, 5, 5},
		{-1, 0, -1}, {-2, 0, -1}, {-3, 0, -2}, {-2, -1, -2}, {-3, -1, -2}, {-3, -2, -3}, {-5, -5, -5},
		{-1, 1, 0}, {-1, 2, 0}, {-2, 1, -1}, {-3, 2, -1}, {-2, 3, 0}, {-3, 4, 0}, {-4, 3, -1},
		{greatest, greatest, greatest}, {greatest - 1, greatest, greatest - 1}, {greatest - 2, greatest, greatest - 1},
		{0, greatest, greatest / 2}, {1, greatest, 1 << 62}, {2, greatest, 1 << 62}, {-1, greatest, greatest / 2},
		{least, least, least}, {least, least + 1, least}, {least, least + 2, least + 1},
		{least, 0, -1 << 62}, {least, -1, -1<<62 - 1}, {least, 1, -1 << 62}, {least + 1, 0, -1 << 62}, {least, 2, -1<<62 + 1},
		{least, greatest, -1}, {least + 1, greatest, 0}, {least, greatest - 1, -1}, {least + 2, greatest, 0}, {least, greatest - 2, -2},
		{1 << 62, 1 << 62, 1 << 62}, {-1<<62 - 1, 1 << 62, -1}, {-1 << 62, 1<<62 + 1, 0},
	} {
		isMiddle(t, []int{x.a, x.b}, 0, x.want)
		isMiddle(t, []int{x.b, x.a}, 0, x.want)
		isMiddle(t, []int{x.b, x.b, x.a}, 0, x.want) // the ends' middle, and no mean of all
		isMiddle(t, []int{x.b, least, x.a, greatest}, 1, x.want)
		isMiddle(t, []int{greatest, greatest, x.b, x.a, least, least}, 2, x.want)
	}
	isMiddle(t, []int{0, 10, 20, 90}, 1, 15)
	isMiddle(t, []int{0, 1, 100}, 0, 50) // and not the number in the midst
	isMiddle(t, []int{0, 1, 100}, 1, 1)
}

// TestOrder: in whatever order the numbers stand, the answers are the same.
func TestOrder(t *testing.T) {
	chance := rand.New(rand.NewSource(1))
	for range 500 {
		l := someList(chance, 1+chance.Intn(9))
		f := chance.Intn((len(l) + 1) / 2)
		left, _ := midpoint.Cut(l, f)
		middle, _ := midpoint.Middle(l, f)
		most, ok := midpoint.Most(l)
		for range 20 {
			chance.Shuffle(len(l), func(i, j int) { l[i], l[j] = l[j], l[i] })
			isCut(t, l, f, left)
			isMiddle(t, l, f, middle)
			if ok {
				isMost(t, l, most)
			} else {
				isNone(t, l)
			}
		}
	}
}

// TestMost: by hand: more than half, and just half, of even and odd many, wherever they stand.
func TestMost(t *testing.T) {
	const least, greatest = math.MinInt, math.MaxInt
	for _, x := range []struct {
		l    []int
		want int
	}{
		{[]int{7}, 7}, {[]int{0}, 0}, {[]int{-1}, -1}, {[]int{least}, least}, {[]int{greatest}, greatest},
		{[]int{1, 1}, 1}, {[]int{0, 0}, 0},
		{[]int{1, 1, 2}, 1}, {[]int{2, 1, 1}, 1}, {[]int{0, 1, 0}, 0}, {[]int{1, 0, 1}, 1}, {[]int{5, 5, 5}, 5},
		{[]int{1, 2, 1, 1}, 1}, {[]int{2, 1, 1, 1}, 1},
		{[]int{1, 1, 1, 2, 3}, 1}, {[]int{2, 3, 1, 1, 1}, 1}, {[]int{1, 2, 1, 3, 1}, 1}, {[]int{2, 2, 1, 1, 1}, 1}, {[]int{1, 2, 2, 1, 1}, 1},
		{[]int{9, -9, 9, -9, 9}, 9}, {[]int{least, greatest, least}, least}, {[]int{greatest, least, greatest}, greatest},
		{[]int{1, 2, 3, 4, 5, 5, 5, 5, 5}, 5}, {[]int{5, 5, 5, 5, 5, 4, 3, 2, 1}, 5},
	} {
		isMost(t, x.l, x.want)
	}
	for _, l := range [][]int{
		{1, 2}, {0, 1}, {1, 0}, {least, greatest}, {1, 2, 3}, {0, 1, 2}, {2, 1, 0},
		{1, 1, 2, 2}, {1, 2, 1, 2}, {1, 1, 2, 3}, {0, 0, 1, 1}, {1, 1, 0, 0}, {0, 1, 0, 2}, {3, 2, 1, 1},
		{1, 1, 2, 2, 3}, {3, 1, 1, 2, 2}, {1, 1, 2, 3, 4}, {0, 0, 1, 2, 3}, {1, 1, 1, 2, 2, 2}, {1, 1, 1, 2, 3, 4},
		{1, 1, 1, 2, 2, 3, 3}, {-1, 1}, {-1, -1, 1, 1},
	} {
		isNone(t, l)
	}
}

// TestEach: all short lists of few numbers, with each f, against the second workings.
func TestEach(t *testing.T) {
	for _, numbers := range [][]int{{-1, 0, 1}, {math.MinInt, -1, math.MaxInt}, {0, 1, 2, 3}} {
		for places := range 7 {
			eachList(numbers, places, func(l []int) {
				for f := -1; f <= places/2+1; f++ {
					checkList(t, l, f)
				}
			})
		}
	}
}

// TestAny: lists and f by chance.
func TestAny(t *testing.T) {
	chance := rand.New(rand.NewSource(2))
	for range 20000 {
		l := someList(chance, chance.Intn(16))
		checkList(t, l, chance.Intn(len(l)/2+2)-chance.Intn(2))
	}
	for range 20 {
		l := someList(chance, 500+chance.Intn(500))
		checkList(t, l, chance.Intn(len(l)))
		checkList(t, l, (len(l)-1)/2)
	}
}

// isWithin holds the middle of a list to lie from lo to hi, as all numbers but f do.
func isWithin(t *testing.T, l []int, f, lo, hi int) {
	t.Helper()
	got, err := midpoint.Middle(l, f)
	if err != nil || got < lo || got > hi {
		t.Errorf("P10.3: Middle(%v, %d): %d, %v, not from %d to %d", l, f, got, err, lo, hi)
	}
}

// TestWithinEach: whatever f of a list's numbers are, its middle lies among the others: all short lists.
func TestWithinEach(t *testing.T) {
	for places := 1; places <= 7; places++ {
		numbers := []int{math.MinInt, -5, 0, 1, 5, math.MaxInt}
		if places > 5 {
			numbers = []int{math.MinInt, 0, 1, math.MaxInt}
		}
		eachList(numbers, places, func(l []int) {
			for f := range (places + 1) / 2 {
				lo, hi := slices.Min(l[f:]), slices.Max(l[f:]) // the first f are the others: all lists are gone through
				isWithin(t, l, f, lo, hi)
			}
		})
	}
}

// TestWithinAny: the same of longer lists, with any numbers wherever they stand.
func TestWithinAny(t *testing.T) {
	chance := rand.New(rand.NewSource(3))
	for range 20000 {
		l := someList(chance, 1+chance.Intn(21))
		f := chance.Intn((len(l) + 1) / 2)
		lo, hi := slices.Min(l[f:]), slices.Max(l[f:])
		chance.Shuffle(len(l), func(i, j int) { l[i], l[j] = l[j], l[i] })
		isWithin(t, l, f, lo, hi)
	}
}

// areNear holds the middles of two lists to be no further apart than the chapter says, which it works out from all places but the first f.
func areNear(t *testing.T, a, b []int, f int) {
	t.Helper()
	x, d := 0, 0
	for i := f; i < len(a); i++ {
		x = max(x, a[i]-b[i], b[i]-a[i])
	}
	if f < len(a) {
		d = max(slices.Max(a[f:])-slices.Min(a[f:]), slices.Max(b[f:])-slices.Min(b[f:]))
	}
	one, err1 := midpoint.Middle(a, f)
	two, err2 := midpoint.Middle(b, f)
	if apart := max(one-two, two-one); err1 != nil || err2 != nil || apart > (d+1)/2+x+1 {
		t.Errorf("P10.3: Middle(%v, %d) %d, %v, and of %v %d, %v: d %d, x %d", a, f, one, err1, b, two, err2, d, x)
	}
}

// TestNearEach: all pairs of short lists, in which one place may be anything.
func TestNearEach(t *testing.T) {
	var lists [][]int
	eachList([]int{-9, 0, 1, 2, 5, 9}, 4, func(l []int) {
		if slices.Min(l[1:]) >= 0 && slices.Max(l[1:]) <= 5 {
			lists = append(lists, slices.Clone(l))
		}
	})
	for _, a := range lists {
		for _, b := range lists {
			areNear(t, a, b, 1)
		}
	}
	eachList([]int{-2, -1, 0, 1, 3}, 2, func(a []int) {
		eachList([]int{-2, -1, 0, 1, 3}, 2, func(b []int) { areNear(t, a, b, 0) })
	})
}

// TestNearAny: what f places say to one list and to another may differ as much as it will.
func TestNearAny(t *testing.T) {
	chance := rand.New(rand.NewSource(4))
	for range 50000 {
		f := chance.Intn(4)
		n := 3*f + 1 + chance.Intn(4)
		d, x, at := chance.Intn(1<<chance.Intn(30)), chance.Intn(1<<chance.Intn(20)), chance.Intn(1<<40)-1<<39
		a, b := make([]int, n), make([]int, n)
		for i := range n {
			if i < f {
				a[i], b[i] = liar(chance, at, d+x), liar(chance, at, d+x)
				continue
			}
			a[i] = at + chance.Intn(d+1)
			if chance.Intn(2) == 0 { // at an end
				a[i] = at + d*chance.Intn(2)
			}
			b[i] = a[i] + chance.Intn(2*x+1) - x
		}
		areNear(t, a, b, f)
		order := chance.Perm(n)
		if p, q := shuffled(a, order), shuffled(b, order); middle(t, p, f) != middle(t, a, f) || middle(t, q, f) != middle(t, b, f) {
			t.Errorf("P10.3: %v and %v have other middles in another order", a, b)
		}
	}
}

// liar is a number that has nothing to do with the others, or stands at one of their ends.
func liar(chance *rand.Rand, at, wide int) int {
	switch chance.Intn(3) {
	case 0:
		return someNumber(chance)
	case 1:
		return at - chance.Intn(wide+2)
	default:
		return at + chance.Intn(2*wide+2)
	}
}

// shuffled is a list's numbers in another order.
func shuffled(l, order []int) []int {
	out := make([]int, len(l))
	for i, from := range order {
		out[i] = l[from]
	}
	return out
}

// middle is the middle of a list that has one.
func middle(t *testing.T, l []int, f int) int {
	t.Helper()
	got, err := midpoint.Middle(l, f)
	if err != nil {
		t.Errorf("P10.1: Middle(%v, %d): %v", l, f, err)
	}
	return got
}

// TestMemory: a list that is handed in stays as it is, its spare room too; what Cut answers is new memory.
func TestMemory(t *testing.T) {
	room := []int{9, 3, 7, 1, 5, 42, 41, 40}
	kept := slices.Clone(room)
	l := room[:5]
	for f := range 3 {
		left, err := midpoint.Cut(l, f)
		if err != nil {
			t.Fatalf("P10.1: Cut(%v, %d): %v", l, f, err)
		}
		again, _ := midpoint.Cut(l, f)
		midpoint.Middle(l, f)
		midpoint.Most(l)
		if !slices.Equal(room, kept) {
			t.Fatalf("R6: handed in %v, now it is %v", kept, room)
		}
		want := slices.Clone(left)
		for i := range left[:cap(left)] {
			left[:cap(left)][i] = -1
		}
		if !slices.Equal(room, kept) {
			t.Errorf("R6: Cut(.., %d) shares memory with what was handed in", f)
		}
		if !slices.Equal(again, want) {
			t.Errorf("R6: two answers of Cut(.., %d) share memory", f)
		}
		for i := range room {
			room[i] = -2
		}
		if !slices.Equal(again, want) {
			t.Errorf("R6: Cut(.., %d) hangs on what was handed in", f)
		}
		copy(room, kept)
	}
	rising := []int{1, 2, 3} // what is in order already is new memory all the same
	left, _ := midpoint.Cut(rising, 0)
	left[0] = 9
	if rising[0] != 1 {
		t.Error("R6: Cut of rising numbers shares memory with them")
	}
}

// TestWild: at all arguments each call ends, and none panics.
func TestWild(t *testing.T) {
	chance := rand.New(rand.NewSource(5))
	for range 20000 {
		l, f := someList(chance, chance.Intn(10)), someNumber(chance)
		midpoint.Cut(l, f)
		midpoint.Middle(l, f)
		midpoint.Most(l)
		if f < 0 || f > len(l) {
			isRefused(t, l, f)
		}
	}
}

// TestAtOnce: a list is asked for by many at once, and is only read.
func TestAtOnce(t *testing.T) {
	l := []int{20, 90, 0, 10, 10, 10, 10}
	var all sync.WaitGroup
	for range 8 {
		all.Go(func() {
			for range 1000 {
				isCut(t, l, 1, []int{10, 10, 10, 10, 20})
				isMiddle(t, l, 1, 15)
				isMost(t, l, 10)
			}
		})
	}
	all.Wait()
}

// FuzzMidpoint: each eight bytes are a number.
func FuzzMidpoint(f *testing.F) {
	f.Add([]byte{}, 0)
	f.Add([]byte{0, 0, 0, 0, 0, 0, 0, 1, 255, 255, 255, 255, 255, 255, 255, 255}, 0)
	f.Add([]byte{128, 0, 0, 0, 0, 0, 0, 0, 127, 255, 255, 255, 255, 255, 255, 255, 128, 0, 0, 0, 0, 0, 0, 0}, 1)
	f.Add([]byte{0, 0, 0, 0, 0, 0, 0, 1}, -1)
	f.Add([]byte{0, 0, 0, 0, 0, 0, 0, 1}, math.MaxInt)
	f.Fuzz(func(t *testing.T, b []byte, cut int) {
		if len(b) > 800 {
			return
		}
		var l []int
		for ; len(b) >= 8; b = b[8:] {
			l = append(l, int(binary.BigEndian.Uint64(b)))
		}
		checkList(t, l, cut)
		if left, ok := cutWorked(l, cut); ok {
			isWithin(t, l, cut, left[0], left[len(left)-1])
		}
	})
}
