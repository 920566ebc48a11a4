package queue_test

import (
	"math"
	"math/rand"
	"sync"
	"testing"

	"escapement/api"
	"escapement/queue"
)

// most is how many events may be to come, as the chapter writes it.
const most = 4096

// ends are numbers at which an order by differences would wrap.
var ends = []int{math.MinInt, math.MinInt + 1, -1 << 62, -1 << 32, -2, -1, 0, 1, 2, 1 << 32, 1 << 62, math.MaxInt - 1, math.MaxInt}

// line is a second working of the chapter's words: events as they were put, gone over from the eldest on.
type line []queue.Event

func (l *line) put(e queue.Event) error {
	if len(*l) >= most {
		return api.ErrFull
	}
	*l = append(*l, e)
	return nil
}

func (l *line) take() (queue.Event, error) {
	if len(*l) == 0 {
		return queue.Event{}, api.ErrEmpty
	}
	best := 0
	for i, e := range *l {
		if b := (*l)[best]; e.At < b.At || e.At == b.At && e.Rank < b.Rank {
			best = i
		}
	}
	out := (*l)[best]
	*l = append(append(line(nil), (*l)[:best]...), (*l)[best+1:]...)
	return out, nil
}

// isError holds an answer to be that number itself, or nil of OK.
func isError(t *testing.T, what string, err error, want api.Errno) {
	t.Helper()
	if want == api.OK {
		if err != nil {
			t.Errorf("%s: %v", what, err)
		}
		return
	}
	if code, ok := err.(api.Errno); !ok || code != want {
		t.Errorf("%s: %v, not %v itself", what, err, want)
	}
}

// isLen holds a queue to have so many events.
func isLen(t *testing.T, q *queue.Queue, want int) {
	t.Helper()
	if n := q.Len(); n != want {
		t.Errorf("P8.1: Len %d, not %d", n, want)
	}
}

// put puts events, for which there is room.
func put(t *testing.T, q *queue.Queue, l ...queue.Event) {
	t.Helper()
	for _, e := range l {
		n := q.Len()
		isError(t, "P8.1: Put", q.Put(e), api.OK)
		isLen(t, q, n+1)
	}
}

// isNext holds the next events to be these.
func isNext(t *testing.T, q *queue.Queue, l ...queue.Event) {
	t.Helper()
	for i, want := range l {
		n := q.Len()
		e, err := q.Take()
		isError(t, "P8.1: Take", err, api.OK)
		if e != want {
			t.Errorf("P8.1: Take %d: %v, not %v", i, e, want)
		}
		isLen(t, q, n-1)
	}
}

// isEmpty holds a queue to have nothing, however often it is asked.
func isEmpty(t *testing.T, q *queue.Queue) {
	t.Helper()
	for range 3 {
		isLen(t, q, 0)
		e, err := q.Take()
		isError(t, "P8.1: Take of an empty queue", err, api.ErrEmpty)
		if e != (queue.Event{}) {
			t.Errorf("R3: an event beside an error: %v", e)
		}
	}
}

// putBoth holds a queue to answer a Put as the second working does.
func putBoth(t *testing.T, q *queue.Queue, l *line, e queue.Event) {
	t.Helper()
	if got, want := q.Put(e), l.put(e); got != want {
		t.Errorf("P8.1: Put(%v): %v, not %v", e, got, want)
	}
	isLen(t, q, len(*l))
}

// takeBoth holds a queue to answer a Take as the second working does.
func takeBoth(t *testing.T, q *queue.Queue, l *line) {
	t.Helper()
	got, err := q.Take()
	want, wantErr := l.take()
	if got != want || err != wantErr {
		t.Errorf("P8.1: Take: %v, %v, not %v, %v", got, err, want, wantErr)
	}
	isLen(t, q, len(*l))
}

// isAlike holds a queue to give what the second working gives, to the last event.
func isAlike(t *testing.T, q *queue.Queue, l *line) {
	t.Helper()
	isLen(t, q, len(*l))
	for len(*l) > 0 {
		takeBoth(t, q, l)
	}
	isEmpty(t, q)
}

func TestExample(t *testing.T) {
	q := queue.New()
	put(t, q, queue.Event{At: 5, Rank: 1, What: 7}, queue.Event{At: 5, Rank: 0, What: 8}, queue.Event{At: 3, Rank: 9, What: 9}, queue.Event{At: 5, Rank: 0, What: 6})
	for _, want := range []int{9, 8, 6, 7} {
		if e, err := q.Take(); err != nil || e.What != want {
			t.Errorf("P8.1: Take %v, %v, not %d", e, err, want)
		}
	}
	isEmpty(t, q)
}

// TestFirst: of two events, whichever is put first, the one with the lesser time goes first, then that with the lesser rank, then the one that was put first, whatever it is.
func TestFirst(t *testing.T) {
	for _, x := range []struct {
		name     string
		one, two queue.Event
	}{
		{"a time", queue.Event{At: 1, Rank: 0, What: 0}, queue.Event{At: 2, Rank: 0, What: 0}},
		{"a time, against the rank", queue.Event{At: 1, Rank: 9, What: 0}, queue.Event{At: 2, Rank: 0, What: 0}},
		{"a time, against what it is", queue.Event{At: 1, Rank: 0, What: 9}, queue.Event{At: 2, Rank: 0, What: 0}},
		{"a time below 0", queue.Event{At: -2, Rank: 0, What: 0}, queue.Event{At: -1, Rank: 0, What: 0}},
		{"times at the ends", queue.Event{At: math.MinInt, Rank: 1, What: 1}, queue.Event{At: math.MaxInt, Rank: 0, What: 0}},
		{"a rank", queue.Event{At: 7, Rank: 1, What: 0}, queue.Event{At: 7, Rank: 2, What: 0}},
		{"a rank, against what it is", queue.Event{At: 7, Rank: 1, What: 9}, queue.Event{At: 7, Rank: 2, What: 0}},
		{"a rank below 0", queue.Event{At: 7, Rank: -2, What: 9}, queue.Event{At: 7, Rank: -1, What: 0}},
		{"ranks at the ends", queue.Event{At: 7, Rank: math.MinInt, What: 1}, queue.Event{At: 7, Rank: math.MaxInt, What: 0}},
	} {
		t.Run(x.name, func(t *testing.T) {
			q := queue.New()
			put(t, q, x.one, x.two)
			isNext(t, q, x.one, x.two)
			put(t, q, x.two, x.one)
			isNext(t, q, x.one, x.two)
			isEmpty(t, q)
		})
	}
	for _, what := range []int{math.MinInt, -1, 0, 1, 5, 6, math.MaxInt} {
		q := queue.New()
		one, two := queue.Event{At: 3, Rank: 4, What: 5}, queue.Event{At: 3, Rank: 4, What: what}
		put(t, q, one, two)
		isNext(t, q, one, two)
		put(t, q, two, one)
		isNext(t, q, two, one)
		isEmpty(t, q)
	}
}

// TestEnds: all pairs of times and ranks at which differences wrap, put rising, falling and mixed.
func TestEnds(t *testing.T) {
	var rising []queue.Event
	for _, at := range ends {
		for _, rank := range ends {
			rising = append(rising, queue.Event{At: at, Rank: rank, What: at ^ rank})
		}
	}
	q := queue.New()
	put(t, q, rising...)
	isNext(t, q, rising...)
	for i := range rising {
		put(t, q, rising[len(rising)-1-i])
	}
	isNext(t, q, rising...)
	chance := rand.New(rand.NewSource(1))
	for range 20 {
		for _, i := range chance.Perm(len(rising)) {
			put(t, q, rising[i])
		}
		isNext(t, q, rising...)
		isEmpty(t, q)
	}
}

// TestPerms: each order in which up to seven events can be put, with times and ranks alike and others.
func TestPerms(t *testing.T) {
	all := []queue.Event{{At: 1, Rank: 2}, {At: 0, Rank: 5}, {At: 1, Rank: 1}, {At: 1, Rank: 2}, {At: 2, Rank: 0}, {At: 1, Rank: 1}, {At: 1, Rank: 2}}
	for i := range all {
		all[i].What = i
	}
	var check func(done, rest []queue.Event)
	check = func(done, rest []queue.Event) {
		q, l := queue.New(), &line{}
		for _, e := range done {
			putBoth(t, q, l, e)
		}
		isAlike(t, q, l)
		for i, e := range rest {
			next := append(append([]queue.Event(nil), rest[:i]...), rest[i+1:]...)
			check(append(append([]queue.Event(nil), done...), e), next)
		}
	}
	check(nil, all)
}

// TestTurns: of one time and rank events go in the order in which they were put, however many, and whatever went in between.
func TestTurns(t *testing.T) {
	q := queue.New()
	for i := range most {
		put(t, q, queue.Event{At: 5, Rank: 1, What: i * 7919 % most})
	}
	for i := range most {
		isNext(t, q, queue.Event{At: 5, Rank: 1, What: i * 7919 % most})
	}
	isEmpty(t, q)
	next := 0
	for i := range 5000 {
		put(t, q, queue.Event{At: 5, Rank: 1, What: i})
		if i%5 == 4 { // an earlier one comes in between, and goes at once
			put(t, q, queue.Event{At: 4, Rank: 9, What: -i})
			isNext(t, q, queue.Event{At: 4, Rank: 9, What: -i}, queue.Event{At: 5, Rank: 1, What: next}, queue.Event{At: 5, Rank: 1, What: next + 1})
			next += 2
		}
	}
	for ; next < 5000; next++ {
		isNext(t, q, queue.Event{At: 5, Rank: 1, What: next})
	}
	isEmpty(t, q)
}

// TestFull: at 4096 events there is no room for another one, whatever it is, and nothing is changed; as soon as one goes there is.
func TestFull(t *testing.T) {
	if api.MaxEvents != most {
		t.Fatalf("P8.1: MaxEvents %d", api.MaxEvents)
	}
	chance := rand.New(rand.NewSource(2))
	for _, falling := range []bool{false, true} {
		q, l := queue.New(), &line{}
		for i := range most {
			e := queue.Event{At: i / 10, Rank: i % 10 / 2, What: i}
			if falling {
				e.At, e.Rank = -e.At, -e.Rank
			}
			putBoth(t, q, l, e)
		}
		for _, at := range ends {
			isError(t, "P8.1: Put into a full queue", q.Put(queue.Event{At: at, Rank: at, What: at}), api.ErrFull)
			isError(t, "P8.1: Put into a full queue", q.Put(queue.Event{}), api.ErrFull)
			isLen(t, q, most)
		}
		for range 500 {
			takeBoth(t, q, l)
			e := queue.Event{At: chance.Intn(1000) - 500, Rank: chance.Intn(3), What: chance.Int()}
			putBoth(t, q, l, e)
			isError(t, "P8.1: Put into a full queue", q.Put(e), api.ErrFull)
			isLen(t, q, most)
		}
		isAlike(t, q, l)
	}
}

// TestAgain: a queue that was emptied is as a new one, and has room for as many.
func TestAgain(t *testing.T) {
	q := queue.New()
	isEmpty(t, q)
	for round := range 20 {
		for i := range most {
			isError(t, "P8.1: Put", q.Put(queue.Event{At: most - i, What: round}), api.OK)
		}
		isError(t, "P8.1: Put into a full queue", q.Put(queue.Event{}), api.ErrFull)
		for i := range most {
			if e, err := q.Take(); err != nil || e != (queue.Event{At: i + 1, What: round}) {
				t.Fatalf("P8.1: Take %v, %v", e, err)
			}
		}
		isEmpty(t, q)
	}
}

// TestLate: an event that is ahead of one that was taken goes next all the same.
func TestLate(t *testing.T) {
	q := queue.New()
	put(t, q, queue.Event{At: 10, What: 1}, queue.Event{At: 20, What: 2})
	isNext(t, q, queue.Event{At: 10, What: 1})
	put(t, q, queue.Event{At: 5, What: 3})
	isNext(t, q, queue.Event{At: 5, What: 3}, queue.Event{At: 20, What: 2})
	isEmpty(t, q)
}

// play puts and takes by chance, and holds the queue against the second working at each step.
func play(t *testing.T, seed int64, steps, room, times, ranks int) {
	t.Helper()
	chance := rand.New(rand.NewSource(seed))
	q, l := queue.New(), &line{}
	for range steps {
		if chance.Intn(room+len(*l)) < room {
			putBoth(t, q, l, queue.Event{At: chance.Intn(times) - times/2, Rank: chance.Intn(ranks) - ranks/2, What: int(chance.Uint64())})
		} else {
			takeBoth(t, q, l)
		}
	}
	isAlike(t, q, l)
}

// TestAny: puts and takes by chance, with few and many times and ranks, in short and long queues.
func TestAny(t *testing.T) {
	for seed := range int64(40) {
		for _, room := range []int{1, 3, 20, 300} {
			play(t, seed, 1000, room, 1, 1)
			play(t, seed, 1000, room, 1, 3)
			play(t, seed, 1000, room, 3, 3)
			play(t, seed, 1000, room, 10, 2)
			play(t, seed, 1000, room, math.MaxInt, math.MaxInt)
		}
	}
}

// TestNil: a nil queue has nothing, and takes nothing.
func TestNil(t *testing.T) {
	var q *queue.Queue
	for range 2 {
		isError(t, "R7: Put", q.Put(queue.Event{At: 1, Rank: 2, What: 3}), api.ErrNil)
		e, err := q.Take()
		isError(t, "R7: Take", err, api.ErrNil)
		if e != (queue.Event{}) {
			t.Errorf("R3: an event beside an error: %v", e)
		}
		isLen(t, q, 0)
	}
}

// TestZero: a queue that New didn't make is an empty one.
func TestZero(t *testing.T) {
	q := new(queue.Queue)
	isEmpty(t, q)
	put(t, q, queue.Event{At: 2, What: 1}, queue.Event{At: 1, What: 2})
	isNext(t, q, queue.Event{At: 1, What: 2}, queue.Event{At: 2, What: 1})
	isEmpty(t, q)
}

// TestApart: what one queue answers hangs on no other one.
func TestApart(t *testing.T) {
	one, two := queue.New(), queue.New()
	if one == two {
		t.Fatal("R6: New answers one queue twice")
	}
	put(t, one, queue.Event{At: 3, What: 1}, queue.Event{At: 3, What: 2})
	isEmpty(t, two)
	put(t, two, queue.Event{At: 3, What: 3}, queue.Event{At: 2, What: 4})
	isNext(t, one, queue.Event{At: 3, What: 1})
	put(t, one, queue.Event{At: 1, What: 5})
	isNext(t, two, queue.Event{At: 2, What: 4}, queue.Event{At: 3, What: 3})
	isEmpty(t, two)
	isNext(t, one, queue.Event{At: 1, What: 5}, queue.Event{At: 3, What: 2})
	isEmpty(t, one)
}

// TestAtOnce: queues of their own don't meet, whoever uses them at once.
func TestAtOnce(t *testing.T) {
	var all sync.WaitGroup
	for seed := range int64(4) {
		all.Go(func() {
			play(t, seed, 1000, 300, 20, 3)
		})
	}
	all.Wait()
}

// FuzzQueue: each byte is a step: an event with a time and a rank, or a taking.
func FuzzQueue(f *testing.F) {
	f.Add([]byte{0x51, 0x50, 0x39, 0x50, 0xff, 0xff, 0xff, 0xff, 0xff})
	f.Add([]byte{0xff, 0, 0, 0, 0xff, 0, 0xff})
	f.Add([]byte{9, 8, 7, 6, 5, 4, 3, 2, 1, 0, 0xff, 0xff, 5, 0xff})
	f.Fuzz(func(t *testing.T, steps []byte) {
		q, l := queue.New(), &line{}
		for i, b := range steps {
			if b >= 0x80 {
				takeBoth(t, q, l)
			} else {
				putBoth(t, q, l, queue.Event{At: int(b >> 4), Rank: int(b & 15), What: i})
			}
		}
		isAlike(t, q, l)
	})
}
