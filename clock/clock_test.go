package clock_test

import (
	"math"
	"math/big"
	"math/rand"
	"sync"
	"testing"

	"escapement/api"
	"escapement/clock"
)

// far is how far from a clock's beginning its times are promised.
const far = 1 << 40

// made is a clock that there may be.
func made(t *testing.T, since, rate int) *clock.Clock {
	t.Helper()
	c, err := clock.New(since, rate)
	if err != nil || c == nil {
		t.Fatalf("P7.1: New(%d, %d): %v, %v", since, rate, c, err)
	}
	return c
}

// isRefused holds New to answer ErrRange itself, and no clock.
func isRefused(t *testing.T, since, rate int) {
	t.Helper()
	c, err := clock.New(since, rate)
	if code, ok := err.(api.Errno); !ok || code != api.ErrRange {
		t.Errorf("P7.1: New(%d, %d): %v, not ErrRange", since, rate, err)
	}
	if c != nil {
		t.Errorf("R3: New(%d, %d): a clock beside an error", since, rate)
	}
}

// isLocal holds what a clock shows against what it should show.
func isLocal(t *testing.T, since, rate, real, want int) {
	t.Helper()
	if got := made(t, since, rate).Local(real); got != want {
		t.Errorf("P7.2: New(%d, %d): Local(%d) %d, not %d", since, rate, real, got, want)
	}
}

// isReal holds when a clock shows so much against when it should.
func isReal(t *testing.T, since, rate, local, want int) {
	t.Helper()
	if got := made(t, since, rate).Real(local); got != want {
		t.Errorf("P7.2: New(%d, %d): Real(%d) %d, not %d", since, rate, local, got, want)
	}
}

// localWorked is a second working of what Local is, in numbers without bounds. (Div rounds down, where what is divided by is above 0.)
func localWorked(since, rate, real int) int {
	n := new(big.Int).Sub(big.NewInt(int64(real)), big.NewInt(int64(since)))
	n.Mul(n, big.NewInt(int64(1000000+rate)))
	return int(n.Div(n, big.NewInt(1000000)).Int64())
}

// realWorked is a second working of what Real is: one less than it takes to come to more is added ahead of the division.
func realWorked(since, rate, local int) int {
	speed := big.NewInt(int64(1000000 + rate))
	n := new(big.Int).Mul(big.NewInt(int64(local)), big.NewInt(1000000))
	n.Add(n, speed).Sub(n, big.NewInt(1))
	n.Div(n, speed)
	return int(n.Add(n, big.NewInt(int64(since))).Int64())
}

// checkTimes holds a clock to P7.2 and P7.3, at a time so far from its beginning.
func checkTimes(t *testing.T, since, rate, away int) {
	t.Helper()
	c := made(t, since, rate)
	real := since + away
	isLocal(t, since, rate, real, localWorked(since, rate, real))
	isReal(t, since, rate, away, realWorked(since, rate, away))
	first := c.Real(away)
	if c.Local(first) < away || c.Local(first-1) >= away {
		t.Errorf("P7.2: New(%d, %d): Real(%d) %d isn't the first time of it", since, rate, away, first)
	}
	if more := c.Local(first) - away; more != 0 && (more != 1 || rate <= 0) {
		t.Errorf("P7.3: New(%d, %d): Local(Real(%d)) is %d more", since, rate, away, more)
	}
	if back := c.Real(c.Local(real)); back > real {
		t.Errorf("P7.3: New(%d, %d): Real(Local(%d)) %d", since, rate, real, back)
	}
	if c.Since() != since {
		t.Errorf("P7.2: New(%d, %d): Since %d", since, rate, c.Since())
	}
}

func TestExamples(t *testing.T) {
	isLocal(t, 100, 200, 100, 0)
	isLocal(t, 100, 200, 1000100, 1000200)
	isLocal(t, 100, 200, 99, -2)
	isReal(t, 100, 200, 1000200, 1000100)
	isReal(t, 100, 200, 1, 101)
	for _, x := range []int{-far, -1000001, -1, 0, 1, 999999, far} {
		isLocal(t, 0, 0, x, x)
		isReal(t, 0, 0, x, x)
	}
}

// TestNew: each number at its ends, and one beyond.
func TestNew(t *testing.T) {
	for _, since := range []int{0, 1, 1 << 31, 1<<50 - 1, 1 << 50} {
		for _, rate := range []int{-200, -199, -1, 0, 1, 199, 200} {
			c := made(t, since, rate)
			if c.Since() != since || c.Local(since) != 0 || c.Real(0) != since {
				t.Errorf("P7.1: New(%d, %d): Since %d, Local there %d, Real(0) %d", since, rate, c.Since(), c.Local(since), c.Real(0))
			}
			// A million of real time is a million and the rate by the clock.
			isLocal(t, since, rate, since+1000000, 1000000+rate)
			isReal(t, since, rate, 1000000+rate, since+1000000)
		}
	}
	for _, since := range []int{-1, -2, -1 << 50, 1<<50 + 1, 1 << 51, math.MinInt, math.MaxInt} {
		for _, rate := range []int{-200, 0, 200} {
			isRefused(t, since, rate)
		}
	}
	for _, rate := range []int{-201, 201, -1000000, 1000000, -1000001, math.MinInt, math.MaxInt} {
		for _, since := range []int{0, 5, 1 << 50} {
			isRefused(t, since, rate)
		}
	}
	isRefused(t, -1, 201)
	isRefused(t, math.MaxInt, math.MinInt)
}

// TestLocal: what clocks show, worked out apart from the program (near the beginning by hand), where it goes on by one more or one less than real time.
func TestLocal(t *testing.T) {
	for _, x := range []struct{ since, rate, real, want int }{
		{0, 1, 999999, 999999}, {0, 1, 1000000, 1000001}, {0, 1, 1000001, 1000002},
		{0, 1, -1, -2}, {0, 1, -999999, -1000000}, {0, 1, -1000000, -1000001}, {0, 1, -1000001, -1000003},
		{0, -1, 1, 0}, {0, -1, 2, 1}, {0, -1, 1000000, 999999}, {0, -1, 1000001, 999999}, {0, -1, 1000002, 1000000},
		{0, -1, -1, -1}, {0, -1, -2, -2}, {0, -1, -1000000, -999999}, {0, -1, -1000001, -1000000},
		{0, 200, 4999, 4999}, {0, 200, 5000, 5001}, {0, 200, 9999, 10000}, {0, 200, 10000, 10002},
		{0, 200, -5000, -5001}, {0, 200, -5001, -5003},
		{0, -200, 4999, 4998}, {0, -200, 5000, 4999}, {0, -200, 5001, 4999}, {0, -200, 5002, 5000},
		{0, -200, -5000, -4999}, {0, -200, -5001, -5000},
		{7, 200, 7, 0}, {7, 200, 8, 1}, {7, 200, 6, -2}, {7, 200, 0, -8}, {7, -200, 8, 0}, {7, -200, 6, -1},
		{7, 0, 0, -7}, {1 << 50, 0, 1<<50 + far, far}, {1 << 50, 0, 1<<50 - far, -far},
		{0, 200, far, 1099731530101}, {0, 200, -far, -1099731530102},
		{0, -200, far, 1099291725450}, {0, -200, -far, -1099291725451},
	} {
		isLocal(t, x.since, x.rate, x.real, x.want)
	}
}

// TestReal: when clocks show so much, worked out apart from the program (near the beginning by hand).
func TestReal(t *testing.T) {
	for _, x := range []struct{ since, rate, local, want int }{
		{0, 1, 1, 1}, {0, 1, 999999, 999999}, {0, 1, 1000000, 1000000}, {0, 1, 1000001, 1000000}, {0, 1, 1000002, 1000001},
		{0, 1, -1, 0}, {0, 1, -2, -1}, {0, 1, -1000001, -1000000}, {0, 1, -1000002, -1000000}, {0, 1, -1000003, -1000001},
		{0, -1, 1, 2}, {0, -1, 999998, 999999}, {0, -1, 999999, 1000000}, {0, -1, 1000000, 1000002},
		{0, -1, -1, -1}, {0, -1, -999999, -1000000}, {0, -1, -1000000, -1000001},
		{0, 200, 5000, 5000}, {0, 200, 5001, 5000}, {0, 200, 5002, 5001},
		{0, 200, -5001, -5000}, {0, 200, -5002, -5000}, {0, 200, -5003, -5001},
		{0, -200, 4998, 4999}, {0, -200, 4999, 5000}, {0, -200, 5000, 5002}, {0, -200, -5000, -5001},
		{7, 200, 0, 7}, {7, 200, 1, 8}, {7, 200, -1, 7}, {7, 200, -2, 6}, {7, -200, 1, 9}, {7, -200, -1, 6},
		{1 << 50, 0, far, 1<<50 + far}, {1 << 50, 0, -far, 1<<50 - far},
		{0, 200, far, 1099291769423}, {0, 200, -far, -1099291769422},
		{0, -200, far, 1099731574091}, {0, -200, -far, -1099731574090},
	} {
		isReal(t, x.since, x.rate, x.local, x.want)
	}
}

// TestFirst: Real is the first time at which Local is so much, found by going through the times.
func TestFirst(t *testing.T) {
	for _, rate := range []int{-200, -199, -100, -7, -1, 0, 1, 7, 100, 199, 200} {
		c := made(t, 20000, rate)
		real := 20000 - 11000
		for local := -10500; local <= 10500; local++ {
			for c.Local(real) < local {
				real++
			}
			if got := c.Real(local); got != real {
				t.Errorf("P7.2: rate %d: Real(%d) %d, not %d", rate, local, got, real)
			}
		}
	}
}

// TestEnds: at every rate, near the beginning and as far from it as is promised.
func TestEnds(t *testing.T) {
	for rate := -200; rate <= 200; rate++ {
		for _, since := range []int{0, 1, far, 1<<50 - 1, 1 << 50} {
			for _, away := range []int{0, 1, 4999, 5000, 5001, 999999, 1000000, 1000001, 1<<31 - 1, 1 << 31, far - 1, far} {
				checkTimes(t, since, rate, away)
				checkTimes(t, since, rate, -away)
			}
		}
	}
}

// TestAny: clocks and times by chance.
func TestAny(t *testing.T) {
	chance := rand.New(rand.NewSource(1))
	for range 100000 {
		since := chance.Intn(1<<50 + 1)
		rate := chance.Intn(401) - 200
		within := 1 << chance.Intn(41)
		checkTimes(t, since, rate, chance.Intn(2*within+1)-within)
	}
}

// TestThereAndBack: a clock that doesn't go too fast shows each number, one that does passes over some, and is then at one more.
func TestThereAndBack(t *testing.T) {
	for _, x := range []struct{ rate, over int }{{-200, 0}, {-1, 0}, {0, 0}, {1, 1}, {50, 50}, {200, 200}} {
		c := made(t, 3, x.rate)
		over := 0
		for local := range 1000000 + x.rate {
			switch c.Local(c.Real(local)) - local {
			case 0:
			case 1:
				over++
			default:
				t.Fatalf("P7.3: rate %d: Local(Real(%d)) %d", x.rate, local, c.Local(c.Real(local)))
			}
		}
		if over != x.over {
			t.Errorf("P7.3: rate %d: it passes over %d numbers, not %d", x.rate, over, x.over)
		}
	}
}

// TestNil: a nil clock shows 0 always.
func TestNil(t *testing.T) {
	var c *clock.Clock
	for _, x := range []int{0, 1, -1, 1000000, far, math.MinInt, math.MaxInt} {
		if c.Local(x) != 0 || c.Real(x) != 0 || c.Since() != 0 {
			t.Errorf("R7: a nil clock at %d: Local %d, Real %d, Since %d", x, c.Local(x), c.Real(x), c.Since())
		}
	}
}

// TestWild: at all numbers each call ends, and none panics; a clock that New didn't make is no exception.
func TestWild(t *testing.T) {
	chance := rand.New(rand.NewSource(2))
	wild := []int{math.MinInt, math.MinInt + 1, -1 << 62, -far - 1, -1, 0, 1, far + 1, 1 << 62, math.MaxInt - 1, math.MaxInt}
	for range 1000 {
		wild = append(wild, int(chance.Uint64())>>chance.Intn(64))
	}
	clocks := []*clock.Clock{nil, new(clock.Clock)}
	for _, since := range []int{0, 1 << 50} {
		for _, rate := range []int{-200, -1, 0, 1, 200} {
			clocks = append(clocks, made(t, since, rate))
		}
	}
	for i, x := range wild {
		for _, c := range clocks {
			c.Local(x)
			c.Real(x)
			c.Since()
		}
		y := wild[len(wild)-1-i]
		c, err := clock.New(x, y)
		allowed := x >= 0 && x <= 1<<50 && y >= -200 && y <= 200
		if (err == nil) != allowed || (c != nil) != allowed {
			t.Errorf("P7.1: New(%d, %d): %v, %v", x, y, c, err)
		}
	}
}

// TestSame: what a clock answers hangs on nothing that it was asked ahead, and on no other clock.
func TestSame(t *testing.T) {
	chance := rand.New(rand.NewSource(3))
	slow, fast := made(t, 1000, -200), made(t, 5, 200)
	for range 10000 {
		x := chance.Intn(2*far) - far
		clock.New(x, x)
		for _, c := range []struct {
			*clock.Clock
			since, rate int
		}{{slow, 1000, -200}, {fast, 5, 200}} {
			if got, want := c.Local(x), localWorked(c.since, c.rate, x); got != want {
				t.Errorf("R8: rate %d: Local(%d) %d, not %d", c.rate, x, got, want)
			}
			if got, want := c.Real(x), realWorked(c.since, c.rate, x); got != want {
				t.Errorf("R8: rate %d: Real(%d) %d, not %d", c.rate, x, got, want)
			}
			if c.Since() != c.since {
				t.Errorf("R8: rate %d: Since %d", c.rate, c.Since())
			}
		}
	}
}

// TestAtOnce: one clock is asked by many at once, and is only read.
func TestAtOnce(t *testing.T) {
	c := made(t, 100, 200)
	var all sync.WaitGroup
	for who := range 8 {
		all.Go(func() {
			for x := who; x < 1000000; x += 997 {
				if c.Local(x) != localWorked(100, 200, x) || c.Real(x) != realWorked(100, 200, x) || c.Since() != 100 {
					t.Errorf("R8: Local(%d) %d, Real(%d) %d", x, c.Local(x), x, c.Real(x))
				}
			}
		})
	}
	all.Wait()
}

func FuzzClock(f *testing.F) {
	f.Add(100, 200, 1000100)
	f.Add(0, -200, -1)
	f.Add(1<<50, 1, far)
	f.Add(1<<50+1, 0, 0)
	f.Add(0, 201, 0)
	f.Fuzz(func(t *testing.T, since, rate, away int) {
		if since < 0 || since > 1<<50 || rate < -200 || rate > 200 {
			isRefused(t, since, rate)
			return
		}
		c := made(t, since, rate)
		c.Local(away)
		c.Real(away)
		if away >= -far && away <= far {
			checkTimes(t, since, rate, away)
		}
	})
}
