package bank_test

import (
	"bytes"
	"crypto/sha256"
	"math"
	"math/rand"
	"slices"
	"sync"
	"testing"

	"escapement/api"
	"escapement/bank"
	"escapement/crc"
	"escapement/digest"
)

// page and most are how many bytes a chunk, and an image, may have, as the chapter writes it.
const (
	page = 32
	most = 512
)

// boundless stands for as many steps as there are.
const boundless = -1

// store is a store, and what it is on: its image is held against what stands there behind a loss of power too.
type store struct {
	*bank.Store
	flash *bank.Flash
}

// open is a store on a flash that isn't nil.
func open(t *testing.T, f *bank.Flash) store {
	t.Helper()
	s, err := bank.Open(f)
	if err != nil || s == nil {
		t.Fatalf("P19.1: Open: %v, %v", s, err)
	}
	return store{s, f}
}

// isOK holds a call to answer no error.
func isOK(t *testing.T, what string, err error) {
	t.Helper()
	if err != nil {
		t.Errorf("%s: %v", what, err)
	}
}

// isFault holds an answer to be a Fault of that number and place, with no cause.
func isFault(t *testing.T, what string, err error, code api.Errno, at int) {
	t.Helper()
	f, ok := err.(*api.Fault)
	if !ok || f == nil || *f != (api.Fault{Code: code, At: at}) {
		t.Errorf("%s: %v, not %v at %d", what, err, code, at)
	}
}

// isNone holds an answer to be ErrNil itself.
func isNone(t *testing.T, what string, err error) {
	t.Helper()
	if code, ok := err.(api.Errno); !ok || code != api.ErrNil {
		t.Errorf("%s: %v, not %v itself", what, err, api.ErrNil)
	}
}

// is holds a store's image to be these bytes (nil: none is active), by itself, behind a loss of power, and behind two of them.
func (s store) is(t *testing.T, what string, want []byte) {
	t.Helper()
	crashed := s.flash.Crash()
	again := open(t, crashed)
	for _, x := range []struct {
		how string
		s   *bank.Store
	}{{"", s.Store}, {" behind Crash and Open", again.Store}, {" behind Crash, Crash and Open", open(t, crashed.Crash()).Store}} {
		got, ok := x.s.Image()
		if ok != (want != nil) || !bytes.Equal(got, want) {
			t.Errorf("%s: Image%s: %.40x, %v, not %.40x, %v", what, x.how, got, ok, want, want != nil)
		}
	}
	if again.Left() != 0 {
		t.Errorf("%s: behind Crash and Open Left is %d", what, again.Left())
	}
}

// left holds a store to have so many bytes to come.
func (s store) left(t *testing.T, want int) {
	t.Helper()
	if got := s.Left(); got != want {
		t.Errorf("P19.3: Left: %d, not %d", got, want)
	}
}

// idle holds a store to have no download that goes on.
func (s store) idle(t *testing.T, what string) {
	t.Helper()
	s.left(t, 0)
	isFault(t, what+": Chunk", s.Chunk([]byte{1}), api.ErrState, -1)
	isFault(t, what+": Commit", s.Commit(), api.ErrState, -1)
}

// begin begins a download of an image with its right digest.
func (s store) begin(t *testing.T, image []byte) {
	t.Helper()
	isOK(t, "P19.2: Begin", s.Begin(len(image), sha256.Sum256(image)))
	s.left(t, len(image))
}

// send sends all of an image in chunks of so many bytes.
func (s store) send(t *testing.T, image []byte, size int) {
	t.Helper()
	left := s.Left()
	for b := range slices.Chunk(image, size) {
		isOK(t, "P19.3: Chunk", s.Chunk(b))
		left -= len(b)
		s.left(t, left)
	}
}

// load puts an image into the flash.
func (s store) load(t *testing.T, image []byte, size int) {
	t.Helper()
	s.begin(t, image)
	s.send(t, image, size)
	isOK(t, "P19.4: Commit", s.Commit())
}

// try is load as far as it goes: the first error, of the call of that number (Begin is 0); then all that follow are tried too.
func (s store) try(image []byte, size int) (at int, first error) {
	calls := []func() error{func() error { return s.Begin(len(image), sha256.Sum256(image)) }}
	for b := range slices.Chunk(image, size) {
		calls = append(calls, func() error { return s.Chunk(b) })
	}
	calls = append(calls, s.Commit)
	for i, call := range calls {
		if err := call(); err != nil && first == nil {
			at, first = i, err
		}
	}
	return at, first
}

// steps is how many steps a load of so many bytes takes.
func steps(length, size int) int { return 2 + (length+size-1)/size }

// some is an image of so many bytes, which are another number's other ones. (It is never nil.)
func some(length, number int) []byte {
	out := make([]byte, length)
	for i := range out {
		out[i] = byte(7*i + i/256 + 41*number + 1)
	}
	return out
}

// sumOf is a digest by the library.
func sumOf(b []byte) digest.Sum { return sha256.Sum256(b) }

func TestExamples(t *testing.T) {
	s := open(t, bank.NewFlash())
	isOK(t, "Begin", s.Begin(2, digest.Of([]byte("ab"))))
	isOK(t, "Chunk", s.Chunk([]byte("ab")))
	isOK(t, "Commit", s.Commit())
	s.is(t, "P19.4", []byte("ab"))
	isOK(t, "Begin", s.Begin(1, digest.Of([]byte("x"))))
	isOK(t, "Chunk", s.Chunk([]byte("y")))
	isFault(t, "P19.4: Commit", s.Commit(), api.ErrCheck, -1)
	s.is(t, "P19.4", []byte("ab"))
	s.flash.Arm(1)
	isOK(t, "Begin", s.Begin(1, digest.Of([]byte("y"))))
	isFault(t, "P19.3: Chunk", s.Chunk([]byte("y")), api.ErrPower, -1)
	s = open(t, s.flash.Crash())
	s.is(t, "P19.5", []byte("ab"))
}

// TestNew: no image is active, no download goes on, steps aren't bounded.
func TestNew(t *testing.T) {
	f := bank.NewFlash()
	if f == nil || f == bank.NewFlash() {
		t.Fatal("P19.1: NewFlash answers none, or one twice")
	}
	s := open(t, f)
	s.is(t, "P19.1", nil)
	s.idle(t, "P19.1")
	for i := range 1000 {
		s.load(t, some(3, i), 1)
	}
	s.is(t, "P19.1", some(3, 999))
}

// TestSizes: each size that an image may have, and what is none; what is refused takes no step, and the download that went on goes on.
func TestSizes(t *testing.T) {
	if api.MaxChunk != page || api.MaxChunk*api.MaxChunks != most {
		t.Fatalf("P19.2: MaxChunk %d, MaxChunks %d", api.MaxChunk, api.MaxChunks)
	}
	s := open(t, bank.NewFlash())
	for size := range most + 1 {
		isOK(t, "P19.2: Begin", s.Begin(size, digest.Sum{}))
		s.left(t, size)
	}
	s.is(t, "P19.2", nil)
	s.begin(t, []byte("abc"))
	isOK(t, "P19.3: Chunk", s.Chunk([]byte("a")))
	s.flash.Arm(2)
	for _, size := range []int{math.MinInt, -513, -512, -2, -1, 513, 514, 1024, 1 << 16, 1 << 32, 1<<32 + 1, math.MaxInt} {
		isFault(t, "P19.2: Begin", s.Begin(size, sumOf([]byte("abc"))), api.ErrRange, max(size, -1))
		s.left(t, 2)
	}
	isOK(t, "R4: Chunk", s.Chunk([]byte("bc")))
	isOK(t, "R4: Commit", s.Commit())
	s.is(t, "R4", []byte("abc"))
	isFault(t, "R2: Begin without power", s.Begin(513, digest.Sum{}), api.ErrRange, 513)
	isFault(t, "P19.2: Begin without power", s.Begin(512, digest.Sum{}), api.ErrPower, -1)
}

// TestLengths: images of each length, in chunks of all sizes, one behind the other.
func TestLengths(t *testing.T) {
	s := open(t, bank.NewFlash())
	for length := range most + 1 {
		for _, size := range []int{1, 1 + length%page, page - 1, page} {
			image := some(length, size)
			s.load(t, image, size)
			s.is(t, "P19.4", image)
			s.idle(t, "P19.4: behind Commit")
		}
	}
	for size := 1; size <= page; size++ {
		s.load(t, some(most, size), size)
		s.is(t, "P19.4", some(most, size))
	}
}

// TestUneven: chunks of any sizes in one image stand in it one behind the other.
func TestUneven(t *testing.T) {
	chance := rand.New(rand.NewSource(1))
	s := open(t, bank.NewFlash())
	for i := range 300 {
		image := some(chance.Intn(most+1), i)
		s.begin(t, image)
		for at := 0; at < len(image); {
			to := min(at+1+chance.Intn(page), len(image))
			isOK(t, "P19.3: Chunk", s.Chunk(image[at:to]))
			at = to
			s.left(t, len(image)-at)
		}
		isOK(t, "P19.4: Commit", s.Commit())
		s.is(t, "P19.4", image)
	}
}

// TestEmpty: an image of no bytes is one, and no image is none.
func TestEmpty(t *testing.T) {
	s := open(t, bank.NewFlash())
	s.is(t, "P19.2", nil)
	s.load(t, nil, page)
	s.is(t, "P19.2", []byte{})
	s.load(t, []byte("ab"), page)
	s.is(t, "P19.2", []byte("ab"))
	s.begin(t, nil)
	isFault(t, "P19.3: Chunk", s.Chunk([]byte{1}), api.ErrExtra, -1)
	isFault(t, "P19.3: Chunk", s.Chunk(nil), api.ErrSize, 0)
	isOK(t, "P19.4: Commit", s.Commit())
	s.is(t, "P19.2", []byte{})
	isOK(t, "P19.2: Begin", s.Begin(0, sumOf([]byte{0})))
	isFault(t, "P19.4: Commit", s.Commit(), api.ErrCheck, -1)
	s.is(t, "P19.2", []byte{})
}

// TestStay: the active image stays while a download goes on, is given up, or ends badly; what was given up is to be seen nowhere.
func TestStay(t *testing.T) {
	for _, was := range [][]byte{nil, {}, []byte("ab"), some(most, 1)} {
		s := open(t, bank.NewFlash())
		if was != nil {
			s.load(t, was, page)
		}
		for i := range 4 {
			image := some(100, i)
			s.begin(t, image)
			s.is(t, "P19.2: behind Begin", was)
			for at := 0; at < 90; at += 30 {
				isOK(t, "P19.3: Chunk", s.Chunk(image[at:at+30]))
				s.is(t, "P19.2: behind Chunk", was)
			}
			isFault(t, "P19.4: Commit", s.Commit(), api.ErrShort, 10)
			s.is(t, "P19.4: behind ErrShort", was)
		}
		s.begin(t, []byte("xyz"))
		s.send(t, []byte("xyz"), 2)
		s.is(t, "P19.2: all chunks came", was)
		isOK(t, "P19.2: Begin", s.Begin(3, sumOf([]byte("xyz"))))
		s.left(t, 3)
		s.send(t, []byte("xyZ"), 3)
		isFault(t, "P19.4: Commit", s.Commit(), api.ErrCheck, -1)
		s.is(t, "P19.4: behind ErrCheck", was)
		s.idle(t, "P19.4: behind ErrCheck")
		s.load(t, []byte("q"), 1)
		s.is(t, "P19.4: behind Commit", []byte("q"))
	}
}

// TestChunk: which errors a chunk has, the first that holds; none of them takes a step, or changes what is to come.
func TestChunk(t *testing.T) {
	s := open(t, bank.NewFlash())
	for _, b := range [][]byte{nil, {}, {1}, some(page, 1), some(page+1, 1)} {
		isFault(t, "R2: Chunk, no download", s.Chunk(b), api.ErrState, -1)
	}
	image := some(40, 5)
	s.begin(t, image)
	s.flash.Arm(3)
	for _, length := range []int{0, 33, 34, 40, 41, 64, 512, 513, 70000} {
		isFault(t, "P19.3: Chunk", s.Chunk(some(length, 1)), api.ErrSize, length)
		s.left(t, 40)
	}
	isFault(t, "P19.3: Chunk of nil", s.Chunk(nil), api.ErrSize, 0)
	isOK(t, "P19.3: Chunk", s.Chunk(image[:32]))
	s.left(t, 8)
	for length := 9; length <= page; length++ {
		isFault(t, "P19.3: Chunk", s.Chunk(some(length, 1)), api.ErrExtra, -1)
		s.left(t, 8)
	}
	isFault(t, "R2: Chunk", s.Chunk(some(33, 1)), api.ErrSize, 33)
	isOK(t, "P19.3: Chunk", s.Chunk(image[32:]))
	s.left(t, 0)
	isFault(t, "P19.3: Chunk", s.Chunk([]byte{1}), api.ErrExtra, -1)
	isFault(t, "R2: Chunk", s.Chunk(nil), api.ErrSize, 0)
	isOK(t, "R4: Commit", s.Commit())
	s.is(t, "R4", image)
	s.idle(t, "P19.4")
}

// TestChunkWithoutPower: what a chunk has for errors is looked for ahead of the power.
func TestChunkWithoutPower(t *testing.T) {
	s := open(t, bank.NewFlash())
	s.begin(t, []byte("abc"))
	s.flash.Arm(0)
	isFault(t, "R2: Chunk", s.Chunk(nil), api.ErrSize, 0)
	isFault(t, "R2: Chunk", s.Chunk(some(33, 0)), api.ErrSize, 33)
	isFault(t, "R2: Chunk", s.Chunk([]byte("abcd")), api.ErrExtra, -1)
	s.left(t, 3)
	isFault(t, "P19.3: Chunk", s.Chunk([]byte("abc")), api.ErrPower, -1)
	s.idle(t, "P19.3: behind ErrPower")
	s.flash.Arm(boundless)
	s.idle(t, "P19.3: behind ErrPower, with power again")
	s.is(t, "P19.5", nil)
}

// TestCommit: too few bytes are told with how many lack, whatever the digest, and the download goes on; it takes no step.
func TestCommit(t *testing.T) {
	s := open(t, bank.NewFlash())
	s.idle(t, "P19.4: no download")
	image := some(most, 3)
	isOK(t, "P19.2: Begin", s.Begin(most, digest.Sum{}))
	isFault(t, "R2: Commit", s.Commit(), api.ErrShort, most)
	s.begin(t, image)
	s.flash.Arm(most + 1)
	for i := range image {
		isFault(t, "P19.4: Commit", s.Commit(), api.ErrShort, most-i)
		s.left(t, most-i)
		isOK(t, "R4: Chunk", s.Chunk(image[i:i+1]))
	}
	isOK(t, "P19.4: Commit", s.Commit())
	s.is(t, "P19.4", image)
	s.idle(t, "P19.4: behind Commit")
	isFault(t, "P19.2: all steps are taken: Begin", s.Begin(0, digest.Sum{}), api.ErrPower, -1)
}

// TestCommitWithoutPower: what Commit has for errors is looked for ahead of the power; a digest that doesn't fit ends the download, and takes no step.
func TestCommitWithoutPower(t *testing.T) {
	s := open(t, bank.NewFlash())
	s.load(t, []byte("old"), 3)
	s.flash.Arm(0)
	isFault(t, "R2: Commit", s.Commit(), api.ErrState, -1)
	s.flash.Arm(2)
	isOK(t, "P19.2: Begin", s.Begin(3, sumOf([]byte("new"))))
	isOK(t, "P19.3: Chunk", s.Chunk([]byte("ne")))
	isFault(t, "R2: Commit", s.Commit(), api.ErrShort, 1)
	s.left(t, 1)
	s.flash.Arm(1)
	isOK(t, "P19.3: Chunk", s.Chunk([]byte("W")))
	isFault(t, "R2: Commit", s.Commit(), api.ErrCheck, -1)
	s.idle(t, "P19.4: behind ErrCheck")
	s.is(t, "P19.4", []byte("old"))
	s.flash.Arm(3)
	isOK(t, "P19.2: Begin", s.Begin(1, sumOf([]byte("x"))))
	isOK(t, "P19.3: Chunk", s.Chunk([]byte("y")))
	isFault(t, "P19.4: Commit", s.Commit(), api.ErrCheck, -1)
	isOK(t, "P19.4: ErrCheck took no step: Begin", s.Begin(1, sumOf([]byte("x"))))
	isFault(t, "P19.3: Chunk", s.Chunk([]byte("x")), api.ErrPower, -1)
	s.is(t, "P19.5", []byte("old"))
}

// TestCheck: whichever bit of the digest, or of the image, is another one, the new image isn't active.
func TestCheck(t *testing.T) {
	old, image := []byte("old"), some(50, 9)
	s := open(t, bank.NewFlash())
	s.load(t, old, 3)
	for bit := range 256 {
		sum := sumOf(image)
		sum[bit/8] ^= 1 << (bit % 8)
		isOK(t, "P19.2: Begin", s.Begin(len(image), sum))
		s.send(t, image, page)
		isFault(t, "P19.4: Commit", s.Commit(), api.ErrCheck, -1)
	}
	s.is(t, "P10", old)
	for bit := range 8 * len(image) {
		other := slices.Clone(image)
		other[bit/8] ^= 1 << (bit % 8)
		s.begin(t, image)
		s.send(t, other, page)
		isFault(t, "P19.4: Commit", s.Commit(), api.ErrCheck, -1)
	}
	s.is(t, "P10", old)
	s.begin(t, image) // the right bytes in another order
	s.send(t, append(slices.Clone(image[page:]), image[:page]...), 50-page)
	isFault(t, "P19.4: Commit", s.Commit(), api.ErrCheck, -1)
	s.is(t, "P10", old)
	s.load(t, image, page)
	s.is(t, "P10", image)
}

// TestTwice: the same image again, and the one of before again, are new images as others are.
func TestTwice(t *testing.T) {
	s := open(t, bank.NewFlash())
	for _, image := range []string{"a", "a", "b", "a", "b", "b", "", "", "a"} {
		s.load(t, []byte(image), 1)
		s.is(t, "P19.4", []byte(image))
	}
}

// TestArm: how many steps are left, each number of them; below 0 there is no bound; the last Arm counts.
func TestArm(t *testing.T) {
	for n := range 100 {
		s := open(t, bank.NewFlash())
		s.flash.Arm(n)
		for i := range n {
			isOK(t, "P19.1: Begin with a step left", s.Begin(i, digest.Sum{}))
		}
		for range 3 {
			isFault(t, "P19.1: Begin without a step left", s.Begin(1, digest.Sum{}), api.ErrPower, -1)
			s.idle(t, "P19.2: behind ErrPower")
		}
		s.flash.Arm(n)
		for range n {
			isOK(t, "P19.1: Begin with a step left again", s.Begin(1, digest.Sum{}))
		}
		isFault(t, "P19.1: Begin without a step left", s.Begin(1, digest.Sum{}), api.ErrPower, -1)
	}
	for _, n := range []int{boundless, -2, -1 << 32, math.MinInt, math.MaxInt, 1 << 32} {
		s := open(t, bank.NewFlash())
		for _, before := range []int{boundless, 0, 1} {
			s.flash.Arm(before)
			s.flash.Arm(n)
			for range 5 {
				s.load(t, []byte("abc"), 1)
			}
		}
	}
	s := open(t, bank.NewFlash())
	s.flash.Arm(5)
	s.flash.Arm(1)
	isOK(t, "P19.1: Begin", s.Begin(1, digest.Sum{}))
	isFault(t, "P19.1: Chunk", s.Chunk([]byte{1}), api.ErrPower, -1)
}

// TestSteps: Begin, each Chunk and Commit take one step; all other calls take none.
func TestSteps(t *testing.T) {
	s := open(t, bank.NewFlash())
	for _, length := range []int{0, 1, 31, 32, 33, 64, 511, 512} {
		for _, size := range []int{1, 7, page} {
			n := steps(length, size)
			s.flash.Arm(n)
			s.load(t, some(length, size), size)
			for range 3 {
				s.is(t, "P19.1", some(length, size))
				s = open(t, s.flash)
				s.idle(t, "P19.1")
				isFault(t, "P19.2: Begin", s.Begin(-1, digest.Sum{}), api.ErrRange, -1)
			}
			isFault(t, "P19.1: Begin without a step left", s.Begin(0, digest.Sum{}), api.ErrPower, -1)
			s.flash.Arm(n)
			isOK(t, "P19.2: Begin", s.Begin(length, sumOf(some(length, 99))))
			s.send(t, some(length, 99), size)
			s.is(t, "P19.1", some(length, size))
			isOK(t, "P19.4: a step is left for Commit", s.Commit())
			s.is(t, "P19.1", some(length, 99))
			s.flash.Arm(n - 1)
			at, err := s.try(some(length, size), size)
			isFault(t, "P19.4: Commit without a step left", err, api.ErrPower, -1)
			if at != n-1 {
				t.Errorf("P19.1: %d steps: the power goes at the call %d", n-1, at)
			}
			s.is(t, "P19.5", some(length, 99))
		}
	}
}

// TestPower: behind a loss of power at each step, with any number of images ahead, the old image is active, in the store too; then all goes on.
func TestPower(t *testing.T) {
	for before := range 4 {
		for _, x := range []struct{ length, size int }{{0, 1}, {1, 1}, {2, 1}, {3, 2}, {40, 32}, {100, 7}, {512, 32}} {
			n := steps(x.length, x.size)
			for k := range n + 1 {
				s := open(t, bank.NewFlash())
				var old []byte
				for i := range before {
					old = some(20+i, i)
					s.load(t, old, page)
				}
				image := some(x.length, 50)
				s.flash.Arm(k)
				at, err := s.try(image, x.size)
				if k == n {
					isOK(t, "P19.5: enough steps", err)
					s.is(t, "P10", image)
					continue
				}
				isFault(t, "P19.5: the power goes", err, api.ErrPower, -1)
				if at != k {
					t.Errorf("P19.1: %d steps: the power goes at the call %d", k, at)
				}
				s.is(t, "P19.5", old)
				s.idle(t, "P19.5")
				for _, next := range []store{s, open(t, s.flash), open(t, s.flash.Crash())} {
					next.flash.Arm(boundless)
					next.load(t, []byte("next"), 3)
					next.is(t, "P19.5: behind a loss of power", []byte("next"))
					next.load(t, []byte("next but one"), 3)
					next.is(t, "P19.5: behind a loss of power", []byte("next but one"))
				}
			}
		}
	}
}

// TestPowerAgain: losses of power, one behind the other, each at any step, in the same flash and behind Crash.
func TestPowerAgain(t *testing.T) {
	const n = 5
	for before := range 3 {
		for code := range n * n * n * 8 {
			s := open(t, bank.NewFlash())
			var old []byte
			for i := range before {
				old = some(20+i, i)
				s.load(t, old, page)
			}
			for i := range 3 {
				k := []int{code, code / n, code / n / n}[i] % n
				s.flash.Arm(k)
				_, err := s.try(some(50, 60+i), 20)
				isFault(t, "P19.5: the power goes", err, api.ErrPower, -1)
				s.is(t, "P19.5", old)
				if code/(n*n*n)>>i&1 == 1 {
					s = open(t, s.flash.Crash())
					s.is(t, "P19.5", old)
				}
			}
			s.flash.Arm(n)
			_, err := s.try(some(50, 70), 20)
			isOK(t, "P19.5: enough steps", err)
			s.is(t, "P10", some(50, 70))
		}
	}
}

// TestLike: images that look like what may stand in the flash itself are taken for nothing but images.
func TestLike(t *testing.T) {
	var images [][]byte
	for _, n := range []int{0, 1, 2, 3, 4, 5, 8, 12, 16, 28, 32} {
		for _, c := range []byte{0, 1, 0x7f, 0xff} {
			b := bytes.Repeat([]byte{c}, n)
			images = append(images, b, crc.Seal(b), append(crc.Seal(b), crc.Seal(b)...), append(crc.Seal(b), b...))
		}
		b := append(bytes.Repeat([]byte{0}, n), 1)
		sum := sumOf(b)
		images = append(images, b, crc.Seal(b), append(b, sum[:]...))
	}
	s := open(t, bank.NewFlash())
	var old []byte
	for i, image := range images {
		for _, size := range []int{4, 8, page} {
			for k := range steps(len(image), size) {
				s.flash.Arm(k)
				_, err := s.try(image, size)
				isFault(t, "P19.5: the power goes", err, api.ErrPower, -1)
				s.is(t, "P10", old)
			}
		}
		s.flash.Arm(boundless)
		s.load(t, image, 1+i%page)
		s.is(t, "P10", image)
		old = image
	}
}

// TestMany: so many images that a number of them in one byte, or in two, would begin anew.
func TestMany(t *testing.T) {
	count := 70000
	if testing.Short() {
		count = 700
	}
	s := open(t, bank.NewFlash())
	for i := range count {
		image := []byte{byte(i), byte(i >> 8), byte(i >> 16)}
		s.load(t, image, page)
		if i%256 < 3 || i%256 > 252 {
			s.flash.Arm(2)
			_, err := s.try([]byte("lost"), 4)
			isFault(t, "P19.5: the power goes", err, api.ErrPower, -1)
			s.flash.Arm(boundless)
			s.is(t, "P19.5", image)
		}
	}
}

// TestCrash: what stands in the flash stands in the new one, whose steps aren't bounded; neither knows of the other from there on.
func TestCrash(t *testing.T) {
	one := open(t, bank.NewFlash())
	one.load(t, []byte("a"), 1)
	one.load(t, []byte("bc"), 1)
	one.begin(t, []byte("def"))
	isOK(t, "P19.3: Chunk", one.Chunk([]byte("d")))
	one.flash.Arm(2)
	f := one.flash.Crash()
	if f == nil || f == one.flash {
		t.Fatal("P19.1: Crash answers none, or the same")
	}
	two := open(t, f)
	two.is(t, "P19.1: Crash", []byte("bc"))
	two.idle(t, "P19.1: Crash")
	one.left(t, 2)
	for i := range 5 {
		two.load(t, some(10, i), 1)
	}
	one.is(t, "R6: the other one had new images", []byte("bc"))
	two.flash.Arm(0)
	isOK(t, "R6: Chunk", one.Chunk([]byte("ef")))
	isOK(t, "R6: Commit", one.Commit())
	one.is(t, "P19.1: Crash ends no download of the old one", []byte("def"))
	two.is(t, "R6: the other one had a new image", some(10, 4))
	isFault(t, "P19.1: Crash leaves the old one's steps: Begin", one.Begin(1, digest.Sum{}), api.ErrPower, -1)
	isFault(t, "P19.1: Begin", two.Begin(1, digest.Sum{}), api.ErrPower, -1)
	two.flash.Arm(boundless)
	isFault(t, "R6: Begin", one.Begin(1, digest.Sum{}), api.ErrPower, -1)
	three := open(t, one.flash.Crash())
	three.load(t, []byte("g"), 1)
	three.is(t, "P19.1: Crash", []byte("g"))
	one.is(t, "R6", []byte("def"))
}

// TestCrashEach: Crash at each place of a download, from a flash that goes on to the end all the same.
func TestCrashEach(t *testing.T) {
	old, image := some(60, 1), some(70, 2)
	s := open(t, bank.NewFlash())
	s.load(t, old, 20)
	crashes := []*bank.Flash{s.flash.Crash()}
	s.begin(t, image)
	crashes = append(crashes, s.flash.Crash())
	for b := range slices.Chunk(image, 9) {
		isOK(t, "P19.3: Chunk", s.Chunk(b))
		crashes = append(crashes, s.flash.Crash())
	}
	isOK(t, "P19.4: Commit", s.Commit())
	s.is(t, "P19.4", image)
	for i, f := range crashes {
		other := open(t, f)
		other.is(t, "P10: Crash in a download", old)
		other.idle(t, "P19.1")
		other.load(t, some(5, i), 2)
		other.is(t, "P10: behind Crash", some(5, i))
		s.is(t, "R6", image)
	}
}

// TestOpen: a store opened anew on the same flash has its image, and no download.
func TestOpen(t *testing.T) {
	f := bank.NewFlash()
	var old []byte
	for i := range 30 {
		s := open(t, f)
		s.is(t, "P19.1: Open", old)
		s.idle(t, "P19.1: Open")
		if i%3 == 0 {
			s.begin(t, some(30, i))
			s.send(t, some(30, i)[:10*(i/3%4)], 10)
			continue
		}
		old = some(i, i)
		s.load(t, old, 4)
	}
}

// TestMemory: what is handed in is neither changed, spare room too, nor kept; an image is new memory, spare room too.
func TestMemory(t *testing.T) {
	s := open(t, bank.NewFlash())
	image := some(100, 1)
	s.begin(t, image)
	for at := 0; at < 100; at += 20 {
		room := append(slices.Clone(image[at:at+20]), some(100, 7)...)
		was := slices.Clone(room)
		isOK(t, "P19.3: Chunk", s.Chunk(room[:20]))
		if !bytes.Equal(room, was) {
			t.Error("R6: Chunk changed its bytes, or their spare room")
		}
		for i := range room {
			room[i] ^= 0x5a
		}
	}
	isOK(t, "R6: Commit of what was handed in", s.Commit())
	s.is(t, "R6", image)
	one, _ := s.Image()
	two, _ := s.Image()
	crashed, _ := open(t, s.flash.Crash()).Image()
	for _, got := range [][]byte{one, crashed} {
		got = got[:cap(got)]
		for i := range got {
			got[i] ^= 0x5a
		}
		_ = append(got[:50], some(50, 3)...)
		s.is(t, "R6: an image was changed", image)
		if !bytes.Equal(two, image) {
			t.Error("R6: an image changed with another one")
		}
	}
	for i := range 4 {
		s.load(t, some(100, 10+i), 30)
	}
	if !bytes.Equal(two, image) {
		t.Error("R6: an image changed with its flash")
	}
}

// TestSpare: behind an image that was handed out, and a Crash, chunks go to the flash's own memory alone.
func TestSpare(t *testing.T) {
	s := open(t, bank.NewFlash())
	image := some(60, 1)
	s.begin(t, image)
	isOK(t, "P19.3: Chunk", s.Chunk(image[:30]))
	other := open(t, s.flash.Crash())
	other.load(t, some(60, 2), 7)
	other.begin(t, some(60, 3))
	other.send(t, some(60, 3)[:50], 5)
	isOK(t, "R6: Chunk", s.Chunk(image[30:]))
	isOK(t, "R6: Commit", s.Commit())
	s.is(t, "R6", image)
	other.is(t, "R6", some(60, 2))
	other.send(t, some(60, 3)[50:], 5)
	isOK(t, "R6: Commit", other.Commit())
	other.is(t, "R6", some(60, 3))
}

// TestNil: a nil flash gives nothing, a nil store has nothing.
func TestNil(t *testing.T) {
	var f *bank.Flash
	for _, n := range []int{math.MinInt, -1, 0, 1, math.MaxInt} {
		f.Arm(n)
	}
	if f.Crash() != nil {
		t.Error("R7: Crash of nil isn't nil")
	}
	s, err := bank.Open(f)
	isNone(t, "R7: Open", err)
	if s != nil {
		t.Errorf("R3: a store beside an error: %v", s)
	}
	checkNone(t, nil)
}

// checkNone holds a store to be none.
func checkNone(t *testing.T, s *bank.Store) {
	t.Helper()
	for range 2 {
		for _, size := range []int{math.MinInt, -1, 0, 1, 512, 513} {
			isNone(t, "R7: Begin", s.Begin(size, digest.Sum{}))
		}
		for _, length := range []int{0, 1, 32, 33} {
			isNone(t, "R7: Chunk", s.Chunk(some(length, 1)))
		}
		isNone(t, "R7: Commit", s.Commit())
		if got, ok := s.Image(); got != nil || ok {
			t.Errorf("R7: Image: %x, %v", got, ok)
		}
		if s.Left() != 0 {
			t.Errorf("R7: Left: %d", s.Left())
		}
	}
}

// TestZero: a flash that NewFlash didn't make is a new one; a store that Open didn't make is none.
func TestZero(t *testing.T) {
	s := open(t, new(bank.Flash))
	s.is(t, "P19.1", nil)
	s.idle(t, "P19.1")
	s.load(t, []byte("abc"), 1)
	s.is(t, "P19.1", []byte("abc"))
	if f := new(bank.Flash).Crash(); f == nil {
		t.Error("P19.1: Crash of a flash that NewFlash didn't make: nil")
	}
	checkNone(t, new(bank.Store))
}

// TestTwo: of two stores on one flash nothing is promised but that no call panics.
func TestTwo(t *testing.T) {
	chance := rand.New(rand.NewSource(2))
	for range 300 {
		f := bank.NewFlash()
		l := []store{open(t, f), open(t, f), open(t, f)}
		for range 60 {
			s := l[chance.Intn(len(l))]
			switch chance.Intn(5) {
			case 0:
				s.Begin(chance.Intn(9), sumOf(some(chance.Intn(9), 0)))
			case 1:
				s.Commit()
			case 2:
				s.Image()
				s.Left()
			default:
				s.Chunk(some(1+chance.Intn(5), 0))
			}
		}
	}
}

// worked is a second working of the chapter's words: a flash and the store on it.
type worked struct {
	image []byte // nil: none is active
	steps int    // boundless, or how many are left
	on    bool   // does a download go on?
	size  int
	sum   digest.Sum
	got   []byte
}

func failed(code api.Errno, at int) *api.Fault { return &api.Fault{Code: code, At: max(at, -1)} }

// power: is there a step? Then it is taken.
func (w *worked) power() bool {
	if w.steps == 0 {
		return false
	}
	if w.steps > 0 {
		w.steps--
	}
	return true
}

func (w *worked) begin(size int, sum digest.Sum) *api.Fault {
	if size < 0 || size > most {
		return failed(api.ErrRange, size)
	}
	w.on = w.power()
	w.size, w.sum, w.got = size, sum, nil
	if !w.on {
		return failed(api.ErrPower, -1)
	}
	return nil
}

func (w *worked) left() int {
	if !w.on {
		return 0
	}
	return w.size - len(w.got)
}

func (w *worked) chunk(b []byte) *api.Fault {
	if !w.on {
		return failed(api.ErrState, -1)
	}
	if len(b) == 0 || len(b) > page {
		return failed(api.ErrSize, len(b))
	}
	if len(b) > w.left() {
		return failed(api.ErrExtra, -1)
	}
	w.on = w.power()
	if !w.on {
		return failed(api.ErrPower, -1)
	}
	w.got = append(w.got, b...)
	return nil
}

func (w *worked) commit() *api.Fault {
	if !w.on {
		return failed(api.ErrState, -1)
	}
	if w.left() > 0 {
		return failed(api.ErrShort, w.left())
	}
	w.on = false
	if sumOf(w.got) != w.sum {
		return failed(api.ErrCheck, -1)
	}
	if !w.power() {
		return failed(api.ErrPower, -1)
	}
	w.image = append([]byte{}, w.got...)
	return nil
}

// isSame holds an answered error to be that of the second working.
func isSame(t *testing.T, what string, got error, want *api.Fault) {
	t.Helper()
	if want == nil {
		isOK(t, what, got)
		return
	}
	isFault(t, what, got, want.Code, want.At)
}

// play does what each byte says, to a flash and to the second working, and holds them against each other at each step.
func play(t *testing.T, steps []byte) {
	t.Helper()
	s, w := open(t, bank.NewFlash()), worked{steps: boundless}
	image := []byte{}
	for i, c := range steps {
		low := int(c & 31)
		switch c >> 5 {
		case 0: // another image is to be sent
			size := low * (1 + i%2*16)
			image = some(min(size, most), i)
			isSame(t, "P19.2: Begin", s.Begin(size, sumOf(image)), w.begin(size, sumOf(image)))
		case 1, 2, 3: // the next bytes of it
			at := len(image) - min(w.left(), len(image))
			b := image[at:min(at+low, len(image))]
			isSame(t, "P19.3: Chunk", s.Chunk(b), w.chunk(b))
		case 4: // bytes by themselves
			b := some(low+i%4, i)
			isSame(t, "P19.3: Chunk", s.Chunk(b), w.chunk(b))
		case 5, 6:
			isSame(t, "P19.4: Commit", s.Commit(), w.commit())
		default:
			s = turn(t, s, &w, low)
		}
		s.left(t, w.left())
		s.is(t, "P10", w.image)
	}
}

// turn bounds the steps, or goes on with another store, on this flash or behind a loss of power.
func turn(t *testing.T, s store, w *worked, low int) store {
	t.Helper()
	switch {
	case low < 16:
		w.steps = low - 1
		s.flash.Arm(low - 1)
		return s
	case low < 20:
		w.on = false
		return open(t, s.flash)
	case low < 24:
		w.on, w.steps = false, boundless
		return open(t, s.flash.Crash())
	}
	isSame(t, "P19.2: Begin", s.Begin(20-low, sumOf(nil)), w.begin(20-low, sumOf(nil)))
	return s
}

// someSteps are steps by chance, with more downloads that come to an end than any bytes would give.
func someSteps(chance *rand.Rand) []byte {
	var out []byte
	for range 30 {
		size := chance.Intn(32)
		out = append(out, byte(size))
		for range chance.Intn(6) {
			out = append(out, byte(1<<5|1+chance.Intn(31)))
		}
		if chance.Intn(3) > 0 {
			out = append(out, bytes.Repeat([]byte{1<<5 | 31}, 3)...)
		}
		if chance.Intn(3) == 0 {
			out = append(out, byte(chance.Intn(256)))
		}
		out = append(out, 5<<5)
		if chance.Intn(4) == 0 {
			out = append(out, byte(7<<5|chance.Intn(32)))
		}
	}
	return out
}

// TestAny: steps by chance against the second working.
func TestAny(t *testing.T) {
	chance := rand.New(rand.NewSource(3))
	for range 150 {
		play(t, someSteps(chance))
		b := make([]byte, 200)
		chance.Read(b)
		play(t, b)
	}
}

// TestAtOnce: flashes of their own don't meet, whoever uses them at once.
func TestAtOnce(t *testing.T) {
	var all sync.WaitGroup
	for seed := range int64(6) {
		all.Go(func() {
			chance := rand.New(rand.NewSource(seed))
			for range 10 {
				play(t, someSteps(chance))
			}
		})
	}
	all.Wait()
}

// FuzzBank: each byte is a step.
func FuzzBank(f *testing.F) {
	f.Add([]byte{2, 1<<5 | 2, 5 << 5, 1, 4 << 5, 4<<5 | 1, 5 << 5, 7<<5 | 2, 1, 1<<5 | 1, 7<<5 | 20, 5 << 5})
	f.Add([]byte{0, 5 << 5, 7 << 5, 0, 5 << 5, 7<<5 | 16, 31, 1<<5 | 31, 5 << 5, 7<<5 | 31})
	f.Add([]byte{3, 1<<5 | 3, 5 << 5, 7<<5 | 3, 2, 1<<5 | 2, 5 << 5, 7<<5 | 22, 2, 1<<5 | 2, 5 << 5})
	f.Fuzz(func(t *testing.T, b []byte) {
		play(t, b[:min(len(b), 300)])
	})
}
