package wire_test

import (
	"bytes"
	"encoding/binary"
	"errors"
	"math"
	"math/rand"
	"slices"
	"sync"
	"testing"

	"escapement/api"
	"escapement/fault"
	"escapement/wire"
)

// count is so many bytes, no two neighbours of which are alike.
func count(n int) []byte {
	out := make([]byte, n)
	for i := range out {
		out[i] = byte(7*i + i/256 + 1)
	}
	return out
}

// numbers are such as have each of their bytes other than the rest, and the ends of each size's range.
var numbers = []uint32{0, 1, 0x7f, 0x80, 0xff, 0x100, 0x1234, 0xffff, 0x10000, 0x12345, 0x8090a0, 0xffffff, 0x1000000, 0x12345678, 0x80000000, 0xfedcba98, math.MaxUint32}

// wrongSizes are no sizes of a number.
var wrongSizes = []int{math.MinInt, -4, -1, 0, 5, 8, 9, 256 + 1, 1<<32 + 1, math.MaxInt}

// lengths of texts, on both sides of what one byte can tell.
var lengths = []int{0, 1, 2, 16, 127, 128, 254, 255, 256, 257, 300, 511, 512, 1000, 70000}

// written is a number's lowest bytes, the highest first, made another way.
func written(n uint32, size int) []byte {
	return binary.BigEndian.AppendUint32(nil, n)[4-size:]
}

// text is what is put of a text.
func text(b []byte) []byte {
	n := min(len(b), 255)
	return append([]byte{byte(n)}, b[:n]...)
}

// isFault holds an error against a code and a place, without a cause.
func isFault(t *testing.T, promise string, err error, code api.Errno, at int) {
	t.Helper()
	var f *api.Fault
	if !errors.As(err, &f) || f.Code != code || f.At != at || f.Cause != nil {
		t.Errorf("%s: %v, not %d@%d", promise, err, code, at)
	}
}

// isShort holds a reader to be short of bytes at a place, to stay so, and to answer nothing more.
func isShort(t *testing.T, r *wire.Reader, at int) {
	t.Helper()
	for range 3 {
		isFault(t, "P3.2: Err", r.Err(), api.ErrShort, at)
		isFault(t, "P3.2: End", r.End(), api.ErrShort, at)
		if r.At() != at {
			t.Errorf("P3.2: At %d, not %d", r.At(), at)
		}
		for size := range 6 {
			if n := r.Take(size); n != 0 {
				t.Errorf("P3.2: Take(%d) behind an error: %x", size, n)
			}
		}
		if b := r.Text(); len(b) != 0 {
			t.Errorf("P3.2: Text behind an error: %.99x", b)
		}
	}
}

// isSound holds a reader to be at a place, without an error.
func isSound(t *testing.T, r *wire.Reader, at int) {
	t.Helper()
	if r.At() != at || r.Err() != nil {
		t.Errorf("P3.2: At %d, Err %v, not %d, nil", r.At(), r.Err(), at)
	}
}

func TestExamples(t *testing.T) {
	var w wire.Writer
	w.Put(0x12345, 3)
	w.Text([]byte("ab"))
	if got := w.Bytes(); !bytes.Equal(got, []byte{0x01, 0x23, 0x45, 0x02, 0x61, 0x62}) {
		t.Errorf("P3.1: Bytes: %x", got)
	}
	r := wire.Read(w.Bytes())
	if n := r.Take(3); n != 0x12345 {
		t.Errorf("P3.2: Take(3): %x", n)
	}
	if b := r.Text(); string(b) != "ab" {
		t.Errorf("P3.2: Text: %q", b)
	}
	if err := r.End(); err != nil {
		t.Error("P3.2: End:", err)
	}
	r = wire.Read([]byte{0x05, 0x61})
	if b := r.Text(); len(b) != 0 {
		t.Errorf("P3.2: Text: %q", b)
	}
	isShort(t, r, 0)
	r = wire.Read([]byte{1, 2})
	if n := r.Take(9); n != 0 {
		t.Errorf("P3.2: Take(9): %x", n)
	}
	isSound(t, r, 0)
}

func TestPut(t *testing.T) {
	for _, n := range numbers {
		for size := 1; size <= 4; size++ {
			var w wire.Writer
			w.Put(n, size)
			if got, want := w.Bytes(), written(n, size); !bytes.Equal(got, want) {
				t.Errorf("P3.1: Put(%x, %d): %x, not %x", n, size, got, want)
			}
		}
	}
}

func TestPutWrong(t *testing.T) {
	for _, size := range wrongSizes {
		var w wire.Writer
		w.Put(0x12345678, size)
		if got := w.Bytes(); len(got) != 0 {
			t.Errorf("P3.1: Put of %d bytes: %x", size, got)
		}
		w.Put(0xab, 1)
		w.Put(0x12345678, size)
		w.Put(0xcd, 1)
		if got := w.Bytes(); !bytes.Equal(got, []byte{0xab, 0xcd}) {
			t.Errorf("P3.1: Put of %d bytes among others: %x", size, got)
		}
	}
}

func TestPutText(t *testing.T) {
	for _, n := range lengths {
		var w wire.Writer
		w.Text(count(n))
		if got, want := w.Bytes(), text(count(n)); !bytes.Equal(got, want) {
			t.Errorf("P3.1: Text of %d bytes: %.99x (%d bytes), not %d bytes", n, got, len(got), len(want))
		}
	}
	var w wire.Writer
	w.Text(nil)
	w.Text([]byte{})
	if got := w.Bytes(); !bytes.Equal(got, []byte{0, 0}) {
		t.Errorf("P3.1: Text of nothing, twice: %x", got)
	}
}

// TestBytes: Bytes are all that was put, as often as they are asked, and putting goes on behind them.
func TestBytes(t *testing.T) {
	var w wire.Writer
	var want []byte
	if got := w.Bytes(); len(got) != 0 {
		t.Errorf("P3.1: Bytes of nothing: %x", got)
	}
	for i := range 3000 {
		n := numbers[i%len(numbers)]
		w.Put(n, 1+i%4)
		want = append(want, written(n, 1+i%4)...)
		if i%7 == 0 {
			w.Text(count(i % 40))
			want = append(want, text(count(i%40))...)
		}
		if i%50 == 0 && (!bytes.Equal(w.Bytes(), want) || !bytes.Equal(w.Bytes(), want)) {
			t.Fatalf("P3.1: Bytes behind %d puts", i)
		}
	}
	if !bytes.Equal(w.Bytes(), want) {
		t.Error("P3.1: Bytes")
	}
}

func TestTake(t *testing.T) {
	for _, n := range numbers {
		for size := 1; size <= 4; size++ {
			in := append(written(n, size), 0xa5)
			want := n & (math.MaxUint32 >> (32 - 8*size))
			r := wire.Read(in)
			if got := r.Take(size); got != want {
				t.Errorf("P3.2: Take(%d) of %x: %x, not %x", size, in, got, want)
			}
			isSound(t, r, size)
			if got := r.Take(1); got != 0xa5 {
				t.Errorf("P3.2: Take(1) of the next byte: %x", got)
			}
			isSound(t, r, size+1)
		}
	}
}

// TestTakeWrong: another size is nothing, and nothing happens: at the beginning, in the middle, at the end, and behind an error.
func TestTakeWrong(t *testing.T) {
	for _, size := range wrongSizes {
		in := count(6)
		r := wire.Read(in)
		for at, want := range in {
			if n := r.Take(size); n != 0 {
				t.Errorf("P3.2: Take(%d): %x", size, n)
			}
			isSound(t, r, at)
			if n := r.Take(1); n != uint32(want) {
				t.Errorf("P3.2: Take(1) behind Take(%d): %x, not %x", size, n, want)
			}
		}
		if n, err := r.Take(size), r.End(); n != 0 || err != nil {
			t.Errorf("P3.2: Take(%d) at the end: %x, %v", size, n, err)
		}
		isSound(t, r, len(in))
		r.Take(1)
		if n := r.Take(size); n != 0 {
			t.Errorf("P3.2: Take(%d) behind an error: %x", size, n)
		}
		isShort(t, r, len(in))
	}
}

// TestTakeShort: of fewer bytes than are asked none is taken; those that are left aren't given behind it either.
func TestTakeShort(t *testing.T) {
	for ahead := range 5 {
		for left := range 4 {
			for size := left + 1; size <= 4; size++ {
				r := wire.Read(count(ahead + left))
				for range ahead {
					r.Take(1)
				}
				if n := r.Take(size); n != 0 {
					t.Errorf("P3.2: Take(%d) of %d bytes: %x", size, left, n)
				}
				isShort(t, r, ahead)
			}
		}
	}
}

func TestTakeText(t *testing.T) {
	for n := range 256 {
		for extra := range 3 {
			in := append(text(count(n)), count(extra)...)
			r := wire.Read(in)
			if got := r.Text(); !bytes.Equal(got, count(n)) {
				t.Errorf("P3.2: Text of %d bytes: %.99x (%d bytes)", n, got, len(got))
			}
			isSound(t, r, 1+n)
			if extra == 0 {
				if err := r.End(); err != nil {
					t.Errorf("P3.2: End behind a Text of %d bytes: %v", n, err)
				}
				continue
			}
			isFault(t, "P3.2: End", r.End(), api.ErrExtra, 1+n)
			if got := r.Take(1); got != uint32(count(1)[0]) {
				t.Errorf("P3.2: the byte behind a Text: %x", got)
			}
		}
	}
}

// TestTextShort: a Text that isn't whole leaves the reader ahead of its number.
func TestTextShort(t *testing.T) {
	for _, ahead := range []int{0, 1, 2, 9} {
		for _, says := range []int{1, 2, 16, 128, 255} {
			for _, left := range []int{0, 1, says / 2, says - 1} {
				if left >= says {
					continue
				}
				r := wire.Read(slices.Concat(count(ahead), []byte{byte(says)}, count(left)))
				for range ahead {
					r.Take(1)
				}
				if b := r.Text(); len(b) != 0 {
					t.Errorf("P3.2: Text of %d bytes, %d of which are left: %.99x", says, left, b)
				}
				isShort(t, r, ahead)
			}
		}
		r := wire.Read(count(ahead))
		for range ahead {
			r.Take(1)
		}
		if b := r.Text(); len(b) != 0 {
			t.Errorf("P3.2: Text of nothing: %.99x", b)
		}
		isShort(t, r, ahead)
	}
}

// TestEnd: bytes that are left are told, but they are no error of the reader: it goes on.
func TestEnd(t *testing.T) {
	in := count(9)
	r := wire.Read(in)
	for at, want := range in {
		isFault(t, "P3.2: End", r.End(), api.ErrExtra, at)
		isSound(t, r, at)
		if n := r.Take(1); n != uint32(want) {
			t.Errorf("P3.2: Take(1) behind End: %x, not %x", n, want)
		}
	}
	for range 2 {
		if err := r.End(); err != nil {
			t.Error("P3.2: End:", err)
		}
		isSound(t, r, len(in))
	}
	for _, none := range [][]byte{nil, {}} {
		r := wire.Read(none)
		if err := r.End(); err != nil {
			t.Error("P3.2: End of nothing:", err)
		}
		isSound(t, r, 0)
	}
}

func TestNil(t *testing.T) {
	var w *wire.Writer
	w.Put(0x12345, 3)
	w.Put(1, 9)
	w.Text([]byte("ab"))
	if got := w.Bytes(); len(got) != 0 {
		t.Errorf("R7: Bytes of a nil writer: %x", got)
	}
	var r *wire.Reader
	for range 2 {
		for size := -1; size <= 5; size++ {
			if n := r.Take(size); n != 0 {
				t.Errorf("R7: Take(%d) of a nil reader: %x", size, n)
			}
		}
		if b := r.Text(); len(b) != 0 || r.At() != 0 {
			t.Errorf("R7: of a nil reader: Text %x, At %d", b, r.At())
		}
		isFault(t, "P3.2: Err of a nil reader", r.Err(), api.ErrNil, -1)
		isFault(t, "P3.2: End of a nil reader", r.End(), api.ErrNil, -1)
	}
	if wire.Read(nil) == nil {
		t.Error("P3.2: Read of nothing is no reader")
	}
}

// TestZero: a reader that Read didn't make holds nothing.
func TestZero(t *testing.T) {
	r := new(wire.Reader)
	if err := r.End(); err != nil {
		t.Error("R7: End of a zero reader:", err)
	}
	isSound(t, r, 0)
	r.Take(1)
	isShort(t, r, 0)
}

// roomy is the same bytes, with spare room behind them, all of which is a5.
func roomy(b []byte) []byte {
	return append(slices.Clone(b), bytes.Repeat([]byte{0xa5}, 16)...)[:len(b)]
}

// untouched: are the bytes, and their spare room, as roomy made them?
func untouched(got, want []byte) bool {
	return bytes.Equal(got[:len(want)+16], roomy(want)[:len(want)+16])
}

// scrawl writes over bytes and their spare room.
func scrawl(b []byte) {
	b = b[:cap(b)]
	for i := range b {
		b[i] ^= 0x5a
	}
}

// TestWriterKept: a writer keeps nothing of what it is given, and gives nothing of what it keeps.
func TestWriterKept(t *testing.T) {
	for _, n := range lengths {
		var w wire.Writer
		in := roomy(count(n))
		w.Text(in)
		w.Put(0x1234, 2)
		if !untouched(in, count(n)) {
			t.Errorf("R6: Text changed %d bytes or their spare room", n)
		}
		scrawl(in)
		want := append(text(count(n)), 0x12, 0x34)
		one, two := w.Bytes(), w.Bytes()
		scrawl(one)
		if !bytes.Equal(two, want) || !bytes.Equal(w.Bytes(), want) {
			t.Errorf("R6: Bytes share memory, behind a Text of %d bytes", n)
		}
		w.Put(0x99, 1)
		w.Text(two)
		if !bytes.Equal(two, want) || !bytes.Equal(w.Bytes(), slices.Concat(want, []byte{0x99}, text(want))) {
			t.Errorf("R6: what is put later changes what was answered, behind a Text of %d bytes", n)
		}
		two = append(two, 1, 2, 3, 4, 5, 6, 7, 8)
		if !bytes.Equal(w.Bytes(), slices.Concat(want, []byte{0x99}, text(want))) {
			t.Errorf("R6: the spare room of %d bytes is the writer's", len(two))
		}
	}
}

// TestReaderKept: a reader keeps nothing of what it is given, and gives nothing of what it keeps.
func TestReaderKept(t *testing.T) {
	for _, n := range []int{0, 1, 2, 15, 16, 17, 200, 255} {
		want := slices.Concat(text(count(n)), text(count(n)), []byte{0x12, 0x34, 0x56, 0x78})
		in := roomy(want)
		r := wire.Read(in)
		one := r.Text()
		scrawl(one)
		if !untouched(in, want) {
			t.Errorf("R6: a Text of %d bytes is what was handed in", n)
		}
		scrawl(in)
		two := r.Text()
		three := append([]byte{}, two...)
		two = append(two, 0xff, 0xff, 0xff, 0xff)
		scrawl(two)
		if got := r.Take(4); !bytes.Equal(three, count(n)) || got != 0x12345678 {
			t.Errorf("R6: a reader of texts of %d bytes shares memory: %.99x, %x", n, three, got)
		}
		if err := r.End(); err != nil {
			t.Error("R6: End:", err)
		}
	}
}

// TestErrorsNew: an error that was answered may be changed; the reader's stays.
func TestErrorsNew(t *testing.T) {
	short := wire.Read(count(2))
	short.Take(1)
	short.Take(2)
	var none *wire.Reader
	left := wire.Read(count(1))
	for range 2 {
		for _, err := range []error{short.Err(), short.End(), none.Err(), none.End(), left.End()} {
			f, ok := err.(*api.Fault)
			if !ok {
				t.Fatalf("P3.2: %v is no Fault", err)
			}
			*f = api.Fault{Code: api.ErrGap, At: 77, Cause: api.ErrFull}
		}
	}
	isShort(t, short, 1)
	isFault(t, "R6: Err of nil", none.Err(), api.ErrNil, -1)
	isFault(t, "R6: End", left.End(), api.ErrExtra, 0)
	if fault.Code(left.End()) != api.ErrExtra || !fault.Has(short.Err(), api.ErrShort) {
		t.Error("P3.2: the errors' numbers")
	}
}

// model reads as the chapter words it: what is left of the bytes, and how many were taken.
type model struct {
	left  []byte
	at    int
	short bool
}

func (m *model) take(size int) uint32 {
	if size < 1 || size > 4 {
		return 0
	}
	if m.short = m.short || len(m.left) < size; m.short {
		return 0
	}
	var wide [4]byte
	copy(wide[4-size:], m.left)
	m.left, m.at = m.left[size:], m.at+size
	return binary.BigEndian.Uint32(wide[:])
}

func (m *model) text() []byte {
	if m.short = m.short || len(m.left) == 0 || len(m.left) <= int(m.left[0]); m.short {
		return nil
	}
	n := 1 + int(m.left[0])
	b := m.left[1:n]
	m.left, m.at = m.left[n:], m.at+n
	return b
}

// isLike holds a reader's place and errors against the model's.
func isLike(t *testing.T, r *wire.Reader, m *model) {
	t.Helper()
	switch {
	case m.short:
		isFault(t, "P3.2: Err", r.Err(), api.ErrShort, m.at)
		isFault(t, "P3.2: End", r.End(), api.ErrShort, m.at)
	case len(m.left) > 0:
		isFault(t, "P3.2: End", r.End(), api.ErrExtra, m.at)
	case r.End() != nil:
		t.Errorf("P3.2: End %v at the end", r.End())
	}
	if !m.short && r.Err() != nil || r.At() != m.at {
		t.Errorf("P3.2: At %d, Err %v; the place is %d", r.At(), r.Err(), m.at)
	}
}

// checkRead reads bytes in steps, and holds each answer against the model's. (A step is a number's size, from -1 on; 6 is a text.)
func checkRead(t *testing.T, b, steps []byte) {
	t.Helper()
	r, m := wire.Read(b), &model{left: b}
	isLike(t, r, m)
	for i, s := range steps {
		size := int(s%8) - 1
		if size == 6 {
			if got, want := r.Text(), m.text(); !bytes.Equal(got, want) {
				t.Errorf("P3.2: step %d: Text %.99x, not %.99x", i, got, want)
			}
		} else if got, want := r.Take(size), m.take(size); got != want {
			t.Errorf("P3.2: step %d: Take(%d) %x, not %x", i, size, got, want)
		}
		isLike(t, r, m)
	}
}

func TestReadAny(t *testing.T) {
	chance := rand.New(rand.NewSource(3))
	for range 20000 {
		b, steps := make([]byte, chance.Intn(60)), make([]byte, chance.Intn(30))
		chance.Read(b)
		chance.Read(steps)
		for i := range b {
			b[i] >>= chance.Intn(8) // so that texts are whole now and then
		}
		checkRead(t, b, steps)
	}
}

// part is a number of so many bytes, or (of no size) a text.
type part struct {
	n    uint32
	size int
	text []byte
}

// someParts are parts of all kinds, by chance.
func someParts(chance *rand.Rand) []part {
	out := make([]part, chance.Intn(12))
	for i := range out {
		size := chance.Intn(5)
		out[i] = part{n: chance.Uint32(), size: size}
		if size == 0 {
			out[i].text = count(chance.Intn(300))
		}
	}
	return out
}

// put puts the parts, and tells where each one ends.
func put(l []part) (b []byte, ends []int) {
	var w wire.Writer
	for _, p := range l {
		if p.size == 0 {
			w.Text(p.text)
		} else {
			w.Put(p.n, p.size)
		}
		ends = append(ends, len(w.Bytes()))
	}
	return w.Bytes(), ends
}

// checkPart takes a part, and holds it against what was put.
func checkPart(t *testing.T, r *wire.Reader, p part) {
	t.Helper()
	if p.size == 0 {
		if got, want := r.Text(), p.text[:min(len(p.text), 255)]; !bytes.Equal(got, want) {
			t.Errorf("P3.2: Text of what was put: %.99x, not %.99x", got, want)
		}
	} else if got, want := r.Take(p.size), p.n<<(32-8*p.size)>>(32-8*p.size); got != want {
		t.Errorf("P3.2: Take(%d) of what was put: %x, not %x", p.size, got, want)
	}
}

// TestPutAndTaken: what is put is taken again; of the bytes without their last ones, all parts are taken that are whole.
func TestPutAndTaken(t *testing.T) {
	chance := rand.New(rand.NewSource(4))
	for range 200 {
		l := someParts(chance)
		b, ends := put(l)
		for n := range len(b) + 1 {
			r, whole, at := wire.Read(b[:n]), 0, 0
			for ; whole < len(l) && ends[whole] <= n; whole++ {
				checkPart(t, r, l[whole])
				at = ends[whole]
				isSound(t, r, at)
			}
			if n == len(b) {
				if err := r.End(); err != nil {
					t.Errorf("P3.2: End of what was put: %v", err)
				}
				continue
			}
			checkPart(t, r, part{text: nil, size: l[whole].size})
			isShort(t, r, at)
		}
	}
}

// TestLong: much that is put and taken, in a time that grows as it does.
func TestLong(t *testing.T) {
	const n = 1 << 20
	var w wire.Writer
	for i := range n {
		w.Put(uint32(i), 4)
	}
	r := wire.Read(w.Bytes())
	for i := range n {
		if got := r.Take(4); got != uint32(i) {
			t.Fatalf("P3.2: Take(4) at %d: %x", 4*i, got)
		}
	}
	if err := r.End(); err != nil || r.At() != 4*n {
		t.Errorf("P3.2: End %v at %d", err, r.At())
	}
}

// TestAtOnce: what is answered hangs on the object asked alone, whatever is asked of others beside.
func TestAtOnce(t *testing.T) {
	var all sync.WaitGroup
	for k := range 8 {
		all.Go(func() {
			chance := rand.New(rand.NewSource(int64(k)))
			for range 200 {
				l := someParts(chance)
				b, _ := put(l)
				one, two := wire.Read(b), wire.Read(b)
				for _, p := range l {
					checkPart(t, one, p)
				}
				if err := one.End(); err != nil || two.At() != 0 || two.Err() != nil {
					t.Errorf("R8: End %v; of a second reader: At %d, Err %v", err, two.At(), two.Err())
				}
			}
		})
	}
	all.Wait()
}

// FuzzRead: of any bytes, in any steps, a reader answers what the chapter's words say.
func FuzzRead(f *testing.F) {
	f.Add([]byte{0x01, 0x23, 0x45, 0x02, 0x61, 0x62}, []byte{4, 7})
	f.Add([]byte{0x05, 0x61}, []byte{7, 2, 2})
	f.Add([]byte{}, []byte{7})
	f.Add([]byte{0, 0, 1}, []byte{7, 7, 7, 1, 0, 6, 3, 5})
	f.Fuzz(func(t *testing.T, b, steps []byte) {
		before := slices.Clone(b)
		checkRead(t, b, steps)
		if !bytes.Equal(b, before) {
			t.Error("R6: what was handed in is changed")
		}
	})
}
