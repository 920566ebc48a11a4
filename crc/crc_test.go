package crc_test

import (
	"bytes"
	"encoding/binary"
	"hash/crc32"
	"math/rand"
	"slices"
	"sync"
	"testing"

	"escapement/crc"
)

// count is so many bytes, no two neighbours of which are alike.
func count(n int) []byte {
	out := make([]byte, n)
	for i := range out {
		out[i] = byte(7*i + i/256 + 1)
	}
	return out
}

// inputs are bytes of each length up to some frames' lengths, and such as are all alike.
func inputs() [][]byte {
	out := [][]byte{nil, {}}
	for n := 1; n <= 80; n++ {
		out = append(out, count(n), make([]byte, n), bytes.Repeat([]byte{0xff}, n))
	}
	for _, n := range []int{255, 256, 257, 1024, 4096, 70001} {
		out = append(out, count(n))
	}
	return out
}

// roomy is the same bytes, with so much spare room behind them, all of which is a5.
func roomy(b []byte, spare int) []byte {
	out := append(slices.Clone(b), bytes.Repeat([]byte{0xa5}, spare)...)
	return out[:len(b)]
}

// untouched: are the bytes, and the spare room behind them, as roomy made them?
func untouched(got, want []byte, spare int) bool {
	return bytes.Equal(got, want) && bytes.Equal(got[len(got):len(got)+spare], bytes.Repeat([]byte{0xa5}, spare))
}

// turn turns a bit, bits counted from each byte's lowest on.
func turn(b []byte, bit int) {
	b[bit/8] ^= 1 << (bit % 8)
}

// byBits is the Sum as the chapter words it, of bits in a list.
func byBits(b []byte) uint32 {
	var register [32]bool // the lowest bit first
	for i := range register {
		register[i] = true
	}
	for _, c := range b {
		for i := range 8 {
			register[i] = register[i] != (c>>i&1 == 1)
		}
		for range 8 {
			lowest := register[0]
			copy(register[:], register[1:])
			register[31] = false
			for i := range 32 {
				register[i] = register[i] != (lowest && uint32(0xedb88320)>>i&1 == 1)
			}
		}
	}
	var sum uint32
	for i, on := range register {
		if !on {
			sum |= 1 << i
		}
	}
	return sum
}

func TestSumExamples(t *testing.T) {
	for _, c := range []struct {
		b    string
		want uint32
	}{
		{"123456789", 0xcbf43926},
		{"", 0},
		{"a", 0xe8b7be43},
		{"abc", 0x352441c2},
		{"The quick brown fox jumps over the lazy dog", 0x414fa339},
		{"\x00", 0xd202ef8d},
		{"\x00\x00\x00\x00", 0x2144df1c},
		{"\xff\xff\xff\xff", 0xffffffff},
		{"\x01", 0xa505df1b},
		{"\x80", 0x3fba6cad},
	} {
		if got := crc.Sum([]byte(c.b)); got != c.want {
			t.Errorf("P2.1: Sum of %q: %08x, not %08x", c.b, got, c.want)
		}
	}
	if crc.Sum(nil) != 0 {
		t.Error("P2.1: Sum of nil:", crc.Sum(nil))
	}
}

func TestSum(t *testing.T) {
	for _, b := range inputs() {
		got := crc.Sum(b)
		if want := crc32.ChecksumIEEE(b); got != want {
			t.Errorf("P2.1: Sum of %d bytes: %08x, not %08x", len(b), got, want)
		}
		if want := byBits(b); len(b) <= 1024 && got != want {
			t.Errorf("P2.1: Sum of %d bytes: %08x, not %08x", len(b), got, want)
		}
	}
	for c := range 1 << 16 {
		b := []byte{byte(c), byte(c >> 8)}
		for _, b := range [][]byte{b[:1], b} {
			if got, want := crc.Sum(b), crc32.ChecksumIEEE(b); got != want {
				t.Fatalf("P2.1: Sum of %.99x: %08x, not %08x", b, got, want)
			}
		}
	}
}

func TestSumLong(t *testing.T) {
	b := count(5 << 20)
	if got, want := crc.Sum(b), crc32.ChecksumIEEE(b); got != want {
		t.Errorf("P2.1: Sum of %d bytes: %08x, not %08x", len(b), got, want)
	}
	if got, ok := crc.Open(crc.Seal(b)); !ok || !bytes.Equal(got, b) {
		t.Errorf("P2.3: Open of Seal of %d bytes: %d bytes, %v", len(b), len(got), ok)
	}
}

func TestSeal(t *testing.T) {
	for _, c := range []struct{ b, want string }{
		{"", "\x00\x00\x00\x00"},
		{"123456789", "123456789\x26\x39\xf4\xcb"},
		{"\x00\x00\x00\x00", "\x00\x00\x00\x00\x1c\xdf\x44\x21"},
		{"\x00\x00\x00\x00\x00\x00\x00\x00\x00\x00\x00\x00\x00\x00", "\x00\x00\x00\x00\x00\x00\x00\x00\x00\x00\x00\x00\x00\x00\xc7\x79\xbb\xd1"},
	} {
		if got := crc.Seal([]byte(c.b)); string(got) != c.want {
			t.Errorf("P2.2: Seal of %.99x: %.99x, not %.99x", c.b, got, c.want)
		}
	}
	for _, b := range inputs() {
		n, sum, got := len(b), crc32.ChecksumIEEE(b), crc.Seal(b)
		want := append(slices.Clone(b), byte(sum), byte(sum>>8), byte(sum>>16), byte(sum>>24))
		if !bytes.Equal(got, want) {
			t.Errorf("P2.2: Seal of %d bytes: %.99x behind them, not %.99x", n, got[min(n, len(got)):], want[n:])
		}
	}
}

// TestOpen: what is opened is what was sealed, whether it was sealed here or is laid together by hand.
func TestOpen(t *testing.T) {
	for _, b := range inputs() {
		if got, ok := crc.Open(crc.Seal(b)); !ok || !bytes.Equal(got, b) {
			t.Errorf("P2.3: Open of Seal of %d bytes: %d bytes, %v", len(b), len(got), ok)
		}
		sum := crc32.ChecksumIEEE(b)
		sealed := append(slices.Clone(b), byte(sum), byte(sum>>8), byte(sum>>16), byte(sum>>24))
		if got, ok := crc.Open(sealed); !ok || !bytes.Equal(got, b) {
			t.Errorf("P2.2: Open of %d sealed bytes: %d bytes, %v", len(b), len(got), ok)
		}
	}
	if got, ok := crc.Open(make([]byte, 4)); !ok || len(got) != 0 {
		t.Error("P2.2: Open of four bytes 0:", got, ok)
	}
}

// refused: does Open refuse the bytes, and answer nothing?
func refused(b []byte) bool {
	got, ok := crc.Open(b)
	return !ok && len(got) == 0
}

func TestOpenShort(t *testing.T) {
	for n := range 4 {
		for _, c := range []byte{0, 1, 0x80, 0xff} {
			if b := bytes.Repeat([]byte{c}, n); !refused(b) {
				t.Errorf("P2.2: Open of %.99x", b)
			}
		}
		if b := crc.Seal(nil)[:n]; !refused(b) {
			t.Errorf("P2.2: Open of %.99x", b)
		}
	}
	if !refused(nil) {
		t.Error("P2.2: Open of nil")
	}
}

// fits: are the last four bytes the check of those ahead?
func fits(b []byte) bool {
	n := len(b) - 4
	return n >= 0 && crc32.ChecksumIEEE(b[:n]) == binary.LittleEndian.Uint32(b[n:])
}

// checkOpen holds what Open answers of any bytes against what they are.
func checkOpen(t *testing.T, name string, b []byte) {
	t.Helper()
	if !fits(b) {
		if !refused(b) {
			t.Errorf("P2.2: %s: Open of %.99x", name, b)
		}
		return
	}
	if got, ok := crc.Open(b); !ok || !bytes.Equal(got, b[:len(b)-4]) {
		t.Errorf("P2.2: %s: Open of %.99x: %.99x, %v", name, b, got, ok)
	}
}

// TestOpenOther: what isn't sealed is refused: no check, a check in another order, at another place, of other bytes.
func TestOpenOther(t *testing.T) {
	for c := range 1 << 16 {
		checkOpen(t, "four bytes", []byte{byte(c), byte(c >> 8), 0, 0})
		checkOpen(t, "four bytes", []byte{0, 0, byte(c), byte(c >> 8)})
	}
	for _, b := range inputs() {
		n, sealed := len(b), crc.Seal(b)
		checkOpen(t, "no check", b)
		checkOpen(t, "two checks", crc.Seal(sealed))
		checkOpen(t, "the last byte away", sealed[:n+3])
		checkOpen(t, "the first byte away", sealed[1:])
		checkOpen(t, "a byte more", append(slices.Clone(sealed), 0))
		checkOpen(t, "the check ahead", slices.Concat(sealed[n:], b))
		checkOpen(t, "another check", slices.Concat(b, crc.Seal(count(n + 1))[n+1:]))
		backward := slices.Clone(sealed)
		slices.Reverse(backward[n:])
		checkOpen(t, "the check's highest byte first", backward)
	}
}

// TestOpenUnseen: bits that are turned so that the check still fits aren't refused: Open goes by the Sum alone. (They are those that edb88320 tells, and one ahead of them: 33 side by side.)
func TestOpenUnseen(t *testing.T) {
	for _, n := range []int{1, 9, 80} {
		for from := range 8 * n {
			b := crc.Seal(count(n))
			turn(b, from)
			for i := range 32 {
				if uint32(0xedb88320)>>i&1 == 1 {
					turn(b, from+1+i)
				}
			}
			if got, ok := crc.Open(b); !ok || !bytes.Equal(got, b[:n]) {
				t.Errorf("P2.2: Open of %.99x: %.99x, %v", b, got, ok)
			}
		}
	}
}

// TestTurned: all patterns of turned bits that lie within few bits, and many of those within 32, at each place.
func TestTurned(t *testing.T) {
	for _, n := range []int{0, 1, 2, 5, 14, 60} {
		b := crc.Seal(count(n))
		for from := range 8 * len(b) {
			for pattern := 1; pattern < 1<<9; pattern += 2 {
				checkTurned(t, b, from, uint32(pattern))
			}
		}
	}
	chance := rand.New(rand.NewSource(1))
	for _, n := range []int{0, 1, 3, 4, 9, 40, 200} {
		b := crc.Seal(count(n))
		for from := range 8 * len(b) {
			for length := 1; length <= 32; length++ {
				whole := ^uint32(0) >> (32 - length)
				ends := uint32(1) | 1<<(length-1)
				checkTurned(t, b, from, whole)
				checkTurned(t, b, from, ends)
				checkTurned(t, b, from, chance.Uint32()&whole|ends)
			}
		}
	}
}

// checkTurned turns those bits that the pattern tells, from a place on, and holds the bytes to be refused. (What of the pattern lies behind the last bit is left out.)
func checkTurned(t *testing.T, b []byte, from int, pattern uint32) {
	t.Helper()
	other := slices.Clone(b)
	for i := range min(32, 8*len(b)-from) {
		if pattern>>i&1 == 1 {
			turn(other, from+i)
		}
	}
	if !refused(other) {
		t.Fatalf("P2.3: Open of %.99x, of which the bits %08x from %d on are turned", other, pattern, from)
	}
}

// TestKept: what is handed in isn't changed, nor is its spare room.
func TestKept(t *testing.T) {
	const spare = 16
	for _, b := range inputs() {
		b := append([]byte{}, b...)
		in := roomy(b, spare)
		crc.Sum(in)
		crc.Seal(in)
		if !untouched(in, b, spare) {
			t.Errorf("R6: Sum and Seal changed %d bytes or their spare room", len(b))
		}
		for _, b := range [][]byte{b, crc.Seal(b)} {
			in := roomy(b, spare)
			crc.Open(in)
			if !untouched(in, b, spare) {
				t.Errorf("R6: Open changed %d bytes or their spare room", len(b))
			}
		}
	}
}

// TestNew: answers share no memory, spare room included, with what was handed in, nor with other answers.
func TestNew(t *testing.T) {
	const spare = 16
	for _, b := range inputs() {
		b := append([]byte{}, b...)
		in := roomy(b, spare)
		one, two := crc.Seal(in), crc.Seal(in)
		want := slices.Clone(two)
		scrawl(one)
		if !untouched(in, b, spare) || !bytes.Equal(two, want) || !bytes.Equal(crc.Seal(in), want) {
			t.Errorf("R6: Seal of %d bytes shares memory", len(b))
		}
		in = roomy(want, spare)
		one, _ = crc.Open(in)
		two, _ = crc.Open(in)
		scrawl(one)
		if again, ok := crc.Open(in); !untouched(in, want, spare) || !bytes.Equal(two, b) || !ok || !bytes.Equal(again, b) {
			t.Errorf("R6: Open of %d bytes shares memory", len(want))
		}
		scrawl(in)
		if !bytes.Equal(two, b) {
			t.Errorf("R6: Open of %d bytes answers what it was given", len(want))
		}
	}
}

// scrawl writes over bytes and their spare room.
func scrawl(b []byte) {
	b = b[:cap(b)]
	for i := range b {
		b[i] ^= 0x5a
	}
}

// TestAtOnce: what is answered hangs on the arguments alone, whatever is asked beside, and ahead.
func TestAtOnce(t *testing.T) {
	var all sync.WaitGroup
	for k := range 8 {
		all.Go(func() {
			for i := range 200 {
				b := count((31*k + 7*i) % 300)
				if crc.Sum(b) != crc32.ChecksumIEEE(b) {
					t.Errorf("R8: Sum of %d bytes, asked beside others", len(b))
				}
				if got, ok := crc.Open(crc.Seal(b)); !ok || !bytes.Equal(got, b) {
					t.Errorf("R8: Open of Seal of %d bytes, asked beside others", len(b))
				}
				if !refused([]byte{byte(k + 1), 0, 0, 0}) {
					t.Error("R8: Open of a wrong check, asked beside others")
				}
			}
		})
	}
	all.Wait()
}

// FuzzOpen: of any bytes Open answers just those that Seal makes these bytes of, or refuses them.
func FuzzOpen(f *testing.F) {
	for _, b := range inputs()[:40] {
		f.Add(b)
		f.Add(crc.Seal(b))
	}
	f.Fuzz(func(t *testing.T, b []byte) {
		got, ok := crc.Open(b)
		if ok && !bytes.Equal(crc.Seal(got), b) || !ok && len(got) != 0 {
			t.Errorf("P2.2: Open of %.99x: %.99x, %v", b, got, ok)
		}
		checkOpen(t, "any bytes", b)
		if got, ok := crc.Open(crc.Seal(b)); !ok || !bytes.Equal(got, b) {
			t.Errorf("P2.3: Open of Seal of %.99x: %.99x, %v", b, got, ok)
		}
	})
}
