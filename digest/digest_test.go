package digest_test

import (
	"bytes"
	"crypto/sha256"
	"encoding/hex"
	"math/big"
	"math/rand"
	"slices"
	"strings"
	"sync"
	"testing"

	"escapement/digest"
)

// count is so many bytes, no two neighbours of which are alike.
func count(n int) []byte {
	out := make([]byte, n)
	for i := range out {
		out[i] = byte(7*i + i/256 + 1)
	}
	return out
}

// isDigest holds the digest of bytes to be that one, in base sixteen.
func isDigest(t *testing.T, b []byte, want string) {
	t.Helper()
	sum := digest.Of(b)
	if got := hex.EncodeToString(sum[:]); got != want {
		t.Errorf("P18.1: Of of %d bytes, %.40x: %s, not %s", len(b), b, got, want)
	}
	if got := sum.Hex(); got != want {
		t.Errorf("P18.1: Hex of the digest of %d bytes, %.40x: %s, not %s", len(b), b, got, want)
	}
}

// checkOf holds the digest of bytes against the library's.
func checkOf(t *testing.T, b []byte) {
	t.Helper()
	want := sha256.Sum256(b)
	isDigest(t, b, hex.EncodeToString(want[:]))
}

// firstPrimes are so many, by what divides each number.
func firstPrimes(n int) []int64 {
	var out []int64
	for x := int64(2); len(out) < n; x++ {
		divisors := 0
		for y := int64(1); y <= x; y++ {
			if x%y == 0 {
				divisors++
			}
		}
		if divisors == 2 {
			out = append(out, x)
		}
	}
	return out
}

// behind is the first 32 bits behind the point of a number's root: the greatest x that, taken so often as a factor, is no more than the number moved up.
func behind(p int64, power uint) uint32 {
	most := new(big.Int).Lsh(big.NewInt(p), 32*power)
	x := new(big.Int)
	for bit := 40; bit >= 0; bit-- {
		y := new(big.Int).SetBit(x, bit, 1)
		if new(big.Int).Exp(y, big.NewInt(int64(power)), nil).Cmp(most) <= 0 {
			x = y
		}
	}
	return uint32(x.Uint64())
}

// worked is a second working of the chapter's words: the numbers, and what is done with them.
type worked struct {
	h []uint32 // H0 to H7
	k []uint32 // K0 to K63
}

// work makes the numbers.
func work() worked {
	var w worked
	for i, p := range firstPrimes(64) {
		if i < 8 {
			w.h = append(w.h, behind(p, 2))
		}
		w.k = append(w.k, behind(p, 3))
	}
	return w
}

// turned is R, bit by bit; moved is S.
func turned(x uint32, n int) uint32 {
	var out uint32
	for i := range 32 {
		out |= x >> i & 1 << ((i - n + 32) % 32)
	}
	return out
}

func moved(x uint32, n int) uint32 { return x / (1 << n) }

// laid is b with what the chapter puts behind it.
func laid(b []byte) []byte {
	out := append(slices.Clone(b), 0x80)
	for len(out)%64 != 56 {
		out = append(out, 0)
	}
	bits := new(big.Int).Mul(big.NewInt(int64(len(b))), big.NewInt(8))
	return append(out, bits.FillBytes(make([]byte, 8))...)
}

// of is the digest, as the chapter words it.
func (n worked) of(b []byte) digest.Sum {
	r := slices.Clone(n.h)
	for block := range slices.Chunk(laid(b), 64) {
		var w []uint32
		for four := range slices.Chunk(block, 4) {
			w = append(w, uint32(new(big.Int).SetBytes(four).Uint64()))
		}
		for t := 16; t < 64; t++ {
			s0 := turned(w[t-15], 7) ^ turned(w[t-15], 18) ^ moved(w[t-15], 3)
			s1 := turned(w[t-2], 17) ^ turned(w[t-2], 19) ^ moved(w[t-2], 10)
			w = append(w, w[t-16]+s0+w[t-7]+s1)
		}
		a, b, c, d, e, f, g, h := r[0], r[1], r[2], r[3], r[4], r[5], r[6], r[7]
		for t := range 64 {
			t1 := h + (turned(e, 6) ^ turned(e, 11) ^ turned(e, 25)) + ((e & f) ^ (^e & g)) + n.k[t] + w[t]
			t2 := (turned(a, 2) ^ turned(a, 13) ^ turned(a, 22)) + ((a & b) ^ (a & c) ^ (b & c))
			h, g, f, e, d, c, b, a = g, f, e, d+t1, c, b, a, t1+t2
		}
		for i, x := range []uint32{a, b, c, d, e, f, g, h} {
			r[i] += x
		}
	}
	var sum digest.Sum
	for i, x := range r {
		new(big.Int).SetUint64(uint64(x)).FillBytes(sum[4*i : 4*i+4])
	}
	return sum
}

func TestExamples(t *testing.T) {
	isDigest(t, nil, "e3b0c44298fc1c149afbf4c8996fb92427ae41e4649b934ca495991b7852b855")
	isDigest(t, []byte{}, "e3b0c44298fc1c149afbf4c8996fb92427ae41e4649b934ca495991b7852b855")
	isDigest(t, []byte("abc"), "ba7816bf8f01cfea414140de5dae2223b00361a396177a9cb410ff61f20015ad")
}

// TestKnown: digests that are well known, of bytes within a block, over a block's end, and of many blocks.
func TestKnown(t *testing.T) {
	for _, x := range []struct{ b, want string }{
		{"a", "ca978112ca1bbdcafac231b39a23dc4da786eff8147c4e72b9807785afee48bb"},
		{"\xbd", "68325720aabd7c82f30f554b313d0570c95accbb7dc4b5aae11204c08ffe732b"},
		{"\x00\x00\x00\x00", "df3f619804a92fdb4057192dc43dd748ea778adc52bc498ce80524c014b81119"},
		{"The quick brown fox jumps over the lazy dog", "d7a8fbb307d7809469ca9abcb0082e4f8d5651e46d3cdb762d02d0bf37c9e592"},
		{"The quick brown fox jumps over the lazy dog.", "ef537f25c895bfa782526529a9b63d97aa631564d5d789c2b765448c8635fb6c"},
		{"abcdbcdecdefdefgefghfghighijhijkijkljklmklmnlmnomnopnopq", "248d6a61d20638b8e5c026930c3e6039a33ce45964ff2167f6ecedd419db06c1"},
		{"abcdefghbcdefghicdefghijdefghijkefghijklfghijklmghijklmnhijklmnoijklmnopjklmnopqklmnopqrlmnopqrsmnopqrstnopqrstu", "cf5b16a778af8380036ce59e7b0492370b249b11e8f07a51afac45037afee9d1"},
		{strings.Repeat("\x00", 64), "f5a5fd42d16a20302798ef6ed309979b43003d2320d9f0e8ea9831a92759fb4b"},
		{strings.Repeat("a", 1000000), "cdc76e5c9914fb9281a1c7e284d73e67f1809a48a497200e046d39ccc7112cd0"},
	} {
		isDigest(t, []byte(x.b), x.want)
	}
}

// TestNumbers: the second working's numbers are those that are well known, so that it is itself held to something.
func TestNumbers(t *testing.T) {
	n := work()
	if want := []uint32{0x6a09e667, 0xbb67ae85, 0x3c6ef372, 0xa54ff53a, 0x510e527f, 0x9b05688c, 0x1f83d9ab, 0x5be0cd19}; !slices.Equal(n.h, want) {
		t.Errorf("P18.1: H0 to H7: %x, not %x", n.h, want)
	}
	for at, want := range map[int]uint32{0: 0x428a2f98, 1: 0x71374491, 15: 0xc19bf174, 31: 0x14292967, 62: 0xbef9a3f7, 63: 0xc67178f2} {
		if n.k[at] != want {
			t.Errorf("P18.1: K%d: %x, not %x", at, n.k[at], want)
		}
	}
}

// TestLengths: all lengths of up to some blocks, with those at which what is put behind just finds room, and just doesn't; against the library and the second working.
func TestLengths(t *testing.T) {
	n := work()
	for length := range 4*64 + 10 {
		for _, b := range [][]byte{count(length), make([]byte, length), bytes.Repeat([]byte{0xff}, length), bytes.Repeat([]byte{0x80}, length)} {
			checkOf(t, b)
			if got, want := digest.Of(b), n.of(b); got != want {
				t.Errorf("P18.1: Of of %d bytes, %.40x: %x, not %x", length, b, got, want)
			}
		}
	}
	for _, length := range []int{511, 512, 513, 1023, 4095, 4096, 8191, 8192, 65535, 65536, 5<<20 + 55, 5<<20 + 56} {
		checkOf(t, count(length))
	}
}

// TestShort: each byte, and each two.
func TestShort(t *testing.T) {
	for i := range 1 << 16 {
		b := []byte{byte(i), byte(i >> 8)}
		if i < 256 {
			checkOf(t, b[:1])
		}
		if got, want := digest.Of(b), digest.Sum(sha256.Sum256(b)); got != want {
			t.Fatalf("P18.1: Of of %x: %x, not %x", b, got, want)
		}
	}
}

// TestBits: the number of bits has eight bytes: of so many bytes it is one more than four bytes hold.
func TestBits(t *testing.T) {
	if testing.Short() {
		t.Skip("half a thousand million bytes")
	}
	isDigest(t, make([]byte, 1<<29), "9acca8e8c22201155389f65abbf6bc9723edc7384ead80503839f49dcc56d767")
}

// TestPlaces: each bit, wherever it stands, counts: when one is turned, the digest is another one, and right. So is each byte 0 that is put behind.
func TestPlaces(t *testing.T) {
	for _, length := range []int{1, 31, 55, 56, 64, 130} {
		b := count(length)
		first := digest.Of(b)
		for bit := range 8 * length {
			b[bit/8] ^= 1 << (bit % 8)
			if digest.Of(b) == first {
				t.Errorf("P18.1: %d bytes: the bit %d doesn't count", length, bit)
			}
			checkOf(t, b)
			b[bit/8] ^= 1 << (bit % 8)
		}
		for more := 1; more <= 70; more++ {
			longer := append(slices.Clone(b), make([]byte, more)...)
			if digest.Of(longer) == first {
				t.Errorf("P18.1: %d bytes: %d bytes 0 behind them don't count", length, more)
			}
		}
	}
}

// TestLaid: bytes that look as what is put behind them aren't taken for it.
func TestLaid(t *testing.T) {
	for length := range 130 {
		b := count(length)
		whole := laid(b)
		checkOf(t, whole)
		if digest.Of(whole) == digest.Of(b) {
			t.Errorf("P18.1: %d bytes, and these with what is put behind them, have the same digest", length)
		}
	}
}

// TestAny: bytes by chance, against the library and the second working.
func TestAny(t *testing.T) {
	n, chance := work(), rand.New(rand.NewSource(1))
	for i := range 3000 {
		b := make([]byte, chance.Intn(1+chance.Intn(700)))
		chance.Read(b)
		checkOf(t, b)
		if got, want := digest.Of(b), n.of(b); i < 500 && got != want {
			t.Errorf("P18.1: Of of %x: %x, not %x", b, got, want)
		}
	}
}

// TestHex: each byte at each place is two digits there, with small letters, a 0 ahead.
func TestHex(t *testing.T) {
	if got := (digest.Sum{}).Hex(); got != strings.Repeat("0", 64) {
		t.Errorf("P18.1: Hex of a Sum of bytes 0: %s", got)
	}
	for place := range 32 {
		for c := range 256 {
			var s digest.Sum
			s[place] = byte(c)
			want := strings.Repeat("00", place) + hex.EncodeToString([]byte{byte(c)}) + strings.Repeat("00", 31-place)
			if got := s.Hex(); got != want {
				t.Errorf("P18.1: Hex of %x: %s, not %s", s[:], got, want)
			}
		}
	}
	s := digest.Sum{0x01, 0x23, 0x45, 0x67, 0x89, 0xab, 0xcd, 0xef, 31: 0xf0}
	if got := s.Hex(); got != "0123456789abcdef"+strings.Repeat("00", 23)+"f0" {
		t.Errorf("P18.1: Hex of %x: %s", s[:], got)
	}
}

// TestHexAny: the digits of any bytes, read again, are these.
func TestHexAny(t *testing.T) {
	chance := rand.New(rand.NewSource(2))
	for range 2000 {
		var s digest.Sum
		chance.Read(s[:])
		kept := s
		back, err := hex.DecodeString(s.Hex())
		if err != nil || !bytes.Equal(back, s[:]) || len(s.Hex()) != 64 || s.Hex() != strings.ToLower(s.Hex()) {
			t.Errorf("P18.1: Hex of %x: %s", s[:], s.Hex())
		}
		if s != kept {
			t.Error("R6: Hex changed a digest")
		}
	}
}

// TestMemory: what is handed in stays as it is, its spare room too, and isn't kept.
func TestMemory(t *testing.T) {
	const spare = 150
	for _, length := range []int{0, 1, 3, 55, 56, 63, 64, 65, 119, 120, 128, 500} {
		room := append(count(length), bytes.Repeat([]byte{0xa5}, spare)...)
		kept := slices.Clone(room)
		one := digest.Of(room[:length])
		if !bytes.Equal(room, kept) {
			t.Errorf("R6: Of changed %d bytes, or their spare room", length)
		}
		was := one
		one.Hex()
		for i := range room {
			room[i] ^= 0x5a
		}
		if one != was {
			t.Errorf("R6: the digest of %d bytes hangs on these behind the call", length)
		}
		one[0] ^= 1
		if digest.Of(kept[:length]) != was {
			t.Errorf("R8: Of of %d bytes answers something else when it is asked again", length)
		}
	}
	if digest.Of(nil) != digest.Of([]byte{}) {
		t.Error("R5: no bytes have two digests")
	}
}

// TestAtOnce: what is answered hangs on the bytes alone, whatever is asked beside, and ahead.
func TestAtOnce(t *testing.T) {
	var all sync.WaitGroup
	b := count(1000)
	for k := range 8 {
		all.Go(func() {
			for i := range 200 {
				part := b[k*i%300 : 300+(31*k+7*i)%300]
				if digest.Of(part) != sha256.Sum256(part) {
					t.Errorf("R8: Of of %d bytes, asked beside others", len(part))
				}
			}
		})
	}
	all.Wait()
}

// FuzzOf: any bytes have the library's digest, and any 32 of them their digits.
func FuzzOf(f *testing.F) {
	for _, length := range []int{0, 1, 3, 32, 55, 56, 63, 64, 65, 119, 120, 127, 128, 200} {
		f.Add(count(length))
	}
	f.Fuzz(func(t *testing.T, b []byte) {
		checkOf(t, b)
		var s digest.Sum
		copy(s[:], b)
		if got := s.Hex(); got != hex.EncodeToString(s[:]) {
			t.Errorf("P18.1: Hex of %x: %s", s[:], got)
		}
	})
}
