package frame_test

import (
	"bytes"
	"encoding/hex"
	"errors"
	"hash/crc32"
	"math"
	"math/rand"
	"reflect"
	"slices"
	"strings"
	"sync"
	"testing"

	"escapement/api"
	"escapement/fault"
	"escapement/frame"
)

// count is so many bytes, no two neighbours of which are alike.
func count(n int) []byte {
	out := make([]byte, n)
	for i := range out {
		out[i] = byte(7*i + 1)
	}
	return out
}

// hexed is bytes from their digits; blanks between them count for nothing.
func hexed(t *testing.T, s string) []byte {
	t.Helper()
	b, err := hex.DecodeString(strings.ReplaceAll(s, " ", ""))
	if err != nil {
		t.Fatal(err)
	}
	return b
}

// sealed is bytes with their check behind them, made another way.
func sealed(b []byte) []byte {
	sum := crc32.ChecksumIEEE(b)
	return append(slices.Clone(b), byte(sum), byte(sum>>8), byte(sum>>16), byte(sum>>24))
}

// at is an error with a place, over others from the outermost on.
func at(code api.Errno, place int, causes ...error) error {
	f := &api.Fault{Code: code, At: place}
	if len(causes) > 0 {
		f.Cause = causes[0]
	}
	return f
}

// isError holds an error against what it should be: codes, places and causes.
func isError(t *testing.T, what string, got, want error) {
	t.Helper()
	if !reflect.DeepEqual(got, want) {
		t.Errorf("%s: %v, not %v", what, got, want)
	}
}

// plain is a frame whose empty lists are all nil, since an empty list may be either.
func plain(f api.Frame) api.Frame {
	f.Messages = slices.Clone(f.Messages)
	if len(f.Messages) == 0 {
		f.Messages = nil
	}
	for i, m := range f.Messages {
		if len(m.Data) == 0 {
			f.Messages[i].Data = nil
		}
	}
	if len(f.Records) == 0 {
		f.Records = nil
	}
	return f
}

// alike: are two frames the same?
func alike(a, b api.Frame) bool {
	return reflect.DeepEqual(plain(a), plain(b))
}

// clone is a frame that shares no memory with another one.
func clone(f api.Frame) api.Frame {
	f.Messages = slices.Clone(f.Messages)
	for i, m := range f.Messages {
		f.Messages[i].Data = slices.Clone(m.Data)
	}
	f.Records = slices.Clone(f.Records)
	return f
}

// full is a frame with something in each of its fields.
func full() api.Frame {
	return api.Frame{
		Sender: 3,
		Stamp:  api.Stamp{Round: 0x01020304, Members: 0x95},
		Messages: []api.Message{
			{Port: 5, Data: []byte("ab")},
			{Port: 0},
			{Port: 23, Data: count(16)},
		},
		Command: api.Command{Kind: api.CmdSwap, Key: 7, Val: 0x1234, Old: 0xabcd},
		Records: []api.Record{
			{Round: 0xf1f2f3f4, Node: 6, Part: 11, Kind: api.KindPort, Did: api.Shutdown},
			{Round: 9, Node: 1, Part: 2, Kind: api.KindMemory, Did: api.Reset},
		},
	}
}

// fullBytes are the bytes of full, ahead of their check.
const fullBytes = "03 01020304 95" +
	" 03 05 02 6162 00 00 17 10 01080f161d242b323940474e555c636a" +
	" 03 07 1234 abcd" +
	" 02 f1f2f3f4 06 0b 03 03 00000009 01 02 01 02"

// most is a frame with as much of everything as there may be.
func most() api.Frame {
	f := api.Frame{
		Sender:  6,
		Stamp:   api.Stamp{Round: math.MaxUint32, Members: math.MaxUint8},
		Command: api.Command{Kind: api.CmdSwap, Key: 7, Val: math.MaxUint16, Old: math.MaxUint16},
	}
	for i := range 96 {
		f.Messages = append(f.Messages, api.Message{Port: i / 4, Data: bytes.Repeat([]byte{byte(i)}, 16)})
	}
	for range 4 {
		f.Records = append(f.Records, api.Record{Round: math.MaxUint32, Node: 6, Part: 11, Kind: api.KindPort, Did: api.Shutdown})
	}
	return f
}

// isSound holds a frame to be right, to be written, and to be read again; the bytes are answered.
func isSound(t *testing.T, what string, f api.Frame) []byte {
	t.Helper()
	if err := frame.Check(f); err != nil {
		t.Errorf("P4.1: %s: Check: %v", what, err)
	}
	b, err := frame.Encode(f)
	if want := sealed(written(f)); err != nil || !bytes.Equal(b, want) {
		t.Errorf("P4.2: %s: Encode: %x, %v, not %x", what, b, err, want)
	}
	got, err := frame.Decode(b)
	if err != nil || !alike(got, f) {
		t.Errorf("P4.4: %s: Decode of Encode: %v, %v, not %v", what, got, err, f)
	}
	return b
}

// isRefused holds a frame to be refused by all three calls, for that reason.
func isRefused(t *testing.T, what string, f api.Frame, reason error) {
	t.Helper()
	isError(t, "P4.1: "+what+": Check", frame.Check(f), reason)
	b, err := frame.Encode(f)
	isError(t, "P4.2: "+what+": Encode", err, at(api.ErrFrame, -1, reason))
	if len(b) != 0 {
		t.Errorf("R3: %s: Encode beside an error: %x", what, b)
	}
	if writable(f) {
		body := written(f)
		isUnread(t, what, sealed(body), at(api.ErrFrame, len(body), reason))
	}
}

// isUnread holds bytes to be refused, for that reason.
func isUnread(t *testing.T, what string, b []byte, reason error) {
	t.Helper()
	f, err := frame.Decode(b)
	isError(t, "P4.3: "+what+": Decode", err, reason)
	if !reflect.DeepEqual(f, api.Frame{}) {
		t.Errorf("R3: %s: Decode beside an error: %v", what, f)
	}
}

// written is a frame's bytes ahead of their check, whether it is right or not, made another way.
func written(f api.Frame) []byte {
	b := []byte{f.Sender}
	b = append(wide(b, f.Stamp.Round), f.Stamp.Members, byte(len(f.Messages)))
	for _, m := range f.Messages {
		b = append(append(b, byte(m.Port), byte(len(m.Data))), m.Data...)
	}
	c := f.Command
	b = append(b, byte(c.Kind), c.Key, byte(c.Val>>8), byte(c.Val), byte(c.Old>>8), byte(c.Old))
	b = append(b, byte(len(f.Records)))
	for _, r := range f.Records {
		b = append(wide(b, r.Round), r.Node, r.Part, byte(r.Kind), byte(r.Did))
	}
	return b
}

// wide is bytes and a number of four bytes behind them.
func wide(b []byte, n uint32) []byte {
	return append(b, byte(n>>24), byte(n>>16), byte(n>>8), byte(n))
}

// writable: do the bytes tell all of the frame, or are some of its numbers too great for them?
func writable(f api.Frame) bool {
	small := len(f.Messages) < 256 && len(f.Records) < 256
	for _, m := range f.Messages {
		small = small && m.Port >= 0 && m.Port < 256 && len(m.Data) < 256
	}
	return small
}

func TestExamples(t *testing.T) {
	zero := hexed(t, "0000000000000000000000000000 c779bbd1")
	if b, err := frame.Encode(api.Frame{}); err != nil || !bytes.Equal(b, zero) {
		t.Errorf("P4.2: Encode of the zero frame: %x, %v", b, err)
	}
	if f, err := frame.Decode(zero); err != nil || !reflect.DeepEqual(f, api.Frame{}) {
		t.Errorf("P4.3: Decode of the zero frame: %v, %v", f, err)
	}
	if err := frame.Check(api.Frame{}); err != nil {
		t.Errorf("P4.1: Check of the zero frame: %v", err)
	}
	_, err := frame.Encode(api.Frame{Sender: 7})
	isError(t, "P4.2: Encode of the sender 7", err, at(api.ErrFrame, -1, at(api.ErrRange, -1)))
	isUnread(t, "nothing", nil, at(api.ErrFrame, -1, at(api.ErrCheck, -1)))
	isUnread(t, "nothing", []byte{}, at(api.ErrFrame, -1, at(api.ErrCheck, -1)))
}

// TestBytes: each field stands where the chapter says, the highest byte first.
func TestBytes(t *testing.T) {
	want := sealed(hexed(t, fullBytes))
	if b := isSound(t, "a full frame", full()); !bytes.Equal(b, want) {
		t.Errorf("P4.2: %x, not %x", b, want)
	}
	f, err := frame.Decode(want)
	if err != nil || !alike(f, full()) {
		t.Errorf("P4.3: %v, %v", f, err)
	}
}

// TestEnds: the greatest and the least of everything are right.
func TestEnds(t *testing.T) {
	if b := isSound(t, "the most of all", most()); len(b) != 1+5+1+96*18+6+1+4*8+4 {
		t.Errorf("P4.2: the most of all: %d bytes", len(b))
	}
	for n := range uint8(7) {
		isSound(t, "a sender", api.Frame{Sender: n})
	}
	for _, round := range []uint32{0, 1, 255, 256, 1<<20 - 1, 1 << 20, 1 << 24, 1 << 31, math.MaxUint32} {
		isSound(t, "a round", api.Frame{Stamp: api.Stamp{Round: round}, Records: []api.Record{{Round: round}}})
	}
	for members := range 256 {
		isSound(t, "members", api.Frame{Stamp: api.Stamp{Members: uint8(members)}})
	}
	for port := range 24 {
		for size := range 17 {
			isSound(t, "a message", api.Frame{Messages: []api.Message{{Port: port, Data: count(size)}}})
		}
	}
	for n := range 97 {
		isSound(t, "messages", api.Frame{Messages: make([]api.Message, n)})
	}
	for n := range 5 {
		isSound(t, "records", api.Frame{Records: make([]api.Record, n)})
	}
	isSound(t, "no messages, no records", api.Frame{Messages: []api.Message{}, Records: []api.Record{}})
	isSound(t, "an empty message", api.Frame{Messages: []api.Message{{Data: []byte{}}}})
}

func TestSender(t *testing.T) {
	for n := 7; n < 256; n++ {
		isRefused(t, "a sender", api.Frame{Sender: uint8(n)}, at(api.ErrRange, -1))
	}
}

func TestMany(t *testing.T) {
	for _, n := range []int{97, 98, 128, 255, 256, 257, 300, 1000} {
		isRefused(t, "messages", api.Frame{Messages: make([]api.Message, n)}, at(api.ErrMany, -1))
	}
	for _, n := range []int{5, 6, 96, 97, 255, 256, 260, 1000} {
		isRefused(t, "records", api.Frame{Records: make([]api.Record, n)}, at(api.ErrMany, -1))
	}
	isRefused(t, "both", api.Frame{Messages: make([]api.Message, 97), Records: make([]api.Record, 5)}, at(api.ErrMany, -1))
}

// TestMessages: the first message with which something is wrong is told, and of it the port ahead of the size.
func TestMessages(t *testing.T) {
	for _, port := range []int{math.MinInt, -256, -1, 24, 25, 127, 255, 256, 256 + 5, 1 << 32, 1<<32 + 5, math.MaxInt} {
		for _, place := range []int{0, 1, 7} {
			l := make([]api.Message, 9)
			l[place].Port = port
			isRefused(t, "a port", api.Frame{Messages: l}, at(api.ErrRange, place))
			l[place].Data = count(17)
			isRefused(t, "a port and a size", api.Frame{Messages: l}, at(api.ErrRange, place))
			l[8].Data = count(17)
			isRefused(t, "a port ahead of a size", api.Frame{Messages: l}, at(api.ErrRange, place))
		}
	}
	for _, size := range []int{17, 18, 255, 256, 256 + 16, 70000} {
		for _, place := range []int{0, 1, 95} {
			l := make([]api.Message, 96)
			l[place].Data = count(size)
			isRefused(t, "a size", api.Frame{Messages: l}, at(api.ErrSize, place))
		}
		l := make([]api.Message, 4)
		l[1].Data, l[2].Port = count(size), 24
		isRefused(t, "a size ahead of a port", api.Frame{Messages: l}, at(api.ErrSize, 1))
	}
}

// wrongCommand: what is wrong with a command, by a second working of the chapter's words.
func wrongCommand(c api.Command) api.Errno {
	switch c.Kind {
	case 0:
		if c.Key != 0 || c.Val != 0 || c.Old != 0 {
			return api.ErrValue
		}
	case 1:
		if c.Key > 7 || c.Old != 0 {
			return api.ErrValue
		}
	case 2:
		if c.Key > 7 || c.Old != 0 || c.Val != 0 {
			return api.ErrValue
		}
	case 3:
		if c.Key > 7 {
			return api.ErrValue
		}
	default:
		return api.ErrKind
	}
	return api.OK
}

// TestCommands: all kinds and keys, each with values and old values that are 0 and others.
func TestCommands(t *testing.T) {
	values := []uint16{0, 1, 0xff, 0x100, math.MaxUint16}
	for _, kind := range []api.CmdKind{0, 1, 2, 3, 4, 5, 128, 255} {
		for key := range 256 {
			for _, val := range values {
				for _, old := range values {
					c := api.Command{Kind: kind, Key: uint8(key), Val: val, Old: old}
					if code := wrongCommand(c); code == api.OK {
						isSound(t, "a command", api.Frame{Command: c})
					} else {
						isRefused(t, "a command", api.Frame{Command: c}, at(code, -1))
					}
				}
			}
		}
	}
}

// TestCommandWords: the chapter's words on what is lawful, one by one.
func TestCommandWords(t *testing.T) {
	for _, c := range []api.Command{
		{},
		{Kind: api.CmdSet},
		{Kind: api.CmdSet, Key: 7, Val: 0xffff},
		{Kind: api.CmdDrop},
		{Kind: api.CmdDrop, Key: 7},
		{Kind: api.CmdSwap},
		{Kind: api.CmdSwap, Key: 7, Val: 0xffff, Old: 0xffff},
		{Kind: api.CmdSwap, Key: 7, Old: 1},
	} {
		isSound(t, "a lawful command", api.Frame{Command: c})
	}
	for _, c := range []api.Command{
		{Key: 1},
		{Val: 1},
		{Old: 1},
		{Kind: api.CmdSet, Key: 8},
		{Kind: api.CmdSet, Old: 1},
		{Kind: api.CmdDrop, Key: 8},
		{Kind: api.CmdDrop, Val: 1},
		{Kind: api.CmdDrop, Old: 1},
		{Kind: api.CmdSwap, Key: 8},
	} {
		isRefused(t, "an unlawful command", api.Frame{Command: c}, at(api.ErrValue, -1))
	}
	isRefused(t, "a kind", api.Frame{Command: api.Command{Kind: 4}}, at(api.ErrKind, -1))
	isRefused(t, "a kind and all else", api.Frame{Command: api.Command{Kind: 4, Key: 8, Val: 1, Old: 1}}, at(api.ErrKind, -1))
}

// TestRecords: the first record with which something is wrong is told, whatever it is.
func TestRecords(t *testing.T) {
	var wrong []api.Record
	for n := range 256 {
		if n >= 7 {
			wrong = append(wrong, api.Record{Node: uint8(n)})
		}
		if n >= 12 {
			wrong = append(wrong, api.Record{Part: uint8(n)})
		}
		if n >= 4 {
			wrong = append(wrong, api.Record{Kind: api.ErrorKind(n)}, api.Record{Did: api.Action(n)})
		}
	}
	wrong = append(wrong, api.Record{Round: math.MaxUint32, Node: 7, Part: 12, Kind: 4, Did: 4})
	for _, r := range wrong {
		for place := range 4 {
			l := make([]api.Record, 4)
			l[place] = r
			isRefused(t, "a record", api.Frame{Records: l}, at(api.ErrRecord, place))
			l[3].Node = 255
			isRefused(t, "a record ahead of another", api.Frame{Records: l}, at(api.ErrRecord, place))
		}
	}
	for n := range uint8(12) {
		r := api.Record{Round: 1, Node: n % 7, Part: n, Kind: api.ErrorKind(n % 4), Did: api.Action(n / 3)}
		isSound(t, "a record", api.Frame{Records: []api.Record{r}})
	}
}

// TestFirst: of several errors the first in the chapter's order is told.
func TestFirst(t *testing.T) {
	f := api.Frame{
		Sender:   7,
		Messages: make([]api.Message, 97),
		Command:  api.Command{Kind: 4, Key: 8},
		Records:  make([]api.Record, 5),
	}
	f.Messages[2] = api.Message{Port: 24, Data: count(17)}
	f.Records[1].Part = 12
	isRefused(t, "all", f, at(api.ErrRange, -1))
	f.Sender = 6
	isRefused(t, "all but the sender", f, at(api.ErrMany, -1))
	f.Messages = f.Messages[:96]
	isRefused(t, "too many records and more", f, at(api.ErrMany, -1))
	f.Records = f.Records[:4]
	isRefused(t, "a port and more", f, at(api.ErrRange, 2))
	f.Messages[2].Port = 23
	isRefused(t, "a size and more", f, at(api.ErrSize, 2))
	f.Messages[2].Data = count(16)
	isRefused(t, "a command's kind and more", f, at(api.ErrKind, -1))
	f.Command.Kind = api.CmdSwap
	isRefused(t, "a command's key and more", f, at(api.ErrValue, -1))
	f.Command.Key = 7
	isRefused(t, "a record", f, at(api.ErrRecord, 1))
	f.Records[1].Part = 11
	isSound(t, "none", f)
}

// TestCheckBytes: of what isn't sealed nothing is read.
func TestCheckBytes(t *testing.T) {
	refusal := at(api.ErrFrame, -1, at(api.ErrCheck, -1))
	b := isSound(t, "a full frame", full())
	for n := range b {
		isUnread(t, "a beginning", b[:n], refusal)
		isUnread(t, "an end", b[n+1:], refusal)
	}
	for i := range 8 * len(b) {
		turned := slices.Clone(b)
		turned[i/8] ^= 1 << (i % 8)
		isUnread(t, "a turned bit", turned, refusal)
	}
	isUnread(t, "a byte more", append(slices.Clone(b), 0), refusal)
	isUnread(t, "another order of the check", slices.Concat(make([]byte, 14), []byte{0xd1, 0xbb, 0x79, 0xc7}), refusal)
	for n := range 4 {
		isUnread(t, "too few bytes for a check", make([]byte, n), refusal)
	}
}

// fields are the places at which a frame's fields begin, each with where it ends.
func fields(f api.Frame) (begin, end []int) {
	place := 0
	for _, size := range sizes(f) {
		begin, end = append(begin, place), append(end, place+size)
		place += size
	}
	return begin, end
}

// sizes of a frame's fields, one by one.
func sizes(f api.Frame) []int {
	out := []int{1, 4, 1, 1}
	for _, m := range f.Messages {
		out = append(out, 1, 1+len(m.Data))
	}
	out = append(out, 1, 1, 2, 2, 1)
	for range f.Records {
		out = append(out, 4, 1, 1, 1, 1)
	}
	return out
}

// TestShort: where bytes are too few, the place is that of the field that isn't whole.
func TestShort(t *testing.T) {
	for _, f := range []api.Frame{{}, full(), most()} {
		body := written(f)
		begin, end := fields(f)
		for n := range body {
			place := 0
			for end[place] <= n {
				place++
			}
			want := begin[place]
			isUnread(t, "a part", sealed(body[:n]), at(api.ErrFrame, want, at(api.ErrShort, want)))
		}
	}
}

// TestShortFirst: bytes that are too few are told ahead of what is wrong with those that are there.
func TestShortFirst(t *testing.T) {
	l := make([]api.Message, 97)
	l[0].Port = 24
	body := written(api.Frame{Sender: 7, Messages: l, Command: api.Command{Kind: 9}, Records: make([]api.Record, 5)})
	n := len(body)
	isUnread(t, "a byte too few", sealed(body[:n-1]), at(api.ErrFrame, n-1, at(api.ErrShort, n-1)))
	isUnread(t, "a record too few", sealed(body[:n-8]), at(api.ErrFrame, n-8, at(api.ErrShort, n-8)))
	isUnread(t, "a byte more", sealed(append(body, 0)), at(api.ErrFrame, n, at(api.ErrExtra, n)))
	isUnread(t, "as many bytes", sealed(body), at(api.ErrFrame, n, at(api.ErrRange, -1)))
	isUnread(t, "a sender alone", sealed([]byte{7}), at(api.ErrFrame, 1, at(api.ErrShort, 1)))
	isUnread(t, "255 messages that aren't there", sealed(hexed(t, "00 00000000 00 ff")), at(api.ErrFrame, 7, at(api.ErrShort, 7)))
	isUnread(t, "a message of 255 bytes that aren't there", sealed(hexed(t, "00 00000000 00 01 00 ff 00")), at(api.ErrFrame, 8, at(api.ErrShort, 8)))
	isUnread(t, "255 records that aren't there", sealed(hexed(t, "00 00000000 00 00 000000000000 ff")), at(api.ErrFrame, 14, at(api.ErrShort, 14)))
	isUnread(t, "no bytes that are sealed", make([]byte, 4), at(api.ErrFrame, 0, at(api.ErrShort, 0)))
}

// TestExtra: bytes behind a frame are told at its end.
func TestExtra(t *testing.T) {
	for _, f := range []api.Frame{{}, full(), most()} {
		body := written(f)
		for _, more := range []int{1, 2, 4, 8, 100, 5000} {
			isUnread(t, "bytes more", sealed(append(slices.Clone(body), count(more)...)), at(api.ErrFrame, len(body), at(api.ErrExtra, len(body))))
		}
		isUnread(t, "sealed twice", sealed(sealed(body)), at(api.ErrFrame, len(body), at(api.ErrExtra, len(body))))
	}
}

// someFrame is a frame by chance; wild: with numbers that may be wrong.
func someFrame(chance *rand.Rand, wild bool) api.Frame {
	upTo := func(right, wrong int) int {
		if wild && chance.Intn(12) == 0 {
			return chance.Intn(wrong + 1)
		}
		return chance.Intn(right + 1)
	}
	f := api.Frame{Sender: uint8(upTo(6, 255)), Stamp: api.Stamp{Round: chance.Uint32(), Members: uint8(chance.Intn(256))}}
	for range upTo(chance.Intn(97), 120) {
		b := make([]byte, upTo(16, 20))
		chance.Read(b)
		f.Messages = append(f.Messages, api.Message{Port: upTo(23, 30), Data: b})
	}
	c := api.Command{Kind: api.CmdKind(upTo(3, 6)), Key: uint8(upTo(7, 9)), Val: uint16(chance.Intn(1 << 16)), Old: uint16(chance.Intn(1 << 16))}
	switch {
	case wild && chance.Intn(8) == 0:
	case c.Kind == api.CmdNone:
		c = api.Command{}
	case c.Kind == api.CmdSet:
		c.Old = 0
	case c.Kind == api.CmdDrop:
		c.Val, c.Old = 0, 0
	}
	f.Command = c
	for range upTo(4, 6) {
		f.Records = append(f.Records, api.Record{Round: chance.Uint32(), Node: uint8(upTo(6, 8)), Part: uint8(upTo(11, 14)), Kind: api.ErrorKind(upTo(3, 5)), Did: api.Action(upTo(3, 5))})
	}
	return f
}

// reason is what is wrong with a frame, by a second working of the chapter's words; nil.
func reason(f api.Frame) error {
	if f.Sender > 6 {
		return at(api.ErrRange, -1)
	}
	if len(f.Messages) > 96 || len(f.Records) > 4 {
		return at(api.ErrMany, -1)
	}
	if i := slices.IndexFunc(f.Messages, func(m api.Message) bool { return m.Port < 0 || m.Port > 23 || len(m.Data) > 16 }); i >= 0 {
		if m := f.Messages[i]; m.Port >= 0 && m.Port <= 23 {
			return at(api.ErrSize, i)
		}
		return at(api.ErrRange, i)
	}
	if code := wrongCommand(f.Command); code != api.OK {
		return at(code, -1)
	}
	if i := slices.IndexFunc(f.Records, func(r api.Record) bool { return r.Node > 6 || r.Part > 11 || r.Kind > 3 || r.Did > 3 }); i >= 0 {
		return at(api.ErrRecord, i)
	}
	return nil
}

func TestRightFrames(t *testing.T) {
	chance := rand.New(rand.NewSource(4))
	for range 3000 {
		isSound(t, "a frame by chance", someFrame(chance, false))
	}
}

func TestWildFrames(t *testing.T) {
	chance := rand.New(rand.NewSource(5))
	refused := 0
	for range 5000 {
		f := someFrame(chance, true)
		if err := reason(f); err != nil {
			refused++
			isRefused(t, "a wild frame", f, err)
			continue
		}
		isSound(t, "a wild frame", f)
	}
	if refused < 500 || refused > 4900 {
		t.Errorf("%d of 5000 wild frames are refused: chance is badly laid", refused)
	}
}

// model reads bytes as the chapter words it: what is left of them, and whether they were too few.
type model struct {
	left  []byte
	short bool
}

func (m *model) take(size int) uint32 {
	if m.short = m.short || len(m.left) < size; m.short {
		return 0
	}
	var n uint32
	for _, c := range m.left[:size] {
		n = n*256 + uint32(c)
	}
	m.left = m.left[size:]
	return n
}

func (m *model) text() []byte {
	if m.short = m.short || len(m.left) == 0 || len(m.left) <= int(m.left[0]); m.short {
		return nil
	}
	n := 1 + int(m.left[0])
	b := m.left[1:n]
	m.left = m.left[n:]
	return b
}

// modelRead is what bytes tell, by a second working of the chapter's words.
func modelRead(b []byte) (api.Frame, error) {
	n := len(b) - 4
	if n < 0 || !bytes.Equal(sealed(b[:n]), b) {
		return api.Frame{}, at(api.ErrFrame, -1, at(api.ErrCheck, -1))
	}
	m := &model{left: b[:n]}
	var f api.Frame
	f.Sender = uint8(m.take(1))
	f.Stamp.Round = m.take(4)
	f.Stamp.Members = uint8(m.take(1))
	for more := m.take(1); more > 0; more-- {
		port := int(m.take(1))
		f.Messages = append(f.Messages, api.Message{Port: port, Data: m.text()})
	}
	f.Command.Kind = api.CmdKind(m.take(1))
	f.Command.Key = uint8(m.take(1))
	f.Command.Val = uint16(m.take(2))
	f.Command.Old = uint16(m.take(2))
	for more := m.take(1); more > 0; more-- {
		var r api.Record
		r.Round = m.take(4)
		r.Node, r.Part = uint8(m.take(1)), uint8(m.take(1))
		r.Kind = api.ErrorKind(m.take(1))
		r.Did = api.Action(m.take(1))
		f.Records = append(f.Records, r)
	}
	place := n - len(m.left)
	err := reason(f)
	if len(m.left) > 0 {
		err = at(api.ErrExtra, place)
	}
	if m.short {
		err = at(api.ErrShort, place)
	}
	if err != nil {
		return api.Frame{}, at(api.ErrFrame, place, err)
	}
	return f, nil
}

// checkRead holds what bytes tell against the model, and what is read to be written as just these bytes.
func checkRead(t *testing.T, b []byte) {
	t.Helper()
	want, reason := modelRead(b)
	if reason != nil {
		isUnread(t, "any bytes", b, reason)
		return
	}
	got, err := frame.Decode(b)
	if err != nil || !alike(got, want) {
		t.Errorf("P4.3: Decode of %x: %v, %v, not %v", b, got, err, want)
	}
	again, err := frame.Encode(got)
	if err != nil || !bytes.Equal(again, b) {
		t.Errorf("P4.4, P11: Encode of Decode of %x: %x, %v", b, again, err)
	}
}

// TestAnyBytes: every list of bytes is read or refused, sealed ones and others.
func TestAnyBytes(t *testing.T) {
	chance := rand.New(rand.NewSource(6))
	for range 20000 {
		b := make([]byte, chance.Intn(80))
		chance.Read(b)
		for i := range b {
			b[i] >>= chance.Intn(9) // so that some of it is right
		}
		checkRead(t, b)
		checkRead(t, sealed(b))
	}
}

// TestChangedBytes: bytes of frames, changed here and there and sealed again, some of which are frames still.
func TestChangedBytes(t *testing.T) {
	chance := rand.New(rand.NewSource(7))
	for range 20000 {
		f := someFrame(chance, false)
		f.Messages = f.Messages[:min(len(f.Messages), 6)]
		body := written(f)
		for range 1 + chance.Intn(2) {
			body[chance.Intn(len(body))] = byte(chance.Intn(256) >> chance.Intn(8))
		}
		checkRead(t, sealed(body))
	}
}

// roomy is a list with spare room behind it, all of which is the filler.
func roomy[T any](l []T, filler T) []T {
	out := slices.Clone(l)
	for range 5 {
		out = append(out, filler)
	}
	return out[:len(l)]
}

// roomyFrame is a frame all of whose lists have spare room.
func roomyFrame(f api.Frame) api.Frame {
	f.Messages = roomy(f.Messages, api.Message{Port: 77, Data: []byte{7}})
	for i, m := range f.Messages {
		f.Messages[i].Data = roomy(m.Data, 0xa5)
	}
	f.Records = roomy(f.Records, api.Record{Node: 77})
	return f
}

// stretched is a frame with the spare room of its lists (those that roomyFrame made) as a part of them.
func stretched(f api.Frame) api.Frame {
	f.Messages = slices.Clone(f.Messages[:len(f.Messages)+5])
	for i, m := range f.Messages[:len(f.Messages)-5] {
		f.Messages[i].Data = m.Data[:len(m.Data)+5]
	}
	f.Records = f.Records[:len(f.Records)+5]
	return f
}

// TestHandedIn: neither a frame nor bytes that are handed in are changed or kept, their spare room included.
func TestHandedIn(t *testing.T) {
	for _, f := range []api.Frame{{}, full(), most()} {
		in := roomyFrame(f)
		before := clone(stretched(in))
		frame.Check(in)
		b, err := frame.Encode(in)
		if err != nil || !reflect.DeepEqual(clone(stretched(in)), before) {
			t.Errorf("R6: Encode changes a frame (%v)", err)
		}
		for i := range in.Messages {
			clear(in.Messages[i].Data[:cap(in.Messages[i].Data)])
		}
		if !bytes.Equal(b, sealed(written(f))) {
			t.Error("R6: what Encode answers shares memory with the frame")
		}
		bytesIn := roomy(b, 0xa5)
		got, err := frame.Decode(bytesIn)
		if err != nil || !bytes.Equal(bytesIn[:len(b)+5], append(slices.Clone(b), 0xa5, 0xa5, 0xa5, 0xa5, 0xa5)) {
			t.Errorf("R6: Decode changes bytes (%v)", err)
		}
		clear(bytesIn[:cap(bytesIn)])
		if !alike(got, f) {
			t.Error("R6: what Decode answers shares memory with the bytes")
		}
	}
}

// TestAnswersNew: answers share no memory with each other, nor an answer's lists with each other, spare room included.
func TestAnswersNew(t *testing.T) {
	b := isSound(t, "a full frame", full())
	one, err1 := frame.Encode(full())
	two, err2 := frame.Encode(full())
	if err1 != nil || err2 != nil {
		t.Fatal(err1, err2)
	}
	clear(one[:cap(one)])
	if !bytes.Equal(two, b) {
		t.Error("R6: what Encode answers shares memory")
	}
	for spoilt := range full().Messages {
		f, err := frame.Decode(b)
		other, err2 := frame.Decode(b)
		if err != nil || err2 != nil {
			t.Fatal(err, err2)
		}
		data := f.Messages[spoilt].Data
		for i := range data[:cap(data)] {
			data[:cap(data)][i] ^= 0x5a
		}
		f.Messages[spoilt].Data = full().Messages[spoilt].Data
		if !alike(f, full()) {
			t.Errorf("R6: the data of message %d share memory with the rest of the answer", spoilt)
		}
		clear(f.Messages[:cap(f.Messages)])
		clear(f.Records[:cap(f.Records)])
		if !alike(other, full()) {
			t.Error("R6: what Decode answers shares memory")
		}
	}
}

// TestErrorsNew: an error that was answered may be changed; the next one is as it should be.
func TestErrorsNew(t *testing.T) {
	for range 2 {
		_, err := frame.Encode(api.Frame{Sender: 7})
		isError(t, "R6: Encode", err, at(api.ErrFrame, -1, at(api.ErrRange, -1)))
		spoil(err)
		_, err = frame.Decode(nil)
		isError(t, "R6: Decode", err, at(api.ErrFrame, -1, at(api.ErrCheck, -1)))
		spoil(err)
		err = frame.Check(api.Frame{Records: make([]api.Record, 5)})
		isError(t, "R6: Check", err, at(api.ErrMany, -1))
		spoil(err)
	}
}

// spoil changes an error and what it is laid over.
func spoil(err error) {
	for err != nil {
		f, ok := err.(*api.Fault)
		if !ok {
			return
		}
		err = f.Cause
		f.Code, f.At = api.ErrGap, 77
	}
}

// TestAsked: the errors can be asked by errors.Is, errors.As and package fault.
func TestAsked(t *testing.T) {
	_, err := frame.Decode(sealed(hexed(t, "00 00000000 00 01 00 02 61")))
	var f *api.Fault
	if !errors.Is(err, api.ErrFrame) || !errors.Is(err, api.ErrShort) || errors.Is(err, api.ErrCheck) || !errors.As(err, &f) || f.At != 8 {
		t.Errorf("P4.3: %v", err)
	}
	if !slices.Equal(fault.Trail(err), []api.Errno{api.ErrFrame, api.ErrShort}) || fault.Root(err) != api.ErrShort || fault.Place(err) != 8 {
		t.Errorf("P4.3: Trail %v, Place %d", fault.Trail(err), fault.Place(err))
	}
}

// TestSame: the answers depend on the arguments alone, whoever else calls.
func TestSame(t *testing.T) {
	var all sync.WaitGroup
	for seed := range int64(4) {
		all.Add(1)
		go func() {
			defer all.Done()
			chance := rand.New(rand.NewSource(seed))
			for range 200 {
				f := someFrame(chance, true)
				one, err1 := frame.Encode(f)
				two, err2 := frame.Encode(clone(f))
				if !bytes.Equal(one, two) || !reflect.DeepEqual(err1, err2) {
					t.Errorf("R8: %x %v, then %x %v", one, err1, two, err2)
				}
				checkRead(t, sealed(written(f)))
			}
		}()
	}
	all.Wait()
}

// TestLarge: much that is handed in is refused, too.
func TestLarge(t *testing.T) {
	isUnread(t, "many bytes", make([]byte, 1<<20), at(api.ErrFrame, -1, at(api.ErrCheck, -1)))
	isUnread(t, "many bytes, sealed", sealed(make([]byte, 1<<20)), at(api.ErrFrame, 14, at(api.ErrExtra, 14)))
	isRefused(t, "many messages", api.Frame{Messages: make([]api.Message, 1<<20)}, at(api.ErrMany, -1))
	isRefused(t, "a large message", api.Frame{Messages: []api.Message{{Data: make([]byte, 1<<20)}}}, at(api.ErrSize, 0))
	whole := slices.Concat(hexed(t, "00 00000000 00 ff"), bytes.Repeat(append([]byte{0, 255}, count(255)...), 255), make([]byte, 6), []byte{255}, make([]byte, 8*255))
	isUnread(t, "as much as bytes can tell", sealed(whole), at(api.ErrFrame, len(whole), at(api.ErrMany, -1)))
}

// FuzzDecode: of any bytes, sealed or not, Decode answers what the chapter's words say.
func FuzzDecode(f *testing.F) {
	f.Add([]byte{})
	f.Add(make([]byte, 14))
	f.Add(sealed(make([]byte, 14)))
	f.Add(written(full()))
	f.Add(written(most()))
	f.Fuzz(func(t *testing.T, b []byte) {
		before := slices.Clone(b)
		checkRead(t, b)
		checkRead(t, sealed(b))
		if !bytes.Equal(b, before) {
			t.Error("R6: what was handed in is changed")
		}
	})
}
