package table_test

import (
	"bytes"
	"encoding/hex"
	"errors"
	"hash/crc32"
	"math"
	"math/rand"
	"reflect"
	"slices"
	"strings"
	"sync"
	"testing"

	"escapement/api"
	"escapement/fault"
	"escapement/table"
)

// hexed is bytes from their digits; blanks between them count for nothing.
func hexed(t *testing.T, s string) []byte {
	t.Helper()
	b, err := hex.DecodeString(strings.ReplaceAll(s, " ", ""))
	if err != nil {
		t.Fatal(err)
	}
	return b
}

// sealed is bytes with their check behind them, made another way.
func sealed(b []byte) []byte {
	sum := crc32.ChecksumIEEE(b)
	return append(slices.Clone(b), byte(sum), byte(sum>>8), byte(sum>>16), byte(sum>>24))
}

// at is an error with a place, over another one, if one is given.
func at(code api.Errno, place int, causes ...error) error {
	f := &api.Fault{Code: code, At: place}
	if len(causes) > 0 {
		f.Cause = causes[0]
	}
	return f
}

// isError holds an error against what it should be: codes, places and causes.
func isError(t *testing.T, what string, got, want error) {
	t.Helper()
	if !reflect.DeepEqual(got, want) {
		t.Errorf("%s: %v, not %v", what, got, want)
	}
}

// clone is tables that share no memory with others; empty lists become nil, since they may be either.
func clone(c api.Config) api.Config {
	c.Parts = append([]api.Part(nil), c.Parts...)
	c.Ports = append([]api.Port(nil), c.Ports...)
	c.Routes = append([]api.Route(nil), c.Routes...)
	return c
}

// alike: are two tables the same?
func alike(a, b api.Config) bool {
	return reflect.DeepEqual(clone(a), clone(b))
}

// least are the least tables there may be.
func least() api.Config {
	return api.Config{Nodes: 1, Slot: 1}
}

// full are tables with something in each of their fields.
func full() api.Config {
	return api.Config{
		Nodes: 5, Faulty: 1,
		Slot: 0x010203, Gap: 0x0a0b0c, Rho: 0xc8, Dmin: 0x01ff, Dmax: 0x0fedcb, Margin: 0xfedcba,
		Parts: []api.Part{
			{Node: 4, Start: 0x0fabcdef, Length: 0x01234567, Budget: 64, Words: 16, Recover: [4]api.Action{3, 2, 1, 0}},
			{Node: 0, Start: 0, Length: 1, Budget: 0, Words: 0, Recover: [4]api.Action{0, 1, 2, 3}},
			{Node: 2, Start: 1 << 28, Length: 1 << 28, Budget: 7, Words: 9},
		},
		Ports: []api.Port{
			{Part: 1, Kind: api.Sampling, Out: true, Size: 16},
			{Part: 2, Kind: api.Queuing, Size: 15, Depth: 4},
			{Part: 0, Kind: api.Sampling, Size: 14, Fresh: 8},
			{Part: 2, Kind: api.Queuing, Out: true, Size: 0, Depth: 1},
		},
		Routes: []api.Route{{From: 0, To: 2}, {From: 3, To: 1}, {From: 1, To: 1}},
	}
}

// fullBytes are the bytes of full, ahead of their check.
const fullBytes = "45534331 05 01 00010203 000a0b0c 000000c8 000001ff 000fedcb 00fedcba 03 04 03" +
	" 04 0fabcdef 01234567 40 10 03020100" +
	" 00 00000000 00000001 00 00 00010203" +
	" 02 10000000 10000000 07 09 00000000" +
	" 01 01 01 10 00 00" +
	" 02 02 00 0f 04 00" +
	" 00 01 00 0e 00 08" +
	" 02 02 01 00 01 00" +
	" 00 02 03 01 01 01"

// most are tables with as much of everything as there may be.
func most() api.Config {
	c := api.Config{
		Nodes: 7, Faulty: 2,
		Slot: 1 << 24, Gap: 1 << 24, Rho: 200, Dmin: 1 << 20, Dmax: 1 << 20, Margin: 1 << 24,
	}
	for range 12 {
		c.Parts = append(c.Parts, api.Part{Node: 6, Start: 1 << 28, Length: 1 << 28, Budget: 64, Words: 16, Recover: [4]api.Action{3, 3, 3, 3}})
	}
	for i := range 24 {
		c.Ports = append(c.Ports, api.Port{Part: 11, Kind: api.Queuing, Out: i%2 == 0, Size: 16, Depth: 4})
		c.Routes = append(c.Routes, api.Route{From: 23, To: 23})
	}
	return c
}

// written is the tables' bytes ahead of their check, whether they are right or not, made another way.
func written(c api.Config) []byte {
	b := []byte{'E', 'S', 'C', '1', byte(c.Nodes), byte(c.Faulty)}
	b = wide(b, c.Slot)
	b = wide(b, c.Gap)
	b = wide(b, c.Rho)
	b = wide(b, c.Dmin)
	b = wide(b, c.Dmax)
	b = wide(b, c.Margin)
	b = append(b, byte(len(c.Parts)), byte(len(c.Ports)), byte(len(c.Routes)))
	for _, p := range c.Parts {
		b = wide(wide(append(b, byte(p.Node)), p.Start), p.Length)
		b = append(b, byte(p.Budget), byte(p.Words))
		b = append(b, byte(p.Recover[0]), byte(p.Recover[1]), byte(p.Recover[2]), byte(p.Recover[3]))
	}
	for _, p := range c.Ports {
		out := byte(0)
		if p.Out {
			out = 1
		}
		b = append(b, byte(p.Part), byte(p.Kind), out, byte(p.Size), byte(p.Depth), byte(p.Fresh))
	}
	for _, r := range c.Routes {
		b = append(b, byte(r.From), byte(r.To))
	}
	return b
}

// wide is bytes and a number of four bytes behind them.
func wide(b []byte, n int) []byte {
	return append(b, byte(n>>24), byte(n>>16), byte(n>>8), byte(n))
}

// writable: do the bytes tell all of the tables, or are some of their numbers too great for them?
func writable(c api.Config) bool {
	narrow := func(numbers ...int) bool {
		return !slices.ContainsFunc(numbers, func(n int) bool { return n < 0 || n > 255 })
	}
	fits := func(numbers ...int) bool {
		return !slices.ContainsFunc(numbers, func(n int) bool { return n < 0 || n > math.MaxUint32 })
	}
	small := narrow(c.Nodes, c.Faulty, len(c.Parts), len(c.Ports), len(c.Routes)) &&
		fits(c.Slot, c.Gap, c.Rho, c.Dmin, c.Dmax, c.Margin) &&
		len(written(c))+4 <= 4096
	for _, p := range c.Parts {
		small = small && narrow(p.Node, p.Budget, p.Words) && fits(p.Start, p.Length)
	}
	for _, p := range c.Ports {
		small = small && narrow(p.Part, p.Size, p.Depth, p.Fresh)
	}
	for _, r := range c.Routes {
		small = small && narrow(r.From, r.To)
	}
	return small
}

// isSound holds tables to be right, to be written, and to be read again; the image is answered.
func isSound(t *testing.T, what string, c api.Config) []byte {
	t.Helper()
	if err := table.Check(c); err != nil {
		t.Errorf("P5.1: %s: Check: %v", what, err)
	}
	b, err := table.Encode(c)
	if want := sealed(written(c)); err != nil || !bytes.Equal(b, want) {
		t.Errorf("P5.2: %s: Encode: %x, %v, not %x", what, b, err, want)
	}
	got, err := table.Decode(b)
	if err != nil || !alike(got, c) {
		t.Errorf("P5.4: %s: Decode of Encode: %v, %v, not %v", what, got, err, c)
	}
	return b
}

// isRefused holds tables to be refused by all three calls, for that reason.
func isRefused(t *testing.T, what string, c api.Config, reason error) {
	t.Helper()
	isError(t, "P5.1: "+what+": Check", table.Check(c), reason)
	b, err := table.Encode(c)
	isError(t, "P5.2: "+what+": Encode", err, at(api.ErrTable, -1, reason))
	if len(b) != 0 {
		t.Errorf("R3: %s: Encode beside an error: %x", what, b)
	}
	if writable(c) {
		body := written(c)
		isUnread(t, what, sealed(body), at(api.ErrTable, len(body), reason))
	}
}

// isUnread holds bytes to be refused, for that reason.
func isUnread(t *testing.T, what string, b []byte, reason error) {
	t.Helper()
	c, err := table.Decode(b)
	isError(t, "P5.3: "+what+": Decode", err, reason)
	if !reflect.DeepEqual(c, api.Config{}) {
		t.Errorf("R3: %s: Decode beside an error: %v", what, c)
	}
}

func TestExamples(t *testing.T) {
	isRefused(t, "no nodes", api.Config{}, at(api.ErrRange, -1))
	b := isSound(t, "the least", api.Config{Nodes: 1, Slot: 1})
	if len(b) != 37 {
		t.Errorf("P5.2: %d bytes, not 37", len(b))
	}
	c := least()
	c.Routes = []api.Route{{From: 0, To: 0}}
	isRefused(t, "a route without ports", c, at(api.ErrRoute, 0))
	_, err := table.Encode(c)
	isError(t, "P5.2", err, at(api.ErrTable, -1, at(api.ErrRoute, 0)))
}

// TestBytes: each field stands where the chapter says, the highest byte first.
func TestBytes(t *testing.T) {
	want := sealed(hexed(t, fullBytes))
	if b := isSound(t, "full tables", full()); !bytes.Equal(b, want) {
		t.Errorf("P5.2: %x, not %x", b, want)
	}
	c, err := table.Decode(want)
	if err != nil || !alike(c, full()) {
		t.Errorf("P5.3: %v, %v", c, err)
	}
	if b := isSound(t, "the most of all", most()); len(b) != 33+12*15+24*6+24*2+4 {
		t.Errorf("P5.2: the most of all: %d bytes", len(b))
	}
	isSound(t, "lists that are empty", api.Config{Nodes: 1, Slot: 1, Parts: []api.Part{}, Ports: []api.Port{}, Routes: []api.Route{}})
}

// field is one of the numbers of some tables, with its ends.
type field struct {
	name        string
	of          func(c *api.Config) *int
	least, most int
}

// wrongs are numbers outside a range: the next ones, and others of which the lowest byte, or bytes, would be right.
func (f field) wrongs() []int {
	return []int{
		f.least - 1, f.least - 2, f.least - 256, f.least - 1<<32, math.MinInt,
		f.most + 1, f.most + 2, f.most + 1<<8, f.most + 1<<24, f.most + 1<<31, f.most + 1<<32, math.MaxInt,
	}
}

// rights are numbers within a range: its ends, and some between.
func (f field) rights() []int {
	return []int{f.least, min(f.least+1, f.most), (f.least + f.most) / 2, max(f.most-1, f.least), f.most}
}

// TestRange: each number that stands ahead of the lists, at its ends and outside.
func TestRange(t *testing.T) {
	for _, f := range []field{
		{"Nodes", func(c *api.Config) *int { return &c.Nodes }, 1, 7},
		{"Faulty", func(c *api.Config) *int { return &c.Faulty }, 0, 2},
		{"Slot", func(c *api.Config) *int { return &c.Slot }, 1, 1 << 24},
		{"Gap", func(c *api.Config) *int { return &c.Gap }, 0, 1 << 24},
		{"Rho", func(c *api.Config) *int { return &c.Rho }, 0, 200},
		{"Dmin", func(c *api.Config) *int { return &c.Dmin }, 0, 1 << 20},
		{"Margin", func(c *api.Config) *int { return &c.Margin }, 0, 1 << 24},
	} {
		for _, n := range f.rights() {
			c := api.Config{Nodes: 3, Faulty: 1, Slot: 5, Gap: 5, Rho: 5, Dmin: 5, Dmax: 1 << 20, Margin: 5}
			*f.of(&c) = n
			isSound(t, f.name, c)
		}
		for _, n := range f.wrongs() {
			c := most()
			c.Dmin = 0
			for i := range c.Parts {
				c.Parts[i].Node = 0
			}
			isSound(t, f.name+" ahead", c)
			*f.of(&c) = n
			isRefused(t, f.name, c, at(api.ErrRange, -1))
		}
	}
}

// TestDelays: Dmax up to its limit, Dmin up to Dmax.
func TestDelays(t *testing.T) {
	for _, most := range []int{0, 1, 2, 255, 256, 1<<20 - 1, 1 << 20} {
		f := field{"Dmin", nil, 0, most}
		for _, n := range f.rights() {
			isSound(t, "delays", api.Config{Nodes: 1, Slot: 1, Dmin: n, Dmax: most})
		}
		for _, n := range f.wrongs() {
			isRefused(t, "delays", api.Config{Nodes: 1, Slot: 1, Dmin: n, Dmax: most}, at(api.ErrRange, -1))
		}
	}
	for _, n := range (field{"Dmax", nil, 0, 1 << 20}).wrongs() {
		isRefused(t, "Dmax", api.Config{Nodes: 1, Slot: 1, Dmax: n}, at(api.ErrRange, -1))
		isRefused(t, "both delays", api.Config{Nodes: 1, Slot: 1, Dmin: n, Dmax: n}, at(api.ErrRange, -1))
	}
}

// TestMany: as many partitions, ports and routes as there may be, and more.
func TestMany(t *testing.T) {
	lists := func(parts, ports, routes int) api.Config {
		c := least()
		for range parts {
			c.Parts = append(c.Parts, api.Part{Length: 1})
		}
		for range ports {
			c.Ports = append(c.Ports, api.Port{Kind: api.Sampling})
		}
		c.Routes = make([]api.Route, routes)
		return c
	}
	for n := range 25 {
		isSound(t, "partitions", lists(min(n, 12), 0, 0))
		isSound(t, "ports", lists(1, n, 0))
		isSound(t, "routes", lists(1, 1, n))
	}
	many := at(api.ErrMany, -1)
	for _, n := range []int{25, 26, 127, 128, 255, 256, 257, 300, 70000} {
		isRefused(t, "partitions", lists(n-12, 0, 0), many)
		isRefused(t, "partitions", lists(n, 24, 24), many)
		isRefused(t, "ports", lists(12, n, 24), many)
		isRefused(t, "routes", lists(12, 24, n), many)
		isRefused(t, "all", lists(n, n, n), many)
	}
	isRefused(t, "partitions", lists(13, 0, 0), many)
}

// TestParts: each number of a partition, at its ends and outside, in any place.
func TestParts(t *testing.T) {
	for _, f := range []field{
		{"Node", func(c *api.Config) *int { return &c.Parts[0].Node }, 0, 4},
		{"Start", func(c *api.Config) *int { return &c.Parts[0].Start }, 0, 1 << 28},
		{"Length", func(c *api.Config) *int { return &c.Parts[0].Length }, 1, 1 << 28},
		{"Budget", func(c *api.Config) *int { return &c.Parts[0].Budget }, 0, 64},
		{"Words", func(c *api.Config) *int { return &c.Parts[0].Words }, 0, 16},
	} {
		for _, n := range f.rights() {
			c := full()
			*f.of(&c) = n
			isSound(t, f.name, c)
		}
		for _, n := range f.wrongs() {
			c := full()
			*f.of(&c) = n
			isRefused(t, f.name, c, at(api.ErrRange, 0))
			c.Parts[0], c.Parts[2] = c.Parts[2], c.Parts[0]
			isRefused(t, f.name+", last", c, at(api.ErrRange, 2))
			c.Parts[1].Budget = 65
			isRefused(t, f.name+", and a Budget ahead", c, at(api.ErrRange, 1))
		}
	}
}

// TestNodes: a partition's node is one of those there are.
func TestNodes(t *testing.T) {
	for nodes := 1; nodes <= 7; nodes++ {
		for node := -1; node <= 8; node++ {
			c := api.Config{Nodes: nodes, Slot: 1, Parts: []api.Part{{Length: 1}, {Node: node, Length: 1}}}
			if node >= 0 && node < nodes {
				isSound(t, "a node", c)
			} else {
				isRefused(t, "a node", c, at(api.ErrRange, 1))
			}
		}
	}
}

// TestRecover: each of the four actions is one that there is.
func TestRecover(t *testing.T) {
	for kind := range 4 {
		for action := range 256 {
			c := full()
			c.Parts[1].Recover[kind] = api.Action(action)
			if action <= 3 {
				isSound(t, "an action", c)
			} else {
				isRefused(t, "an action", c, at(api.ErrRange, 1))
			}
		}
	}
}

// lawful: may a port be so? By a second working of the chapter's words.
func lawful(p api.Port, parts int) bool {
	common := p.Part >= 0 && p.Part < parts && p.Size >= 0 && p.Size <= 16
	sampling := p.Kind == 1 && p.Depth == 0 && p.Fresh >= 0 && p.Fresh <= 8 && !(p.Out && p.Fresh != 0)
	queuing := p.Kind == 2 && p.Depth >= 1 && p.Depth <= 4 && p.Fresh == 0
	return common && (sampling || queuing)
}

// TestPorts: ports of all kinds and ways, with each number at its ends and outside.
func TestPorts(t *testing.T) {
	for _, kind := range []api.PortKind{0, 1, 2, 3, 4, 128, 255} {
		for _, out := range []bool{false, true} {
			for depth := -1; depth <= 6; depth++ {
				for fresh := -1; fresh <= 10; fresh++ {
					isPort(t, api.Port{Part: 1, Kind: kind, Out: out, Size: 3, Depth: depth, Fresh: fresh})
				}
			}
		}
	}
	for _, wrong := range []int{math.MinInt, -1 << 32, -256, 255, 256, 257, 1 << 32, 1<<32 + 1, math.MaxInt} {
		for _, kind := range []api.PortKind{1, 2} {
			isPort(t, api.Port{Part: 1, Kind: kind, Depth: wrong})
			isPort(t, api.Port{Part: 1, Kind: kind, Depth: int(kind) - 1, Fresh: wrong})
			isPort(t, api.Port{Part: wrong, Kind: kind, Depth: int(kind) - 1})
			isPort(t, api.Port{Part: 1, Kind: kind, Depth: int(kind) - 1, Size: wrong})
		}
	}
	for n := -2; n < 20; n++ {
		isPort(t, api.Port{Part: n, Kind: api.Sampling})
		isPort(t, api.Port{Part: n, Kind: api.Queuing, Depth: 1, Out: true})
		isPort(t, api.Port{Size: n, Kind: api.Sampling})
		isPort(t, api.Port{Size: n, Kind: api.Queuing, Depth: 1, Out: true})
	}
}

// isPort holds a port to be lawful, or to be refused, by the second working's word.
func isPort(t *testing.T, p api.Port) {
	t.Helper()
	right := api.Port{Part: 2, Kind: api.Sampling}
	c := api.Config{Nodes: 1, Slot: 1, Parts: []api.Part{{Length: 1}, {Length: 1}, {Length: 1}}, Ports: []api.Port{right, p, right}}
	if lawful(p, 3) {
		isSound(t, "a port", c)
		return
	}
	isRefused(t, "a port", c, at(api.ErrValue, 1))
	c.Ports[2].Size = 17
	isRefused(t, "a port ahead of another", c, at(api.ErrValue, 1))
	c.Ports[0].Size = 17
	isRefused(t, "a port behind another", c, at(api.ErrValue, 0))
}

// TestPortWords: the chapter's words on what is lawful, one by one.
func TestPortWords(t *testing.T) {
	tables := func(p api.Port) api.Config {
		return api.Config{Nodes: 1, Slot: 1, Parts: []api.Part{{Length: 1}}, Ports: []api.Port{p}}
	}
	for _, p := range []api.Port{
		{Kind: api.Sampling},
		{Kind: api.Sampling, Size: 16, Fresh: 8},
		{Kind: api.Sampling, Out: true, Size: 16},
		{Kind: api.Queuing, Depth: 1},
		{Kind: api.Queuing, Out: true, Size: 16, Depth: 4},
	} {
		isSound(t, "a lawful port", tables(p))
	}
	for _, p := range []api.Port{
		{},
		{Kind: 3, Depth: 1},
		{Part: 1, Kind: api.Sampling},
		{Part: -1, Kind: api.Sampling},
		{Kind: api.Sampling, Size: 17},
		{Kind: api.Sampling, Size: -1},
		{Kind: api.Sampling, Depth: 1},
		{Kind: api.Sampling, Fresh: 9},
		{Kind: api.Sampling, Fresh: -1},
		{Kind: api.Sampling, Out: true, Fresh: 1},
		{Kind: api.Queuing},
		{Kind: api.Queuing, Depth: 5},
		{Kind: api.Queuing, Depth: 1, Fresh: 1},
	} {
		isRefused(t, "an unlawful port", tables(p), at(api.ErrValue, 0))
	}
}

// TestRoutes: both ends of a route are ports, whatever ports they are.
func TestRoutes(t *testing.T) {
	for _, n := range []int{math.MinInt, -1 << 32, -256, -1, 4, 5, 23, 24, 255, 256, 1 << 32, math.MaxInt} {
		c := full()
		c.Routes[1].From = n
		isRefused(t, "From", c, at(api.ErrRoute, 1))
		c.Routes[0].To = n
		isRefused(t, "From, and To ahead", c, at(api.ErrRoute, 0))
		c = full()
		c.Routes[2].To = n
		isRefused(t, "To", c, at(api.ErrRoute, 2))
	}
	for from := range 4 {
		for to := range 4 {
			c := full()
			c.Routes = append(c.Routes, api.Route{From: from, To: to})
			isSound(t, "a route", c)
		}
	}
}

// TestFirst: of several errors the first in the chapter's order is told.
func TestFirst(t *testing.T) {
	c := full()
	c.Margin = -1
	c.Parts = slices.Repeat(c.Parts, 5)
	c.Parts[4].Node = 5
	c.Ports[2].Fresh = 9
	c.Routes[1].To = 4
	isRefused(t, "all", c, at(api.ErrRange, -1))
	c.Margin = 0
	isRefused(t, "too many and more", c, at(api.ErrMany, -1))
	c.Parts = c.Parts[:12]
	isRefused(t, "a partition and more", c, at(api.ErrRange, 4))
	c.Parts[4].Node = 4
	isRefused(t, "a port and a route", c, at(api.ErrValue, 2))
	c.Ports[2].Fresh = 8
	isRefused(t, "a route", c, at(api.ErrRoute, 1))
	c.Routes[1].To = 3
	isSound(t, "none", c)
}

// TestCheckBytes: of what isn't sealed nothing is read.
func TestCheckBytes(t *testing.T) {
	refusal := at(api.ErrTable, -1, at(api.ErrCheck, -1))
	isUnread(t, "nothing", nil, refusal)
	b := isSound(t, "full tables", full())
	for n := range b {
		isUnread(t, "a beginning", b[:n], refusal)
		isUnread(t, "an end", b[n+1:], refusal)
	}
	for i := range 8 * len(b) {
		turned := slices.Clone(b)
		turned[i/8] ^= 1 << (i % 8)
		isUnread(t, "a turned bit", turned, refusal)
	}
	isUnread(t, "a byte more", append(slices.Clone(b), 0), refusal)
}

// TestMaxImage: more bytes than an image may have are refused ahead of all else.
func TestMaxImage(t *testing.T) {
	body := written(full())
	n := len(body)
	many := at(api.ErrTable, -1, at(api.ErrMany, -1))
	filled := func(size int) []byte { return sealed(slices.Concat(body, make([]byte, size-4-n))) }
	isUnread(t, "4095 bytes", filled(4095), at(api.ErrTable, n, at(api.ErrExtra, n)))
	isUnread(t, "4096 bytes", filled(4096), at(api.ErrTable, n, at(api.ErrExtra, n)))
	isUnread(t, "4096 bytes, not sealed", make([]byte, 4096), at(api.ErrTable, -1, at(api.ErrCheck, -1)))
	for _, size := range []int{4097, 4098, 5000, 8192, 1 << 20} {
		isUnread(t, "too many bytes", filled(size), many)
		isUnread(t, "too many bytes, not sealed", make([]byte, size), many)
	}
}

// TestMark: what doesn't begin as an image is read no further.
func TestMark(t *testing.T) {
	refusal := at(api.ErrTable, 4, at(api.ErrKind, 0))
	body := written(full())
	for i := range 4 * 8 {
		turned := slices.Clone(body)
		turned[i/8] ^= 1 << (i % 8)
		isUnread(t, "another mark", sealed(turned), refusal)
		isUnread(t, "another mark, and too few bytes", sealed(turned[:4]), refusal)
		isUnread(t, "another mark, and bytes left", sealed(append(turned, 1)), refusal)
		turned[33+3*15+2] = 2
		isUnread(t, "another mark, and another Out", sealed(turned), refusal)
	}
	isUnread(t, "zeros", sealed(make([]byte, 4)), refusal)
	isUnread(t, "the mark the other way round", sealed([]byte("1CSE")), refusal)
	isUnread(t, "the mark alone", sealed([]byte("ESC1")), at(api.ErrTable, 4, at(api.ErrShort, 4)))
	for n := range 4 {
		isUnread(t, "a part of the mark", sealed([]byte("ESC1")[:n]), at(api.ErrTable, 0, at(api.ErrShort, 0)))
		isUnread(t, "a part of another mark", sealed(make([]byte, n)), at(api.ErrTable, 0, at(api.ErrShort, 0)))
	}
}

// TestOut: a port's Out that is neither 0 nor 1 is told at the port, and the reading stops behind it.
func TestOut(t *testing.T) {
	for _, c := range []api.Config{full(), most()} {
		for i := range c.Ports {
			for _, out := range []byte{2, 3, 127, 128, 254, 255} {
				body := written(c)
				place := 33 + len(c.Parts)*15 + i*6 + 2
				body[place] = out
				refusal := at(api.ErrTable, place+1, at(api.ErrValue, i))
				isUnread(t, "an Out", sealed(body), refusal)
				isUnread(t, "an Out, and too few bytes", sealed(body[:place+1]), refusal)
				isUnread(t, "an Out, and bytes left", sealed(append(body, 0)), refusal)
				isUnread(t, "an Out that isn't there", sealed(body[:place]), at(api.ErrTable, place, at(api.ErrShort, place)))
				body[4] = 0
				isUnread(t, "an Out, and no nodes", sealed(body), refusal)
				if next := place + 6; next < 33+len(c.Parts)*15+len(c.Ports)*6 {
					body[next] = 2
					isUnread(t, "two Outs", sealed(body), refusal)
				}
			}
		}
	}
}

// TestOutBeyond: an Out is looked at though there are too many ports, and no partitions.
func TestOutBeyond(t *testing.T) {
	c := least()
	c.Ports = make([]api.Port, 255)
	body := written(c)
	isUnread(t, "255 ports", sealed(body), at(api.ErrTable, len(body), at(api.ErrMany, -1)))
	body[33+200*6+2] = 7
	isUnread(t, "the port 200", sealed(body), at(api.ErrTable, 33+200*6+3, at(api.ErrValue, 200)))
}

// sizes of the tables' fields, one by one.
func sizes(c api.Config) []int {
	out := []int{4, 1, 1, 4, 4, 4, 4, 4, 4, 1, 1, 1}
	for range c.Parts {
		out = append(out, 1, 4, 4, 1, 1, 1, 1, 1, 1)
	}
	for range 6*len(c.Ports) + 2*len(c.Routes) {
		out = append(out, 1)
	}
	return out
}

// TestShort: where bytes are too few, the place is that of the field that isn't whole.
func TestShort(t *testing.T) {
	for _, c := range []api.Config{least(), full(), most()} {
		body := written(c)
		begin := 0
		for _, size := range sizes(c) {
			for n := begin; n < begin+size; n++ {
				isUnread(t, "a part", sealed(body[:n]), at(api.ErrTable, begin, at(api.ErrShort, begin)))
			}
			begin += size
		}
		if begin != len(body) {
			t.Errorf("%d bytes in fields, of %d", begin, len(body))
		}
	}
}

// TestShortFirst: bytes that are too few, or left, are told ahead of what is wrong with those that are there.
func TestShortFirst(t *testing.T) {
	c := api.Config{Nodes: 8, Parts: make([]api.Part, 13), Ports: make([]api.Port, 25), Routes: make([]api.Route, 25)}
	body := written(c)
	n := len(body)
	isUnread(t, "a byte too few", sealed(body[:n-1]), at(api.ErrTable, n-1, at(api.ErrShort, n-1)))
	isUnread(t, "a byte more", sealed(append(body, 0)), at(api.ErrTable, n, at(api.ErrExtra, n)))
	isUnread(t, "as many bytes", sealed(body), at(api.ErrTable, n, at(api.ErrRange, -1)))
	c.Nodes, c.Slot = 7, 1
	isUnread(t, "as many bytes", sealed(written(c)), at(api.ErrTable, n, at(api.ErrMany, -1)))
	head := written(least())[:30]
	for i := range 3 {
		counts := make([]byte, 3)
		counts[i] = 255
		isUnread(t, "255 that aren't there", sealed(append(slices.Clone(head), counts...)), at(api.ErrTable, 33, at(api.ErrShort, 33)))
	}
}

// TestExtra: bytes behind the tables are told at their end.
func TestExtra(t *testing.T) {
	for _, c := range []api.Config{least(), full(), most()} {
		body := written(c)
		n := len(body)
		for _, more := range []int{1, 2, 4, 6, 15, 1000} {
			isUnread(t, "bytes more", sealed(append(slices.Clone(body), make([]byte, more)...)), at(api.ErrTable, n, at(api.ErrExtra, n)))
		}
		isUnread(t, "sealed twice", sealed(sealed(body)), at(api.ErrTable, n, at(api.ErrExtra, n)))
	}
}

// TestWide: a number of four bytes that is read is not taken for a negative one, nor cut.
func TestWide(t *testing.T) {
	body := written(full())
	n := len(body)
	for _, place := range []int{6, 10, 14, 18, 22, 26} {
		for _, high := range []byte{0x02, 0x80, 0xff} {
			b := slices.Clone(body)
			b[place] = high
			isUnread(t, "a number", sealed(b), at(api.ErrTable, n, at(api.ErrRange, -1)))
		}
	}
	for _, place := range []int{34, 38} {
		for _, high := range []byte{0x11, 0x80, 0xff} {
			b := slices.Clone(body)
			b[place+15] = high
			isUnread(t, "a partition's number", sealed(b), at(api.ErrTable, n, at(api.ErrRange, 1)))
		}
	}
}

// someTables are tables by chance; wild: with numbers that may be wrong.
func someTables(chance *rand.Rand, wild bool) api.Config {
	upTo := func(least, right, wrong int) int {
		if wild && chance.Intn(200) == 0 {
			return chance.Intn(wrong + 1)
		}
		return least + chance.Intn(right-least+1)
	}
	c := api.Config{Nodes: upTo(1, 7, 12), Faulty: upTo(0, 2, 5), Slot: upTo(1, 1<<24, 1<<25), Gap: upTo(0, 1<<24, 1<<25)}
	c.Rho, c.Dmax, c.Margin = upTo(0, 200, 300), upTo(0, 1<<20, 1<<21), upTo(0, 1<<24, 1<<25)
	c.Dmin = upTo(0, c.Dmax, 1<<20)
	for range upTo(1, 12, 15) {
		p := api.Part{Node: upTo(0, max(c.Nodes-1, 0), 8), Start: upTo(0, 1<<28, 1<<29), Length: upTo(1, 1<<28, 1<<29)}
		p.Budget, p.Words = upTo(0, 64, 80), upTo(0, 16, 20)
		for k := range p.Recover {
			p.Recover[k] = api.Action(upTo(0, 3, 6))
		}
		c.Parts = append(c.Parts, p)
	}
	for range upTo(1, 24, 30) {
		p := api.Port{Part: upTo(0, max(len(c.Parts)-1, 0), 14), Kind: api.PortKind(upTo(1, 2, 4)), Out: chance.Intn(2) == 1, Size: upTo(0, 16, 20)}
		switch {
		case p.Kind == api.Queuing:
			p.Depth, p.Fresh = upTo(1, 4, 6), upTo(0, 0, 3)
		case p.Out:
			p.Depth, p.Fresh = upTo(0, 0, 3), upTo(0, 0, 9)
		default:
			p.Depth, p.Fresh = upTo(0, 0, 3), upTo(0, 8, 12)
		}
		c.Ports = append(c.Ports, p)
	}
	for range upTo(0, 24, 30) {
		c.Routes = append(c.Routes, api.Route{From: upTo(0, max(len(c.Ports)-1, 0), 30), To: upTo(0, max(len(c.Ports)-1, 0), 30)})
	}
	return c
}

// reason is what is wrong with tables, by a second working of the chapter's words; nil.
func reason(c api.Config) error {
	out := func(n, least, most int) bool { return n < least || most < n }
	switch {
	case out(c.Nodes, 1, 7), out(c.Faulty, 0, 2), out(c.Slot, 1, 16777216), out(c.Gap, 0, 16777216),
		out(c.Rho, 0, 200), out(c.Dmax, 0, 1048576), out(c.Dmin, 0, c.Dmax), out(c.Margin, 0, 16777216):
		return at(api.ErrRange, -1)
	case len(c.Parts) > 12, len(c.Ports) > 24, len(c.Routes) > 24:
		return at(api.ErrMany, -1)
	}
	for i, p := range c.Parts {
		wrong := out(p.Node, 0, c.Nodes-1) || out(p.Start, 0, 268435456) || out(p.Length, 1, 268435456) || out(p.Budget, 0, 64) || out(p.Words, 0, 16)
		for _, a := range p.Recover {
			wrong = wrong || a > 3
		}
		if wrong {
			return at(api.ErrRange, i)
		}
	}
	for i, p := range c.Ports {
		if !lawful(p, len(c.Parts)) {
			return at(api.ErrValue, i)
		}
	}
	for i, r := range c.Routes {
		if out(r.From, 0, len(c.Ports)-1) || out(r.To, 0, len(c.Ports)-1) {
			return at(api.ErrRoute, i)
		}
	}
	return nil
}

func TestRightTables(t *testing.T) {
	chance := rand.New(rand.NewSource(4))
	for range 2000 {
		isSound(t, "tables by chance", someTables(chance, false))
	}
}

func TestWildTables(t *testing.T) {
	chance := rand.New(rand.NewSource(5))
	refused := 0
	for range 5000 {
		c := someTables(chance, true)
		if err := reason(c); err != nil {
			refused++
			isRefused(t, "wild tables", c, err)
			continue
		}
		isSound(t, "wild tables", c)
	}
	if refused < 500 || refused > 4900 {
		t.Errorf("%d of 5000 wild tables are refused: chance is badly laid", refused)
	}
}

// model reads bytes as the chapter words it: what is left of them, and whether they were too few.
type model struct {
	left  []byte
	taken int
	short bool
}

func (m *model) take(size int) int {
	if m.short = m.short || len(m.left) < size; m.short {
		return 0
	}
	n := 0
	for _, c := range m.left[:size] {
		n = n*256 + int(c)
	}
	m.left, m.taken = m.left[size:], m.taken+size
	return n
}

// modelRead is what bytes tell, by a second working of the chapter's words.
func modelRead(b []byte) (api.Config, error) {
	n := len(b) - 4
	if n > 4092 {
		return api.Config{}, at(api.ErrTable, -1, at(api.ErrMany, -1))
	}
	if n < 0 || !bytes.Equal(sealed(b[:n]), b) {
		return api.Config{}, at(api.ErrTable, -1, at(api.ErrCheck, -1))
	}
	if n >= 4 && string(b[:4]) != "\x45\x53\x43\x31" {
		return api.Config{}, at(api.ErrTable, 4, at(api.ErrKind, 0))
	}
	m := &model{left: b[:n]}
	m.take(4)
	var c api.Config
	c.Nodes, c.Faulty = m.take(1), m.take(1)
	c.Slot, c.Gap, c.Rho, c.Dmin, c.Dmax, c.Margin = m.take(4), m.take(4), m.take(4), m.take(4), m.take(4), m.take(4)
	parts, ports, routes := m.take(1), m.take(1), m.take(1)
	for range parts {
		p := api.Part{Node: m.take(1), Start: m.take(4), Length: m.take(4), Budget: m.take(1), Words: m.take(1)}
		for k := range p.Recover {
			p.Recover[k] = api.Action(m.take(1))
		}
		c.Parts = append(c.Parts, p)
	}
	for i := range ports {
		p := api.Port{Part: m.take(1), Kind: api.PortKind(m.take(1))}
		out := m.take(1)
		if out != 0 && out != 1 {
			return api.Config{}, at(api.ErrTable, m.taken, at(api.ErrValue, i))
		}
		p.Out = out != 0
		p.Size, p.Depth, p.Fresh = m.take(1), m.take(1), m.take(1)
		c.Ports = append(c.Ports, p)
	}
	for range routes {
		c.Routes = append(c.Routes, api.Route{From: m.take(1), To: m.take(1)})
	}
	err := reason(c)
	if len(m.left) > 0 {
		err = at(api.ErrExtra, m.taken)
	}
	if m.short {
		err = at(api.ErrShort, m.taken)
	}
	if err != nil {
		return api.Config{}, at(api.ErrTable, m.taken, err)
	}
	return c, nil
}

// checkRead holds what bytes tell against the model, and what is read to be written as just these bytes.
func checkRead(t *testing.T, b []byte) {
	t.Helper()
	want, reason := modelRead(b)
	if reason != nil {
		isUnread(t, "any bytes", b, reason)
		return
	}
	got, err := table.Decode(b)
	if err != nil || !alike(got, want) {
		t.Errorf("P5.3: Decode of %x: %v, %v, not %v", b, got, err, want)
	}
	again, err := table.Encode(got)
	if err != nil || !bytes.Equal(again, b) {
		t.Errorf("P5.4, P11: Encode of Decode of %x: %x, %v", b, again, err)
	}
}

// TestAnyBytes: every list of bytes is read or refused, sealed ones and others, with the mark and without.
func TestAnyBytes(t *testing.T) {
	chance := rand.New(rand.NewSource(6))
	for range 20000 {
		b := make([]byte, chance.Intn(120))
		chance.Read(b)
		for i := range b {
			b[i] >>= chance.Intn(9) // so that some of it is right
		}
		checkRead(t, b)
		checkRead(t, sealed(b))
		checkRead(t, sealed(append([]byte("ESC1"), b...)))
	}
}

// TestChangedBytes: images, changed here and there and sealed again, some of which are images still.
func TestChangedBytes(t *testing.T) {
	chance := rand.New(rand.NewSource(7))
	read := 0
	for range 20000 {
		body := written(someTables(chance, false))
		for range 1 + chance.Intn(2) {
			body[chance.Intn(len(body))] = byte(chance.Intn(256) >> chance.Intn(8))
		}
		b := sealed(body)
		checkRead(t, b)
		if _, err := modelRead(b); err == nil {
			read++
		}
	}
	if read < 2000 || read > 18000 {
		t.Errorf("%d of 20000 changed images are read: chance is badly laid", read)
	}
}

// roomy is a list with spare room behind it, all of which is the filler.
func roomy[T any](l []T, filler T) []T {
	out := slices.Clone(l)
	for range 5 {
		out = append(out, filler)
	}
	return out[:len(l)]
}

// roomyTables are tables all of whose lists have spare room.
func roomyTables(c api.Config) api.Config {
	c.Parts = roomy(c.Parts, api.Part{Node: 77})
	c.Ports = roomy(c.Ports, api.Port{Part: 77})
	c.Routes = roomy(c.Routes, api.Route{From: 77})
	return c
}

// stretched is tables with the spare room of their lists (those that roomyTables made) as a part of them.
func stretched(c api.Config) api.Config {
	c.Parts = c.Parts[:len(c.Parts)+5]
	c.Ports = c.Ports[:len(c.Ports)+5]
	c.Routes = c.Routes[:len(c.Routes)+5]
	return clone(c)
}

// TestHandedIn: neither tables nor bytes that are handed in are changed or kept, their spare room included.
func TestHandedIn(t *testing.T) {
	for _, c := range []api.Config{least(), full(), most()} {
		in := roomyTables(c)
		before := stretched(in)
		if err := table.Check(in); err != nil {
			t.Error(err)
		}
		b, err := table.Encode(in)
		if err != nil || !reflect.DeepEqual(stretched(in), before) {
			t.Errorf("R6: Encode changes tables (%v)", err)
		}
		bytesIn := roomy(b, 0xa5)
		got, err := table.Decode(bytesIn)
		if err != nil || !bytes.Equal(bytesIn[:len(b)+5], append(slices.Clone(b), 0xa5, 0xa5, 0xa5, 0xa5, 0xa5)) {
			t.Errorf("R6: Decode changes bytes (%v)", err)
		}
		clear(bytesIn[:cap(bytesIn)])
		if !alike(got, c) {
			t.Error("R6: what Decode answers shares memory with the bytes")
		}
	}
}

// TestAnswersNew: answers share no memory with each other, spare room included.
func TestAnswersNew(t *testing.T) {
	b := isSound(t, "full tables", full())
	one, err1 := table.Encode(full())
	two, err2 := table.Encode(full())
	if err1 != nil || err2 != nil {
		t.Fatal(err1, err2)
	}
	clear(one[:cap(one)])
	if !bytes.Equal(two, b) {
		t.Error("R6: what Encode answers shares memory")
	}
	c, err1 := table.Decode(b)
	other, err2 := table.Decode(b)
	if err1 != nil || err2 != nil {
		t.Fatal(err1, err2)
	}
	clear(c.Parts[:cap(c.Parts)])
	clear(c.Ports[:cap(c.Ports)])
	clear(c.Routes[:cap(c.Routes)])
	if !alike(other, full()) {
		t.Error("R6: what Decode answers shares memory")
	}
}

// TestErrorsNew: an error that was answered may be changed; the next one is as it should be.
func TestErrorsNew(t *testing.T) {
	for range 2 {
		_, err := table.Encode(api.Config{})
		isError(t, "R6: Encode", err, at(api.ErrTable, -1, at(api.ErrRange, -1)))
		spoil(err)
		_, err = table.Decode(nil)
		isError(t, "R6: Decode", err, at(api.ErrTable, -1, at(api.ErrCheck, -1)))
		spoil(err)
		err = table.Check(api.Config{Nodes: 1, Slot: 1, Parts: make([]api.Part, 13)})
		isError(t, "R6: Check", err, at(api.ErrMany, -1))
		spoil(err)
	}
}

// spoil changes an error and what it is laid over.
func spoil(err error) {
	for err != nil {
		f, ok := err.(*api.Fault)
		if !ok {
			return
		}
		err = f.Cause
		f.Code, f.At = api.ErrGap, 77
	}
}

// TestAsked: the errors can be asked by errors.Is, errors.As and package fault.
func TestAsked(t *testing.T) {
	_, err := table.Decode(sealed([]byte("ESC1\x01")))
	var f *api.Fault
	if !errors.Is(err, api.ErrTable) || !errors.Is(err, api.ErrShort) || errors.Is(err, api.ErrCheck) || !errors.As(err, &f) || f.At != 5 {
		t.Errorf("P5.3: %v", err)
	}
	if !slices.Equal(fault.Trail(err), []api.Errno{api.ErrTable, api.ErrShort}) || fault.Root(err) != api.ErrShort || fault.Place(err) != 5 {
		t.Errorf("P5.3: Trail %v, Place %d", fault.Trail(err), fault.Place(err))
	}
}

// TestSame: the answers depend on the arguments alone, whoever else calls.
func TestSame(t *testing.T) {
	var all sync.WaitGroup
	for seed := range int64(4) {
		all.Add(1)
		go func() {
			defer all.Done()
			chance := rand.New(rand.NewSource(seed))
			for range 200 {
				c := someTables(chance, true)
				one, err1 := table.Encode(c)
				two, err2 := table.Encode(clone(c))
				if !bytes.Equal(one, two) || !reflect.DeepEqual(err1, err2) {
					t.Errorf("R8: %x %v, then %x %v", one, err1, two, err2)
				}
				checkRead(t, sealed(written(c)))
			}
		}()
	}
	all.Wait()
}

// FuzzDecode: of any bytes, sealed or not, Decode answers what the chapter's words say.
func FuzzDecode(f *testing.F) {
	f.Add([]byte{})
	f.Add(make([]byte, 37))
	f.Add(written(least()))
	f.Add(written(full()))
	f.Add(written(most()))
	f.Fuzz(func(t *testing.T, b []byte) {
		before := slices.Clone(b)
		checkRead(t, b)
		checkRead(t, sealed(b))
		if !bytes.Equal(b, before) {
			t.Error("R6: what was handed in is changed")
		}
	})
}
