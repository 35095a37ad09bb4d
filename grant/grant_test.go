package grant

import (
	"fmt"
	"math"
	"math/big"
	"regexp"
	"slices"
	"strings"
	"testing"

	"chitty/addr"
	"chitty/api"
	"chitty/caveat"
)

var (
	// lettered: a name of an operation.
	lettered = regexp.MustCompile(`\A[a-z]{1,16}\z`)
	// shaped: a text that a right path could be, were it not for names of points alone and for its length.
	shaped = regexp.MustCompile(`\A(/|(/[a-zA-Z0-9._-]{1,64})+)\z`)
)

// last is the greatest clock.
const last = math.MaxUint64

// dump: all of a predicate's fields, one of 0, -0 and each NaN told from the others; none of its names and no list of them are one.
func dump(p api.Pred) string {
	return fmt.Sprintf("kind %d, time %d, %d names %.200q, path %.200q, %v %x/%d, cost %016x", p.Kind, p.Time, len(p.Names), p.Names, p.Path, p.Net.Addr.V6, p.Net.Addr.B, p.Net.Bits, math.Float64bits(p.Cost))
}

// dumpAll: the same of some, one a line.
func dumpAll(l []api.Pred) string {
	var out strings.Builder
	for _, p := range l {
		out.WriteString(dump(p) + "\n")
	}
	return out.String()
}

// tell: a request, and a clock.
func tell(r api.Request, clock uint64) string {
	return fmt.Sprintf("op %.80q, path %.80q, from %v %x, cost %016x, by the clock %d", r.Op, r.Path, r.From.V6, r.From.B, math.Float64bits(r.Cost), clock)
}

// rightPath: is it right? Told by its shape.
func rightPath(p string) bool {
	return len(p) <= 256 && shaped.MatchString(p) && !strings.Contains(p+"/", "/./") && !strings.Contains(p+"/", "/../")
}

// comes: the path that a text comes to; empty, if there is none. Told from the text's end on: each .. waits for the name that it takes away.
func comes(s string) string {
	if !strings.HasPrefix(s, "/") {
		return ""
	}
	made, waiting := "", 0
	pieces := strings.Split(s, "/")[1:]
	for _, piece := range slices.Backward(pieces) {
		switch {
		case piece == "..":
			waiting++
		case piece == "" || piece == ".":
		case !rightPath("/" + piece):
			return ""
		case waiting > 0:
			waiting--
		default:
			made = "/" + piece + made
		}
	}
	if made == "" {
		made = "/"
	}
	if waiting > 0 || !rightPath(made) {
		return ""
	}
	return made
}

// bitsOf: an address's bits as digits; empty, if it can't be.
func bitsOf(a api.Addr) string {
	var out strings.Builder
	for _, x := range a.B {
		fmt.Fprintf(&out, "%08b", x)
	}
	s := out.String()
	switch {
	case a.V6:
		return s
	case strings.Contains(s[32:], "1"):
		return ""
	}
	return s[:32]
}

// ownRight: is a predicate of a kind, and its own field one that it may have? And the predicate of this field alone.
func ownRight(p api.Pred) (bool, api.Pred) {
	own := api.Pred{Kind: p.Kind}
	switch p.Kind {
	case 1, 2:
		own.Time = p.Time
		return true, own
	case 3:
		own.Names = p.Names
		strange := func(s string) bool { return !lettered.MatchString(s) }
		sorted := slices.Compact(slices.Sorted(slices.Values(p.Names)))
		joined := "op " + strings.Join(p.Names, ",")
		return len(p.Names) >= 1 && len(p.Names) <= 32 && len(joined) <= 512 && !slices.ContainsFunc(p.Names, strange) && slices.Equal(sorted, p.Names), own
	case 4:
		own.Path = p.Path
		return rightPath(p.Path), own
	case 5:
		own.Net = p.Net
		all := bitsOf(p.Net.Addr)
		return all != "" && p.Net.Bits >= 0 && p.Net.Bits <= len(all) && !strings.Contains(all[p.Net.Bits:], "1"), own
	case 6:
		own.Cost = p.Cost
		return !math.IsNaN(p.Cost), own
	}
	return false, own
}

// canBe: can a predicate be? Told without the layers below.
func canBe(p api.Pred) bool {
	ok, own := ownRight(p)
	return ok && dump(p) == dump(own)
}

// asked: does a predicate hold? Told without the layers below: by texts, digits of bits, and the library's own numbers.
func asked(p api.Pred, r api.Request, clock uint64) bool {
	if !canBe(p) {
		return false
	}
	switch p.Kind {
	case 1:
		return new(big.Int).SetUint64(clock).Cmp(new(big.Int).SetUint64(p.Time)) < 0
	case 2:
		return new(big.Int).SetUint64(clock).Cmp(new(big.Int).SetUint64(p.Time)) >= 0
	case 3:
		return lettered.MatchString(r.Op) && strings.Contains(","+strings.Join(p.Names, ",")+",", ","+r.Op+",")
	case 4:
		s := comes(r.Path)
		return s != "" && (p.Path == "/" || strings.HasPrefix(s+"/", p.Path+"/"))
	case 5:
		return bitsOf(r.From) != "" && p.Net.Addr.V6 == r.From.V6 && strings.HasPrefix(bitsOf(r.From), bitsOf(p.Net.Addr)[:p.Net.Bits])
	}
	return !math.IsNaN(r.Cost) && big.NewFloat(r.Cost).Cmp(big.NewFloat(p.Cost)) <= 0
}

// holds: does the predicate, and its text, hold or not, as want says?
func holds(t *testing.T, want bool, p api.Pred, r api.Request, clock uint64) {
	t.Helper()
	if got := Holds(p, r, clock); got != want {
		t.Errorf("Holds of %s, of %s: %v", dump(p), tell(r, clock), got)
	}
	if asked(p, r, clock) != want {
		t.Errorf("%s holds for the tests of %s: %v", dump(p), tell(r, clock), !want)
	}
	s := caveat.Text(p)
	if (s != "") != canBe(p) {
		t.Errorf("%s can be for the tests: %v", dump(p), canBe(p))
	}
	if got := Text(s, r, clock); got != want {
		t.Errorf("Text of %.200q, of %s: %v", s, tell(r, clock), got)
	}
	if got := All([]string{s}, r, clock); got != want {
		t.Errorf("All of %.200q, of %s: %v", s, tell(r, clock), got)
	}
}

// judge: holds, whichever asked tells.
func judge(t *testing.T, p api.Pred, r api.Request, clock uint64) {
	t.Helper()
	holds(t, asked(p, r, clock), p, r, clock)
}

// lies: does the text hold of no request, by no clock?
func lies(t *testing.T, s string) {
	t.Helper()
	for _, r := range requests() {
		for _, clock := range clocks() {
			if Text(s, r, clock) || All([]string{s}, r, clock) {
				t.Errorf("%.200q holds of %s", s, tell(r, clock))
			}
		}
	}
}

// The predicates of one field alone.
func before(n uint64) api.Pred     { return api.Pred{Kind: 1, Time: n} }
func since(n uint64) api.Pred      { return api.Pred{Kind: 2, Time: n} }
func ops(names ...string) api.Pred { return api.Pred{Kind: 3, Names: names} }
func under(p string) api.Pred      { return api.Pred{Kind: 4, Path: p} }
func within(a api.Addr, bits int) api.Pred {
	return api.Pred{Kind: 5, Net: api.Range{Addr: a, Bits: bits}}
}
func atMost(f float64) api.Pred { return api.Pred{Kind: 6, Cost: f} }

// The requests of one field alone.
func doing(op string) api.Request   { return api.Request{Op: op} }
func at(p string) api.Request       { return api.Request{Path: p} }
func from(a api.Addr) api.Request   { return api.Request{From: a} }
func costing(f float64) api.Request { return api.Request{Cost: f} }

// minus0: 0 with a sign.
func minus0() float64 { return math.Copysign(0, -1) }

// six: an address of 16 bytes, its first numbers these.
func six(first ...uint16) api.Addr {
	var l [8]uint16
	copy(l[:], first)
	return addr.Six(l)
}

// turned: an address with one bit turned.
func turned(a api.Addr, bit int) api.Addr {
	a.B[bit/8] ^= 0x80 >> (bit % 8)
	return a
}

// cut: an address with 0 from a bit on.
func cut(a api.Addr, bits int) api.Addr {
	for i := bits; i < 128; i++ {
		a.B[i/8] &^= 0x80 >> (i % 8)
	}
	return a
}

// whole: a request that has everything.
func whole() api.Request {
	return api.Request{Op: "read", Path: "/a//b/./x/../c/", From: addr.Four(10, 1, 2, 3), Cost: 1.5}
}

// noNumbers: costs that are none.
func noNumbers() []float64 {
	out := []float64{math.NaN()}
	for _, x := range []uint64{0x7ff8000000000000, 0x7fffffffffffffff, 0xfff8000000000000, 0xffffffffffffffff, 0x7ff0000000000001, 0xfff0000000000001} {
		out = append(out, math.Float64frombits(x))
	}
	return out
}

// clocks: the least and the greatest clock, and some between.
func clocks() []uint64 {
	return []uint64{0, 1, 7, 89, 90, 91, 1<<32 - 1, 1 << 32, 1<<63 - 1, 1 << 63, last - 1, last}
}

// requests: ordinary ones, those at the edges, and those that have nothing right.
func requests() []api.Request {
	out := []api.Request{{}, whole(), {Op: "list", Path: "/", From: six(0x2001, 0xdb8, 0, 0, 0, 0, 0, 1), Cost: minus0()}}
	for _, s := range []string{"read", "rea", "reads", "Read", "read,list", "op", "a", "", " ", "abcdefghijklmnop", "abcdefghijklmnopq", "read\x00"} {
		out = append(out, doing(s))
	}
	for _, s := range []string{"/", "/a", "/a/", "/a/b", "/ab", "/a/../b", "/..", "/a/../..", "", "a", "a/b", "/a b", "//", "/.", "/a/b/c/d", " /a", "/é", "/a\x00"} {
		out = append(out, at(s))
	}
	for _, a := range []api.Addr{{}, addr.Four(10, 1, 2, 3), addr.Four(255, 255, 255, 255), six(), six(0xa01, 0x203), six(0, 0, 0, 0, 0, 0xffff, 0xa01, 0x203), {B: [16]byte{10, 1, 2, 3, 1}}, {B: [16]byte{15: 128}}, {V6: true, B: [16]byte{15: 255}}} {
		out = append(out, from(a))
	}
	for _, f := range append(noNumbers(), 0, minus0(), 1, -1, 1.5, math.Inf(1), math.Inf(-1), math.MaxFloat64, -math.MaxFloat64, math.SmallestNonzeroFloat64, -math.SmallestNonzeroFloat64) {
		out = append(out, costing(f))
	}
	return out
}

// preds: predicates that can be, of each kind.
func preds() []api.Pred {
	out := []api.Pred{ops("read"), ops("list", "read", "write"), ops("a"), ops("abcdefghijklmnop"), ops("rea", "reads"), under("/"), under("/a"), under("/a/b"), under("/a/b/c"), under("/a/b/c/d"), under("/ab"), under("/b"),
		within(addr.Four(0, 0, 0, 0), 0), within(addr.Four(10, 0, 0, 0), 8), within(addr.Four(10, 1, 2, 3), 32), within(addr.Four(0, 0, 0, 0), 32), within(addr.Four(10, 1, 2, 2), 31), within(six(), 0), within(six(), 128), within(six(0x2001, 0xdb8), 32), within(six(0xa01, 0x203), 32), within(six(0, 0, 0, 0, 0, 0xffff), 96)}
	for _, n := range clocks() {
		out = append(out, before(n), since(n))
	}
	for _, f := range []float64{0, minus0(), 1, -1, 1.5, math.Inf(1), math.Inf(-1), math.MaxFloat64, -math.MaxFloat64, math.SmallestNonzeroFloat64, -math.SmallestNonzeroFloat64} {
		out = append(out, atMost(f))
	}
	return out
}

// P18.1

func TestExamples(t *testing.T) {
	holds(t, true, before(5), api.Request{}, 4)
	holds(t, false, before(5), api.Request{}, 5)
	holds(t, true, atMost(0), api.Request{}, 0)
	holds(t, false, atMost(0), costing(math.NaN()), 0)
	if !Text("before 5", api.Request{}, 4) || Text("before 5", api.Request{}, 5) || Text("cost 0", costing(math.NaN()), 0) || !Text("cost 0", costing(0), 0) {
		t.Error("examples")
	}
	// One of each kind, of which all hold of one request.
	r := whole()
	for _, p := range []api.Pred{{Kind: api.Before, Time: 8}, {Kind: api.Since, Time: 7}, {Kind: api.Ops, Names: []string{"read"}}, {Kind: api.Path, Path: "/a"}, {Kind: api.Net, Net: api.Range{Addr: addr.Four(10, 0, 0, 0), Bits: 8}}, {Kind: api.Cost, Cost: 2}} {
		holds(t, true, p, r, 7)
	}
}

// Everything that the lists have, by everything.
func TestAllByAll(t *testing.T) {
	for _, r := range requests() {
		for _, clock := range clocks() {
			for _, p := range preds() {
				if want := asked(p, r, clock); Holds(p, r, clock) != want {
					t.Errorf("Holds of %s, of %s: %v", dump(p), tell(r, clock), !want)
				}
			}
		}
	}
	for _, p := range preds() {
		if !canBe(p) || !caveat.Check(p) {
			t.Errorf("%s can't be", dump(p))
		}
	}
}

func TestTimes(t *testing.T) {
	for _, n := range clocks() {
		for _, clock := range clocks() {
			holds(t, clock < n, before(n), whole(), clock)
			holds(t, clock >= n, since(n), whole(), clock)
		}
		if n > 0 {
			holds(t, true, before(n), api.Request{}, n-1)
			holds(t, false, since(n), api.Request{}, n-1)
		}
		holds(t, false, before(n), api.Request{}, n)
		holds(t, true, since(n), api.Request{}, n)
		if n < last {
			holds(t, false, before(n), api.Request{}, n+1)
			holds(t, true, since(n), api.Request{}, n+1)
		}
	}
	for i := range 64 {
		n := uint64(1) << i
		for _, d := range []uint64{last, 0, 1} {
			for _, e := range []uint64{last, 0, 1} {
				judge(t, before(n+d), api.Request{}, n+e)
				judge(t, since(n+d), api.Request{}, n+e)
			}
		}
	}
	// Nothing is before 0; everything is since then. Nothing but the last clock is not before it.
	for _, clock := range clocks() {
		holds(t, false, before(0), api.Request{}, clock)
		holds(t, true, since(0), api.Request{}, clock)
		holds(t, clock != last, before(last), api.Request{}, clock)
		holds(t, clock == last, since(last), api.Request{}, clock)
	}
	// What else a request has doesn't matter to them.
	for _, r := range requests() {
		holds(t, true, before(90), r, 89)
		holds(t, false, before(90), r, 90)
		holds(t, false, since(90), r, 89)
		holds(t, true, since(90), r, 90)
	}
}

// some: so many names that rise, two letters each.
func some(many int) []string {
	var out []string
	for i := range many {
		out = append(out, string([]byte{byte('a' + i/26), byte('a' + i%26)}))
	}
	return out
}

func TestOps(t *testing.T) {
	p := ops("list", "read", "write")
	for _, op := range []string{"list", "read", "write"} {
		holds(t, true, p, doing(op), 0)
		holds(t, true, ops(op), doing(op), 0)
	}
	for _, op := range []string{"", "l", "lis", "ist", "lists", "listread", "list,read", "read,write", "list,read,write", ",", "rea", "ead", "reads", "Read", "READ", "read ", " read", "read\n", "read\x00", "x", "op", "op read", "write,", ",list", "réad", "read1", "\xff", strings.Repeat("read", 5000)} {
		holds(t, false, p, doing(op), 0)
		holds(t, false, ops("read"), doing(op), 0)
	}
	// So many names, and the Op each of them, and none.
	for many := 1; many <= 32; many++ {
		p := ops(some(many)...)
		for _, op := range p.Names {
			holds(t, true, p, doing(op), 0)
			holds(t, false, p, doing(op[:1]), 0)
			holds(t, false, p, doing(op+op), 0)
		}
		for _, op := range some(40)[many:] {
			holds(t, false, p, doing(op), 0)
		}
		// One is missing.
		for i, op := range p.Names {
			if left := slices.Delete(slices.Clone(p.Names), i, i+1); len(left) > 0 {
				holds(t, false, ops(left...), doing(op), 0)
			}
		}
	}
	// One name too many: the Op is among them, and there is no such predicate.
	for _, op := range some(33) {
		holds(t, false, ops(some(33)...), doing(op), 0)
	}
	// An Op that is no name holds of nothing, even if it is among what should be names.
	for _, op := range []string{"", "A", "a,b", "a b", "abcdefghijklmnopq", "1", "a1", "é", "\x00"} {
		holds(t, false, ops(op), doing(op), 0)
		holds(t, false, ops("a", op), doing(op), 0)
	}
	long := strings.Repeat("a", 16)
	holds(t, true, ops(long), doing(long), 0)
	holds(t, false, ops(long), doing(long[1:]), 0)
	holds(t, false, ops(long), doing(long+"a"), 0)
	// What else a request has doesn't matter.
	for _, r := range requests() {
		for _, clock := range clocks() {
			r.Op = "read"
			holds(t, true, p, r, clock)
			r.Op = "reed"
			holds(t, false, p, r, clock)
		}
	}
}

func TestPaths(t *testing.T) {
	for _, c := range []struct {
		top, text string
		want      bool
	}{
		{"/", "/", true}, {"/", "/a", true}, {"/", "/a/b/c", true}, {"/", "//", true}, {"/", "/.", true}, {"/", "/a/..", true}, {"/", "/a/../", true},
		{"/", "", false}, {"/", "a", false}, {"/", "a/b", false}, {"/", "/..", false}, {"/", "/../a", false}, {"/", "/a/../..", false}, {"/", "/a/../../a", false}, {"/", " /", false}, {"/", "/ ", false}, {"/", "/a b", false}, {"/", ".", false}, {"/", "..", false}, {"/", "/é", false}, {"/", "/a\x00", false}, {"/", "/a\n", false}, {"/", "\\", false}, {"/", "./a", false}, {"/", "/a/é/..", false},
		{"/a", "/a", true}, {"/a", "/a/", true}, {"/a", "//a", true}, {"/a", "/a//", true}, {"/a", "/./a", true}, {"/a", "/a/.", true}, {"/a", "/a/b", true}, {"/a", "/a/b/c/d", true}, {"/a", "/b/../a", true}, {"/a", "/a/b/..", true}, {"/a", "/a/b/../..//a", true}, {"/a", "/a/../a", true}, {"/a", "/a/...", true}, {"/a", "/a/..b", true},
		{"/a", "/", false}, {"/a", "/ab", false}, {"/a", "/a.b", false}, {"/a", "/a-", false}, {"/a", "/aa", false}, {"/a", "/A", false}, {"/a", "/b", false}, {"/a", "/b/a", false}, {"/a", "/a/..", false}, {"/a", "/a/../b", false}, {"/a", "/a/b/../../c", false}, {"/a", "/a/../ab", false}, {"/a", "a", false}, {"/a", "", false}, {"/a", "/../a", false}, {"/a", "/a/../../a", false}, {"/a", "/a/b c", false},
		{"/a/b", "/a/b", true}, {"/a/b", "/a/b/c", true}, {"/a/b", "/a//b/./c/", true}, {"/a/b", "/a/x/../b", true}, {"/a/b", "/a", false}, {"/a/b", "/a/", false}, {"/a/b", "/a/bc", false}, {"/a/b", "/a/c/b", false}, {"/a/b", "/b/a", false}, {"/a/b", "/a/b/..", false}, {"/a/b", "/a/b/../c", false}, {"/a/b", "/b", false},
		{"/a.b", "/a.b/c", true}, {"/a.b", "/axb", false}, {"/...", "/...", true}, {"/...", "/a/...", false}, {"/A", "/A/a", true}, {"/A", "/a", false},
		// These can't be, whatever the request's is.
		{"", "/", false}, {"", "", false}, {"a", "/a", false}, {"a", "a", false}, {"/a/", "/a/", false}, {"/a/", "/a", false}, {"/a/", "/a/b", false}, {"//", "//", false}, {"//", "/", false}, {"/.", "/", false}, {"/..", "/..", false}, {"/a/../b", "/b", false}, {"/a b", "/a b", false}, {"/a//b", "/a/b", false}, {"/a/.", "/a", false}, {"/é", "/é", false},
	} {
		holds(t, c.want, under(c.top), at(c.text), 0)
	}
	// What else a request has doesn't matter.
	for _, r := range requests() {
		for _, clock := range clocks() {
			r.Path = "/a/b/../c"
			holds(t, true, under("/a/c"), r, clock)
			holds(t, false, under("/a/b"), r, clock)
		}
	}
}

// All rows of a few pieces, by all paths of a few names.
func TestRowsOfPieces(t *testing.T) {
	rows := []string{""}
	for range 4 {
		for _, s := range slices.Clone(rows) {
			for _, piece := range []string{"", ".", "..", "a", "b", "ab", "?"} {
				rows = append(rows, s+"/"+piece)
			}
		}
		rows = slices.Compact(slices.Sorted(slices.Values(rows)))
	}
	for _, top := range []string{"/", "/a", "/b", "/ab", "/a/a", "/a/b", "/b/a", "/a/b/a", "/a/a/a/a", "/a/ab"} {
		for _, s := range rows {
			p, r := under(top), at(s)
			if want := asked(p, r, 0); Holds(p, r, 0) != want {
				t.Errorf("Holds of the path %q, of the path %q: %v", top, s, !want)
			}
		}
	}
}

func TestLongPaths(t *testing.T) {
	name := strings.Repeat("n", 64)
	deep := "/" + name + "/" + name + "/" + name + "/" + strings.Repeat("m", 60)
	if len(deep) != 256 {
		t.Fatal(len(deep))
	}
	holds(t, true, under(deep), at(deep), 0)
	holds(t, true, under("/"+name), at(deep), 0)
	holds(t, false, under(deep), at(deep[:255]), 0)
	holds(t, true, under("/"+name), at(deep[:255]), 0)
	// Of one byte more there is no Normal.
	for _, p := range []api.Pred{under(deep), under("/" + name), under("/")} {
		holds(t, false, p, at(deep+"m"), 0)
		holds(t, false, p, at(deep+"/m"), 0)
		holds(t, true, p, at(deep+"/m/.."), 0)
		holds(t, true, p, at(deep+"/"), 0)
		holds(t, true, p, at(strings.Repeat("/x/..", 5000)+deep), 0)
		holds(t, true, p, at(strings.Repeat("/", 100000)+deep), 0)
		holds(t, false, p, at(strings.Repeat("/..", 5000)+deep), 0)
	}
	holds(t, false, under(deep+"m"), at(deep+"m"), 0)
	holds(t, false, under("/"+name+"n"), at("/"+name+"n"), 0)
	holds(t, false, under("/"), at("/"+name+"n"), 0)
	holds(t, false, under("/"), at("/"+name+"n/.."), 0)
}

func TestNets(t *testing.T) {
	for _, a := range []api.Addr{addr.Four(10, 1, 2, 3), addr.Four(0, 0, 0, 0), addr.Four(255, 255, 255, 255), addr.Four(128, 0, 0, 1), six(0x2001, 0xdb8, 1, 2, 3, 4, 5, 6), six(), six(0xffff, 0xffff, 0xffff, 0xffff, 0xffff, 0xffff, 0xffff, 0xffff), six(0, 0, 0, 0, 0, 0xffff, 0xa01, 0x203)} {
		most := len(bitsOf(a))
		for bits := range most + 1 {
			p := within(cut(a, bits), bits)
			holds(t, true, p, from(a), 0)
			holds(t, true, p, from(cut(a, bits)), 0)
			// A bit turned inside of the range, and outside.
			for bit := range most {
				if got := Holds(p, from(turned(a, bit)), 0); got != (bit >= bits) {
					t.Errorf("Holds of %s, of %v with bit %d turned: %v", dump(p), a, bit, got)
				}
			}
			// Of the other length, with the same bytes, or none.
			other := a
			other.V6 = !a.V6
			holds(t, false, p, from(other), 0)
			holds(t, false, p, from(cut(other, 32)), 0)
			holds(t, false, p, from(cut(other, 0)), 0)
			// Bits of the range from its Bits on.
			for bit := bits; bit < 128; bit++ {
				bad := p
				bad.Net.Addr = turned(p.Net.Addr, bit)
				if Holds(bad, from(a), 0) || Holds(bad, from(bad.Net.Addr), 0) {
					t.Errorf("%s holds", dump(bad))
				}
			}
		}
		for _, bits := range []int{-1, -8, -32, most + 1, most + 8, 129, 256, 1 << 32, math.MaxInt, math.MinInt} {
			holds(t, false, within(a, bits), from(a), 0)
			holds(t, false, within(cut(a, 0), bits), from(cut(a, 0)), 0)
		}
	}
	// Bytes behind the fourth.
	for i := 4; i < 16; i++ {
		for bit := range 8 {
			far := turned(addr.Four(10, 1, 2, 3), 8*i+bit)
			for _, p := range []api.Pred{within(addr.Four(0, 0, 0, 0), 0), within(addr.Four(10, 0, 0, 0), 8), within(addr.Four(10, 1, 2, 3), 32), within(six(), 0), within(far, 32), within(far, 128), within(far, 0)} {
				holds(t, false, p, from(far), 0)
			}
			holds(t, false, within(far, 32), from(addr.Four(10, 1, 2, 3)), 0)
		}
	}
	// What else a request has doesn't matter.
	for _, r := range requests() {
		for _, clock := range clocks() {
			r.From = addr.Four(10, 1, 2, 3)
			holds(t, true, within(addr.Four(10, 0, 0, 0), 8), r, clock)
			holds(t, false, within(addr.Four(11, 0, 0, 0), 8), r, clock)
		}
	}
}

func TestCosts(t *testing.T) {
	l := []float64{math.Inf(-1), -math.MaxFloat64, -1e300, -8, -1.5, -1, -0.1, -math.SmallestNonzeroFloat64, 0, math.SmallestNonzeroFloat64, 0x1p-1022, 0.1, 1, 1.5, 2, 8, 1 << 53, 1<<53 + 2, 1e300, math.MaxFloat64, math.Inf(1)}
	for i, bound := range l {
		for j, f := range l {
			holds(t, j <= i, atMost(bound), costing(f), 0)
		}
		// Just above, and just below.
		if up := math.Nextafter(bound, math.Inf(1)); up != bound {
			holds(t, false, atMost(bound), costing(up), 0)
			holds(t, true, atMost(up), costing(bound), 0)
		}
		if down := math.Nextafter(bound, math.Inf(-1)); down != bound {
			holds(t, true, atMost(bound), costing(down), 0)
			holds(t, false, atMost(down), costing(bound), 0)
		}
		holds(t, bound >= 0, atMost(bound), costing(minus0()), 0)
		holds(t, bound <= 0, atMost(minus0()), costing(bound), 0)
		// No bound has what is no number, and what is none bounds nothing.
		for _, none := range noNumbers() {
			holds(t, false, atMost(bound), costing(none), 0)
			holds(t, false, atMost(none), costing(bound), 0)
		}
	}
	for _, a := range []float64{0, minus0()} {
		for _, b := range []float64{0, minus0()} {
			holds(t, true, atMost(a), costing(b), 0)
		}
	}
	for _, none := range noNumbers() {
		for _, other := range noNumbers() {
			holds(t, false, atMost(none), costing(other), 0)
		}
	}
	// What else a request has doesn't matter.
	for _, r := range requests() {
		for _, clock := range clocks() {
			r.Cost = 1.5
			holds(t, true, atMost(1.5), r, clock)
			holds(t, false, atMost(1.25), r, clock)
		}
	}
}

// given6: of each kind one that holds of whole by the clock 7.
func given6() []api.Pred {
	return []api.Pred{before(8), since(7), ops("list", "read"), under("/a/b"), within(addr.Four(10, 1, 0, 0), 16), atMost(2)}
}

func TestKinds(t *testing.T) {
	wrong := []int{0, 7, 8, 9, 10, 16, 100, math.MaxInt, math.MaxInt - 1, math.MinInt, math.MinInt + 1}
	for kind := 1; kind <= 7; kind++ {
		wrong = append(wrong, -kind, 1<<8+kind, 1<<16+kind, 1<<32+kind, 1<<62+kind, math.MinInt+kind, -1<<32+kind, -1<<8+kind)
	}
	for _, kind := range wrong {
		holds(t, false, api.Pred{Kind: kind}, whole(), 7)
		holds(t, false, api.Pred{Kind: kind}, api.Request{}, 0)
		for _, p := range given6() {
			p.Kind = kind
			holds(t, false, p, whole(), 7)
		}
	}
	// What is right of one kind, with the number of another one.
	for _, p := range given6() {
		holds(t, true, p, whole(), 7)
		for kind := -1; kind <= 8; kind++ {
			other := p
			other.Kind = kind
			holds(t, kind == p.Kind || kind == 2 && p.Kind == 1 && 7 >= p.Time || kind == 1 && p.Kind == 2 && 7 < p.Time, other, whole(), 7)
		}
	}
	holds(t, false, api.Pred{}, api.Request{}, 0)
}

// hurts: ways to set one field of a predicate to what isn't zero, each with the field's name.
func hurts() map[string][]func(p *api.Pred) {
	out := map[string][]func(p *api.Pred){}
	for _, n := range []uint64{1, 7, 8, 1 << 32, last} {
		out["Time"] = append(out["Time"], func(p *api.Pred) { p.Time = n })
	}
	for _, l := range [][]string{{"read"}, {""}, {"list", "read"}, {"read", "list"}, {"A"}} {
		out["Names"] = append(out["Names"], func(p *api.Pred) { p.Names = l })
	}
	for _, s := range []string{"/", "/a", "a", " ", "\x00"} {
		out["Path"] = append(out["Path"], func(p *api.Pred) { p.Path = s })
	}
	for _, r := range []api.Range{{Addr: addr.Four(10, 0, 0, 0), Bits: 8}, {Bits: 1}, {Bits: -1}, {Addr: api.Addr{V6: true}}, {Addr: turned(api.Addr{}, 127)}, {Addr: turned(api.Addr{}, 0)}} {
		out["Net"] = append(out["Net"], func(p *api.Pred) { p.Net = r })
	}
	for _, f := range append(noNumbers(), minus0(), 2, -1, math.Inf(1), math.SmallestNonzeroFloat64) {
		out["Cost"] = append(out["Cost"], func(p *api.Pred) { p.Cost = f })
	}
	return out
}

// Of each kind a predicate whose own field asks what is given, but with another field set: it can't be, and doesn't hold.
func TestOtherFields(t *testing.T) {
	own := []string{"", "Time", "Time", "Names", "Path", "Net", "Cost"}
	for _, p := range given6() {
		for name, l := range hurts() {
			for _, set := range l {
				bad := p
				set(&bad)
				if name == own[p.Kind] {
					judge(t, bad, whole(), 7)
				} else {
					holds(t, false, bad, whole(), 7)
				}
			}
		}
		// No names are one, as nil and as an empty list.
		if p.Kind != api.Ops {
			p.Names = []string{}
			holds(t, true, p, whole(), 7)
		}
	}
}

// Names that are none of a text's, though the Op is among them.
func TestWrongNames(t *testing.T) {
	for _, l := range [][]string{nil, {}, {"read", "list"}, {"read", "read"}, {"list", "read", "read"}, {"read", "Z"}, {"", "read"}, {"read", ""}, {"read", "write", "list"}, {"read", "x,y"}, {"read", "x y"}, {"read", "abcdefghijklmnopq"}, {"Read", "read"}, {"read", "réad"}, {"read", "x\x00"}, append(some(32), "read"), append([]string{"read"}, some(3)...)} {
		holds(t, false, ops(l...), doing("read"), 0)
	}
	// Of 32 names of 16 letters each the text is too long; one letter after the other less, it isn't.
	var l []string
	for _, s := range some(32) {
		l = append(l, s+strings.Repeat("z", 14))
	}
	for len(l[0]) > 14 {
		want := len("op "+strings.Join(l, ",")) <= 512
		for _, op := range []string{l[0], l[15], l[31]} {
			holds(t, want, ops(l...), doing(op), 0)
		}
		for i := range l {
			l[i] = l[i][:len(l[i])-1]
			judge(t, ops(l...), doing(l[i]), 0)
		}
	}
}

// P18.2

func TestTexts(t *testing.T) {
	r := whole()
	for s, want := range map[string]bool{
		"before 8": true, "before 7": false, "before 0": false, "before 18446744073709551615": true, "since 7": true, "since 8": false, "since 0": true, "since 18446744073709551615": false,
		"op read": true, "op list,read,write": true, "op list": false, "op rea": false, "op a,b": false,
		"path /": true, "path /a": true, "path /a/b": true, "path /a/b/c": true, "path /a/b/x": false, "path /a/b/c/d": false, "path /b": false, "path /A": false,
		"net 0.0.0.0/0": true, "net 10.0.0.0/8": true, "net 10.1.2.3/32": true, "net 10.1.2.2/31": true, "net 10.1.2.2/32": false, "net 11.0.0.0/8": false, "net ::/0": false, "net ::ffff:a01:203/128": false,
		"cost 3p-1": true, "cost 1p1": true, "cost inf": true, "cost 1p0": false, "cost 0": false, "cost -0": false, "cost -inf": false,
	} {
		if got := Text(s, r, 7); got != want || All([]string{s}, r, 7) != want {
			t.Errorf("Text of %q: %v", s, got)
		}
		// No part of it, and nothing that it is a part of, holds but by what layer 17 makes of it.
		p, ok := caveat.Parse(s)
		if !ok {
			t.Errorf("%q has no predicate", s)
		}
		judge(t, p, r, 7)
		for _, other := range []string{" " + s, s + " ", "\n" + s, s + "\n", s + "\x00", s + " " + s, strings.ToUpper(s), strings.Replace(s, " ", "  ", 1), strings.Replace(s, " ", "\t", 1), strings.Replace(s, " ", "", 1), strings.Replace(s, " ", "=", 1), "not " + s, s + ",", s + "/"} {
			lies(t, other)
		}
	}
}

// strangers: texts that nobody understands.
func strangers() []string {
	return []string{"", " ", "x", "true", "before", "before ", "before 08", "before -1", "before +9", "before 9.0", "before 0x9", "before 18446744073709551616", "before 9 9", "after 0", "Before 9", "since", "since 00", "since -0", "since  0",
		"op", "op ", "op read,list", "op read,", "op ,read", "op read,read", "op read read", "ops read", "op READ", "op *", "op read1", "path", "path ", "path a", "path /a/", "path //", "path /.", "path /a/..", "path /a b", "paths /", "path /\x00", "net", "net 10.0.0.0", "net 10.0.0.0/", "net 10.1.2.3/8", "net 0.0.0.0/00", "net 0.0.0.0/33", "net 0/0", "net ::/129", "net ::0/0", "net 10.1.2.3/32 ",
		"cost", "cost 1.5", "cost NaN", "cost nan", "cost Inf", "cost +inf", "cost 2p0", "cost 1p2000", "cost 1e3", "cost 10", "cost 00", "before\x008", "\xff", "é", "op\u00a0read", "since 0\nsince 0", strings.Repeat("since 0 ", 1000), "op " + strings.Repeat("a,", 300) + "read", "path " + strings.Repeat("/a", 300)}
}

func TestStrangers(t *testing.T) {
	for _, s := range strangers() {
		lies(t, s)
	}
	lies(t, "since "+strings.Repeat("0", 1<<20))
	lies(t, strings.Repeat(" ", 1<<20))
	lies(t, "path "+strings.Repeat("/", 1<<20))
}

// Every text that is one byte away from one that holds.
func TestTextsNearby(t *testing.T) {
	r := whole()
	for _, p := range append(given6(), under("/"), within(api.Addr{}, 0), atMost(math.Inf(1)), since(0)) {
		s := caveat.Text(p)
		holds(t, true, p, r, 7)
		check := func(other string) {
			p, ok := caveat.Parse(other)
			if want := ok && asked(p, r, 7); Text(other, r, 7) != want {
				t.Errorf("Text of %q: %v", other, !want)
			}
		}
		for i := range len(s) {
			check(s[:i])
			check(s[i:])
			check(s[:i] + s[i+1:])
			for x := range 256 {
				check(s[:i] + string([]byte{byte(x)}) + s[i+1:])
				check(s[:i] + string([]byte{byte(x)}) + s[i:])
			}
		}
	}
}

// truths: texts all of which hold of whole by the clock 7.
func truths() []string {
	return []string{"before 8", "since 7", "op read", "op list,read", "path /", "path /a/b/c", "net 0.0.0.0/0", "net 10.1.2.3/32", "cost 3p-1", "cost inf", "before 18446744073709551615", "since 0"}
}

func TestAll(t *testing.T) {
	r := whole()
	for _, r := range requests() {
		for _, clock := range clocks() {
			if !All(nil, r, clock) || !All([]string{}, r, clock) || !All(make([]string, 0, 5), r, clock) || !All([]string{"x"}[:0], r, clock) {
				t.Errorf("All of none, of %s", tell(r, clock))
			}
		}
	}
	l := truths()
	for many := range len(l) + 1 {
		if !All(l[:many], r, 7) {
			t.Errorf("All of %q", l[:many])
		}
	}
	bad := append(strangers(), "before 7", "before 0", "since 8", "op list", "path /a/b/x", "net 10.1.2.2/32", "net ::/0", "cost 1p0", "cost -inf")
	for _, s := range bad {
		if All([]string{s}, r, 7) || All([]string{s, s}, r, 7) {
			t.Errorf("All of %q", s)
		}
		// In front, in the middle, and at the end.
		for i := range len(l) + 1 {
			if with := slices.Insert(slices.Clone(l), i, s); All(with, r, 7) {
				t.Errorf("All of %q", with)
			}
		}
		for _, other := range bad {
			if All([]string{s, other}, r, 7) || All([]string{s, "since 0", other}, r, 7) {
				t.Errorf("All of %q and %q", s, other)
			}
		}
	}
	// One text many times, and one that doesn't hold among them.
	many := slices.Repeat([]string{"op read", "since 7"}, 5000)
	if !All(many, r, 7) {
		t.Error("All of many")
	}
	for _, i := range []int{0, 1, 63, 64, 65, 5000, 9998, 9999} {
		was := many[i]
		many[i] = "op list"
		if All(many, r, 7) {
			t.Errorf("All of many, with one at %d that doesn't hold", i)
		}
		many[i] = ""
		if All(many, r, 7) {
			t.Errorf("All of many, with one at %d that nobody understands", i)
		}
		many[i] = was
	}
}

// All by each choice of texts: as each of them alone.
func TestAllAsEachAlone(t *testing.T) {
	l := []string{"before 8", "since 7", "op read", "path /a", "net 10.0.0.0/8", "cost 1p1", "", "cost NaN"}
	for i, r := range requests() {
		clock := clocks()[i%len(clocks())]
		for choice := range 1 << len(l) {
			var some []string
			want := true
			for j, s := range l {
				if choice>>j&1 == 1 {
					some = append(some, s)
					want = want && Text(s, r, clock)
				}
			}
			if All(some, r, clock) != want {
				t.Errorf("All of %q, of %s: %v", some, tell(r, clock), !want)
			}
		}
	}
}

// P18.3

// wanted: what Of answers, told without the layers below.
func wanted(r api.Request) []api.Pred {
	var out []api.Pred
	if lettered.MatchString(r.Op) {
		out = append(out, ops(r.Op))
	}
	if s := comes(r.Path); s != "" {
		out = append(out, under(s))
	}
	if all := bitsOf(r.From); all != "" {
		out = append(out, within(r.From, len(all)))
	}
	if r.Cost == r.Cost {
		out = append(out, atMost(r.Cost))
	}
	return out
}

// of: is this what Of answers, can each be, and does each hold by whatever clock?
func of(t *testing.T, r api.Request, want ...api.Pred) {
	t.Helper()
	l := Of(r)
	if dumpAll(l) != dumpAll(want) {
		t.Errorf("Of of %s:\n%snot\n%s", tell(r, 0), dumpAll(l), dumpAll(want))
	}
	if dumpAll(wanted(r)) != dumpAll(want) {
		t.Errorf("Of of %s, for the tests:\n%snot\n%s", tell(r, 0), dumpAll(wanted(r)), dumpAll(want))
	}
	var texts []string
	for _, p := range l {
		if !caveat.Check(p) || !canBe(p) {
			t.Errorf("%s can't be", dump(p))
		}
		for _, clock := range clocks() {
			holds(t, true, p, r, clock)
		}
		texts = append(texts, caveat.Text(p))
	}
	for _, clock := range clocks() {
		if !All(texts, r, clock) {
			t.Errorf("All of %q, of %s", texts, tell(r, clock))
		}
	}
}

func TestOf(t *testing.T) {
	of(t, whole(), ops("read"), under("/a/b/c"), within(addr.Four(10, 1, 2, 3), 32), atMost(1.5))
	of(t, api.Request{}, within(addr.Four(0, 0, 0, 0), 32), atMost(0))
	of(t, api.Request{Op: "a", Path: "/", From: six(0, 0, 0, 0, 0, 0, 0, 1), Cost: minus0()}, ops("a"), under("/"), within(six(0, 0, 0, 0, 0, 0, 0, 1), 128), atMost(minus0()))
	of(t, api.Request{Op: "abcdefghijklmnop", Path: "/..a/", From: six(), Cost: math.Inf(1)}, ops("abcdefghijklmnop"), under("/..a"), within(six(), 128), atMost(math.Inf(1)))
	of(t, api.Request{Op: "A", Path: "x", From: api.Addr{B: [16]byte{4: 1}}, Cost: math.NaN()})
	for _, r := range requests() {
		of(t, r, wanted(r)...)
	}
	var texts []string
	for _, p := range Of(whole()) {
		texts = append(texts, caveat.Text(p))
	}
	if !slices.Equal(texts, []string{"op read", "path /a/b/c", "net 10.1.2.3/32", "cost 3p-1"}) {
		t.Errorf("%q", texts)
	}
}

// Each of the sixteen ways in which some of the four are there, and the others aren't.
func TestSixteenWays(t *testing.T) {
	goodOps, badOps := []string{"read", "a", "abcdefghijklmnop"}, []string{"", "A", "a,b", "a b", "abcdefghijklmnopq", "read1", "read\n", "é", "\xff", "op read"}
	goodPaths, badPaths := []string{"/", "/a", "//", "/a/../b/", "/./."}, []string{"", "a", "..", "/..", "/a/../..", "/a b", "/é", "/\x00", "/" + strings.Repeat("a", 65), strings.Repeat("/a", 129)}
	goodAddrs := []api.Addr{{}, addr.Four(1, 2, 3, 4), addr.Four(255, 255, 255, 255), six(), six(1, 2, 3, 4, 5, 6, 7, 8), {V6: true, B: [16]byte{1, 2, 3, 4}}, turned(six(), 127)}
	var badAddrs []api.Addr
	for bit := 32; bit < 128; bit++ {
		badAddrs = append(badAddrs, turned(addr.Four(1, 2, 3, 4), bit))
	}
	goodCosts := []float64{0, minus0(), 1.5, -1, math.Inf(1), math.Inf(-1), math.MaxFloat64, math.SmallestNonzeroFloat64}
	for i := range 16 * len(badAddrs) {
		var r api.Request
		var want []api.Pred
		n := i / 16
		if r.Op = badOps[n%len(badOps)]; i&1 != 0 {
			r.Op = goodOps[n%len(goodOps)]
			want = append(want, ops(r.Op))
		}
		if r.Path = badPaths[n%len(badPaths)]; i&2 != 0 {
			r.Path = goodPaths[n%len(goodPaths)]
			want = append(want, under(comes(r.Path)))
		}
		if r.From = badAddrs[n%len(badAddrs)]; i&4 != 0 {
			r.From = goodAddrs[n%len(goodAddrs)]
			want = append(want, within(r.From, len(bitsOf(r.From))))
		}
		if r.Cost = noNumbers()[n%len(noNumbers())]; i&8 != 0 {
			r.Cost = goodCosts[n%len(goodCosts)]
			want = append(want, atMost(r.Cost))
		}
		of(t, r, want...)
	}
}

// Of's predicates hold of no request that is another one in their own field.
func TestOfAsksForAll(t *testing.T) {
	r := whole()
	l := Of(r)
	other := []api.Request{{Op: "reads", Path: r.Path, From: r.From, Cost: r.Cost}, {Op: r.Op, Path: "/a/b", From: r.From, Cost: r.Cost}, {Op: r.Op, Path: r.Path, From: turned(r.From, 31), Cost: r.Cost}, {Op: r.Op, Path: r.Path, From: r.From, Cost: math.Nextafter(r.Cost, 2)}}
	for i, p := range l {
		for j, r := range other {
			holds(t, i != j, p, r, 0)
		}
	}
}

// All calls

// overwrite: writes a list over, its spare room too, and that of each one's names.
func overwrite(l []api.Pred) {
	all := l[:cap(l)]
	for i := range all {
		names := all[i].Names[:cap(all[i].Names)]
		for j := range names {
			names[j] = "over"
		}
		all[i] = api.Pred{Kind: -1, Time: 1, Names: []string{"over"}, Path: "over", Cost: -1}
	}
}

// What Of answers is the caller's: written over, no later and no earlier answer is another one.
func TestAnswersAreNewMemory(t *testing.T) {
	for _, r := range append(requests(), whole()) {
		want := dumpAll(wanted(r))
		first, second := Of(r), Of(r)
		overwrite(first)
		if third := Of(r); dumpAll(second) != want || dumpAll(third) != want {
			t.Errorf("Of of %s, when an answer was written over:\n%s\n%s", tell(r, 0), dumpAll(second), dumpAll(third))
		}
		for _, p := range second {
			holds(t, true, p, r, 0)
		}
		// What goes behind one answer's names, or behind its list, is in no other one.
		for i := range second {
			second[i].Names = append(second[i].Names, "more")
		}
		_ = append(second, api.Pred{Kind: 1})
		if third := Of(r); dumpAll(third) != want {
			t.Errorf("Of of %s, when there was more behind an answer:\n%s", tell(r, 0), dumpAll(third))
		}
	}
}

// No call changes what it is handed in, spare room included.
func TestArgumentsStayAsTheyAre(t *testing.T) {
	for many := range 34 {
		room := append(slices.Grow(some(many), 8), "spare", "room")
		was := slices.Clone(room)
		for kind := range 8 {
			for _, r := range []api.Request{{}, whole(), doing("aa"), doing("spare")} {
				p := api.Pred{Kind: kind, Names: room[:many]}
				judge(t, p, r, 7)
				if len(p.Names) != many || !slices.Equal(room, was) {
					t.Errorf("%s, and then %q", dump(p), room)
				}
			}
		}
	}
	for many := range len(truths()) {
		room := append(truths(), "x", "op list")
		was := slices.Clone(room)
		if !All(room[:many], whole(), 7) || All(room, whole(), 7) || !slices.Equal(room, was) {
			t.Errorf("All of %q, and then %q", was[:many], room)
		}
	}
}

// P1 and P2: what a call answers doesn't hang on the calls ahead of it.
func TestAnswersStayTheSame(t *testing.T) {
	l, rs, cs := append(preds(), api.Pred{}, api.Pred{Kind: 9}, ops("b", "a"), atMost(math.NaN()), api.Pred{Kind: 2, Path: "/"}), requests(), clocks()
	texts := append(strangers(), truths()...)
	ask := func(i int) string {
		p, r, clock := l[i%len(l)], rs[(5*i+1)%len(rs)], cs[(7*i+2)%len(cs)]
		some := texts[len(texts)-1-i%len(texts):]
		return fmt.Sprint(Holds(p, r, clock), Text(some[0], r, clock), All(some, r, clock), dumpAll(Of(r)))
	}
	var first []string
	for i := range 2000 {
		first = append(first, ask(i))
	}
	for i, was := range slices.Backward(first) {
		if again := ask(i); again != was {
			t.Errorf("%s, and then %s", was, again)
		}
	}
}

func FuzzHolds(f *testing.F) {
	f.Add(1, uint64(90), "", "", false, []byte{}, 0, uint64(0), "read", "/a/../b", false, []byte{10, 1, 2, 3}, math.Float64bits(1.5), uint64(89))
	f.Add(3, uint64(0), "list,read", "", false, []byte{}, 0, uint64(0), "read", "//", true, []byte{1}, uint64(1)<<63, uint64(0))
	f.Add(4, uint64(0), "", "/a/b", false, []byte{}, 0, uint64(0), "", "/a/./b//c", false, []byte{}, uint64(0), uint64(last))
	f.Add(5, uint64(0), "", "", true, []byte{0x20, 1}, 16, uint64(0), "", "", true, []byte{0x20, 1, 0x0d}, uint64(0), uint64(0))
	f.Add(6, uint64(0), "", "", false, []byte{}, 0, math.Float64bits(1.5), "", "", false, []byte{}, math.Float64bits(1.25), uint64(0))
	f.Fuzz(func(t *testing.T, kind int, time uint64, names, top string, v6 bool, b []byte, bits int, bound uint64, op, path string, fromV6 bool, fromB []byte, cost, clock uint64) {
		p := api.Pred{Kind: kind, Time: time, Path: top, Net: api.Range{Addr: api.Addr{V6: v6}, Bits: bits}, Cost: math.Float64frombits(bound)}
		if names != "" {
			p.Names = strings.Split(names, ",")
		}
		copy(p.Net.Addr.B[:], b)
		r := api.Request{Op: op, Path: path, From: api.Addr{V6: fromV6}, Cost: math.Float64frombits(cost)}
		copy(r.From.B[:], fromB)
		judge(t, p, r, clock)
		// Its own field alone, of each kind, and where the address was cut to its bits.
		for _, own := range []api.Pred{before(time), since(time), ops(p.Names...), under(top), within(p.Net.Addr, bits), within(cut(p.Net.Addr, bits&127), bits&127), atMost(p.Cost)} {
			judge(t, own, r, clock)
		}
		of(t, r, wanted(r)...)
	})
}

func FuzzTexts(f *testing.F) {
	for _, s := range append(strangers(), truths()...) {
		f.Add(s, "read", "/a/b/c", []byte{10, 1, 2, 3}, math.Float64bits(1.5), uint64(7))
	}
	f.Fuzz(func(t *testing.T, s, op, path string, fromB []byte, cost, clock uint64) {
		r := api.Request{Op: op, Path: path, From: api.Addr{V6: len(fromB) > 4}, Cost: math.Float64frombits(cost)}
		copy(r.From.B[:], fromB)
		p, ok := caveat.Parse(s)
		if want := ok && asked(p, r, clock); Text(s, r, clock) != want || All([]string{s}, r, clock) != want || All([]string{"since 0", s}, r, clock) != want {
			t.Errorf("Text of %.200q, of %s: %v", s, tell(r, clock), !want)
		}
	})
}
