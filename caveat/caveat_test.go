package caveat

import (
	"fmt"
	"math"
	"math/big"
	"net/netip"
	"regexp"
	"slices"
	"strings"
	"testing"

	"chitty/addr"
	"chitty/api"
)

var (
	// timed: a text that a time's could be, were it not for how great it is.
	timed = regexp.MustCompile(`\A(before|since) (0|[1-9][0-9]*)\z`)
	// listed: a text that names could have, were it not for their order and its length.
	listed = regexp.MustCompile(`\Aop ([a-z]{1,16}(?:,[a-z]{1,16}){0,31})\z`)
	// pathed: a text that a path could have, were it not for its length and for points alone.
	pathed = regexp.MustCompile(`\Apath (/|(?:/[A-Za-z0-9._-]{1,64})+)\z`)
	// ranged: a text that a range could have, were it not for its address and its bits.
	ranged = regexp.MustCompile(`\Anet ([0-9a-f.:]+/[0-9]+)\z`)
	// priced: a text that a cost could have, were it not for how long its odd number is, and for its power.
	priced = regexp.MustCompile(`\Acost -?(?:0|inf|([1-9][0-9]*)p(0|-?[1-9][0-9]*))\z`)
)

// dump: all of a predicate's fields, one of 0, -0 and each NaN told from the others; none of its names and no list of them are one.
func dump(p api.Pred) string {
	return fmt.Sprintf("kind %d, time %d, %d names %q, path %q, %v %x/%d, cost %016x", p.Kind, p.Time, len(p.Names), p.Names, p.Path, p.Net.Addr.V6, p.Net.Addr.B, p.Net.Bits, math.Float64bits(p.Cost))
}

// short: a text as it is told of.
func short(s string) string { return fmt.Sprintf("%.200q, of %d bytes", s, len(s)) }

// rising: is each name above the one ahead?
func rising(names []string) bool {
	sorted := slices.Clone(names)
	slices.Sort(sorted)
	return slices.Equal(slices.Compact(sorted), names)
}

// known: is it the text of some predicate? Told by its shape, by whole numbers of any length, and by the library's ranges.
func known(s string) bool {
	if len(s) > 512 {
		return false
	}
	if m := timed.FindStringSubmatch(s); m != nil {
		n, _ := new(big.Int).SetString(m[2], 10)
		return n.BitLen() <= 64
	}
	if m := listed.FindStringSubmatch(s); m != nil {
		return rising(strings.Split(m[1], ","))
	}
	if m := pathed.FindStringSubmatch(s); m != nil {
		pieces := strings.Split(m[1], "/")
		return len(m[1]) <= 256 && !slices.Contains(pieces, ".") && !slices.Contains(pieces, "..")
	}
	if m := ranged.FindStringSubmatch(s); m != nil {
		r, err := netip.ParsePrefix(m[1])
		return err == nil && netText(api.Range{Addr: api.Addr{V6: r.Addr().Is6(), B: bytesOf(r.Addr())}, Bits: r.Bits()}) == m[1]
	}
	m := priced.FindStringSubmatch(s)
	return m != nil && (m[1] == "" || isCost(m[1], m[2]))
}

// bytesOf: an address's bytes, those of IPv4 first.
func bytesOf(a netip.Addr) (out [16]byte) {
	copy(out[:], a.AsSlice())
	return out
}

// isCost: are the odd number and the power those of some number?
func isCost(odd, power string) bool {
	o, _ := new(big.Int).SetString(odd, 10)
	p, _ := new(big.Int).SetString(power, 10)
	above := new(big.Int).Add(p, big.NewInt(int64(o.BitLen())))
	return o.Bit(0) == 1 && o.BitLen() <= 53 && p.Cmp(big.NewInt(-1074)) >= 0 && above.Cmp(big.NewInt(1024)) <= 0
}

// netText: a range's text, by the library's own; empty, if it can't be.
func netText(r api.Range) string {
	a := netip.AddrFrom16(r.Addr.B)
	if !r.Addr.V6 {
		if [12]byte(r.Addr.B[4:]) != [12]byte{} {
			return ""
		}
		a = netip.AddrFrom4([4]byte(r.Addr.B[:4]))
	}
	p := netip.PrefixFrom(a, r.Bits)
	switch {
	case !p.IsValid() || p != p.Masked():
		return ""
	case a.Is4In6():
		// The library tells the last four bytes of such ones as of IPv4.
		b := r.Addr.B
		return fmt.Sprintf("::ffff:%x:%x/%d", uint16(b[12])<<8|uint16(b[13]), uint16(b[14])<<8|uint16(b[15]), r.Bits)
	}
	return p.String()
}

// costText: a cost's text, by the library's fractions; empty, if it is none.
func costText(f float64) string {
	minus := ""
	if math.Signbit(f) {
		minus = "-"
	}
	switch {
	case math.IsNaN(f):
		return ""
	case math.IsInf(f, 0):
		return minus + "inf"
	case f == 0:
		return minus + "0"
	}
	r := new(big.Rat).SetFloat64(math.Abs(f))
	even := r.Num().TrailingZeroBits()
	return fmt.Sprintf("%s%dp%d", minus, new(big.Int).Rsh(r.Num(), even), int(even)-r.Denom().BitLen()+1)
}

// spelt: a predicate's text; empty, if it can't be. Told without the layers below.
func spelt(p api.Pred) string {
	s, own := "", api.Pred{Kind: p.Kind}
	switch p.Kind {
	case 1:
		s, own.Time = fmt.Sprintf("before %d", p.Time), p.Time
	case 2:
		s, own.Time = fmt.Sprintf("since %d", p.Time), p.Time
	case 3:
		// Names with a comma are told from those that it stands between by how many there are.
		s, own.Names = "op "+strings.Join(p.Names, ","), p.Names
		if strings.Count(s, ",") != len(p.Names)-1 {
			return ""
		}
	case 4:
		s, own.Path = "path "+p.Path, p.Path
	case 5:
		s, own.Net = "net "+netText(p.Net), p.Net
	case 6:
		s, own.Cost = "cost "+costText(p.Cost), p.Cost
	}
	if !known(s) || dump(p) != dump(own) {
		return ""
	}
	return s
}

// is: can the predicate be, is this its text, and is it the predicate whose text it is?
func is(t *testing.T, p api.Pred, s string) {
	t.Helper()
	if !Check(p) {
		t.Errorf("%s can't be", dump(p))
	}
	if got := Text(p); got != s {
		t.Errorf("Text of %s: %q, not %q", dump(p), got, s)
	}
	got, ok := Parse(s)
	if !ok || dump(got) != dump(p) {
		t.Errorf("Parse of %s: %s, %v; not %s", short(s), dump(got), ok, dump(p))
	}
	if !Same(got, p) || !Same(p, got) || !Same(p, p) {
		t.Errorf("%s aren't the same", short(s))
	}
	if want := spelt(p); want != s || !known(s) {
		t.Errorf("%s is %q for the tests, %v", dump(p), want, known(s))
	}
}

// never: can the predicate not be?
func never(t *testing.T, p api.Pred) {
	t.Helper()
	if Check(p) {
		t.Errorf("%s can be", dump(p))
	}
	if s := Text(p); s != "" {
		t.Errorf("Text of %s: %q", dump(p), s)
	}
	if spelt(p) != "" {
		t.Errorf("%s can be for the tests", dump(p))
	}
	if !Same(p, p) {
		t.Errorf("%s isn't the same as itself", dump(p))
	}
}

// judgePred: is or never, whichever spelt tells.
func judgePred(t *testing.T, p api.Pred) {
	t.Helper()
	if s := spelt(p); s != "" {
		is(t, p, s)
	} else {
		never(t, p)
	}
}

// wrong: is it no predicate's text?
func wrong(t *testing.T, s string) {
	t.Helper()
	if p, ok := Parse(s); ok || dump(p) != dump(api.Pred{}) {
		t.Errorf("Parse of %s: %s, %v", short(s), dump(p), ok)
	}
	if known(s) {
		t.Errorf("%s is a predicate's text for the tests", short(s))
	}
}

// judge: wrong, or the text of a predicate, whichever known tells.
func judge(t *testing.T, s string) {
	t.Helper()
	if !known(s) {
		wrong(t, s)
		return
	}
	p, ok := Parse(s)
	if !ok {
		t.Errorf("Parse of %s: %s, %v", short(s), dump(p), ok)
	}
	is(t, p, s)
}

// The predicates of one field alone.
func before(n uint64) api.Pred        { return api.Pred{Kind: 1, Time: n} }
func since(n uint64) api.Pred         { return api.Pred{Kind: 2, Time: n} }
func ops(names ...string) api.Pred    { return api.Pred{Kind: 3, Names: names} }
func under(p string) api.Pred         { return api.Pred{Kind: 4, Path: p} }
func within(r api.Range) api.Pred     { return api.Pred{Kind: 5, Net: r} }
func atMost(f float64) api.Pred       { return api.Pred{Kind: 6, Cost: f} }
func bitsAtMost(bits uint64) api.Pred { return atMost(math.Float64frombits(bits)) }

// four: a range of four bytes.
func four(a, b, c, d byte, bits int) api.Range {
	return api.Range{Addr: addr.Four(a, b, c, d), Bits: bits}
}

// six: a range of 16 bytes, its first numbers these.
func six(bits int, first ...uint16) api.Range {
	var l [8]uint16
	copy(l[:], first)
	return api.Range{Addr: addr.Six(l), Bits: bits}
}

// minus0: 0 with a sign.
func minus0() float64 { return math.Copysign(0, -1) }

// some: so many names that rise, two letters each.
func some(many int) []string {
	var out []string
	for i := range many {
		out = append(out, string([]byte{byte('a' + i/26), byte('a' + i%26)}))
	}
	return out
}

// sized: so many names that rise, which, with a comma between each two, have so many bytes; none, if there are none.
func sized(many, bytes int) []string {
	out := some(many)
	left := bytes - len(strings.Join(out, ","))
	for i := range out {
		more := min(max(left, 0), 14)
		out[i] += strings.Repeat("m", more)
		left -= more
	}
	if left != 0 {
		return nil
	}
	return out
}

// right: predicates that can be, by their texts.
func right() map[string]api.Pred {
	return map[string]api.Pred{
		"before 90": before(90), "before 0": before(0), "before 1": before(1), "before 18446744073709551615": before(math.MaxUint64), "before 9223372036854775808": before(1 << 63), "before 1000000": before(1000000),
		"since 90": since(90), "since 0": since(0), "since 10": since(10), "since 18446744073709551615": since(math.MaxUint64), "since 18446744073709551614": since(math.MaxUint64 - 1),
		"op list,read": ops("list", "read"), "op a": ops("a"), "op a,ab,b": ops("a", "ab", "b"), "op abcdefghijklmnop": ops("abcdefghijklmnop"), "op inf": ops("inf"), "op before,cost,net,op,path,since": ops("before", "cost", "net", "op", "path", "since"),
		"path /": under("/"), "path /a": under("/a"), "path /a/b.c": under("/a/b.c"), "path /.a": under("/.a"), "path /...": under("/..."), "path /a./b": under("/a./b"), "path /A-Z/_0-9": under("/A-Z/_0-9"), "path /a/a/a/a": under("/a/a/a/a"),
		"net 10.0.0.0/8": within(four(10, 0, 0, 0, 8)), "net 0.0.0.0/0": within(api.Range{}), "net 10.1.2.3/32": within(four(10, 1, 2, 3, 32)), "net 255.255.255.255/32": within(four(255, 255, 255, 255, 32)), "net 128.0.0.0/1": within(four(128, 0, 0, 0, 1)), "net 0.0.0.0/32": within(four(0, 0, 0, 0, 32)),
		"net ::/0": within(six(0)), "net ::/128": within(six(128)), "net 2001:db8::/32": within(six(32, 0x2001, 0xdb8)), "net 2001:db8::1/128": within(six(128, 0x2001, 0xdb8, 0, 0, 0, 0, 0, 1)), "net ::ffff:0:0/96": within(six(96, 0, 0, 0, 0, 0, 0xffff)), "net 1:2:3:4:5:6:7:8/125": within(six(125, 1, 2, 3, 4, 5, 6, 7, 8)), "net 8000::/1": within(six(1, 0x8000)),
		"cost 3p-1": atMost(1.5), "cost 0": atMost(0), "cost -0": atMost(minus0()), "cost inf": atMost(math.Inf(1)), "cost -inf": atMost(math.Inf(-1)), "cost 1p0": atMost(1), "cost -1p3": atMost(-8), "cost 25p2": atMost(100), "cost 1p-1074": atMost(math.SmallestNonzeroFloat64), "cost 9007199254740991p971": atMost(math.MaxFloat64), "cost -9007199254740991p971": atMost(-math.MaxFloat64), "cost 3602879701896397p-55": atMost(0.1),
	}
}

// hurt is a way to set one field of a predicate, whichever it is, to what isn't zero.
type hurt struct {
	name string
	set  func(p *api.Pred)
}

// hurts: such ways, many of each field.
func hurts() []hurt {
	var out []hurt
	for _, n := range []uint64{1, 90, 1 << 32, 1 << 63, math.MaxUint64} {
		out = append(out, hurt{"Time", func(p *api.Pred) { p.Time = n }})
	}
	for _, l := range [][]string{{"a"}, {""}, {"a", "b"}, {"b", "a"}, {"list", "read"}, {"A"}, make([]string, 40)} {
		out = append(out, hurt{"Names", func(p *api.Pred) { p.Names = l }})
	}
	for _, s := range []string{"/", "/a", "a", " ", "\x00", "..", strings.Repeat("/a", 200)} {
		out = append(out, hurt{"Path", func(p *api.Pred) { p.Path = s }})
	}
	for i := range 16 {
		for _, x := range []byte{1, 128, 255} {
			out = append(out, hurt{"Net", func(p *api.Pred) { p.Net.Addr.B[i] = x }})
		}
	}
	for _, bits := range []int{1, 8, 32, 33, 128, 129, -1, 1 << 32, math.MaxInt, math.MinInt} {
		out = append(out, hurt{"Net", func(p *api.Pred) { p.Net.Bits = bits }})
	}
	out = append(out, hurt{"Net", func(p *api.Pred) { p.Net.Addr.V6 = true }})
	for _, r := range []api.Range{four(10, 0, 0, 0, 8), six(32, 0x2001, 0xdb8)} {
		out = append(out, hurt{"Net", func(p *api.Pred) { p.Net = r }})
	}
	for _, f := range append(nones(), minus0(), 1, -1, 1.5, math.Inf(1), math.Inf(-1), math.SmallestNonzeroFloat64, -math.SmallestNonzeroFloat64, math.MaxFloat64) {
		out = append(out, hurt{"Cost", func(p *api.Pred) { p.Cost = f }})
	}
	return out
}

// ownField: the name of the field that the kind has.
func ownField(kind int) string {
	return []string{"", "Time", "Time", "Names", "Path", "Net", "Cost"}[kind]
}

// noneBits: bits of costs that are none.
func noneBits() []uint64 {
	out := []uint64{0x7ff8000000000000, 0x7ff8000000000001, 0x7fffffffffffffff, 0xfff8000000000000, 0xffffffffffffffff, 0x7ff0000000000001, 0xfff0000000000001, 0x7ff7ffffffffffff, 0xfff7ffffffffffff}
	for i := range 52 {
		out = append(out, 0x7ff0000000000000|1<<i, 0xfff0000000000000|1<<i)
	}
	return out
}

// nones: costs that are none.
func nones() []float64 {
	var out []float64
	for _, x := range noneBits() {
		out = append(out, math.Float64frombits(x))
	}
	return out
}

// wrongKinds: numbers that are no kind's; some are when they are cut to fewer bits of a number.
func wrongKinds() []int {
	out := []int{0, 7, 8, 9, 10, 16, 100, math.MaxInt, math.MaxInt - 1, math.MinInt, math.MinInt + 1}
	for kind := 1; kind <= 7; kind++ {
		out = append(out, -kind, 1<<8+kind, 1<<16+kind, 1<<32+kind, 1<<62+kind, math.MinInt+kind, -1<<32+kind, -1<<8+kind)
	}
	return out
}

// P17.1 and P17.2

func TestExamples(t *testing.T) {
	for s, p := range right() {
		is(t, p, s)
	}
	is(t, api.Pred{Kind: api.Before, Time: 5}, "before 5")
	is(t, api.Pred{Kind: api.Since, Time: 5}, "since 5")
	is(t, api.Pred{Kind: api.Ops, Names: []string{"x"}}, "op x")
	is(t, api.Pred{Kind: api.Path, Path: "/x"}, "path /x")
	is(t, api.Pred{Kind: api.Net}, "net 0.0.0.0/0")
	is(t, api.Pred{Kind: api.Cost}, "cost 0")
}

func TestKinds(t *testing.T) {
	for _, kind := range wrongKinds() {
		never(t, api.Pred{Kind: kind})
		for _, p := range right() {
			p.Kind = kind
			never(t, p)
		}
		for _, h := range hurts() {
			p := api.Pred{Kind: kind}
			h.set(&p)
			never(t, p)
		}
	}
	// What is right of one kind, with the number of another one.
	for _, p := range right() {
		for kind := range 8 {
			other := p
			other.Kind = kind
			judgePred(t, other)
			if goes := kind >= 1 && kind <= 6 && (ownField(kind) == ownField(p.Kind) || zero(p) && kind != 3 && kind != 4); Check(other) != goes {
				t.Errorf("Check of %s: %v", dump(other), !goes)
			}
		}
	}
}

// zero: is each field but the kind zero?
func zero(p api.Pred) bool { return dump(p) == dump(api.Pred{Kind: p.Kind}) }

// Of each kind each field that isn't its own, set to something that isn't zero, and two of them.
func TestOtherFields(t *testing.T) {
	all := hurts()
	for _, p := range right() {
		for i, h := range all {
			if h.name == ownField(p.Kind) {
				continue
			}
			bad := p
			h.set(&bad)
			never(t, bad)
			all[(7*i+3)%len(all)].set(&bad)
			never(t, bad)
			// It's the same as itself, and isn't the one that it was made of.
			if Same(bad, p) || Same(p, bad) {
				t.Errorf("%s and %s are the same", dump(bad), dump(p))
			}
		}
		// No names are one, as nil and as an empty list.
		if p.Kind != api.Ops {
			s := Text(p)
			p.Names = []string{}
			is(t, p, s)
			p.Names = make([]string, 0, 5)
			is(t, p, s)
		}
	}
}

// Each of these ways, of each kind's predicate that is zero but for it.
func TestFieldsAlone(t *testing.T) {
	for kind := -1; kind <= 8; kind++ {
		for _, h := range hurts() {
			p := api.Pred{Kind: kind}
			h.set(&p)
			judgePred(t, p)
		}
	}
}

func TestTimes(t *testing.T) {
	at := func(n uint64) {
		is(t, before(n), fmt.Sprintf("before %d", n))
		is(t, since(n), fmt.Sprintf("since %d", n))
	}
	for n := range uint64(300) {
		at(n)
		at(^n)
	}
	for i := range 64 {
		for by := range uint64(3) {
			at(1<<i - 1 + by)
		}
	}
	for n := uint64(10); n <= 1e18; n *= 10 {
		at(n - 1)
		at(n)
		at(n + 1)
	}
	at(1e19)
}

func TestNames(t *testing.T) {
	never(t, ops())
	never(t, api.Pred{Kind: api.Ops, Names: nil})
	never(t, api.Pred{Kind: api.Ops, Names: []string{}})
	for many := range 70 {
		names := some(many)
		if many >= 1 && many <= 32 {
			is(t, ops(names...), "op "+strings.Join(names, ","))
		} else {
			never(t, ops(names...))
			wrong(t, "op "+strings.Join(names, ","))
		}
		if many < 2 || many > 33 {
			continue
		}
		for i := range many {
			for _, name := range []string{"", "aa", "zz", names[(i+1)%many], names[many-1-i], "A", "a1", "a,b", "a b", ",", " ", "é", "\x00", strings.Repeat("n", 16), strings.Repeat("n", 17), names[i] + "a", "a"} {
				other := slices.Clone(names)
				other[i] = name
				judgePred(t, ops(other...))
				judge(t, "op "+strings.Join(other, ","))
			}
		}
	}
	for _, names := range [][]string{
		{"a", "a"}, {"b", "a"}, {"ab", "a"}, {"read", "list"}, {"a", "b", "a"}, {"a", "c", "b"}, {"a", "b", "b"}, {"a", "a", "b"},
		{""}, {"", ""}, {"", "a"}, {"a", ""}, {"a,b"}, {"a,b", "c"}, {"a", "b,c"}, {","}, {" "}, {"a b"}, {" a"}, {"a "}, {"A"}, {"Read"}, {"a1"}, {"0"}, {"a_b"}, {"a-b"}, {"a.b"}, {"/"}, {"*"}, {"é"}, {"\u0161"}, {"\xff"}, {"a\x00"}, {"a\n"}, {strings.Repeat("n", 17)}, {"a", strings.Repeat("n", 17)}, {strings.Repeat("n", 600)}, {strings.Repeat("a,", 20) + "a"},
	} {
		never(t, ops(names...))
		judge(t, "op "+strings.Join(names, ","))
	}
	never(t, ops(slices.Repeat([]string{"a"}, 1<<16)...))
	never(t, ops(slices.Repeat([]string{""}, 32)...))
	is(t, ops("a", strings.Repeat("n", 16)), "op a,nnnnnnnnnnnnnnnn")
}

// paths: such as are right, and others.
func paths() (good, bad []string) {
	good = []string{"/", "/a", "/.a", "/a.", "/a.b", "/...", "/..a", "/a..", "/.-_", "/-", "/_", "/0", "/A/z/Z/9", "/a/b", "/before", "/a/.b/c", "/" + strings.Repeat("n", 64), "/" + strings.Repeat("n", 64) + "/" + strings.Repeat("N", 64), strings.Repeat("/a", 127), strings.Repeat("/a", 128), strings.Repeat("/ab", 85), strings.Repeat("/a", 126) + "/abc", strings.Repeat("/"+strings.Repeat("n", 63), 4)}
	bad = []string{"", "a", "//", "///", "/a/", "//a", "/a//b", "/.", "/..", "/./a", "/../a", "/a/.", "/a/..", "/a/./b", "/a/../b", "/.../..", ".", "..", "./a", "a/b", " ", "/ ", " /", "/a ", " /a", "/a b", "/a /b", "/a\n", "\n/a", "/\x00", "/a\x00", "/a\tb", "/é", "/\u0161", "/\xff", "/a,b", "/a:b", "/a+b", "/a%20b", "/~a", "/a*", "/@", "/[", "/`", "/{", "\\a", "/a\\b", "/" + strings.Repeat("n", 65), "/a/" + strings.Repeat("n", 65), strings.Repeat("/a", 128) + "b", strings.Repeat("/a", 129), strings.Repeat("/"+strings.Repeat("n", 64), 4), strings.Repeat("/", 257), strings.Repeat("a", 256), strings.Repeat("/ab", 86)}
	return good, bad
}

func TestPaths(t *testing.T) {
	good, bad := paths()
	for _, p := range good {
		is(t, under(p), "path "+p)
	}
	for _, p := range bad {
		never(t, under(p))
		wrong(t, "path "+p)
	}
	for x := range 256 {
		sign := string([]byte{byte(x)})
		for _, p := range []string{sign, "/" + sign, "/a" + sign, "/" + sign + "a", "/a" + sign + "b", sign + "/a", "/a/" + sign, "/a" + sign + "/b", "/a/" + sign + "/b"} {
			judgePred(t, under(p))
			judge(t, "path "+p)
		}
	}
}

// Of each Bits: what the first of an address make, and each bit of it turned.
func TestNets(t *testing.T) {
	for _, v6 := range []bool{false, true} {
		long := 32
		if v6 {
			long = 128
		}
		for _, ones := range []byte{0, 255, 0xa5} {
			for bits := range long + 1 {
				r := api.Range{Addr: api.Addr{V6: v6}, Bits: bits}
				for i := range bits {
					r.Addr.B[i/8] |= ones & (128 >> (i % 8))
				}
				is(t, within(r), "net "+netText(r))
				for i := range 128 {
					turned := r
					turned.Addr.B[i/8] ^= 128 >> (i % 8)
					judgePred(t, within(turned))
					if Check(within(turned)) != (i < bits) {
						t.Errorf("Check of %s: %v", dump(within(turned)), i >= bits)
					}
					if Same(within(turned), within(r)) || Same(api.Pred{Net: turned}, api.Pred{Net: r}) {
						t.Errorf("%s is the same as with one bit turned", dump(within(r)))
					}
				}
			}
		}
		for _, bits := range []int{-1, -8, -32, long + 1, long + 8, 255, 256, 256 + 8, 1 << 16, 1<<32 + 8, 1 << 62, math.MaxInt, math.MinInt, math.MinInt + 8} {
			never(t, within(api.Range{Addr: api.Addr{V6: v6}, Bits: bits}))
		}
	}
	for bits := 33; bits <= 130; bits++ {
		never(t, within(four(10, 1, 2, 3, bits)))
		never(t, within(api.Range{Bits: bits}))
	}
	// Bytes behind the fourth, whatever Bits there are.
	for i := 4; i < 16; i++ {
		for _, bits := range []int{0, 8, 31, 32, 33, 8 * i, 8*i + 8, 128} {
			r := four(10, 0, 0, 0, bits)
			r.Addr.B[i] = 1
			never(t, within(r))
		}
	}
	for _, r := range []api.Range{four(1, 2, 3, 4, 8), four(10, 1, 0, 0, 8), four(10, 0, 0, 1, 31), four(1, 0, 0, 0, 0), six(64, 0, 0, 0, 0, 1), six(64, 1, 2, 3, 4, 5, 6, 7, 8), six(127, 0, 0, 0, 0, 0, 0, 0, 1), six(0, 0x8000)} {
		never(t, within(r))
	}
}

// costs: such as are none of NaN.
func costs() []float64 {
	out := []float64{0, minus0(), math.Inf(1), math.Inf(-1)}
	for _, f := range []float64{1, 1.5, 3, 8, 0.1, 0.5, 100, 1e300, 1e-300, 1<<53 - 1, 1 << 53, 1 << 64, 0x1p-1022, math.SmallestNonzeroFloat64, math.MaxFloat64, math.Pi} {
		for _, x := range []float64{f, math.Nextafter(f, 0), math.Nextafter(f, 2*f), math.Float64frombits(math.Float64bits(f) ^ 1)} {
			out = append(out, x, -x)
		}
	}
	for power := -1074; power <= 1023; power += 7 {
		out = append(out, math.Ldexp(1, power), -math.Ldexp(1, power), math.Nextafter(math.Ldexp(1, power), math.Inf(1)))
	}
	return out
}

func TestCosts(t *testing.T) {
	for _, f := range costs() {
		is(t, atMost(f), "cost "+costText(f))
	}
	for _, f := range nones() {
		never(t, atMost(f))
	}
	for seed := range uint64(5000) {
		x := (seed + 1) * 0x9e3779b97f4a7c15
		judgePred(t, bitsAtMost(x))
		judgePred(t, bitsAtMost(x^x>>29))
		judgePred(t, bitsAtMost(x>>(seed%64)))
	}
}

// MaxText: of names, whose text may be longer than it, and of a path, whose text is not right long before.
func TestLengths(t *testing.T) {
	seen := map[int]bool{}
	for many := 1; many <= 32; many++ {
		for bytes := 1; bytes <= 560; bytes++ {
			names := sized(many, bytes)
			if names == nil {
				continue
			}
			s := "op " + strings.Join(names, ",")
			if len(s) > 512 {
				never(t, ops(names...))
				wrong(t, s)
			} else {
				is(t, ops(names...), s)
			}
			seen[len(s)] = true
		}
	}
	for long := 506; long <= 546; long++ {
		if !seen[long] {
			t.Errorf("no names' text of %d bytes was tried", long)
		}
	}
	for bytes := 1; bytes <= 600; bytes++ {
		for _, name := range []string{"/a", "/abcdefg", "/" + strings.Repeat("n", 64), "/" + strings.Repeat("n", 600)} {
			p := strings.Repeat(name, bytes)[:bytes]
			if bytes > 1 {
				p = strings.TrimSuffix(p, "/")
			}
			judgePred(t, under(p))
			judge(t, "path "+p)
			if len(p) > 256 {
				never(t, under(p))
			}
		}
	}
	for _, long := range []int{511, 512, 513} {
		for _, p := range []string{strings.Repeat("/abc", 200)[:long-5], "/" + strings.Repeat("n", long-6)} {
			never(t, under(p))
			wrong(t, "path "+p)
		}
		for _, word := range []string{"before ", "since ", "op ", "net ", "cost "} {
			wrong(t, word+strings.Repeat("1", long-len(word)))
			wrong(t, word+strings.Repeat("a", long-len(word)))
		}
	}
}

// P17.3

func TestWrongTexts(t *testing.T) {
	for _, s := range []string{
		// Nothing, blanks, and a value or a kind alone.
		"", " ", "  ", "   ", "\x00", "\n", "90", "/", "a", "0", "10.0.0.0/8", "3p-1", " 90", " /", " a",
		"before", "since", "op", "path", "net", "cost", "before ", "since ", "op ", "path ", "net ", "cost ", "before  ", "op  ", "path  ", " before", " op", " path ",
		// Blanks where there are none.
		"before  90", " before 90", "before 90 ", "before 9 0", "before 90 90", "before 90 before 90", "op  a", " op a", "op a ", "op a b", "op a, b", "op a ,b", "op a op b", "path  /", " path /", "path / ", "path /a /b", "net  ::/0", " net ::/0", "net ::/0 ", "net :: /0", "net ::/ 0", "cost  0", " cost 0", "cost 0 ", "cost 1p 0", "cost - 0", "b efore 90", "o p a",
		// What stands for a blank elsewhere, or nothing.
		"before\t90", "before\n90", "before\x0090", "before\u00a090", "before90", "before,90", "before:90", "before=90", "before/90", "op\ta", "op:a", "opa", "path/a", "path/", "net::/0", "net10.0.0.0/8", "cost0", "cost-0", "cost\v0",
		// Great letters, other kinds, parts of kinds, and those that go on from one.
		"Before 90", "BEFORE 90", "beforE 90", "Since 90", "SINCE 1", "OP a", "Op a", "oP a", "PATH /", "Path /", "NET ::/0", "Net ::/0", "COST 0", "Cost 0",
		"after 90", "until 90", "time 90", "ops a", "op: a", "o a", "p a", "names a", "operation a", "paths /", "pat /", "url /", "nets ::/0", "ne ::/0", "ip ::/0", "network ::/0", "addr ::/0", "costs 0", "cos 0", "price 0", "befor 90", "efore 90", "befores 90", "beforehand 90", "sinces 90", "sinc 90", "bef 90", "b 90", "s 90", "not op a", "!op a", "op,a", "1 90", "2 90", "3 a", "4 /", "5 ::/0", "6 0", "0 0",
		// Numbers that aren't as they are written.
		"before 01", "before 00", "before 090", "since 00000000000000000000", "before -1", "before +1", "before -0", "before +0", "since -90", "since +90", "before 1.0", "before 1e3", "before 0x1", "before 1_0", "before 1,000", "before x", "before inf", "before 3p0", "before 18446744073709551616", "since 18446744073709551616", "before 18446744073709551617", "before 18446744073709551706", "before 99999999999999999999", "before 36893488147419103232", "before 184467440737095516160", "before 100000000000000000000000000000000", "before \u0661", "before \uff11", "before 1\n", "before 1\x00", "since 1\r\n",
		// Names.
		"op b,a", "op a,a", "op a,b,a", "op ab,a", "op read,list", "op a,", "op ,a", "op ,", "op a,,b", "op ,a,b", "op a,b,", "op A", "op a,B", "op a1", "op 1", "op a;b", "op a.b", "op -", "op /a", "op *", "op aaaaaaaaaaaaaaaaa", "op a,bbbbbbbbbbbbbbbbb", "op é", "op a\n", "op \x00", "op " + strings.Join(some(33), ","),
		// Ranges.
		"net 10.0.0.0", "net 10.0.0.0/", "net /8", "net /", "net 10.0.0.1/8", "net 10.1.0.0/8", "net 1.0.0.0/0", "net 10.0.0.0/33", "net 10.0.0.0/-1", "net 10.0.0.0/08", "net 10.0.0.0/+8", "net 10.0.0.0/8/8", "net 010.0.0.0/8", "net 10.0.0/8", "net 10/8", "net 10.0.0.0.0/8", "net 256.0.0.0/8", "net 10.0.0.0/4294967304", "net 10.0.0.0/18446744073709551624", "net 10.0.0.0/255.0.0.0", "net 10.0.0.0-10.0.0.1", "net 10.0.0.0/128",
		"net ::1/64", "net ::/129", "net ::/-1", "net ::", "net :/0", "net ::/00", "net 0::/0", "net ::0/0", "net 0:0:0:0:0:0:0:0/0", "net 2001:DB8::/32", "net 2001:0db8::/32", "net 2001:db8:0::/32", "net 2001:db8:0:0:0:0:0:0/32", "net 2001:db8::/31x", "net ::ffff:10.0.0.0/104", "net 0.0.0.0::/0", "net [::]/0", "net ::%1/0", "net 1:2:3:4:5:6:7:8:9/0", "net g::/16", "net localhost/8",
		// Costs.
		"cost nan", "cost NaN", "cost -nan", "cost 1", "cost 1.5", "cost 1.0", "cost 1e3", "cost 2p0", "cost 0p0", "cost -0p0", "cost 6p-2", "cost 1p", "cost p1", "cost p", "cost -", "cost --0", "cost +0", "cost +inf", "cost +1p0", "cost -+1p0", "cost 00", "cost 01p0", "cost 1p00", "cost 1p-0", "cost 1p+1", "cost 1p01", "cost Inf", "cost infinity", "cost infp0", "cost 1P0", "cost 0x1p0", "cost 1p1024", "cost 1p-1075", "cost 3p-1075", "cost 9007199254740993p0", "cost 9007199254740991p972", "cost 18446744073709551617p0", "cost 1p18446744073709551616", "cost 1p-18446744073709551616", "cost 0\n", "cost x",
		// The others' values.
		"before a", "before /", "before ::/0", "since 1p0", "op 90", "op /", "op ::/0", "op 3p-1", "path a", "path 90", "path 10.0.0.0/8", "path ::/0", "path 3p-1", "net 90", "net /a", "net a", "net 3p-1", "cost 90", "cost a", "cost /a", "cost ::/0",
		// Bytes that no word has.
		"before 1\x7f", "before 1\x80", "op a\x7f", "path /\x7f", "path /a\x80", "path /\xc3\xa9", "net ::/0\x7f", "cost 0\xff", "\xffop a", "op\x7f a", "op \x7fa", "\x7f", "\xff \xff", "öp a", "op ä",
	} {
		wrong(t, s)
	}
}

// Each text, wrong in each of some ways.
func TestWrongFormsOfRightTexts(t *testing.T) {
	words := []string{"before", "since", "op", "path", "net", "cost"}
	for s := range right() {
		kind, value, _ := strings.Cut(s, " ")
		for _, text := range []string{kind, kind + " ", kind + "  ", kind + "  " + value, " " + s, s + " ", " " + s + " ", s + " " + value, s + " " + s, s + " x", "x " + s, kind + value, kind + "\t" + value, kind + "\n" + value, s + "\n", "\n" + s, s + "\x00", "\x00" + s, "\ufeff" + s, s + "\u00a0", strings.ToUpper(kind) + " " + value, strings.ToUpper(kind[:1]) + kind[1:] + " " + value, kind + "s " + value, kind + ": " + value, kind + "0 " + value, "x" + kind + " " + value, kind[1:] + " " + value, kind[:len(kind)-1] + " " + value, value, " " + value, value + " " + kind, "! " + value, s + "/", s + ",", "0" + s, kind + " ," + value, kind + " +" + value, kind + " \x00" + value, kind + " \"" + value + "\"", kind + " " + value + "é"} {
			judge(t, text)
			if strings.HasPrefix(text, " ") || strings.HasSuffix(text, " ") || strings.Contains(text, "  ") || strings.Count(text, " ") != 1 {
				wrong(t, text)
			}
		}
		for _, word := range words {
			judge(t, word+" "+value)
			judge(t, word+s[len(kind):])
			wrong(t, word+" "+s)
		}
		if upper := strings.ToUpper(s); upper != s {
			wrong(t, upper)
		}
	}
}

// changed: calls what is to be done with a text's beginnings and ends, and with each of its bytes changed, left out, or put in: by each of all 256.
func changed(s string, do func(s string)) {
	for i := range len(s) + 1 {
		front, back := s[:i], s[i:]
		do(front)
		do(back)
		for x := range 256 {
			sign := string([]byte{byte(x)})
			do(front + sign + back)
			if back != "" {
				do(front + sign + back[1:])
			}
		}
		if back != "" {
			do(front + back[1:])
		}
	}
}

func TestChangedTexts(t *testing.T) {
	for s := range right() {
		changed(s, func(s string) { judge(t, s) })
	}
	names := sized(30, 508)
	changed("op "+strings.Join(names, ","), func(s string) {
		if p, ok := Parse(s); ok != known(s) || ok && Text(p) != s {
			t.Errorf("Parse of %s: %s, %v", short(s), dump(p), ok)
		}
	})
}

// Each sign alone as a value, as a word, and behind each word.
func TestSigns(t *testing.T) {
	for sign := rune(0); sign < 0x3000; sign++ {
		x := string(sign)
		for _, word := range []string{"before", "since", "op", "path", "net", "cost"} {
			judge(t, word+" "+x)
			judge(t, word+x)
			judge(t, word+x+"0")
		}
		if sign > 126 {
			for _, s := range []string{x, "op a" + x, "op a," + x, "before 1" + x, "before " + x + "1", "path /a" + x, "path /" + x, "net ::/" + x, "cost " + x, "cost 1p" + x, x + " 0"} {
				wrong(t, s)
			}
		}
	}
}

// All rows of a few pieces, whatever they make.
func TestRowsOfPieces(t *testing.T) {
	var from func(s string, left int)
	from = func(s string, left int) {
		judge(t, s)
		if left == 0 {
			return
		}
		for _, piece := range []string{"before", "since", "op", "path", "net", "cost", " ", "0", "1", "a", "b", ",", "/", ".", "::/0", "10.0.0.0/8", "p", "-", "inf"} {
			from(s+piece, left-1)
		}
	}
	for _, word := range []string{"before ", "since ", "op ", "path ", "net ", "cost ", "x "} {
		from(word, 3)
	}
	from("", 4)
}

// However long a text is, or what a predicate has, each call ends.
func TestLongTexts(t *testing.T) {
	many := 1 << 16
	for _, s := range []string{"a", "0", "1", " ", ",", "/", "/a", "a,", "1 ", "\x00", "\xff", "é", ":", "op a ", "-"} {
		all := strings.Repeat(s, many)
		for _, word := range []string{"", "before ", "since ", "op ", "path ", "net ", "cost ", "op a,", "path /", "before 1", "net ::", "cost 1p"} {
			wrong(t, word+all)
			wrong(t, word+all+"a")
		}
		wrong(t, all+" 0")
		never(t, under(all))
		never(t, under("/"+all))
		never(t, ops(all))
		never(t, ops("a", all))
		never(t, api.Pred{Kind: api.Before, Path: all})
		never(t, api.Pred{Kind: api.Cost, Names: []string{all}})
	}
}

// P17.4

// others: predicates of which no two are the same, each with how it is told.
func others() []api.Pred {
	var out []api.Pred
	for _, p := range right() {
		out = append(out, p)
	}
	for kind := -2; kind <= 9; kind++ {
		base := api.Pred{Kind: kind}
		for _, h := range hurts() {
			p := base
			h.set(&p)
			out = append(out, p)
		}
		out = append(out, base)
	}
	for _, kind := range wrongKinds() {
		out = append(out, api.Pred{Kind: kind})
	}
	return out
}

func TestSame(t *testing.T) {
	l := others()
	told := make([]string, len(l))
	for i, p := range l {
		told[i] = dump(p)
	}
	for i, a := range l {
		for k, b := range l {
			if got := Same(a, b); got != (told[i] == told[k]) {
				t.Errorf("Same of %s and %s: %v", told[i], told[k], got)
			}
		}
	}
}

// full: a predicate of which no field is zero, of any kind.
func full(kind int) api.Pred {
	return api.Pred{Kind: kind, Time: 9, Names: []string{"a", "b", "c"}, Path: "/a/b", Net: six(48, 1, 2, 3), Cost: 1.5}
}

// Two that differ in one field alone, whatever their kinds, both ways round.
func TestSameButForOneField(t *testing.T) {
	for kind := -1; kind <= 8; kind++ {
		for name, set := range map[string]func(p *api.Pred){
			"Kind": func(p *api.Pred) { p.Kind += 10 }, "Kind by a high bit": func(p *api.Pred) { p.Kind += 1 << 32 },
			"Time": func(p *api.Pred) { p.Time = 8 }, "Time 0": func(p *api.Pred) { p.Time = 0 }, "Time by a high bit": func(p *api.Pred) { p.Time += 1 << 63 },
			"Names in another order": func(p *api.Pred) { p.Names = []string{"b", "a", "c"} }, "the last two names": func(p *api.Pred) { p.Names = []string{"a", "c", "b"} }, "a name less": func(p *api.Pred) { p.Names = []string{"a", "b"} }, "a name less in front": func(p *api.Pred) { p.Names = []string{"b", "c"} }, "a name more": func(p *api.Pred) { p.Names = []string{"a", "b", "c", "d"} }, "an empty name more": func(p *api.Pred) { p.Names = []string{"a", "b", "c", ""} }, "a name twice": func(p *api.Pred) { p.Names = []string{"a", "b", "c", "c"} }, "names joined": func(p *api.Pred) { p.Names = []string{"a,b,c"} }, "names cut otherwise": func(p *api.Pred) { p.Names = []string{"a", "bc", ""} }, "no names": func(p *api.Pred) { p.Names = nil }, "an empty list": func(p *api.Pred) { p.Names = []string{} }, "another name": func(p *api.Pred) { p.Names = []string{"a", "b", "d"} }, "a great letter": func(p *api.Pred) { p.Names = []string{"a", "b", "C"} }, "empty names": func(p *api.Pred) { p.Names = []string{"", "", ""} },
			"Path": func(p *api.Pred) { p.Path = "/a/c" }, "Path of a byte less": func(p *api.Pred) { p.Path = "/a/" }, "Path that comes to the same": func(p *api.Pred) { p.Path = "/a//b" }, "no Path": func(p *api.Pred) { p.Path = "" }, "Path in great letters": func(p *api.Pred) { p.Path = "/A/b" },
			"V6": func(p *api.Pred) { p.Net.Addr.V6 = false }, "Bits": func(p *api.Pred) { p.Net.Bits = 49 }, "Bits below 0": func(p *api.Pred) { p.Net.Bits = -48 }, "the last byte": func(p *api.Pred) { p.Net.Addr.B[15] = 1 }, "the first byte": func(p *api.Pred) { p.Net.Addr.B[0] ^= 128 }, "no Net": func(p *api.Pred) { p.Net = api.Range{} },
			"Cost": func(p *api.Pred) { p.Cost = math.Nextafter(1.5, 2) }, "Cost below 0": func(p *api.Pred) { p.Cost = -1.5 }, "Cost 0": func(p *api.Pred) { p.Cost = 0 }, "Cost NaN": func(p *api.Pred) { p.Cost = math.NaN() },
		} {
			a, b := full(kind), full(kind)
			if !Same(a, b) {
				t.Errorf("%s isn't the same as itself", dump(a))
			}
			set(&b)
			if Same(a, b) || Same(b, a) {
				t.Errorf("%s is the same with %s changed", dump(a), name)
			}
			if !Same(b, b) {
				t.Errorf("%s isn't the same as itself", dump(b))
			}
		}
		// Names in other memory, with other spare room; nil and an empty list.
		a, b := full(kind), full(kind)
		b.Names = append(slices.Grow([]string{}, 20), strings.Split(strings.Join(a.Names, ","), ",")...)
		if !Same(a, b) {
			t.Errorf("%s isn't the same with other names like its own", dump(a))
		}
		a.Names, b.Names = nil, []string{}
		if !Same(a, b) || !Same(b, a) || !Same(a, a) || !Same(b, b) {
			t.Errorf("%s isn't the same with an empty list", dump(a))
		}
	}
}

// Costs, bit by bit: whatever their numbers are, and of each kind.
func TestSameOfCosts(t *testing.T) {
	l := noneBits()
	for _, f := range []float64{0, minus0(), 1, -1, 1.5, math.Inf(1), math.Inf(-1), math.MaxFloat64, math.SmallestNonzeroFloat64, -math.SmallestNonzeroFloat64} {
		l = append(l, math.Float64bits(f))
	}
	l = slices.Compact(slices.Sorted(slices.Values(l)))
	for _, x := range l {
		for i := range 64 {
			if a, b := bitsAtMost(x), bitsAtMost(x^1<<i); Same(a, b) || Same(b, a) {
				t.Errorf("%016x is the same with bit %d turned", x, i)
			}
		}
		for _, y := range l {
			for _, kind := range []int{0, 1, 6, 7} {
				a, b := full(kind), full(kind)
				a.Cost, b.Cost = math.Float64frombits(x), math.Float64frombits(y)
				if Same(a, b) != (x == y) {
					t.Errorf("Same of the bits %016x and %016x: %v", x, y, x != y)
				}
			}
		}
	}
	zero, minus := atMost(0), atMost(minus0())
	if Same(zero, minus) || Same(minus, zero) || !Same(minus, minus) || !Same(zero, zero) {
		t.Error("0 and -0")
	}
	if !Same(atMost(math.NaN()), atMost(math.NaN())) || Same(bitsAtMost(0x7ff8000000000001), bitsAtMost(0x7ff8000000000002)) {
		t.Error("NaN")
	}
}

// All calls

// overwrite: writes a list over, its spare room too.
func overwrite(l []string) {
	all := l[:cap(l)]
	for i := range all {
		all[i] = "written over"
	}
}

// What Parse answers is the caller's: written over, no later answer is another one.
func TestNamesAreNewMemory(t *testing.T) {
	for _, many := range []int{1, 2, 3, 31, 32} {
		s := "op " + strings.Join(some(many), ",")
		first, ok := Parse(s)
		second, _ := Parse(s)
		overwrite(first.Names)
		if !ok || !slices.Equal(second.Names, some(many)) {
			t.Errorf("Parse of %q: %q", s, second.Names)
		}
		is(t, second, s)
	}
}

// No call changes what it is handed in, spare room included, or keeps any of it.
func TestArgumentsStayAsTheyAre(t *testing.T) {
	for _, many := range []int{0, 1, 2, 31, 32, 33} {
		room := append(slices.Grow(some(many), 8), "spare", "room")
		was := slices.Clone(room)
		for kind := range 8 {
			p := api.Pred{Kind: kind, Names: room[:many]}
			s := Text(p)
			if Check(p) != (s != "") || !Same(p, p) || !slices.Equal(room, was) {
				t.Errorf("%s, with %q behind: %q", dump(p), room, s)
			}
		}
		p := ops(room[:many]...)
		s := Text(p)
		overwrite(room)
		if many >= 1 && many <= 32 {
			is(t, ops(was[:many]...), s)
		}
		never(t, ops(room[:many]...))
	}
}

// P1 and P2: what a call answers doesn't hang on the calls ahead of it.
func TestAnswersStayTheSame(t *testing.T) {
	texts := []string{"", " ", "op a", "op b,a", "before 90", "before 090", "path /", "path //", "net ::/0", "net ::1/0", "cost -0", "cost NaN", "op " + strings.Join(some(32), ",")}
	preds := others()
	ask := func(i int) string {
		s, a, b := texts[i%len(texts)], preds[i%len(preds)], preds[(3*i+1)%len(preds)]
		p, ok := Parse(s)
		return fmt.Sprintf("%s %v %v %q %v %v", dump(p), ok, Check(a), Text(a), Same(a, b), Same(a, p))
	}
	var first []string
	for i := range 3 * len(preds) {
		first = append(first, ask(i))
	}
	for i, was := range slices.Backward(first) {
		if again := ask(i); again != was {
			t.Errorf("%s, and then %s", was, again)
		}
	}
}

func FuzzTexts(f *testing.F) {
	for s := range right() {
		f.Add(s)
	}
	f.Fuzz(judge)
}

func FuzzPreds(f *testing.F) {
	f.Add(1, uint64(90), "", "", false, []byte{}, 0, uint64(0))
	f.Add(3, uint64(0), "list,read", "", false, []byte{}, 0, uint64(0))
	f.Add(4, uint64(0), "", "/a/b", false, []byte{}, 0, uint64(0))
	f.Add(5, uint64(0), "", "", true, []byte{0x20, 1}, 16, uint64(0))
	f.Add(6, uint64(0), "", "", false, []byte{}, 0, math.Float64bits(1.5))
	f.Fuzz(func(t *testing.T, kind int, time uint64, names, path string, v6 bool, b []byte, bits int, cost uint64) {
		p := api.Pred{Kind: kind, Time: time, Path: path, Net: api.Range{Addr: api.Addr{V6: v6}, Bits: bits}, Cost: math.Float64frombits(cost)}
		if names != "" {
			p.Names = strings.Split(names, ",")
		}
		copy(p.Net.Addr.B[:], b)
		judgePred(t, p)
		// Its own field alone, of each kind.
		for kind, own := range []api.Pred{1: before(p.Time), 2: since(p.Time), 3: ops(p.Names...), 4: under(p.Path), 5: within(p.Net), 6: atMost(p.Cost)} {
			judgePred(t, own)
			if kind > 0 && Check(own) != (spelt(own) != "") {
				t.Errorf("Check of %s", dump(own))
			}
		}
	})
}
