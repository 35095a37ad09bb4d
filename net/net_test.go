package net

import (
	"fmt"
	"math"
	"net/netip"
	"slices"
	"strconv"
	"strings"
	"testing"

	"chitty/addr"
	"chitty/api"
)

// chance: 16 bytes that no rule of the program makes, others for each seed.
func chance(seed uint64) (out [16]byte) {
	for i := range out {
		seed = seed*6364136223846793005 + 1442695040888963407
		out[i] = byte(seed >> 40)
	}
	return out
}

// bit: is the address's bit at that place set?
func bit(a api.Addr, i int) bool { return a.B[i/8]>>(7-i%8)&1 == 1 }

// turned: the address, with one bit turned.
func turned(a api.Addr, i int) api.Addr {
	a.B[i/8] ^= 1 << (7 - i%8)
	return a
}

// longest: how many bits an address of the kind has.
func longest(v6 bool) int {
	if v6 {
		return 128
	}
	return 32
}

// cut: the address, with 0 from that bit on; with 1, if ones is set. Told bit by bit.
func cut(a api.Addr, bits int, ones bool) api.Addr {
	for i := bits; i < longest(a.V6); i++ {
		if bit(a, i) != ones {
			a = turned(a, i)
		}
	}
	return a
}

// whole: can the address be? Told bit by bit.
func whole(a api.Addr) bool {
	for i := longest(a.V6); i < 128; i++ {
		if bit(a, i) {
			return false
		}
	}
	return true
}

// sound: can the range be? Told bit by bit.
func sound(r api.Range) bool {
	if r.Bits < 0 || r.Bits > longest(r.Addr.V6) {
		return false
	}
	for i := r.Bits; i < 128; i++ {
		if bit(r.Addr, i) {
			return false
		}
	}
	return true
}

// among: has the range the address? Told bit by bit.
func among(r api.Range, a api.Addr) bool {
	if !sound(r) || !whole(a) || r.Addr.V6 != a.V6 {
		return false
	}
	for i := range r.Bits {
		if bit(r.Addr, i) != bit(a, i) {
			return false
		}
	}
	return true
}

// inside: can both be, and has b each address of a? A range's addresses stand in a row: it's enough to ask for the ends.
func inside(a, b api.Range) bool {
	return sound(a) && among(b, a.Addr) && among(b, cut(a.Addr, a.Bits, true))
}

// known: is it the text of some range? No number is read: each that there may be is tried.
func known(s string) bool {
	at := strings.LastIndex(s, "/")
	if at < 0 {
		return false
	}
	a, ok := addr.Parse(s[:at])
	for bits := range longest(a.V6) + 1 {
		if ok && s[at+1:] == fmt.Sprint(bits) {
			return sound(api.Range{Addr: a, Bits: bits})
		}
	}
	return false
}

// toLibrary: the library's own range.
func toLibrary(r api.Range) netip.Prefix {
	return netip.PrefixFrom(toLibraryAddr(r.Addr), r.Bits)
}

// toLibraryAddr: the library's own address.
func toLibraryAddr(a api.Addr) netip.Addr {
	if a.V6 {
		return netip.AddrFrom16(a.B)
	}
	return netip.AddrFrom4([4]byte(a.B[:4]))
}

// goes: can the range be, is it its text, and is it the range whose text it is?
func goes(t *testing.T, r api.Range, s string) {
	t.Helper()
	if !Check(r) || !sound(r) {
		t.Errorf("%v can't be", r)
	}
	if got := Text(r); got != s {
		t.Errorf("Text of %v: %q, not %q", r, got, s)
	}
	if got, ok := Parse(s); !ok || got != r {
		t.Errorf("Parse of %q: %v, %v; not %v", s, got, ok, r)
	}
	if p, err := netip.ParsePrefix(s); err != nil || p != toLibrary(r) || p.Masked() != p {
		t.Errorf("%q is %v for the library, %v", s, p, err)
	}
}

// wrong: is it no range's text?
func wrong(t *testing.T, s string) {
	t.Helper()
	if r, ok := Parse(s); ok || r != (api.Range{}) {
		t.Errorf("Parse of %.80q, of %d bytes: %v, %v", s, len(s), r, ok)
	}
	if known(s) {
		t.Errorf("%q is a range's text", s)
	}
}

// judged: wrong, or the text of a range, whichever known tells.
func judged(t *testing.T, s string) {
	t.Helper()
	if !known(s) {
		wrong(t, s)
		return
	}
	r, ok := Parse(s)
	if !ok || !sound(r) || Text(r) != s || r.Addr.V6 != strings.Contains(s, ":") {
		t.Errorf("Parse of %q: %v, %v", s, r, ok)
	}
}

// never: a range that can't be: is it told so by each call?
func never(t *testing.T, r api.Range) {
	t.Helper()
	if Check(r) || sound(r) {
		t.Errorf("%v can be", r)
	}
	if s := Text(r); s != "" {
		t.Errorf("Text of %v: %q", r, s)
	}
	v4, v6 := api.Range{}, api.Range{Addr: api.Addr{V6: true}}
	for _, a := range []api.Addr{r.Addr, v4.Addr, v6.Addr, addr.Four(255, 255, 255, 255), addr.Four(10, 1, 2, 3)} {
		if Has(r, a) {
			t.Errorf("%v has %v", r, a)
		}
	}
	for _, x := range []api.Range{r, v4, v6, {Bits: 32}, {Addr: v6.Addr, Bits: 128}} {
		if Within(r, x) || Within(x, r) {
			t.Errorf("%v is within %v, or the other way round", r, x)
		}
	}
}

// must: the range of an address's first bits, by the tests' own word. (Not by Of, which is tried itself.)
func must(a api.Addr, bits int) api.Range { return api.Range{Addr: cut(a, bits, false), Bits: bits} }

// wrongBits: numbers that are no range's Bits; some are when they are cut to fewer bits of a number.
func wrongBits(v6 bool) []int {
	out := []int{-1, -2, -7, -8, -31, -32, -33, -127, -128, -129, -248, -255, -256, math.MinInt, math.MinInt + 1, math.MinInt + 8, math.MinInt + 32, math.MaxInt, math.MaxInt - 7,
		129, 130, 255, 256, 256 + 8, 256 + 32, 1 << 16, 1<<16 + 8, 1<<31 - 1, 1 << 31, 1 << 32, 1<<32 + 8, 1<<32 + 32, 1 << 40, 1 << 62, -1 << 31, -1 << 32, -1<<32 + 8}
	for bits := 33; bits <= 128 && !v6; bits++ {
		out = append(out, bits)
	}
	return out
}

// broken: addresses that can't be.
func broken() []api.Addr {
	out := []api.Addr{{B: chance(1)}, {B: [16]byte{10, 1, 2, 3, 4}}, {B: [16]byte{4: 255}}}
	for i := 32; i < 128; i++ {
		out = append(out, turned(api.Addr{}, i), turned(addr.Four(10, 1, 2, 3), i))
	}
	return out
}

// some: addresses that can be, of one kind.
func some(v6 bool) []api.Addr {
	var zero api.Addr
	zero.V6 = v6
	out := []api.Addr{zero, cut(zero, 0, true)}
	for seed := range uint64(12) {
		a := api.Addr{V6: v6, B: chance(seed)}
		if !v6 {
			clear(a.B[4:])
		}
		out = append(out, a)
	}
	return out
}

// P13.1

// Of each Bits that there may be, each bit alone: ahead of it the range can be, from there on it can't.
func TestCheckOfSingleBits(t *testing.T) {
	for _, v6 := range []bool{false, true} {
		zero := api.Addr{V6: v6}
		for bits := range longest(v6) + 1 {
			if !Check(api.Range{Addr: zero, Bits: bits}) {
				t.Errorf("of Bits 0, %d of them can't be", bits)
			}
			for i := range 128 {
				if r := (api.Range{Addr: turned(zero, i), Bits: bits}); Check(r) != (i < bits) {
					t.Errorf("%v: %v", r, Check(r))
				}
			}
		}
	}
}

// The same beside other bits: those ahead are any, and one from Bits on is one too many.
func TestCheckOfSingleBitsBesideOthers(t *testing.T) {
	for _, v6 := range []bool{false, true} {
		for bits := range longest(v6) + 1 {
			for _, a := range some(v6) {
				r := must(a, bits)
				if !Check(r) {
					t.Errorf("%v can't be", r)
				}
				for i := range 128 {
					if x := (api.Range{Addr: turned(r.Addr, i), Bits: bits}); Check(x) != (i < bits) {
						t.Errorf("%v: %v", x, Check(x))
					}
				}
			}
		}
	}
}

func TestEdgesOfBits(t *testing.T) {
	for _, v6 := range []bool{false, true} {
		for _, a := range some(v6) {
			for bits := -300; bits <= 300; bits++ {
				want := bits >= 0 && (bits <= 32 || v6 && bits <= 128)
				r, ok := Of(a, bits)
				if ok != want || Check(api.Range{Addr: api.Addr{V6: v6}, Bits: bits}) != want {
					t.Errorf("%d bits of %v: %v", bits, a, ok)
				}
				if want && r != must(a, bits) || !want && r != (api.Range{}) {
					t.Errorf("Of of %v and %d: %v", a, bits, r)
				}
			}
			for _, bits := range wrongBits(v6) {
				if r, ok := Of(a, bits); ok || r != (api.Range{}) {
					t.Errorf("Of of %v and %d: %v, %v", a, bits, r, ok)
				}
			}
		}
		for _, bits := range wrongBits(v6) {
			never(t, api.Range{Addr: api.Addr{V6: v6}, Bits: bits})
			never(t, api.Range{Addr: api.Addr{V6: v6, B: [16]byte{10}}, Bits: bits})
			never(t, api.Range{Addr: some(v6)[5], Bits: bits})
		}
	}
}

func TestOf(t *testing.T) {
	ones, wide := addr.Four(255, 255, 255, 255), addr.Six([8]uint16{0xffff, 0xffff, 0xffff, 0xffff, 0xffff, 0xffff, 0xffff, 0xffff})
	for _, x := range []struct {
		a    api.Addr
		bits int
		want string
	}{
		{ones, 0, "0.0.0.0/0"}, {ones, 1, "128.0.0.0/1"}, {ones, 7, "254.0.0.0/7"}, {ones, 8, "255.0.0.0/8"}, {ones, 9, "255.128.0.0/9"}, {ones, 31, "255.255.255.254/31"}, {ones, 32, "255.255.255.255/32"},
		{wide, 0, "::/0"}, {wide, 1, "8000::/1"}, {wide, 7, "fe00::/7"}, {wide, 8, "ff00::/8"}, {wide, 9, "ff80::/9"}, {wide, 31, "ffff:fffe::/31"}, {wide, 32, "ffff:ffff::/32"}, {wide, 33, "ffff:ffff:8000::/33"},
		{wide, 127, "ffff:ffff:ffff:ffff:ffff:ffff:ffff:fffe/127"}, {wide, 128, "ffff:ffff:ffff:ffff:ffff:ffff:ffff:ffff/128"},
		{addr.Four(10, 1, 2, 3), 8, "10.0.0.0/8"}, {addr.Four(10, 1, 2, 3), 31, "10.1.2.2/31"}, {addr.Four(10, 1, 2, 3), 32, "10.1.2.3/32"}, {addr.Four(10, 1, 200, 3), 17, "10.1.128.0/17"},
		{addr.Six([8]uint16{0x2001, 0xdb8, 0, 0, 0, 0, 0, 1}), 32, "2001:db8::/32"}, {addr.Six([8]uint16{0x2001, 0xdb8, 0, 0, 0, 0, 0, 1}), 28, "2001:db0::/28"},
	} {
		r, ok := Of(x.a, x.bits)
		if !ok {
			t.Errorf("no range of %v and %d", x.a, x.bits)
		}
		goes(t, r, x.want)
	}
}

// At each Bits of many addresses, what stands from there on is 0, and what is ahead of it is as it was.
func TestOfHasNoughtsBehind(t *testing.T) {
	for _, v6 := range []bool{false, true} {
		for _, a := range some(v6) {
			for bits := range longest(v6) + 1 {
				r, ok := Of(a, bits)
				if p := toLibrary(api.Range{Addr: a, Bits: bits}).Masked(); !ok || r != must(a, bits) || !Check(r) || toLibrary(r) != p {
					t.Errorf("Of of %v and %d: %v, %v", a, bits, r, ok)
				}
				if again, ok := Of(r.Addr, bits); !ok || again != r {
					t.Errorf("Of of %v and %d: %v", r.Addr, bits, again)
				}
			}
		}
	}
}

// However many bits are asked for, an address that can't be makes no range, and is none's.
func TestAddressesThatCanNotBe(t *testing.T) {
	for _, a := range broken() {
		for _, bits := range []int{0, 1, 7, 8, 9, 31, 32, 33, 64, 127, 128, 129, -1, math.MinInt, math.MaxInt} {
			if r, ok := Of(a, bits); ok || r != (api.Range{}) {
				t.Errorf("Of of %v and %d: %v", a, bits, r)
			}
			never(t, api.Range{Addr: a, Bits: bits})
		}
		for bits := range 33 {
			first := a
			clear(first.B[4:])
			for _, r := range []api.Range{{}, must(first, bits), {Addr: api.Addr{V6: true}}} {
				if Has(r, a) {
					t.Errorf("%v has %v", r, a)
				}
			}
		}
	}
}

// P13.2

func TestTexts(t *testing.T) {
	six := func(bits int, l ...uint16) api.Range {
		return api.Range{Addr: addr.Six([8]uint16(append(l, make([]uint16, 8-len(l))...))), Bits: bits}
	}
	for s, r := range map[string]api.Range{
		"0.0.0.0/0":           {},
		"0.0.0.0/1":           {Bits: 1},
		"0.0.0.0/9":           {Bits: 9},
		"0.0.0.0/10":          {Bits: 10},
		"0.0.0.0/32":          {Bits: 32},
		"10.0.0.0/8":          {Addr: addr.Four(10, 0, 0, 0), Bits: 8},
		"10.0.0.0/7":          {Addr: addr.Four(10, 0, 0, 0), Bits: 7},
		"10.0.0.0/32":         {Addr: addr.Four(10, 0, 0, 0), Bits: 32},
		"10.1.128.0/17":       {Addr: addr.Four(10, 1, 128, 0), Bits: 17},
		"128.0.0.0/1":         {Addr: addr.Four(128, 0, 0, 0), Bits: 1},
		"1.2.3.4/30":          {Addr: addr.Four(1, 2, 3, 4), Bits: 30},
		"1.2.3.4/32":          {Addr: addr.Four(1, 2, 3, 4), Bits: 32},
		"255.255.255.254/31":  {Addr: addr.Four(255, 255, 255, 254), Bits: 31},
		"255.255.255.255/32":  {Addr: addr.Four(255, 255, 255, 255), Bits: 32},
		"::/0":                six(0),
		"::/9":                six(9),
		"::/10":               six(10),
		"::/99":               six(99),
		"::/100":              six(100),
		"::/128":              six(128),
		"8000::/1":            six(1, 0x8000),
		"fe80::/10":           six(10, 0xfe80),
		"2001:db8::/29":       six(29, 0x2001, 0xdb8),
		"2001:db8::/32":       six(32, 0x2001, 0xdb8),
		"2001:db8::/128":      six(128, 0x2001, 0xdb8),
		"::2/127":             six(127, 0, 0, 0, 0, 0, 0, 0, 2),
		"::1/128":             six(128, 0, 0, 0, 0, 0, 0, 0, 1),
		"1:2:3:4:5:6:7:8/128": six(128, 1, 2, 3, 4, 5, 6, 7, 8),
		"a00::/8":             six(8, 0xa00),
	} {
		goes(t, r, s)
	}
}

// Each Bits of many addresses: the text is the address's, and how many bits.
func TestRangesComeBack(t *testing.T) {
	for _, v6 := range []bool{false, true} {
		for _, a := range some(v6) {
			for bits := range longest(v6) + 1 {
				r := must(a, bits)
				goes(t, r, addr.Text(r.Addr)+fmt.Sprintf("/%d", bits))
				// One bit more, from there on, makes a text that is none's.
				for i := bits; i < longest(v6); i++ {
					wrong(t, addr.Text(turned(r.Addr, i))+fmt.Sprintf("/%d", bits))
				}
			}
		}
	}
}

// The text of each range that can't be is empty: where its Bits are too many, and where a bit behind them is set.
func TestTextOfWhatCanNotBe(t *testing.T) {
	for _, v6 := range []bool{false, true} {
		for _, a := range some(v6)[2:6] {
			for bits := range longest(v6) {
				never(t, api.Range{Addr: turned(must(a, bits).Addr, bits), Bits: bits})
				never(t, api.Range{Addr: turned(must(a, bits).Addr, 127), Bits: bits})
			}
		}
	}
}

func TestWrongTexts(t *testing.T) {
	for _, s := range []string{
		// Empty, without a /, and an address alone.
		"", " ", "0", "8", "x", "1.2.3.4", "10.0.0.0", "0.0.0.0", "::", "2001:db8::", "10.0.0.08", "10.0.0.0 8", "::0", "10.0.0.0\\8", "10.0.0.0|8", "10.0.0.0:8", "10.0.0.0%8", "::%8", "10.0.0.0\uff0f8",
		// More than one /.
		"/", "//", "///", "10.0.0.0//8", "10.0.0.0/8/", "/10.0.0.0/8", "10.0.0.0/8/8", "0.0.0.0/0/0", "::/0/0", "::/0/", "/::/0", "::/128/128", "::/1/28", "10.0.0.0/8/10.0.0.0/8", "10.0.0.0/0/8", "//8",
		// Without an address, or without Bits.
		"/0", "/8", "/128", "10.0.0.0/", "0.0.0.0/", "::/", "/10.0.0.0", "/::", "8/10.0.0.0", "0/::",
		// Noughts ahead.
		"10.0.0.0/08", "10.0.0.0/008", "0.0.0.0/00", "::/00", "::/000", "1.2.3.4/032", "::/0128", "::/01", "10.0.0.0/000000000000000000000000008", "0.0.0.0/0000000000000000000000",
		// A plus, or a minus.
		"10.0.0.0/+8", "0.0.0.0/+0", "0.0.0.0/-0", "::/-0", "::/+0", "::/+128", "1.2.3.0/+24", "0.0.0.0/-1", "10.0.0.0/-8", "::/-1", "1.2.3.4/-32", "0.0.0.0/--0", "10.0.0.0/++8", "10.0.0.0/8+", "10.0.0.0/8-", "10.0.0.0/+", "10.0.0.0/-", "+10.0.0.0/8", "-10.0.0.0/8", "0.0.0.0/-9223372036854775808",
		// Too large.
		"0.0.0.0/33", "1.2.3.4/33", "10.0.0.0/40", "0.0.0.0/64", "0.0.0.0/128", "0.0.0.0/255", "0.0.0.0/256", "10.0.0.0/264", "0.0.0.0/65536", "10.0.0.0/65544", "::/129", "::/130", "::/200", "::/255", "::/256", "::/999", "::1/129", "::/1000", "::/1280", "::1/128128",
		// Beyond an int, and such as would be right if they were cut to fewer bits.
		"0.0.0.0/4294967296", "10.0.0.0/4294967304", "0.0.0.0/9223372036854775807", "0.0.0.0/9223372036854775808", "0.0.0.0/18446744073709551615", "0.0.0.0/18446744073709551616", "10.0.0.0/18446744073709551624", "1.2.3.4/18446744073709551648", "::1/18446744073709551744", "::/340282366920938463463374607431768211456", "0.0.0.0/-9223372036854775809", "0.0.0.0/-18446744073709551616", "0.0.0.0/99999999999999999999999999999999",
		// Blanks.
		" 10.0.0.0/8", "10.0.0.0 /8", "10.0.0.0/ 8", "10.0.0.0/8 ", "10.0.0.0 / 8", " ::/0", "::/0 ", ":: /0", "::/ 0", "0.0.0.0/ ", " /0", "0.0.0.0/\t0", "0.0.0.0/0\n", "\n0.0.0.0/0", "::/0\r", "10.0.0.0/1 6", "0.0.0.0/0\x00", "\x000.0.0.0/0", "0.0.0.0\x00/0", "0.0.0.0/\u00a00",
		// Digits that are none, or of another kind.
		"10.0.0.0/x", "::/x", "10.0.0.0/8x", "10.0.0.0/x8", "10.0.0.0/0x8", "10.0.0.0/0b1000", "10.0.0.0/0o10", "10.0.0.0/1_6", "10.0.0.0/8.0", "10.0.0.0/8.", "10.0.0.0/.8", "0.0.0.0/0e0", "10.0.0.0/8e0", "10.0.0.0/\uff18", "10.0.0.0/\u0668", "10.0.0.0/\xff", "10.0.0.0/8\xff", "::/a", "::/F", "::/0a", "10.0.0.0/255.0.0.0", "10.0.0.0/10.0.0.0", "::/::", "10.0.0.0/eight", "0.0.0.0/inf", "0.0.0.0/NaN",
		// An address that is no address's Text.
		"010.0.0.0/8", "10.0.0/8", "10/8", "10./8", "10.0.0.0.0/8", "10.0.0.256/32", "10.0.0.00/8", "a.0.0.0/8", "10,0,0,0/8", "0:0:0:0:0:0:0:0/0", "0::/0", "::0/0", "::0/128", "0::0/0", ":::/0", ":/0", "2001:0db8::/32", "2001:DB8::/32", "FE80::/10", "2001:db8:0:0:0:0:0:0/32", "2001:db8::0/32", "::1.2.3.4/128", "::ffff:1.2.3.4/128", "::ffff:0.0.0.0/96", "[::]/0", "[::/0]", "::%eth0/0", "fe80::%1/10", "1:2:3:4:5:6:7::/112", "1:2:3:4:5:6:7:8:9/128", "10000::/8", "x/8", "./0", "localhost/8", "256.0.0.0/8",
		// A range whose bits from Bits on aren't 0.
		"10.1.2.3/8", "10.0.0.1/8", "1.2.3.4/0", "0.0.0.1/0", "128.0.0.0/0", "64.0.0.0/1", "255.255.255.255/31", "1.2.3.5/31", "1.2.3.4/29", "10.1.128.0/16", "11.0.0.0/7", "255.255.255.255/0", "::1/0", "::1/127", "::3/127", "8000::/0", "4000::/1", "2001:db8::1/32", "2001:db8::/28", "fe80::1/64", "ffff:ffff:ffff:ffff:ffff:ffff:ffff:ffff/127", "0.0.0.1/31", "::1/32", "1::/15", "0.0.1.0/23",
	} {
		wrong(t, s)
	}
}

// All Bits of a few addresses, in each way a number might be spelt.
func TestOneTextAlone(t *testing.T) {
	for _, a := range []string{"0.0.0.0", "10.0.0.0", "255.255.255.255", "::", "2001:db8::", "::1", "", "0", "1.2.3.4.5"} {
		for bits := -10; bits < 300; bits++ {
			for _, form := range []string{"%d", "%02d", "%03d", "%04d", "%+d", "%x", "%#x", "%o", "%#o", "%b", "% d", "%2d", "%4d", "%-3d", "%-4d", "%q", "%d.", "/%d", "%d/", "%d0", "%d_", "\x00%d"} {
				judged(t, a+"/"+fmt.Sprintf(form, bits))
			}
			judged(t, a+strconv.Itoa(bits))
			judged(t, strconv.Itoa(bits)+"/"+a)
		}
	}
}

// rights: texts of ranges, of all shapes.
func rights() []string {
	return []string{"0.0.0.0/0", "10.0.0.0/8", "10.1.128.0/17", "1.2.3.4/32", "255.255.255.254/31", "192.168.0.0/16", "::/0", "::/128", "8000::/1", "2001:db8::/32", "fe80::1/128", "1:2:3:4:5:6:7:8/128", "abcd:ef01:2345:6789:abcd:ef01:2345:6780/124", "::ffff:102:304/127", "::ffff:0:0/96"}
}

// Each byte of a right text changed, left out, or put in: by each of all 256.
func TestChangedTexts(t *testing.T) {
	for _, s := range rights() {
		if !known(s) {
			t.Errorf("%q is no range's text", s)
		}
		for i := range len(s) + 1 {
			judged(t, s[:i])
			judged(t, s[i:])
			for x := range 256 {
				sign := string([]byte{byte(x)})
				judged(t, s[:i]+sign+s[i:])
				if i < len(s) {
					judged(t, s[:i]+sign+s[i+1:])
				}
			}
			if i < len(s) {
				judged(t, s[:i]+s[i+1:])
			}
		}
		for _, other := range rights() {
			judged(t, s+other)
			judged(t, s+"/"+other)
			front, _, _ := strings.Cut(s, "/")
			_, back, _ := strings.Cut(other, "/")
			judged(t, front+"/"+back)
		}
	}
}

// All rows of a few pieces, whatever they make.
func TestRowsOfPieces(t *testing.T) {
	pieces := []string{"0.0.0.0", "::", "8000::", "/", "0", "1", "28", "-", " "}
	var row func(s string, more int)
	row = func(s string, more int) {
		judged(t, s)
		if more == 0 {
			return
		}
		for _, p := range pieces {
			row(s+p, more-1)
		}
	}
	row("", 5)
}

// However long a text is, Parse ends.
func TestLongTexts(t *testing.T) {
	many := 1 << 20
	for _, s := range []string{"0", "1", "9", "/", "::/0", "10.0.0.0/8", "/8", "8/", ":", "::", ".", "0.", " ", "-", "+", "\x00", "\xff", "ä"} {
		all := strings.Repeat(s, many)
		for _, text := range []string{all, "10.0.0.0/" + all, "10.0.0.0/8" + all, "::/" + all, "::/-" + all, all + "/8", all + "10.0.0.0/8", "::" + all + "/0", all + "::/0", all + "/" + all} {
			if r, ok := Parse(text); ok || r != (api.Range{}) {
				t.Errorf("Parse of %.40q, of %d bytes: %v, %v", text, len(text), r, ok)
			}
		}
	}
}

// P13.3

func TestExample(t *testing.T) {
	r, ok := Parse("10.0.0.0/8")
	if !ok || !Has(r, addr.Four(10, 1, 2, 3)) || Has(r, addr.Four(11, 0, 0, 0)) {
		t.Error(r, ok)
	}
}

func TestHas(t *testing.T) {
	for _, x := range []struct {
		r    string
		has  []string
		hasn []string
	}{
		{"10.0.0.0/8", []string{"10.0.0.0", "10.1.2.3", "10.255.255.255"}, []string{"11.0.0.0", "9.255.255.255", "0.0.0.0", "255.255.255.255", "::", "a00::", "a01:203::", "::ffff:a01:203", "::a01:203"}},
		{"0.0.0.0/0", []string{"0.0.0.0", "255.255.255.255", "10.1.2.3", "128.0.0.0", "127.255.255.255", "0.0.0.1"}, []string{"::", "::1", "ffff::"}},
		{"::/0", []string{"::", "::1", "8000::", "ffff:ffff:ffff:ffff:ffff:ffff:ffff:ffff", "::ffff:a01:203"}, []string{"0.0.0.0", "10.1.2.3", "255.255.255.255"}},
		{"1.2.3.4/32", []string{"1.2.3.4"}, []string{"1.2.3.5", "1.2.3.3", "1.2.3.6", "0.2.3.4", "129.2.3.4", "102:304::", "0.0.0.0"}},
		{"1.2.3.4/31", []string{"1.2.3.4", "1.2.3.5"}, []string{"1.2.3.6", "1.2.3.3", "1.2.2.4"}},
		{"0.0.0.0/32", []string{"0.0.0.0"}, []string{"0.0.0.1", "128.0.0.0", "::"}},
		{"128.0.0.0/1", []string{"128.0.0.0", "255.255.255.255", "200.1.2.3"}, []string{"127.255.255.255", "0.0.0.0", "8000::"}},
		{"10.1.128.0/17", []string{"10.1.128.0", "10.1.255.255", "10.1.128.1"}, []string{"10.1.127.255", "10.2.128.0", "10.0.128.0", "10.1.0.0", "11.1.128.0", "a01:8000::"}},
		{"::1/128", []string{"::1"}, []string{"::", "::2", "::3", "1::1", "8000::1", "0.0.0.1"}},
		{"::2/127", []string{"::2", "::3"}, []string{"::1", "::", "::4", "::6", "0.0.0.2"}},
		{"::/128", []string{"::"}, []string{"::1", "8000::", "0.0.0.0"}},
		{"2001:db8::/32", []string{"2001:db8::", "2001:db8::1", "2001:db8:ffff:ffff:ffff:ffff:ffff:ffff"}, []string{"2001:db9::", "2001:db7:ffff:ffff:ffff:ffff:ffff:ffff", "2000:db8::", "32.1.13.184"}},
		{"2001:db8::/33", []string{"2001:db8::", "2001:db8:7fff:ffff:ffff:ffff:ffff:ffff"}, []string{"2001:db8:8000::", "2001:db9::", "32.1.13.184"}},
	} {
		r, ok := Parse(x.r)
		if !ok {
			t.Errorf("%q is no range's", x.r)
		}
		for i, s := range slices.Concat(x.has, x.hasn) {
			a, ok := addr.Parse(s)
			if want := i < len(x.has); !ok || Has(r, a) != want {
				t.Errorf("%s has %s: %v", x.r, s, !want)
			}
		}
	}
}

// Each bit of an address turned: ahead of Bits it's the range's no more, from there on it is still. So are both ends.
func TestHasOfSingleBits(t *testing.T) {
	for _, v6 := range []bool{false, true} {
		for _, a := range some(v6) {
			for bits := range longest(v6) + 1 {
				r := must(a, bits)
				for _, x := range []api.Addr{a, r.Addr, cut(a, bits, true)} {
					if !Has(r, x) {
						t.Errorf("%v hasn't %v", r, x)
					}
					for i := range longest(v6) {
						if got := Has(r, turned(x, i)); got != (i >= bits) || got != toLibrary(r).Contains(toLibraryAddr(turned(x, i))) {
							t.Errorf("%v has %v: %v", r, turned(x, i), got)
						}
					}
				}
			}
		}
	}
}

// The same bytes, with V6 and without: neither range has the other's address, and neither is within the other.
func TestTheSameBytesWithV6AndWithout(t *testing.T) {
	for _, a := range some(false) {
		wide := a
		wide.V6 = true
		for bits := range 33 {
			r, w := must(a, bits), must(wide, bits)
			if r.Addr.B != w.Addr.B || !Has(r, a) || !Has(w, wide) {
				t.Errorf("%v and %v haven't their own", r, w)
			}
			if Has(r, wide) || Has(w, a) || Has(r, w.Addr) || Has(w, r.Addr) || Within(r, w) || Within(w, r) {
				t.Errorf("%v and %v are held to be one", r, w)
			}
			if Text(r) == Text(w) {
				t.Errorf("%v and %v are both %q", r, w, Text(r))
			}
		}
		all, allWide := api.Range{}, api.Range{Addr: api.Addr{V6: true}}
		for bits := range 129 {
			if Within(must(wide, bits), all) || Within(all, must(wide, bits)) || !Within(must(wide, bits), allWide) {
				t.Errorf("%d bits of %v", bits, wide)
			}
		}
	}
}

// A range that can't be has no address, though its first bits are the address's.
func TestHasOfWhatCanNotBe(t *testing.T) {
	for _, v6 := range []bool{false, true} {
		for _, a := range some(v6) {
			for _, bits := range wrongBits(v6) {
				if r := (api.Range{Addr: a, Bits: bits}); Has(r, a) || Within(r, r) || Within(must(a, 0), r) || Within(r, must(a, 0)) {
					t.Errorf("%v has an address", r)
				}
			}
			for bits := range longest(v6) {
				for i := bits; i < longest(v6); i++ {
					r := api.Range{Addr: turned(must(a, bits).Addr, i), Bits: bits}
					if Has(r, a) || Has(r, r.Addr) || Has(r, must(a, bits).Addr) || Within(r, r) || Within(r, must(a, bits)) || Within(must(a, longest(v6)), r) {
						t.Errorf("%v has an address", r)
					}
				}
			}
		}
	}
}

func TestWithin(t *testing.T) {
	for _, x := range []struct {
		a, b         string
		there, aback bool
	}{
		// A range and itself.
		{"10.0.0.0/8", "10.0.0.0/8", true, true}, {"0.0.0.0/0", "0.0.0.0/0", true, true}, {"::/0", "::/0", true, true}, {"1.2.3.4/32", "1.2.3.4/32", true, true}, {"::1/128", "::1/128", true, true},
		// A narrower one and a wider one.
		{"10.1.0.0/16", "10.0.0.0/8", true, false}, {"10.0.0.0/9", "10.0.0.0/8", true, false}, {"10.128.0.0/9", "10.0.0.0/8", true, false}, {"10.0.0.0/32", "10.0.0.0/8", true, false}, {"10.255.255.255/32", "10.0.0.0/8", true, false}, {"10.0.0.0/8", "0.0.0.0/0", true, false}, {"0.0.0.0/1", "0.0.0.0/0", true, false}, {"0.0.0.0/32", "0.0.0.0/0", true, false}, {"1.2.3.4/32", "1.2.3.4/31", true, false}, {"1.2.3.4/32", "1.2.3.4/30", true, false},
		{"2001:db8::/32", "::/0", true, false}, {"2001:db8::1/128", "2001:db8::/32", true, false}, {"::/128", "::/0", true, false}, {"::/128", "::/127", true, false}, {"2001:db8:8000::/33", "2001:db8::/32", true, false},
		// Two of the same Bits.
		{"10.0.0.0/8", "11.0.0.0/8", false, false}, {"0.0.0.0/1", "128.0.0.0/1", false, false}, {"1.2.3.4/32", "1.2.3.5/32", false, false}, {"::/128", "::1/128", false, false}, {"2001:db8::/32", "2001:db9::/32", false, false},
		// Two that have no address in common.
		{"11.1.0.0/16", "10.0.0.0/8", false, false}, {"9.255.255.255/32", "10.0.0.0/8", false, false}, {"1.2.3.6/32", "1.2.3.4/31", false, false}, {"2001:db9::1/128", "2001:db8::/32", false, false}, {"8000::/2", "::/1", false, false},
		// One with V6 and one without.
		{"10.0.0.0/8", "::/0", false, false}, {"0.0.0.0/0", "::/0", false, false}, {"a00::/8", "10.0.0.0/8", false, false}, {"a00::/16", "10.0.0.0/8", false, false}, {"10.0.0.0/16", "a00::/8", false, false}, {"::/128", "0.0.0.0/0", false, false}, {"0.0.0.0/32", "::/32", false, false}, {"::ffff:a00:0/104", "10.0.0.0/8", false, false},
	} {
		a, okA := Parse(x.a)
		b, okB := Parse(x.b)
		if !okA || !okB || Within(a, b) != x.there || Within(b, a) != x.aback {
			t.Errorf("%s within %s: %v, the other way round %v", x.a, x.b, Within(a, b), Within(b, a))
		}
	}
}

// Ranges of the last four bits: each held against each, address by address.
func TestWithinAddressByAddress(t *testing.T) {
	for _, first := range []api.Addr{addr.Four(10, 1, 2, 48), addr.Six([8]uint16{0x2001, 0xdb8, 7: 0x30})} {
		last := longest(first.V6)
		var all []api.Addr
		for i := range 16 {
			a := first
			a.B[last/8-1] |= byte(i)
			all = append(all, a)
		}
		var ranges []api.Range
		for _, a := range all {
			for bits := last - 4; bits <= last; bits++ {
				// Those among them that can't be are held against each one, too.
				ranges = append(ranges, api.Range{Addr: a, Bits: bits})
			}
		}
		for _, a := range ranges {
			for _, b := range ranges {
				want := Check(a) && Check(b)
				for _, x := range all {
					want = want && (!among(a, x) || among(b, x))
				}
				if got := Within(a, b); got != want || got != inside(a, b) {
					t.Errorf("%v within %v: %v", a, b, got)
				}
			}
		}
	}
}

// Of an address, and of one that is unlike it in one bit, each two Bits.
func TestWithinOfAllBits(t *testing.T) {
	for _, v6 := range []bool{false, true} {
		for _, a := range some(v6)[:4] {
			for _, at := range []int{0, 1, 7, 8, 9, 15, 16, 30, 31, 64, 126, 127} {
				if at >= longest(v6) {
					continue
				}
				for i := range longest(v6) + 1 {
					for j := range longest(v6) + 1 {
						x, y := must(a, i), must(turned(a, at), j)
						if got := Within(x, y); got != inside(x, y) || got != (i >= j && at >= j) {
							t.Errorf("%v within %v: %v", x, y, got)
						}
						if y = must(a, j); Within(x, y) != (i >= j) {
							t.Errorf("%v within %v: %v", x, y, Within(x, y))
						}
					}
				}
			}
		}
	}
}

// odd: ranges of all shapes, such as can be and such as can't.
func odd() []api.Range {
	var out []api.Range
	for _, v6 := range []bool{false, true} {
		for _, a := range append(some(v6)[:5], broken()[:4]...) {
			for _, bits := range []int{-1, 0, 1, 7, 8, 9, 31, 32, 33, 127, 128, 129, math.MinInt, math.MaxInt} {
				out = append(out, api.Range{Addr: a, Bits: bits}, api.Range{Addr: turned(a, 3), Bits: bits})
				if sound(must(a, max(bits, 0)%129)) {
					out = append(out, must(a, max(bits, 0)%129))
				}
			}
		}
	}
	return out
}

// Each of them against each other, whether it can be or not.
func TestHasAndWithinOfAllShapes(t *testing.T) {
	for _, r := range odd() {
		if Check(r) != sound(r) || (Text(r) == "") == sound(r) {
			t.Errorf("%v: %v, %q", r, Check(r), Text(r))
		}
		for _, x := range odd() {
			if got := Within(r, x); got != inside(r, x) {
				t.Errorf("%v within %v: %v", r, x, got)
			}
			if got := Has(r, x.Addr); got != among(r, x.Addr) {
				t.Errorf("%v has %v: %v", r, x.Addr, got)
			}
		}
	}
}

// P1 and P2: what a call answers doesn't hang on the calls ahead of it.
func TestAnswersStayTheSame(t *testing.T) {
	texts := append(rights(), "", "/", "::", "::1/0", "1.2.3.4/33", "10.0.0.0/08", "x/0")
	type answer struct {
		r            api.Range
		ok, has, all bool
		text         string
	}
	ask := func(s string) answer {
		r, ok := Parse(s)
		return answer{r, ok, Has(r, addr.Four(10, 1, 2, 3)), Within(r, api.Range{}), Text(r)}
	}
	var first []answer
	for _, s := range texts {
		first = append(first, ask(s))
	}
	for i := range texts {
		i = len(texts) - 1 - i
		if again := ask(texts[i]); again != first[i] {
			t.Errorf("%q: %v, and then %v", texts[i], first[i], again)
		}
	}
}

func FuzzParse(f *testing.F) {
	for _, s := range append(rights(), "", "/", "::1/0", "10.0.0.0/08") {
		f.Add(s)
	}
	f.Fuzz(judged)
}
