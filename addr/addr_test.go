package addr

import (
	"fmt"
	"net/netip"
	"slices"
	"strings"
	"testing"

	"chitty/api"
)

// chance: many bytes that no rule of the program makes, others for each seed.
func chance(seed uint64, many int) []byte {
	out := make([]byte, many)
	for i := range out {
		seed = seed*6364136223846793005 + 1442695040888963407
		out[i] = byte(seed >> 40)
	}
	return out
}

// some16: 16 bytes like chance.
func some16(seed uint64) [16]byte { return [16]byte(chance(seed, 16)) }

// four: the address without V6 that has these bytes. (Not by Four, which is tried itself.)
func four(a, b, c, d byte) api.Addr { return api.Addr{B: [16]byte{a, b, c, d}} }

// six: the address with V6 that has these numbers. (Not by Six.)
func six(l [8]uint16) api.Addr {
	a := api.Addr{V6: true}
	for i := range a.B {
		a.B[i] = byte(l[i/2] >> (8 - i%2*8))
	}
	return a
}

// spelt: the numbers written out, but the row of so many at that place as ::, whether they are 0 or not.
func spelt(l [8]uint16, at, many int) string {
	var front, back []string
	for _, n := range l[:at] {
		front = append(front, fmt.Sprintf("%x", n))
	}
	for _, n := range l[at+many:] {
		back = append(back, fmt.Sprintf("%x", n))
	}
	return strings.Join(front, ":") + "::" + strings.Join(back, ":")
}

// writtenOut: all eight numbers, without ::.
func writtenOut(l [8]uint16) string {
	s := fmt.Sprintf("%x", l)
	return strings.ReplaceAll(s[1:len(s)-1], " ", ":")
}

// told: the text of the address with V6 that has these numbers: all places of rows are tried, the longest ones first.
func told(l [8]uint16) string {
	for many := 8; many >= 2; many-- {
		for at := 0; at+many <= 8; at++ {
			if !slices.ContainsFunc(l[at:at+many], func(n uint16) bool { return n != 0 }) {
				return spelt(l, at, many)
			}
		}
	}
	return writtenOut(l)
}

// toldFour: the text of the address without V6 that has these bytes.
func toldFour(a, b, c, d byte) string { return fmt.Sprintf("%d.%d.%d.%d", a, b, c, d) }

// known: is it the text of some address? Told by the library's reader of addresses.
func known(s string) bool {
	p, err := netip.ParseAddr(s)
	if err != nil || p.Zone() != "" {
		return false
	}
	if p.Is4() {
		b := p.As4()
		return s == toldFour(b[0], b[1], b[2], b[3])
	}
	var l [8]uint16
	for i, x := range p.As16() {
		l[i/2] = l[i/2]<<8 | uint16(x)
	}
	return s == told(l)
}

// goes: is it the address's text, and is it the address whose text it is?
func goes(t *testing.T, a api.Addr, s string) {
	t.Helper()
	if !Check(a) {
		t.Errorf("%v can't be", a)
	}
	if got := Text(a); got != s {
		t.Errorf("Text of %v: %q, not %q", a, got, s)
	}
	if got, ok := Parse(s); !ok || got != a {
		t.Errorf("Parse of %q: %v, %v; not %v", s, got, ok, a)
	}
}

// wrong: is it no address's text?
func wrong(t *testing.T, s string) {
	t.Helper()
	if a, ok := Parse(s); ok || a != (api.Addr{}) {
		t.Errorf("Parse of %.80q, of %d bytes: %v, %v", s, len(s), a, ok)
	}
	// What the tests hold to be wrong is wrong by the library's reader, too.
	if known(s) {
		t.Errorf("%q is an address's text", s)
	}
}

// judged: wrong, or the text of an address, whichever the library's reader tells.
func judged(t *testing.T, s string) {
	t.Helper()
	if !known(s) {
		wrong(t, s)
		return
	}
	a, ok := Parse(s)
	if !ok || !Check(a) || a.V6 != strings.Contains(s, ":") || Text(a) != s {
		t.Errorf("Parse of %q: %v, %v", s, a, ok)
	}
}

// patterns: numbers of which those are 0 that aren't in the pattern's bits, all 256 ways; of one to four digits.
func patterns() [][8]uint16 {
	var out [][8]uint16
	for p := range 256 {
		for _, values := range [][8]uint16{{1, 2, 3, 4, 5, 6, 7, 8}, {0xa, 0xab, 0xabc, 0xabcd, 0xf000, 0x100, 0x10, 0x1}, {65535, 256, 255, 4096, 4095, 16, 15, 32768}} {
			var l [8]uint16
			for i := range l {
				if p>>i&1 == 1 {
					l[i] = values[i]
				}
			}
			out = append(out, l)
		}
	}
	return out
}

// P12.1

func TestCheckOfFour(t *testing.T) {
	for seed := range uint64(300) {
		a := api.Addr{}
		copy(a.B[:4], chance(seed, 4))
		if !Check(a) {
			t.Errorf("%v can't be", a)
		}
	}
	for i := range 4 {
		for x := range 256 {
			a := api.Addr{}
			a.B[i] = byte(x)
			if !Check(a) {
				t.Errorf("%v can't be", a)
			}
		}
	}
	if !Check(api.Addr{}) || !Check(api.Addr{B: [16]byte{255, 255, 255, 255}}) {
		t.Error("all bytes 0, or 255, can't be")
	}
}

// Each byte behind the fourth alone, by each of its numbers, is one too many; with V6 it's as good as any.
func TestCheckOfBytesBehindTheFourth(t *testing.T) {
	for i := 4; i < 16; i++ {
		for x := 1; x < 256; x++ {
			for _, first := range [][4]byte{{}, {1, 2, 3, 4}, {255, 255, 255, 255}, {0, 0, 0, byte(-x)}} {
				a := api.Addr{}
				copy(a.B[:], first[:])
				a.B[i] = byte(x)
				if Check(a) {
					t.Errorf("%v can be", a)
				}
				if s := Text(a); s != "" {
					t.Errorf("Text of %v: %q", a, s)
				}
				a.V6 = true
				if !Check(a) || Text(a) == "" {
					t.Errorf("%v can't be", a)
				}
			}
		}
	}
}

// Several bytes behind the fourth don't make up for each other.
func TestCheckOfSeveralBytesBehindTheFourth(t *testing.T) {
	for i := 4; i < 16; i++ {
		for j := 4; j < i; j++ {
			for _, x := range []byte{1, 127, 128, 255} {
				for _, y := range []byte{x, -x, ^x | 1} {
					a := api.Addr{}
					a.B[i], a.B[j] = x, y
					if Check(a) || Text(a) != "" {
						t.Errorf("%v can be: %q", a, Text(a))
					}
				}
			}
		}
	}
	for seed := range uint64(300) {
		if a := (api.Addr{B: some16(seed)}); Check(a) || Text(a) != "" {
			t.Errorf("%v can be: %q", a, Text(a))
		}
	}
}

func TestCheckOfSix(t *testing.T) {
	for seed := range uint64(300) {
		if a := (api.Addr{V6: true, B: some16(seed)}); !Check(a) {
			t.Errorf("%v can't be", a)
		}
	}
	for i := range 128 {
		a := api.Addr{V6: true}
		a.B[i/8] = 1 << (i % 8)
		if !Check(a) {
			t.Errorf("%v can't be", a)
		}
	}
	if !Check(api.Addr{V6: true}) {
		t.Error("V6 and all bytes 0 can't be")
	}
}

func TestFour(t *testing.T) {
	for i := range 4 {
		for x := range 256 {
			for _, rest := range []byte{0, 7, 255} {
				b := [4]byte{rest, rest, rest, rest}
				b[i] = byte(x)
				want := api.Addr{B: [16]byte{b[0], b[1], b[2], b[3]}}
				if a := Four(b[0], b[1], b[2], b[3]); a != want || !Check(a) {
					t.Errorf("Four of %v: %v", b, a)
				}
			}
		}
	}
	if a := Four(1, 2, 3, 4); a != (api.Addr{B: [16]byte{1, 2, 3, 4}}) {
		t.Error(a)
	}
	if a := Four(0, 0, 0, 0); a != (api.Addr{}) {
		t.Error(a)
	}
}

func TestSix(t *testing.T) {
	want := api.Addr{V6: true, B: [16]byte{1, 2, 3, 4, 5, 6, 7, 8, 9, 10, 11, 12, 13, 14, 15, 16}}
	if a := Six([8]uint16{0x102, 0x304, 0x506, 0x708, 0x90a, 0xb0c, 0xd0e, 0xf10}); a != want {
		t.Error(a)
	}
	if a := Six([8]uint16{}); a != (api.Addr{V6: true}) {
		t.Error(a)
	}
	// Of each number the higher byte alone, and the lower one.
	for i := range 8 {
		for x := range 256 {
			var high, low [8]uint16
			high[i], low[i] = uint16(x)<<8, uint16(x)
			wantHigh, wantLow := api.Addr{V6: true}, api.Addr{V6: true}
			wantHigh.B[2*i], wantLow.B[2*i+1] = byte(x), byte(x)
			if a := Six(high); a != wantHigh {
				t.Errorf("Six of %x: %v", high, a)
			}
			if a := Six(low); a != wantLow {
				t.Errorf("Six of %x: %v", low, a)
			}
		}
	}
	for _, l := range patterns() {
		if a := Six(l); a != six(l) || !Check(a) {
			t.Errorf("Six of %x: %v", l, a)
		}
	}
}

// P12.2, and P12.3 of the same texts

func TestExamples(t *testing.T) {
	goes(t, Six([8]uint16{0x2001, 0xdb8, 0, 0, 0, 0, 0, 1}), "2001:db8::1")
	goes(t, Six([8]uint16{}), "::")
}

func TestTextsOfFour(t *testing.T) {
	for s, a := range map[string]api.Addr{
		"0.0.0.0":         {},
		"1.2.3.4":         four(1, 2, 3, 4),
		"4.3.2.1":         four(4, 3, 2, 1),
		"9.10.99.100":     four(9, 10, 99, 100),
		"255.255.255.255": four(255, 255, 255, 255),
		"127.0.0.1":       four(127, 0, 0, 1),
		"10.200.30.4":     four(10, 200, 30, 4),
		"0.0.0.1":         four(0, 0, 0, 1),
		"1.0.0.0":         four(1, 0, 0, 0),
		"192.168.0.10":    four(192, 168, 0, 10),
		"249.250.199.101": four(249, 250, 199, 101),
	} {
		goes(t, a, s)
	}
	// Each number at each place.
	for i := range 4 {
		for x := range 256 {
			for _, rest := range []byte{0, 5, 42, 255} {
				b := [4]byte{rest, rest, rest, rest}
				b[i] = byte(x)
				goes(t, four(b[0], b[1], b[2], b[3]), toldFour(b[0], b[1], b[2], b[3]))
			}
		}
	}
	for seed := range uint64(1000) {
		b := chance(seed, 4)
		goes(t, four(b[0], b[1], b[2], b[3]), toldFour(b[0], b[1], b[2], b[3]))
	}
}

// The same bytes, with V6 and without: two addresses, and two texts.
func TestTextsWithV6AndWithout(t *testing.T) {
	goes(t, api.Addr{B: [16]byte{1, 2, 3, 4}}, "1.2.3.4")
	goes(t, api.Addr{V6: true, B: [16]byte{1, 2, 3, 4}}, "102:304::")
	goes(t, api.Addr{V6: true, B: [16]byte{12: 1, 13: 2, 14: 3, 15: 4}}, "::102:304")
	goes(t, api.Addr{V6: true, B: [16]byte{10: 255, 11: 255, 12: 1, 13: 2, 14: 3, 15: 4}}, "::ffff:102:304")
	goes(t, api.Addr{V6: true, B: [16]byte{8: 255, 9: 255, 12: 10, 15: 1}}, "::ffff:0:a00:1")
	goes(t, api.Addr{V6: true, B: [16]byte{0: 0, 1: 100, 2: 255, 3: 155, 12: 192, 13: 0, 14: 2, 15: 33}}, "64:ff9b::c000:221")
}

func TestTextsOfSix(t *testing.T) {
	for s, l := range map[string][8]uint16{
		// No row.
		"1:2:3:4:5:6:7:8":                         {1, 2, 3, 4, 5, 6, 7, 8},
		"ffff:ffff:ffff:ffff:ffff:ffff:ffff:ffff": {65535, 65535, 65535, 65535, 65535, 65535, 65535, 65535},
		"a:bc:def:1234:1000:100:10:f":             {0xa, 0xbc, 0xdef, 0x1234, 0x1000, 0x100, 0x10, 0xf},
		"9:a:f:10:ff:fff:ffff:8000":               {9, 10, 15, 16, 255, 4095, 65535, 32768},
		// One number alone that is 0.
		"0:2:3:4:5:6:7:8": {0, 2, 3, 4, 5, 6, 7, 8},
		"1:2:3:0:5:6:7:8": {1, 2, 3, 0, 5, 6, 7, 8},
		"1:2:3:4:5:6:7:0": {1, 2, 3, 4, 5, 6, 7, 0},
		"0:2:0:4:0:6:0:8": {0, 2, 0, 4, 0, 6, 0, 8},
		"1:0:3:0:5:0:7:0": {1, 0, 3, 0, 5, 0, 7, 0},
		// A row at the beginning, in the middle and at the end, from two to eight.
		"::3:4:5:6:7:8":     {0, 0, 3, 4, 5, 6, 7, 8},
		"1::4:5:6:7:8":      {1, 0, 0, 4, 5, 6, 7, 8},
		"1:2:3::6:7:8":      {1, 2, 3, 0, 0, 6, 7, 8},
		"1:2:3:4:5::8":      {1, 2, 3, 4, 5, 0, 0, 8},
		"1:2:3:4:5:6::":     {1, 2, 3, 4, 5, 6, 0, 0},
		"::4:5:6:7:8":       {0, 0, 0, 4, 5, 6, 7, 8},
		"1:2::6:7:8":        {1, 2, 0, 0, 0, 6, 7, 8},
		"1:2:3:4:5::":       {1, 2, 3, 4, 5, 0, 0, 0},
		"1::8":              {1, 0, 0, 0, 0, 0, 0, 8},
		"::8":               {0, 0, 0, 0, 0, 0, 0, 8},
		"1::":               {1, 0, 0, 0, 0, 0, 0, 0},
		"::7:8":             {0, 0, 0, 0, 0, 0, 7, 8},
		"1:2::":             {1, 2, 0, 0, 0, 0, 0, 0},
		"::":                {},
		"::f000":            {7: 0xf000},
		"8000::":            {0: 0x8000},
		"fe80::1:2:3:4":     {0xfe80, 0, 0, 0, 1, 2, 3, 4},
		"2001:db8:0:1::":    {0x2001, 0xdb8, 0, 1},
		"0:1::":             {0, 1, 0, 0, 0, 0, 0, 0},
		"::1:0":             {6: 1},
		"0:1:2:3:4:5::":     {0, 1, 2, 3, 4, 5, 0, 0},
		"::2:3:4:5:6:0":     {0, 0, 2, 3, 4, 5, 6, 0},
		"ff02::1:ff00:1234": {0xff02, 0, 0, 0, 0, 1, 0xff00, 0x1234},
		// Two rows of unlike length: the longer one.
		"1::5:0:0:8":  {1, 0, 0, 0, 5, 0, 0, 8},
		"1:0:0:4::8":  {1, 0, 0, 4, 0, 0, 0, 8},
		"::4:0:0:7:8": {0, 0, 0, 4, 0, 0, 7, 8},
		"0:0:3::7:8":  {0, 0, 3, 0, 0, 0, 7, 8},
		"1:0:0:4:5::": {1, 0, 0, 4, 5, 0, 0, 0},
		"0:0:3::":     {0, 0, 3, 0, 0, 0, 0, 0},
		"::6:0:0":     {0, 0, 0, 0, 0, 6, 0, 0},
		"0:0:3:4:5::": {0, 0, 3, 4, 5, 0, 0, 0},
		// A row, and numbers alone that are 0.
		"::4:5:6:7:0":  {0, 0, 0, 4, 5, 6, 7, 0},
		"0:2::5:6:7:8": {0, 2, 0, 0, 5, 6, 7, 8},
		"1:2::5:0:7:8": {1, 2, 0, 0, 5, 0, 7, 8},
		"0:2:0:4::7:8": {0, 2, 0, 4, 0, 0, 7, 8},
		// Two rows of one length: the first one.
		"1::4:5:0:0:8":  {1, 0, 0, 4, 5, 0, 0, 8},
		"::4:5:0:0:0":   {0, 0, 0, 4, 5, 0, 0, 0},
		"::5:0:0:0":     {0, 0, 0, 0, 5, 0, 0, 0},
		"::3:4:5:6:0:0": {0, 0, 3, 4, 5, 6, 0, 0},
		"::3:0:0:6:7:8": {0, 0, 3, 0, 0, 6, 7, 8},
		"1::4:0:0:7:8":  {1, 0, 0, 4, 0, 0, 7, 8},
		"1:2::5:0:0:8":  {1, 2, 0, 0, 5, 0, 0, 8},
		"1::5:0:0:0":    {1, 0, 0, 0, 5, 0, 0, 0},
		// Three rows of one length.
		"::3:0:0:6:0:0": {0, 0, 3, 0, 0, 6, 0, 0},
	} {
		goes(t, six(l), s)
		if s != told(l) {
			t.Errorf("told: %q, not %q", told(l), s)
		}
	}
}

// Each number at each place, the others 0, and others that aren't.
func TestTextsOfEachNumber(t *testing.T) {
	for i := range 8 {
		for x := 0; x < 65536; x += 7 {
			for _, rest := range []uint16{0, 0x9a} {
				l := [8]uint16{rest, rest, rest, rest, rest, rest, rest, rest}
				l[i] = uint16(x)
				goes(t, six(l), told(l))
			}
		}
	}
	for x := range 65536 {
		goes(t, six([8]uint16{1, 2, 3, uint16(x), 5, 6, 7, 8}), writtenOut([8]uint16{1, 2, 3, uint16(x), 5, 6, 7, 8}))
	}
}

func TestTextsOfEachPattern(t *testing.T) {
	for _, l := range patterns() {
		goes(t, six(l), told(l))
	}
}

func TestTextsOfChance(t *testing.T) {
	for seed := range uint64(5000) {
		var l [8]uint16
		b := chance(seed, 24)
		for i := range l {
			// Some of no digits, some of one, of two, of three, and of four.
			l[i] = (uint16(b[3*i])<<8 | uint16(b[3*i+1])) >> (b[3*i+2] % 17)
		}
		goes(t, six(l), told(l))
	}
}

// Text tells what can be apart: two addresses never have one text.
func TestTextTellsAddressesApart(t *testing.T) {
	was := map[string]api.Addr{}
	add := func(a api.Addr) {
		s := Text(a)
		if b, ok := was[s]; ok && b != a {
			t.Errorf("%v and %v: %q", a, b, s)
		}
		was[s] = a
	}
	for i := range 128 {
		for j := range i + 1 {
			a := api.Addr{V6: true}
			a.B[i/8] |= 1 << (i % 8)
			a.B[j/8] |= 1 << (j % 8)
			add(a)
			if i < 32 {
				a.V6 = false
				add(a)
			}
		}
	}
	for _, l := range patterns() {
		add(six(l))
	}
}

// P12.3, of wrong texts

func TestNoText(t *testing.T) {
	wrong(t, "")
	for x := range 256 {
		wrong(t, string([]byte{byte(x)}))
		// Of two bytes :: alone is one's.
		for y := range 256 {
			if s := string([]byte{byte(x), byte(y)}); s != "::" {
				wrong(t, s)
			}
		}
	}
}

func TestWrongTextsOfFour(t *testing.T) {
	for _, s := range []string{
		// Too few and too many numbers.
		"1", "0", "1.2", "1.2.3", "1.2.3.4.5", "0.0.0", "0.0.0.0.0", "1.2.3.4.0", "0.1.2.3.4", "1.2.3.4.5.6.7.8", "1.2.3.4.5.6.7.8.9", "16909060", "255.255.255", "0x01020304",
		// A number that is too large.
		"256.2.3.4", "1.256.3.4", "1.2.256.4", "1.2.3.256", "1.2.3.257", "1.2.3.260", "1.2.3.300", "1.2.3.511", "1.2.3.512", "1.2.3.999", "1.2.3.1000", "1.2.3.65535", "1.2.3.65536", "1.2.3.65540", "1.2.3.4294967296", "1.2.3.4294967300", "1.2.3.18446744073709551615", "1.2.3.18446744073709551616", "1.2.3.18446744073709551620", "256.256.256.256",
		// Noughts ahead.
		"01.2.3.4", "1.02.3.4", "1.2.003.4", "1.2.3.04", "1.2.3.00", "00.0.0.0", "1.2.3.000", "1.2.3.010", "1.2.3.0255", "001.002.003.004",
		// Signs that are none of those.
		"a.2.3.4", "1.2.3.a", "1.2.3.f", "1.2.3.1a", "1.2.3.0x1", "1.2.3.0b1", "1.2.3.0o1", "1.2.3.1e1", "1.2.3.1_0", "1.2.3.+4", "+1.2.3.4", "1.2.3.-1", "-1.2.3.4", "1.2.3.-0", "1.-2.3.4", "1,2,3,4", "1.2,3.4", "1/2/3/4", "1.2.3.4/8", "1.2.3.4%a", "1.2.3.\u0664", "1.2.3.4\x00", "\x001.2.3.4", "1\u30022\u30023\u30024", "1.2.3.\xff",
		// Blanks.
		" 1.2.3.4", "1.2.3.4 ", "1. 2.3.4", "1 .2.3.4", "1.2.3. 4", "1 2 3 4", "1.2.3.4\n", "\t1.2.3.4", "1.2.3.", "1.2.3. ", " ",
		// A . too many, or too few.
		".1.2.3.4", "1.2.3.4.", "1..2.3.4", "1..3.4", ".2.3.4", "1.2..4", "...", "1...", "....", ".", "..", "1.2.34.", "12.3.4", "1.23.4", "1.2.34", "1234",
		// Some : beside.
		"1.2.3:4", "1:2:3:4", "1:2.3.4", "1.2.3.4:", ":1.2.3.4", "1.2.3.4:5", "1.2.3.4::", "1.2.3::4",
	} {
		wrong(t, s)
	}
}

func TestWrongTextsOfSix(t *testing.T) {
	for _, s := range []string{
		// Too few and too many numbers.
		"1:", ":1", "1:2", "1:2:3:4", "1:2:3:4:5:6:7", "1:2:3:4:5:6:7:8:9", "0:1:2:3:4:5:6:7:8", "1:2:3:4:5:6:7:8:0", "1:2:3:4:5:6:7:8:9:a:b:c:d:e:f:10",
		"::1:2:3:4:5:6:7:8:9", "1:2:3:4:5:6:7:8:9::", "1:2:3:4::5:6:7:8:9", "1:2:3:4:5::6:7:8:9", "1:2:3:4:5:6:7:8:9::1:2:3:4:5:6:7:8:9",
		// A number that is too large.
		"::10000", "::10001", "10000::", "1:2:3:10000:5:6:7:8", "::12345", "::fffff", "::100000", "::ffffffff", "::100000001", "::ffffffffffffffff", "::10000000000000001", "10001:2:3:4:5:6:7:8",
		// Noughts ahead.
		"::01", "::0001", "01::", "::00", "00::1", "0000::", "1:02:3:4:5:6:7:8", "1:2:3:4:5:6:7:008", "::0abc", "2001:0db8::1", "1:2:3:00:5:6:7:8", "::00001", "0001:0002:0003:0004:0005:0006:0007:0008",
		// A digit in capitals.
		"::A", "::F", "::aB", "::Ab", "FE80::1", "fE80::1", "2001:DB8::1", "1:2:3:4:5:6:7:F", "A:b:c:d:e:f:1:2", "::FFFF",
		// Signs that are none of those.
		"::g", "g::", "::G", "::z", "::0x1", "::1x", "::-1", "-1::", "::-0", "-0::1", "::+1", "+1::", "::1_0", "::1%a", "fe80::1%a", "fe80::1%25eth0", "fe80::1%", "::1/64", "::/0", "[::1]", "[::]", "::1]", "::\uff11", "::1\x00", "\x00::1", "::\x00", "\uff1a\uff1a", "::\xff", "::a\u0301", "1;2;3;4;5;6;7;8",
		// Blanks.
		" ::1", "::1 ", ":: 1", "1 ::", ": :", ": :1", " ::", ":: ", "1: 2:3:4:5:6:7:8", "1:2:3:4:5:6:7: 8", "1 :2:3:4:5:6:7:8", "1 2 3 4 5 6 7 8", "::1\n", "\t::1", "::\n",
		// A : too many, or too few.
		":", ":::", "::::", "1:::", ":::1", "1:::2", ":1:2:3:4:5:6:7", "1:2:3:4:5:6:7:", ":1:2:3:4:5:6:7:8", "1:2:3:4:5:6:7:8:", "1::2:", ":1::2", "::1:", ":1::", ":1::2:", ":2:3:4:5:6:7:8", "12:3:4:5:6:7:8", "1:2:3:4:5:6:78", ":0", "0:", ":0:0:0:0:0:0:0", ":::::::", "::::::::", "1::::8",
		// :: twice.
		"::1::", "1::2::3", "::::1", "1::::", "::1::2", "1::2::", "1:0::2::3", "::0::", "1::2::3::4",
		// :: for one number that is 0.
		"::2:3:4:5:6:7:8", "1::3:4:5:6:7:8", "1:2:3::5:6:7:8", "1:2:3:4:5:6:7::", "1:2:3:4:5:6::8",
		// :: for none.
		"1:2:3:4:5:6:7:8::", "::1:2:3:4:5:6:7:8", "1:2:3:4::5:6:7:8", "1::2:3:4:5:6:7:8", "1:2:3:4:5:6:7::8", "0:0:0:0:0:0:0:0::", "::0:0:0:0:0:0:0:0", "0:0:0:0::0:0:0:0",
		// :: for a part of a row.
		"0::", "::0", "0::0", "0::1", "1::0", "1::0:8", "1:0::8", "::0:3:4:5:6:7:8", "1:2:0::6:7:8", "1:2::0:6:7:8", "::0:0", "0:0::", "::0:0:0:0:0:0:0", "::0:0:0:0:0:0", "0:0:0::0:0:0", "2001:db8:0::1", "2001:db8::0:1",
		// :: where another row is longer, or as long and ahead of it.
		"1::4:0:0:0:8", "1:0:0:0:5::8", "::3:0:0:0:7:8", "0:0:0:4::7:8", "1::4:5:0:0:0", "::3:0:0:0:0:0", "0:0:0:0:0:6::", "1:0:0:4:5::8", "0:0:0:4:5::", "0:0:0:0:5::", "0:0:3:4:5:6::", "0:0:3::6:7:8", "1:0:0:4::7:8", "1:2:0:0:5::8", "1:0:0:0:5::", "0:0:3::6:0:0", "0:0:3:0:0:6::",
		// A row that is written out.
		"0:0:0:0:0:0:0:0", "0:0:0:0:0:0:0:1", "1:0:0:0:0:0:0:0", "0:0:3:4:5:6:7:8", "1:0:0:4:5:6:7:8", "1:2:3:4:5:6:0:0", "1:2:3:4:5:0:0:8", "1:0:0:2:0:0:0:3", "1:0:0:4:5:0:0:8", "2001:db8:0:0:0:0:0:1", "1:0:0:0:0:0:0:8",
		// An address whose end is written as one of four bytes.
		"::1.2.3.4", "::ffff:1.2.3.4", "::0.0.0.0", "1:2:3:4:5:6:7.8.9.10", "1:2:3:4:5:6:7:1.2.3.4", "64:ff9b::192.0.2.33", "1.2.3.4::", "1.2.3.4:5:6:7:8:9:a", "::1.2", "::1.", "::.1", "::ffff:0.0.0.1",
	} {
		wrong(t, s)
	}
}

// Of all texts that spell one address out, whichever numbers that are 0 stand as ::, one is its Text.
func TestOneTextAlone(t *testing.T) {
	for _, l := range patterns() {
		right := told(l)
		all := []string{writtenOut(l)}
		for at := range 9 {
			for many := 0; at+many <= 8 && !slices.ContainsFunc(l[at:at+many], func(n uint16) bool { return n != 0 }); many++ {
				all = append(all, spelt(l, at, many))
			}
		}
		if !slices.Contains(all, right) {
			t.Fatalf("%x: %q is not among those gone through", l, right)
		}
		for _, s := range all {
			if s == right {
				goes(t, six(l), s)
			} else {
				wrong(t, s)
			}
			if up := strings.ToUpper(s); up != s {
				wrong(t, up)
			}
		}
	}
}

// rights: texts of addresses, of all shapes.
func rights() []string {
	out := []string{"0.0.0.0", "1.2.3.4", "255.255.255.255", "10.200.30.4", "192.168.0.101", "::ffff:102:304", "abcd:ef01:2345:6789:abcd:ef01:2345:6789"}
	for i, l := range patterns() {
		// One of five is enough to have rows at all places, and numbers of all lengths.
		if i%5 == 0 {
			out = append(out, told(l))
		}
	}
	return out
}

// Each byte of a right text changed, left out, doubled, or put in.
func TestChangedTexts(t *testing.T) {
	signs := "0123456789abcdefABCDEFgG.:-+ %/_\x00\n\xff"
	for _, s := range rights() {
		for i := range len(s) + 1 {
			judged(t, s[:i])
			judged(t, s[i:])
			for _, x := range []byte(signs) {
				judged(t, s[:i]+string([]byte{x})+s[i:])
				if i < len(s) {
					judged(t, s[:i]+string([]byte{x})+s[i+1:])
				}
			}
			if i < len(s) {
				judged(t, s[:i]+s[i+1:])
			}
		}
		for _, sign := range []string{" ", "\n", "\x00", ".", ":", "::", "0", s, "/8", "%1", "-"} {
			judged(t, s+sign)
			judged(t, sign+s)
		}
	}
}

// Each byte, of all 256, in the place of each byte of one text of each kind.
func TestEachByteInTheTexts(t *testing.T) {
	for _, s := range []string{"1.23.45.167", "0.0.0.0", "12:a::3:0:b"} {
		for i := range len(s) {
			for x := range 256 {
				judged(t, s[:i]+string([]byte{byte(x)})+s[i+1:])
				judged(t, s[:i]+string([]byte{byte(x)})+s[i:])
			}
		}
	}
}

// All rows of a few pieces, whatever they make.
func TestRowsOfPieces(t *testing.T) {
	pieces := []string{"0", "1", "00", ":", "::", ".", "f", "256"}
	var row func(s string, more int)
	row = func(s string, more int) {
		judged(t, s)
		if more == 0 {
			return
		}
		for _, p := range pieces {
			row(s+p, more-1)
		}
	}
	row("", 5)
	// Eight numbers, of each whether it is 0, 1 or left out.
	for n := range 6561 {
		var l [8]string
		for i := range l {
			l[i] = []string{"", "0", "1"}[n%3]
			n /= 3
		}
		judged(t, strings.Join(l[:], ":"))
		judged(t, strings.Join(l[:4], "."))
	}
}

// However long a text is, Parse ends.
func TestLongTexts(t *testing.T) {
	many := 1 << 20
	for _, s := range []string{"0", "1", "9", "f", ":", "::", ".", "0:", ":0", "1:", "0.", ".0", "1.", "-", " ", "\x00", "\xff", "ä", "1::", "::1", "::1.2.3.4"} {
		all := strings.Repeat(s, many)
		for _, text := range []string{all, "::" + all, all + "::", "1.2.3." + all, all + ".2.3.4", "1:2:3:4:5:6:7:" + all, all + "1", "1" + all} {
			if a, ok := Parse(text); ok || a != (api.Addr{}) {
				t.Errorf("Parse of %.40q, of %d bytes: %v, %v", text, len(text), a, ok)
			}
		}
	}
}

// P1 and P2: what a call answers doesn't hang on the calls ahead of it.
func TestAnswersStayTheSame(t *testing.T) {
	texts := append(rights(), "", "::", "x", "1.2.3.256", "0:0:0:0:0:0:0:0", "1:2:3:4:5:6:7:8:9")
	type answer struct {
		a    api.Addr
		ok   bool
		text string
	}
	ask := func(s string) answer {
		a, ok := Parse(s)
		return answer{a, ok, Text(a)}
	}
	var first []answer
	for _, s := range texts {
		first = append(first, ask(s))
	}
	for i := range texts {
		i = len(texts) - 1 - i
		if again := ask(texts[i]); again != first[i] {
			t.Errorf("%q: %v, and then %v", texts[i], first[i], again)
		}
	}
	// An address that is handed in is as it was.
	for seed := range uint64(200) {
		a := api.Addr{V6: seed%2 == 0, B: some16(seed)}
		was, l := a, [8]uint16{0: uint16(seed), 7: 1}
		ownL := l
		pair := [2]string{Text(a), Text(a)}
		if Check(a) != Check(a) || pair[0] != pair[1] || Six(l) != Six(l) || Four(1, 2, 3, byte(seed)) != Four(1, 2, 3, byte(seed)) || a != was || l != ownL {
			t.Errorf("%v: two answers", was)
		}
	}
}

func FuzzParse(f *testing.F) {
	for _, s := range []string{"", "1.2.3.4", "::", "2001:db8::1", "::1.2.3.4", "1:2:3:4:5:6:7:8"} {
		f.Add(s)
	}
	f.Fuzz(judged)
}
