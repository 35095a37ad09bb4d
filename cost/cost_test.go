package cost

import (
	"fmt"
	"math"
	"math/big"
	"regexp"
	"slices"
	"strconv"
	"strings"
	"testing"
)

const (
	// sign is the bit by which a number is below 0.
	sign = 1 << 63
	// infinite are the bits of the infinite number above 0.
	infinite = 0x7ff << 52
	// lowest is the power of two of the least number above 0.
	lowest = -1074
	// highest is the greatest power of two that is a number.
	highest = 1023
)

// shape: a text that a number's could be, were it not for how long its odd number is, and for its power.
var shape = regexp.MustCompile(`\A-?(0|inf|([1-9][0-9]*)p(0|-?[1-9][0-9]*))\z`)

// known: is it the text of some number? Told by its shape and by whole numbers of any length: none with a point is made.
func known(s string) bool {
	parts := shape.FindStringSubmatch(s)
	if parts == nil || parts[2] == "" {
		return parts != nil
	}
	odd, _ := new(big.Int).SetString(parts[2], 10)
	power, _ := new(big.Int).SetString(parts[3], 10)
	above := new(big.Int).Add(power, big.NewInt(int64(odd.BitLen())))
	return odd.Bit(0) == 1 && odd.BitLen() <= 53 && power.Cmp(big.NewInt(lowest)) >= 0 && above.Cmp(big.NewInt(highest+1)) <= 0
}

// told: a number's parts, by its bits alone.
func told(f float64) (minus bool, odd uint64, power int) {
	all := math.Float64bits(f)
	minus, size := all >= sign, all&^sign
	switch {
	case size > infinite:
		return false, 0, 0
	case size == infinite || size == 0:
		return minus, 0, 0
	case size < 1<<52:
		odd, power = size, lowest
	default:
		odd, power = size&(1<<52-1)|1<<52, int(size>>52)-1+lowest
	}
	for odd%2 == 0 {
		odd, power = odd/2, power+1
	}
	return minus, odd, power
}

// spelt: the text of these parts, which are neither those of 0 nor of an infinite one.
func spelt(minus bool, odd uint64, power int) string {
	s := fmt.Sprintf("%dp%d", odd, power)
	if minus {
		return "-" + s
	}
	return s
}

// place: where a number stands among the others: 0 with either sign at 0, and each next one by 1 further. Told by its bits.
func place(f float64) int64 {
	size := int64(math.Float64bits(f) &^ sign)
	if math.Float64bits(f) >= sign {
		return -size
	}
	return size
}

// none: is it NaN? Told by its bits.
func none(f float64) bool { return math.Float64bits(f)&^sign > infinite }

// atMost: is the first number at most the second one? Told by where they stand.
func atMost(a, b float64) bool { return !none(a) && !none(b) && place(a) <= place(b) }

// same: are two numbers the same, bit by bit?
func same(a, b float64) bool { return math.Float64bits(a) == math.Float64bits(b) }

// is: is it the number's text, and is it the number whose text it is?
func is(t *testing.T, f float64, s string) {
	t.Helper()
	if got := Text(f); got != s {
		t.Errorf("Text of %x: %q, not %q", f, got, s)
	}
	if got, ok := Parse(s); !ok || !same(got, f) {
		t.Errorf("Parse of %q: %x, %v; not %x", s, got, ok, f)
	}
	if !known(s) {
		t.Errorf("%q is no number's text", s)
	}
}

// wrong: is it no number's text?
func wrong(t *testing.T, s string) {
	t.Helper()
	if f, ok := Parse(s); ok || math.Float64bits(f) != 0 {
		t.Errorf("Parse of %.80q, of %d bytes: %x, %v", s, len(s), f, ok)
	}
	if known(s) {
		t.Errorf("%q is a number's text", s)
	}
}

// judged: wrong, or the text of a number, whichever known tells.
func judged(t *testing.T, s string) {
	t.Helper()
	if !known(s) {
		wrong(t, s)
		return
	}
	if f, ok := Parse(s); !ok || none(f) || Text(f) != s {
		t.Errorf("Parse of %q: %x, %v", s, f, ok)
	}
}

// sound: does each call of a number alone answer what it should?
func sound(t *testing.T, f float64) {
	t.Helper()
	minus, odd, power := told(f)
	if m, o, p := Parts(f); m != minus || o != odd || p != power {
		t.Errorf("Parts of %x: %v, %d, %d; not %v, %d, %d", f, m, o, p, minus, odd, power)
	}
	switch s := spelt(minus, odd, power); {
	case none(f):
		if s := Text(f); s != "" {
			t.Errorf("Text of %x: %q", f, s)
		}
	case math.IsInf(f, -1):
		is(t, f, "-inf")
	case math.IsInf(f, 1):
		is(t, f, "inf")
	case same(f, 0):
		is(t, f, "0")
	case f == 0:
		is(t, f, "-0")
	default:
		is(t, f, s)
		worth(t, f, minus, odd, power)
	}
}

// worth: do these parts make the number, by sums that have room for all of its bits, and by the library's own reader?
func worth(t *testing.T, f float64, minus bool, odd uint64, power int) {
	t.Helper()
	if odd%2 == 0 || odd >= 1<<53 || minus != (f < 0) {
		t.Errorf("parts of %x: %v, %d, %d", f, minus, odd, power)
	}
	x := new(big.Float).SetMantExp(new(big.Float).SetUint64(odd), power)
	if got, exact := x.Float64(); exact != big.Exact || got != math.Abs(f) {
		t.Errorf("%d times 2 to the power %d isn't %x: %x", odd, power, f, got)
	}
	if got, err := strconv.ParseFloat(fmt.Sprintf("0x%xp%d", odd, power), 64); err != nil || got != math.Abs(f) {
		t.Errorf("0x%xp%d isn't %x for the library: %x, %v", odd, power, f, got, err)
	}
}

// nones: some of the NaN, their signs set and not, with other bits behind: any, the first one alone, the last one alone.
func nones() []float64 {
	var out []float64
	for _, behind := range []uint64{1, 2, 3, 1 << 50, 1 << 51, 1<<51 | 1, 1<<51 - 1, 1<<52 - 1, 0x5555555555555, 1 << 20, 0x8000000000123} {
		out = append(out, math.Float64frombits(infinite|behind), math.Float64frombits(sign|infinite|behind))
	}
	return append(out, math.NaN(), -math.NaN())
}

// edges: numbers at the edges of what there is, their neighbours, and some others, all above 0; each once.
func edges() []float64 {
	list := []float64{math.SmallestNonzeroFloat64, math.MaxFloat64, math.MaxFloat64 / 2, 1, 2, 3, 0.1, 0.5, 0.75, 1.5, 8, 12, 100, 1e-5, 1e22, 1e23, 1e300, 1e-300, 1e-310, math.Pi, 1 << 31, 1 << 32, 1 << 52, 1 << 53, 1<<53 - 1, 1<<54 - 2, 1 << 62, 1 << 63, 1 << 64, math.MaxFloat32, math.SmallestNonzeroFloat32,
		math.Ldexp(1, -1022), math.Ldexp(1, -1021), math.Ldexp(1<<52-1, lowest), math.Ldexp(1<<51, lowest), math.Ldexp(3, lowest), math.Ldexp(7, lowest), math.Ldexp(1, highest), math.Ldexp(3, highest-1)}
	var out []float64
	for _, f := range list {
		for _, x := range []float64{math.Nextafter(f, 0), f, math.Nextafter(f, math.Inf(1))} {
			if x != 0 && !math.IsInf(x, 0) && !slices.Contains(out, x) {
				out = append(out, x)
			}
		}
	}
	return out
}

// all: edges, each above 0 and below it, 0 with either sign, and the infinite ones.
func all() []float64 {
	var out []float64
	for _, f := range append(edges(), 0, math.Inf(1)) {
		out = append(out, f, math.Copysign(f, -1))
	}
	return out
}

// chance: bits of a number that no rule of the program makes, others for each seed.
func chance(seed uint64) uint64 {
	for range 3 {
		seed ^= seed >> 29
		seed = seed*6364136223846793005 + 1442695040888963407
	}
	return seed ^ seed>>31
}

// changed: calls what is to be done with a text's beginnings and ends, and with each of its bytes changed, left out, or put in: by each of all 256.
func changed(s string, do func(s string)) {
	for i := range len(s) + 1 {
		front, back := s[:i], s[i:]
		do(front)
		do(back)
		for x := range 256 {
			other := string([]byte{byte(x)})
			do(front + other + back)
			if back != "" {
				do(front + other + back[1:])
			}
		}
		if back != "" {
			do(front + back[1:])
		}
	}
}

// P15.1

func TestParts(t *testing.T) {
	for _, x := range []struct {
		f     float64
		odd   uint64
		power int
	}{
		{1, 1, 0}, {2, 1, 1}, {3, 3, 0}, {4, 1, 2}, {8, 1, 3}, {12, 3, 2}, {100, 25, 2}, {255, 255, 0}, {256, 1, 8}, {0.5, 1, -1}, {1.5, 3, -1}, {0.75, 3, -2}, {1.25, 5, -2}, {0.1, 3602879701896397, -55}, {1e22, 2384185791015625, 22},
		{1 << 52, 1, 52}, {1<<52 + 1, 1<<52 + 1, 0}, {1<<53 - 1, 1<<53 - 1, 0}, {1 << 53, 1, 53}, {1<<53 + 2, 1<<52 + 1, 1}, {1<<64 - 1<<11, 1<<53 - 1, 11}, {1 << 64, 1, 64},
		{math.SmallestNonzeroFloat64, 1, -1074}, {2 * math.SmallestNonzeroFloat64, 1, -1073}, {3 * math.SmallestNonzeroFloat64, 3, -1074}, {0x1p-1023, 1, -1023}, {0x0.fffffffffffffp-1022, 1<<52 - 1, -1074}, {0x1p-1022, 1, -1022}, {0x1.0000000000001p-1022, 1<<52 + 1, -1074}, {0x1.fffffffffffffp-1022, 1<<53 - 1, -1074},
		{0x1p1023, 1, 1023}, {0x1.8p1023, 3, 1022}, {math.MaxFloat64, 1<<53 - 1, 971}, {0x1.ffffffffffffep1023, 1<<52 - 1, 972},
	} {
		for _, minus := range []bool{false, true} {
			f := x.f
			if minus {
				f = -f
			}
			if m, odd, power := Parts(f); m != minus || odd != x.odd || power != x.power {
				t.Errorf("Parts of %x: %v, %d, %d", f, m, odd, power)
			}
			worth(t, f, minus, x.odd, x.power)
			sound(t, f)
		}
	}
}

// Of what has no odd number there is its sign alone, and of NaN not even that.
func TestPartsOfOthers(t *testing.T) {
	for _, f := range []float64{0, math.Inf(1)} {
		for _, minus := range []bool{false, true} {
			if minus {
				f = math.Copysign(f, -1)
			}
			if m, odd, power := Parts(f); m != minus || odd != 0 || power != 0 {
				t.Errorf("Parts of %x: %v, %d, %d", f, m, odd, power)
			}
		}
	}
	for _, f := range nones() {
		if !math.IsNaN(f) || !none(f) {
			t.Errorf("%x is a number", math.Float64bits(f))
		}
		if minus, odd, power := Parts(f); minus || odd != 0 || power != 0 {
			t.Errorf("Parts of a NaN of the bits %x: %v, %d, %d", math.Float64bits(f), minus, odd, power)
		}
	}
}

// P15.1 and P15.2

func TestEdges(t *testing.T) {
	for _, f := range append(all(), nones()...) {
		sound(t, f)
	}
}

// Each power of two that is a number, its neighbours, and the same with all bits and with the last one set behind the first.
func TestPowersOfTwo(t *testing.T) {
	for power := lowest; power <= highest; power++ {
		f := math.Ldexp(1, power)
		if _, odd, p := Parts(f); odd != 1 || p != power {
			t.Errorf("Parts of 2 to the power %d: %d, %d", power, odd, p)
		}
		is(t, f, "1p"+strconv.Itoa(power))
		is(t, -f, "-1p"+strconv.Itoa(power))
		for _, x := range []float64{f, math.Nextafter(f, 0), math.Nextafter(f, math.Inf(1)), math.Nextafter(math.Nextafter(f, math.Inf(1)), math.Inf(1))} {
			sound(t, x)
			sound(t, -x)
		}
	}
}

// Each odd number's length at each power: what there is of it comes back, what there isn't is no number's.
func TestOddNumbersAtPowers(t *testing.T) {
	for long := 1; long <= 66; long++ {
		least, most := new(big.Int).Lsh(big.NewInt(1), uint(long-1)), new(big.Int).Lsh(big.NewInt(1), uint(long))
		least.SetBit(least, 0, 1)
		most.Sub(most, big.NewInt(1))
		for _, power := range []int{-2000, -1200, -1150, -1140, -1128, -1127, -1126, -1125, -1080, -1076, -1075, -1074, -1073, -1072, -1030, -1023, -1022, -1021, -64, -55, -53, -52, -1, 0, 1, 10, 11, 52, 53, 64, 900, 969, 970, 971, 972, 973, 1023 - long, 1024 - long, 1025 - long, 1022, 1023, 1024, 1025, 1026, 1100, 2000} {
			for _, odd := range []*big.Int{least, most} {
				s := fmt.Sprintf("%dp%d", odd, power)
				if known(s) != (long <= 53 && power >= -1074 && power <= 1024-long) {
					t.Errorf("%q, of an odd number of %d bits: %v", s, long, known(s))
				}
				judged(t, s)
				judged(t, "-"+s)
				if f, ok := Parse(s); ok {
					if m, o, p := Parts(f); m || o != odd.Uint64() || p != power {
						t.Errorf("Parts of %q: %v, %d, %d", s, m, o, p)
					}
					sound(t, f)
					sound(t, -f)
				}
			}
		}
	}
}

// Numbers whose first bit isn't written: of each length, and about the greatest of them.
func TestSmallNumbers(t *testing.T) {
	for i := range uint(53) {
		for _, by := range []uint64{0, 1, 2, 3, 1<<i - 1} {
			sound(t, math.Float64frombits(1<<i+by))
			sound(t, -math.Float64frombits(1<<i+by))
		}
	}
	is(t, math.Float64frombits(1), "1p-1074")
	is(t, math.Float64frombits(2), "1p-1073")
	is(t, math.Float64frombits(3), "3p-1074")
	is(t, math.Float64frombits(1<<52-1), "4503599627370495p-1074")
	is(t, math.Float64frombits(1<<52), "1p-1022")
	is(t, math.Float64frombits(1<<52+1), "4503599627370497p-1074")
}

// Bits as they come: each is a number or none, and what it should be.
func TestNumbersOfAllBits(t *testing.T) {
	for seed := range uint64(20000) {
		x := chance(seed)
		sound(t, math.Float64frombits(x))
		sound(t, math.Float64frombits(x&(sign|1<<52-1)))
		sound(t, math.Float64frombits(x>>(seed%64)<<(seed%64)))
	}
}

// P15.2

func TestTexts(t *testing.T) {
	for s, f := range map[string]float64{
		"0": 0, "inf": math.Inf(1), "1p0": 1, "1p1": 2, "3p0": 3, "1p3": 8, "3p-1": 1.5, "1p-1": 0.5, "5p-2": 1.25, "25p2": 100, "3602879701896397p-55": 0.1, "9p0": 9, "5p1": 10, "11p0": 11, "101p0": 101, "1001p0": 1001, "1p10": 1024, "1p-10": 0x1p-10, "1p100": 0x1p100, "15p0": 15, "10001p-100": 10001 * 0x1p-100,
		"1p-1074": math.SmallestNonzeroFloat64, "4503599627370495p-1074": 0x0.fffffffffffffp-1022, "1p-1022": 0x1p-1022, "1p1023": 0x1p1023, "9007199254740991p971": math.MaxFloat64, "9007199254740991p0": 1<<53 - 1, "9007199254740989p0": 1<<53 - 3, "4503599627370497p0": 1<<52 + 1, "4503599627370497p1": 1<<53 + 2, "9007199254740991p-1074": 0x1.fffffffffffffp-1022, "3p1022": 0x1.8p1023, "1p53": 1 << 53, "1p64": 1 << 64,
	} {
		is(t, f, s)
		is(t, math.Copysign(f, -1), "-"+s)
		sound(t, f)
	}
}

func TestTextOfNone(t *testing.T) {
	for _, f := range nones() {
		if s := Text(f); s != "" {
			t.Errorf("Text of a NaN of the bits %x: %q", math.Float64bits(f), s)
		}
	}
}

func TestWrongTexts(t *testing.T) {
	for _, s := range []string{
		// Nothing, or signs alone.
		"", "-", "--", "+", " ", "\x00", ".", "p", "-p", "pp",
		// Signs that are none's.
		"--0", "--1p0", "-+1p0", "+-1p0", "+1p0", "+0", "+inf", "--inf", "-+inf", "- 1p0", "1-p0", "1p--1", "1p+1", "1p-+1", "1p+-1", "1p1-", "1p+0", "\u22121p0", "1p\u22121", "(1p0)",
		// Noughts ahead, and 0 with a sign.
		"00", "-00", "000", "01p0", "-01p0", "001p0", "03p-1", "1p00", "1p01", "1p-01", "1p-00", "1p-0", "1p000", "-1p-0", "1p0000000000000000000000001", "0000000000000000000000001p0", "0inf", "01p01",
		// An even odd number, or none.
		"0p0", "-0p0", "0p1", "0p-1", "-0p-1", "0p", "2p0", "-2p0", "4p0", "6p-2", "10p0", "12p0", "100p0", "2p-1074", "2p-1075", "4p-1076", "2p1022", "9007199254740992p0", "9007199254740990p0", "4503599627370496p-1074", "2p1023", "00p0",
		// Not one p, or nothing at its sides.
		"1", "-1", "3", "12", "9007199254740991", "1p", "-1p", "3p", "p0", "p1", "-p0", "-p1", "p-1", "1pp0", "1p0p", "1p0p0", "1p1p1", "p1p0", "1p0p1", "1p-", "1p--", "-1p-", "1.5", "0.0", ".5", "1.", "1.0p0", "1p0.0", "1p.", "1,5",
		// Other letters, and other ways to write numbers.
		"1P0", "1q0", "1e0", "1E0", "1e5", "1b0", "1x0", "1\xf00", "1\xffp0", "1\u0440p0", "1\u04400", "1\uff500", "0x1p0", "0x1", "0x1.8p0", "0b1p0", "0o7p0", "1p0x1", "0X1P+0", "1_1p0", "1p1_0", "1_p0", "_1p0", "1p_1", "ap0", "1pa", "0xap0", "fp0", "1p0f", "1p0h", "1n", "1p0n", "1^0", "1*2^0", "1p1e1", "1'1p0", "1,001p0", "#1p0",
		// Blanks.
		" 1p0", "1p0 ", "1 p0", "1p 0", "- 0", " 0", "0 ", "-0 ", "inf ", " inf", "- inf", "\t1p0", "1p0\n", "1p0\r\n", "\n", "1p0\x00", "\x001p0", "1\x00p0", "1p\x000", "0\x00", "inf\x00", "1p0\u00a0", "\ufeff1p0", "\u200b0", "0\n", "\t0",
		// None, and infinite ones written otherwise.
		"NaN", "nan", "-NaN", "-nan", "+NaN", "NAN", "NaN0", "nanp0", "none", "nil", "Inf", "INF", "-Inf", "+Inf", "infinity", "Infinity", "-Infinity", "in", "nf", "i", "inf0", "infp0", "-infp0", "inf-", "infinf", "infp", "pinf", "1pinf", "infp1", "1p-inf", "0inf", "1inf", "\u221e", "-\u221e", "\u0131nf", "inp0", "inff", "+infp0",
		// An odd number of more than 53 bits, one of more than 64, and some that are another one when they are cut.
		"9007199254740993p0", "9007199254740995p0", "9007199254740993p-1", "9007199254740993p-1074", "9007199254740993p970", "-9007199254740993p0", "18014398509481983p0", "18014398509481985p0", "18014398509481983p-1", "9223372036854775807p0", "9223372036854775809p0", "18446744073709551615p0", "18446744073709551617p0", "18446744073709551619p0", "18446744073709551617p-1", "-18446744073709551617p0", "36893488147419103233p0", "340282366920938463463374607431768211457p0", "99999999999999999999999999999p0", "36028797018963969p0", "72057594037927937p0", "4294967297000000000000000000001p0",
		// Too small, or too large a power.
		"1p-1075", "-1p-1075", "3p-1075", "5p-1075", "3p-1076", "9007199254740991p-1075", "9007199254740991p-1100", "9007199254740991p-1127", "9007199254740991p-1128", "4503599627370497p-1075", "1p-1076", "1p-1077", "1p-2000", "1p-2048", "1p-2049", "1p-4096", "1p1024", "-1p1024", "3p1023", "5p1022", "7p1022", "9007199254740991p972", "9007199254740991p1023", "4503599627370497p972", "1p1025", "1p2000", "1p2047", "1p2048", "1p4095", "1p4096", "1p8192", "1p-8192", "1p10000", "1p-10000", "1p65536", "1p-65536", "1p65537", "1p-65535",
		"1p99999999999", "1p-99999999999", "1p2147483647", "1p2147483648", "1p-2147483648", "1p-2147483649", "1p4294967295", "1p4294967296", "1p4294967297", "1p-4294967296", "1p9223372036854775807", "1p9223372036854775808", "1p-9223372036854775808", "1p-9223372036854775809", "1p18446744073709551615", "1p18446744073709551616", "1p18446744073709551617", "1p-18446744073709551616", "-1p18446744073709551616", "1p999999999999999999999999999", "1p-999999999999999999999999999", "0p18446744073709551616",
		// Digits that are none, or whose lowest byte is one.
		"\u0661p0", "1p\u0660", "\u0660", "\uff11p0", "1p\uff10", "\u00b9p0", "1p\u00b2", "\u0131p0", "\u0130", "\u0231p0", "\u096fp0", "\U0001d7d9p0", "1p\U0001d7d8", "/p0", ":p0", "1p/", "1p:", "1:p0", "1/p0", "Ip0", "lp0", "Op0", "1pO", "O", "\xb1p0", "\xb0", "\xff", "\u0000",
	} {
		wrong(t, s)
	}
}

// All rows of a few pieces, behind each other.
func TestAllRows(t *testing.T) {
	var from func(s string, left int)
	from = func(s string, left int) {
		judged(t, s)
		if left == 0 {
			return
		}
		for _, piece := range []string{"-", "0", "1", "2", "3", "p", "inf", "+", "7"} {
			from(s+piece, left-1)
		}
	}
	from("", 5)
}

func TestChangedTexts(t *testing.T) {
	for _, s := range []string{"0", "-0", "inf", "-inf", "1p0", "3p-1", "-5p-2", "1p1023", "1p-1074", "4503599627370495p-1074", "9007199254740991p971", "-9007199254740991p-1074", "3602879701896397p-55"} {
		changed(s, func(s string) { judged(t, s) })
	}
}

// About each odd number's and each power's edges, all numbers in a row.
func TestNumbersInARow(t *testing.T) {
	for odd := range 200 {
		for power := -20; power <= 20; power++ {
			judged(t, fmt.Sprintf("%dp%d", odd, power))
		}
	}
	for _, odd := range []string{"1", "3", "9007199254740991", "4503599627370497"} {
		for power := -1200; power <= 1200; power++ {
			judged(t, fmt.Sprintf("%sp%d", odd, power))
		}
	}
	for by := -100; by <= 100; by++ {
		for _, about := range []*big.Int{new(big.Int).Lsh(big.NewInt(1), 52), new(big.Int).Lsh(big.NewInt(1), 53), new(big.Int).Lsh(big.NewInt(1), 63), new(big.Int).Lsh(big.NewInt(1), 64), new(big.Int).Lsh(big.NewInt(1), 65)} {
			odd := new(big.Int).Add(about, big.NewInt(int64(by)))
			for _, power := range []int{-1075, -1074, -1, 0, 970, 971, 972} {
				judged(t, fmt.Sprintf("%dp%d", odd, power))
			}
			power := new(big.Int).Neg(odd)
			judged(t, fmt.Sprintf("1p%d", odd))
			judged(t, fmt.Sprintf("1p%d", power))
		}
	}
}

// However long a text is, each call ends.
func TestLongTexts(t *testing.T) {
	many := 1 << 16
	for _, s := range []string{"-", "0", "1", "9", "p", "1p0", "p0", "inf", "+", " ", "\x00", "\xff", "é", ".", "_", "-0", "1p-"} {
		long := strings.Repeat(s, many)
		for _, text := range []string{long, "-" + long, "1p" + long, "1p-" + long, long + "p0", "-" + long + "p0", long + "1p0", "1p0" + long, "1p1" + long, "1" + long + "1p0", "0" + long, "inf" + long, long + "inf", long + "0", "3p-1" + long} {
			wrong(t, text)
		}
	}
}

// P15.3

func TestAtMost(t *testing.T) {
	rising := []float64{math.Inf(-1), -math.MaxFloat64, -0x1.ffffffffffffep1023, -1e300, -8, -1.5, -1, -0.1, -0x1p-1022, -0x0.fffffffffffffp-1022, -2 * math.SmallestNonzeroFloat64, -math.SmallestNonzeroFloat64, 0, math.SmallestNonzeroFloat64, 2 * math.SmallestNonzeroFloat64, 0x0.fffffffffffffp-1022, 0x1p-1022, 0.1, 1, 0x1.0000000000001p0, 1.5, 8, 1e300, 0x1.ffffffffffffep1023, math.MaxFloat64, math.Inf(1)}
	for i, a := range rising {
		for k, b := range rising {
			if AtMost(a, b) != (i <= k) {
				t.Errorf("%x at most %x: %v", a, b, i > k)
			}
		}
		for _, b := range nones() {
			if AtMost(a, b) || AtMost(b, a) {
				t.Errorf("%x at most a NaN of the bits %x, or the other way round", a, math.Float64bits(b))
			}
		}
	}
}

func TestAtMostOfNoughts(t *testing.T) {
	zero, minus := 0.0, math.Copysign(0, -1)
	for _, a := range []float64{zero, minus} {
		for _, b := range []float64{zero, minus} {
			if !AtMost(a, b) {
				t.Errorf("%x isn't at most %x", math.Float64bits(a), math.Float64bits(b))
			}
		}
		for _, f := range append(edges(), math.Inf(1)) {
			if !AtMost(a, f) || AtMost(f, a) || !AtMost(-f, a) || AtMost(a, -f) {
				t.Errorf("0 of the bits %x, and %x, or what is as far below 0", math.Float64bits(a), f)
			}
		}
	}
}

func TestAtMostOfNone(t *testing.T) {
	for _, a := range nones() {
		for _, b := range append(nones(), all()...) {
			if AtMost(a, b) || AtMost(b, a) {
				t.Errorf("a NaN of the bits %x, and %x", math.Float64bits(a), math.Float64bits(b))
			}
		}
	}
}

// Each of the edges against each other one.
func TestAtMostOfAllEdges(t *testing.T) {
	for _, a := range all() {
		for _, b := range all() {
			if got := AtMost(a, b); got != atMost(a, b) {
				t.Errorf("%x at most %x: %v", a, b, got)
			}
			if exact := new(big.Float).SetFloat64(a).Cmp(new(big.Float).SetFloat64(b)) <= 0; AtMost(a, b) != exact {
				t.Errorf("%x at most %x: %v by sums of any length", a, b, exact)
			}
		}
		if !AtMost(a, math.Inf(1)) || !AtMost(math.Inf(-1), a) || AtMost(math.Inf(1), a) != math.IsInf(a, 1) || AtMost(a, math.Inf(-1)) != math.IsInf(a, -1) {
			t.Errorf("%x, and the infinite ones", a)
		}
	}
}

// Numbers that the last bit alone parts, and numbers as they come.
func TestAtMostOfNeighbours(t *testing.T) {
	both := func(a, b float64) {
		if AtMost(a, b) != atMost(a, b) || AtMost(b, a) != atMost(b, a) {
			t.Errorf("%x at most %x: %v, and the other way round: %v", a, b, AtMost(a, b), AtMost(b, a))
		}
	}
	for power := lowest; power <= highest; power++ {
		f := math.Ldexp(1, power)
		for _, x := range []float64{f, -f, math.Nextafter(f, 0), -math.Nextafter(f, 0)} {
			both(x, x)
			both(x, math.Float64frombits(math.Float64bits(x)^1))
			both(x, math.Nextafter(x, math.Inf(1)))
			both(x, math.Nextafter(x, math.Inf(-1)))
			both(x, -x)
		}
	}
	for seed := range uint64(20000) {
		a, b := math.Float64frombits(chance(2*seed)), math.Float64frombits(chance(2*seed+1))
		both(a, b)
		both(a, math.Float64frombits(math.Float64bits(a)^1))
		both(a, math.Float64frombits(math.Float64bits(a)^sign))
	}
}

// P1 and P2: what a call answers doesn't hang on the calls ahead of it.
func TestAnswersStayTheSame(t *testing.T) {
	texts := []string{"", "0", "-0", "inf", "-inf", "NaN", "1p0", "3p-1", "2p0", "1p-1074", "1p1024", "9007199254740991p971", "9007199254740993p0"}
	numbers := append(all(), nones()...)
	ask := func(i int) string {
		s, f := texts[i%len(texts)], numbers[i%len(numbers)]
		read, ok := Parse(s)
		minus, odd, power := Parts(f)
		return fmt.Sprintf("%x %v %v %d %d %q %v", math.Float64bits(read), ok, minus, odd, power, Text(f), AtMost(f, read))
	}
	var first []string
	for i := range len(texts) * len(numbers) {
		first = append(first, ask(i))
	}
	for i, before := range slices.Backward(first) {
		if again := ask(i); again != before {
			t.Errorf("%s, and then %s", before, again)
		}
	}
}

func FuzzParse(f *testing.F) {
	for _, s := range []string{"", "0", "-0", "inf", "-inf", "3p-1", "1p-1074", "9007199254740991p971", "2p0", "1p1024", "NaN"} {
		f.Add(s)
	}
	f.Fuzz(judged)
}

func FuzzNumbers(f *testing.F) {
	for _, x := range append(all(), nones()...) {
		f.Add(math.Float64bits(x), uint64(0))
	}
	f.Fuzz(func(t *testing.T, a, b uint64) {
		x, y := math.Float64frombits(a), math.Float64frombits(b)
		sound(t, x)
		if AtMost(x, y) != atMost(x, y) {
			t.Errorf("%x at most %x: %v", x, y, AtMost(x, y))
		}
	})
}
