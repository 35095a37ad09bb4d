package lex

import (
	"fmt"
	"math/big"
	"regexp"
	"slices"
	"strings"
	"testing"
)

var (
	// wordy: a text that words could have, were it not for its length.
	wordy = regexp.MustCompile(`\A([!-~]+( [!-~]+)*)?\z`)
	// digits: a text that a number could have, were it not for how great it is.
	digits = regexp.MustCompile(`\A(0|[1-9][0-9]*)\z`)
	// letters: a name.
	letters = regexp.MustCompile(`\A[a-z]{1,16}\z`)
	// listed: a text that names could have, were it not for their order.
	listed = regexp.MustCompile(`\A[a-z]{1,16}(,[a-z]{1,16}){0,31}\z`)
)

// order: where a name stands among all, as a whole number: a place with no letter is below each with one.
func order(name string) *big.Int {
	n := new(big.Int)
	for i := range 16 {
		n.Mul(n, big.NewInt(27))
		if i < len(name) {
			n.Add(n, big.NewInt(int64(name[i]-'a'+1)))
		}
	}
	return n
}

// rise: is each name above the one ahead? Told by whole numbers.
func rise(names []string) bool {
	for i := range names[1:] {
		if order(names[i]).Cmp(order(names[i+1])) >= 0 {
			return false
		}
	}
	return true
}

// lists: has the text Names? Told by its shape, and by whole numbers.
func lists(s string) bool { return listed.MatchString(s) && rise(strings.Split(s, ",")) }

// says: has the text Words?
func says(s string) bool { return len(s) <= 512 && wordy.MatchString(s) }

// counts: is the text a Number's?
func counts(s string) (*big.Int, bool) {
	if !digits.MatchString(s) {
		return nil, false
	}
	n, _ := new(big.Int).SetString(s, 10)
	return n, n.BitLen() <= 64
}

// short: a text as it is told of.
func short(s string) string { return fmt.Sprintf("%.80q, of %d bytes", s, len(s)) }

// worded: are these the text's words?
func worded(t *testing.T, s string, words ...string) {
	t.Helper()
	if got, ok := Words(s); !ok || !slices.Equal(got, words) || strings.Join(got, " ") != s {
		t.Errorf("Words of %s: %q, %v", short(s), got, ok)
	}
	if !says(s) {
		t.Errorf("%s has no words", short(s))
	}
}

// wordless: has the text no words?
func wordless(t *testing.T, s string) {
	t.Helper()
	if got, ok := Words(s); ok || len(got) != 0 {
		t.Errorf("Words of %s: %q, %v", short(s), got, ok)
	}
	if says(s) {
		t.Errorf("%s has words", short(s))
	}
}

// judgeWords: worded or wordless, whichever says tells.
func judgeWords(t *testing.T, s string) {
	t.Helper()
	switch {
	case !says(s):
		wordless(t, s)
	case s == "":
		worded(t, s)
	default:
		worded(t, s, strings.Split(s, " ")...)
	}
}

// numbered: is it the text's number?
func numbered(t *testing.T, s string, n uint64) {
	t.Helper()
	if got, ok := Number(s); !ok || got != n {
		t.Errorf("Number of %s: %d, %v; not %d", short(s), got, ok, n)
	}
	if x, ok := counts(s); !ok || !x.IsUint64() || x.Uint64() != n {
		t.Errorf("%s isn't %d's", short(s), n)
	}
}

// numberless: is the text no number's?
func numberless(t *testing.T, s string) {
	t.Helper()
	if got, ok := Number(s); ok || got != 0 {
		t.Errorf("Number of %s: %d, %v", short(s), got, ok)
	}
	if _, ok := counts(s); ok {
		t.Errorf("%s is a number's", short(s))
	}
}

// judgeNumber: numbered or numberless, whichever counts tells.
func judgeNumber(t *testing.T, s string) {
	t.Helper()
	if n, ok := counts(s); ok {
		numbered(t, s, n.Uint64())
	} else {
		numberless(t, s)
	}
}

// judgeName: is it told whether the text is a name?
func judgeName(t *testing.T, s string) {
	t.Helper()
	if got := Name(s); got != letters.MatchString(s) {
		t.Errorf("Name of %s: %v", short(s), got)
	}
}

// named: are these the text's names, and is it their Join?
func named(t *testing.T, s string, names ...string) {
	t.Helper()
	if got, ok := Names(s); !ok || !slices.Equal(got, names) {
		t.Errorf("Names of %s: %q, %v; not %q", short(s), got, ok, names)
	}
	if got := Join(names...); got != s {
		t.Errorf("Join of %q: %q, not %q", names, got, s)
	}
	for _, name := range names {
		if !Name(name) || !letters.MatchString(name) {
			t.Errorf("%q, of %s, is no name", name, short(s))
		}
	}
	if !lists(s) {
		t.Errorf("%s has no names", short(s))
	}
}

// nameless: has the text no names, and is it no list's Join, however it is cut?
func nameless(t *testing.T, s string) {
	t.Helper()
	if got, ok := Names(s); ok || len(got) != 0 {
		t.Errorf("Names of %s: %q, %v", short(s), got, ok)
	}
	if lists(s) {
		t.Errorf("%s has names", short(s))
	}
	front, back, _ := strings.Cut(s, ",")
	joinless(t, s)
	joinless(t, strings.Split(s, ",")...)
	if got := Join(front, back); got != "" && got != front+","+back {
		t.Errorf("Join of %q and %q: %q", front, back, got)
	}
}

// joinless: have these names no text?
func joinless(t *testing.T, names ...string) {
	t.Helper()
	if got := Join(names...); got != "" {
		t.Errorf("Join of %.80q, %d of them: %s", names, len(names), short(got))
	}
}

// judgeNames: named or nameless, whichever lists tells.
func judgeNames(t *testing.T, s string) {
	t.Helper()
	if lists(s) {
		named(t, s, strings.Split(s, ",")...)
	} else {
		nameless(t, s)
	}
}

// judgeJoin: has the row of names a text, and the one that it should have?
func judgeJoin(t *testing.T, names ...string) {
	t.Helper()
	right := len(names) >= 1 && len(names) <= 32
	for _, name := range names {
		right = right && letters.MatchString(name)
	}
	if right && rise(names) {
		named(t, strings.Join(names, ","), names...)
	} else {
		joinless(t, names...)
	}
}

// judge: does each call of one text answer what it should?
func judge(t *testing.T, s string) {
	t.Helper()
	judgeWords(t, s)
	judgeNumber(t, s)
	judgeName(t, s)
	judgeNames(t, s)
	judgeJoin(t, s)
}

// rows: calls what is to be done with each row of up to so many of the pieces, the empty one too.
func rows(pieces []string, most int, do func(row ...string)) {
	var from func(row []string)
	from = func(row []string) {
		do(slices.Clone(row)...)
		if len(row) == most {
			return
		}
		for _, piece := range pieces {
			from(append(slices.Clone(row), piece))
		}
	}
	from(nil)
}

// changed: calls what is to be done with a text's beginnings and ends, and with each of its bytes changed, left out, or put in: by each of all 256.
func changed(s string, do func(s string)) {
	for i := range len(s) + 1 {
		front, back := s[:i], s[i:]
		do(front)
		do(back)
		for x := range 256 {
			sign := string([]byte{byte(x)})
			do(front + sign + back)
			if back != "" {
				do(front + sign + back[1:])
			}
		}
		if back != "" {
			do(front + back[1:])
		}
	}
}

// some: so many names that rise, two letters each.
func some(many int) []string {
	var out []string
	for i := range many {
		out = append(out, string([]byte{byte('a' + i/26), byte('a' + i%26)}))
	}
	return out
}

// strangers: signs beyond ASCII, some of which are letters, digits, blanks or commas elsewhere, or have the lowest byte of one that is right; and bytes that are no UTF-8.
var strangers = []string{
	"\u0080", "\u00a0", "\u00ad", "\u00df", "\u00e4", "\u00e9", "\u00b2", "\u00b9", "\u0130", "\u0131", "\u0161", "\u017a", "\u0141", "\u0120", "\u012c", "\u017f", "\u03b1", "\u0430", "\u0660", "\u0661", "\u0966", "\u096f", "\u060c", "\u2002", "\u2003", "\u2009", "\u200b", "\u2028", "\u202f", "\u205f", "\u2160", "\u212a", "\u3000", "\u3001", "\u4e00", "\u4e61", "\ufeff", "\uff0c", "\uff10", "\uff11", "\uff41", "\uff5a", "\ufffd", "\uffff", "\U00010061", "\U0001d41a", "\U0001d7d8", "\U0001f600", "\U0010ffff",
	"\x80", "\xa0", "\xb1", "\xbf", "\xc0", "\xc2", "\xc3", "\xe1", "\xe9", "\xfa", "\xfe", "\xff", "\xc0\x80", "\xc0\xa0", "\xc1\xa1", "\xc0\xac", "\xc0\xb0", "\xe0\x80\xa0", "\xe0\x81\xa1", "\xed\xa0\x80", "\xf0\x80\x81\xa1", "\xf4\x90\x80\x80", "\xf8\x88\x80\x80\x80", "\xe2\x82", "\xf0\x9f\x98",
}

// P16.1

func TestExamplesOfWords(t *testing.T) {
	worded(t, "")
	for _, words := range [][]string{
		{"a"}, {"a", "b"}, {"a", "b", "c"}, {"a", "a", "a"}, {"before", "90"}, {"op", "list,read"}, {"path", "/a/b"}, {"net", "2001:db8::/32"}, {"cost", "-3p-1"}, {"since", "0"}, {"one"}, {"Nobody", "understands", "it!"},
		{"!"}, {"~"}, {"!", "~"}, {"~!"}, {"~", "!", "~"}, {",", "."}, {"\"", "\\", "`", "'"}, {"%20"}, {"\\t"}, {"$()"}, {"{", "}", "[", "]", "<", ">"}, {"0"}, {"A", "Z"}, {"_"}, {"-"},
	} {
		worded(t, strings.Join(words, " "), words...)
	}
	for _, s := range []string{
		// A blank alone, at the front, at the end, two and three side by side.
		" ", "  ", "   ", " a", "a ", " a ", "  a", "a  ", "   a", "a   ", "a  b", "a   b", "a    b", " a b", "a b ", " a b ", "a b  c", "a  b c", "a b  ", "  a b", "a   b c", "~  !",
		// What parts words elsewhere.
		"\t", "\n", "\r", "\v", "\f", "\x00", "a\tb", "a\nb", "a\r\nb", "a\vb", "a\fb", "a\x00b", "a b\n", "\na b", "a\n", "\ta", "a \tb", "a\t b", "a b\x00", "\x1f", "\x7f", "a\x1fb", "a \x7f b", "a b\x7f", "\x1f a",
	} {
		wordless(t, s)
	}
}

func TestStrangersInWords(t *testing.T) {
	for _, x := range strangers {
		for _, s := range []string{x, "a" + x, x + "a", "a" + x + "b", "a " + x, x + " a", "a " + x + " b", "a b" + x + " c", x + x} {
			wordless(t, s)
		}
	}
}

// Each of the 256 bytes alone, at the front, in the middle and at the end, of short texts and of the longest ones.
func TestEachByteOfWords(t *testing.T) {
	for x := range 256 {
		sign := string([]byte{byte(x)})
		right := x > 32 && x < 127
		for _, form := range []string{"%s", "a%s", "%sa", "a%sb", "a %s", "%s a", "a %s b", "a b%s", "%sa b", "a%s b", "a %sb", "~%s!", strings.Repeat("n", 511) + "%s", "%s" + strings.Repeat("n", 511), strings.Repeat("n ", 128) + "%s" + strings.Repeat(" n", 127), strings.Repeat("n", 255) + "%s" + strings.Repeat("n", 256)} {
			s := fmt.Sprintf(form, sign)
			judgeWords(t, s)
			got, ok := Words(s)
			if x != 32 && (ok != right || ok && strings.Join(got, " ") != s) {
				t.Errorf("Words of %s: %v", short(s), ok)
			}
		}
		if _, ok := Words("a" + sign + "b"); ok != (right || x == 32) {
			t.Errorf("Words of %q: %v", "a"+sign+"b", ok)
		}
	}
}

// Two bytes at a time, whatever sign they make.
func TestEachTwoBytesOfWords(t *testing.T) {
	for x := range 1 << 16 {
		s := string([]byte{byte(x >> 8), byte(x)})
		if _, ok := Words(s); ok != says(s) {
			t.Errorf("Words of %q: %v", s, ok)
		}
		if _, ok := Words("a" + s + "b"); ok != says("a"+s+"b") {
			t.Errorf("Words of %q: %v", "a"+s+"b", ok)
		}
	}
}

func TestLengthsOfWords(t *testing.T) {
	for bytes := 1; bytes <= 1100; bytes++ {
		for _, word := range []string{strings.Repeat("w", bytes), "~", "ab", strings.Repeat("n", 100), strings.Repeat("n", 255), strings.Repeat("n", 256), strings.Repeat("n", 511), strings.Repeat("n", 512)} {
			// What is cut off ends with a blank, now and then: then its last word is one byte longer.
			s := strings.Repeat(word+" ", bytes)[:bytes]
			if strings.HasSuffix(s, " ") {
				s = s[:bytes-1] + "e"
			}
			if _, ok := Words(s); ok != (bytes <= 512) {
				t.Errorf("Words of %s: %v", short(s), ok)
			}
			judgeWords(t, s)
			wordless(t, s+" ")
			wordless(t, " "+s)
		}
	}
	worded(t, strings.Repeat("x", 511), strings.Repeat("x", 511))
	worded(t, strings.Repeat("x", 512), strings.Repeat("x", 512))
	wordless(t, strings.Repeat("x", 513))
	worded(t, strings.Repeat("x ", 255)+"x", slices.Repeat([]string{"x"}, 256)...)
	worded(t, strings.Repeat("x ", 255)+"xx", append(slices.Repeat([]string{"x"}, 255), "xx")...)
	wordless(t, strings.Repeat("x ", 256)+"x")
	wordless(t, strings.Repeat("x ", 256))
	wordless(t, strings.Repeat(" ", 512))
}

// All rows of a few signs, whatever they make.
func TestRowsOfWords(t *testing.T) {
	rows([]string{" ", "a", "~", "\x7f", "é"}, 6, func(row ...string) { judgeWords(t, strings.Join(row, "")) })
	rows([]string{"", "a", "b!", "a\n"}, 5, func(row ...string) { judgeWords(t, strings.Join(row, " ")) })
}

// What Words answers is the caller's: written over, no later answer is another one.
func TestWordsAreNewMemory(t *testing.T) {
	for _, words := range [][]string{{"a"}, {"a", "b"}, {"op", "list,read"}, slices.Repeat([]string{"x"}, 256)} {
		s := strings.Join(words, " ")
		first, ok := Words(s)
		second, _ := Words(s)
		overwrite(first)
		if !ok || !slices.Equal(second, words) {
			t.Errorf("Words of %s: %q", short(s), second)
		}
		worded(t, s, words...)
	}
}

// overwrite: writes a list over, its spare room too.
func overwrite(l []string) {
	all := l[:cap(l)]
	for i := range all {
		all[i] = "written over"
	}
}

// P16.2

func TestExamplesOfNumbers(t *testing.T) {
	for s, n := range map[string]uint64{
		"0": 0, "1": 1, "7": 7, "9": 9, "10": 10, "11": 11, "90": 90, "99": 99, "100": 100, "101": 101, "1000": 1000, "255": 255, "256": 256, "65535": 65535, "65536": 65536, "2147483647": 1<<31 - 1, "2147483648": 1 << 31, "4294967295": 1<<32 - 1, "4294967296": 1 << 32, "9223372036854775807": 1<<63 - 1, "9223372036854775808": 1 << 63, "9999999999999999999": 9999999999999999999, "10000000000000000000": 10000000000000000000, "18446744073709551609": 1<<64 - 7, "18446744073709551614": 1<<64 - 2, "18446744073709551615": 1<<64 - 1,
	} {
		numbered(t, s, n)
		// With noughts ahead, with signs, with what isn't seen.
		for _, ahead := range []string{"0", "00", "+", "-", " ", "\t", "_", ".", "x", "\x00", "0x", "+0", "-0"} {
			numberless(t, ahead+s)
		}
		for _, behind := range []string{" ", "\n", "\x00", ".", ".0", "_", "+", "-", "u", "e0", ",", "p0", "\u00a0"} {
			numberless(t, s+behind)
		}
	}
	for _, s := range []string{
		"", " ", "  ", "\x00", "\n", "-", "+", ".", "_", ",", "--1", "++1", "+-1", "-0", "+0", "-1", "+1", "00", "000", "01", "001", "007", "0000000000000000000000", "0000000000000000000000001", "00000000000000000000000018446744073709551615",
		"1_0", "1_000", "_1", "1_", "0_1", "1 0", "1 000", " 1", "1 ", " 0", "0 ", "1.0", "0.0", "1.", ".1", "0.5", "1,0", "1'000", "1e1", "1E1", "1e0", "0x1", "0X1", "0xff", "0b1", "0o7", "1p0", "0p0", "1n", "1u", "1L", "0d1",
		"a", "A", "f", "ff", "o", "O", "l", "I", "1a", "a1", "1a1", "inf", "nan", "NaN", "nil", "zero", "one", "true", "/", ":", "1/", "1:", "/1", ":1", "1\x00", "\x001", "1\n", "1\r\n", "\n1", "1\t", "(1)", "#1", "1%", "$1", "~1", "!", "1-", "1+", "1-1", "1+1",
	} {
		numberless(t, s)
	}
}

func TestStrangersInNumbers(t *testing.T) {
	for _, x := range strangers {
		for _, s := range []string{x, "1" + x, x + "1", "1" + x + "2", "0" + x, x + "0"} {
			numberless(t, s)
		}
	}
}

// Of each count of digits: the least number, the greatest one, and others.
func TestDigitsOfNumbers(t *testing.T) {
	for many := 1; many <= 70; many++ {
		least, most := "1"+strings.Repeat("0", many-1), strings.Repeat("9", many)
		for _, s := range []string{least, most, strings.Repeat("1", many), strings.Repeat("5", many), strings.Repeat("18446744073709551615", 4)[:many], strings.Repeat("1234567890", 7)[:many]} {
			if _, ok := Number(s); ok != (many < 20 || many == 20 && s <= "18446744073709551615") {
				t.Errorf("Number of %q, of %d digits: %v", s, many, ok)
			}
			judgeNumber(t, s)
			numberless(t, "0"+s)
			numberless(t, "+"+s)
			numberless(t, "-"+s)
		}
		// Noughts alone.
		if _, ok := Number(strings.Repeat("0", many)); ok != (many == 1) {
			t.Errorf("Number of %d noughts: %v", many, ok)
		}
	}
}

// About each power of two and of ten, and about the multiples of 2^64, which are some number of 64 bits when they are cut.
func TestNumbersInARow(t *testing.T) {
	about := func(n *big.Int) {
		for by := int64(-70); by <= 70; by++ {
			judgeNumber(t, new(big.Int).Add(n, big.NewInt(by)).String())
		}
	}
	for i := range uint(200) {
		about(new(big.Int).Lsh(big.NewInt(1), i))
		about(new(big.Int).Exp(big.NewInt(10), big.NewInt(int64(i%40)), nil))
		about(new(big.Int).Mul(new(big.Int).Lsh(big.NewInt(1), 64), big.NewInt(int64(i))))
	}
	for i := range uint64(3000) {
		numbered(t, fmt.Sprint(i), i)
		numbered(t, fmt.Sprint(^i), ^i)
		numbered(t, fmt.Sprint(i*0x9e3779b97f4a7c15), i*0x9e3779b97f4a7c15)
	}
}

// 2^64, and what is beyond it by one digit and by many.
func TestNumbersBeyond(t *testing.T) {
	for _, s := range []string{"18446744073709551616", "18446744073709551617", "18446744073709551620", "18446744073709551625", "18446744073709551700", "18446744073709552000", "19000000000000000000", "20000000000000000000", "28446744073709551615", "99999999999999999999", "100000000000000000000", "184467440737095516150", "184467440737095516160", "118446744073709551615", "340282366920938463463374607431768211456", "340282366920938463463374607431768211455"} {
		numberless(t, s)
		for x := range 10 {
			numberless(t, s+fmt.Sprint(x))
			numberless(t, fmt.Sprint(x)+s)
			numberless(t, "18446744073709551615"+fmt.Sprint(x))
		}
	}
}

// All rows of a few signs, whatever they make.
func TestRowsOfNumbers(t *testing.T) {
	rows([]string{"0", "1", "9", "-", "+", "_", ".", " ", "x", "e"}, 4, func(row ...string) { judgeNumber(t, strings.Join(row, "")) })
	rows([]string{"0", "1", "9"}, 7, func(row ...string) { judgeNumber(t, strings.Join(row, "")) })
}

// P16.3

func TestLengthsOfNames(t *testing.T) {
	for many := range 100 {
		for _, sign := range []string{"a", "b", "m", "y", "z"} {
			s := strings.Repeat(sign, many)
			right := many >= 1 && many <= 16
			if Name(s) != right {
				t.Errorf("Name of %s: %v", short(s), !right)
			}
			judgeName(t, s)
			judgeNames(t, s)
			for _, text := range []string{s + ",zz", "aa," + s, "aa," + s + ",zzz", s + "," + s} {
				judgeNames(t, text)
				if _, ok := Names(text); ok && !right {
					t.Errorf("Names of %s", short(text))
				}
			}
			judgeJoin(t, s, "zz")
			judgeJoin(t, "aa", s)
			judgeJoin(t, "aa", s, "zzz")
			// A sign that no name has, at the end of the longest ones, or in their midst.
			for _, x := range []string{"A", "0", ",", " ", "`", "{", "é", "\x00"} {
				judgeName(t, s+x)
				judgeName(t, x+s)
				judgeName(t, s+x+s)
			}
		}
	}
}

func TestExamplesOfName(t *testing.T) {
	for _, s := range []string{"a", "z", "az", "za", "op", "read", "list", "delete", "abcdefghijklmnop", "klmnopqrstuvwxyz", "aaaaaaaaaaaaaaaa", "zzzzzzzzzzzzzzz"} {
		if !Name(s) {
			t.Errorf("%q is no name", s)
		}
		named(t, s, s)
		judge(t, s)
	}
	for _, s := range []string{
		"", "`", "{", "@", "[", "A", "Z", "Az", "zA", "aB", "READ", "Read", "reaD", "0", "9", "a0", "0a", "a1b", ",", "a,", ",a", "a,b", " ", "a ", " a", "a b", ".", "a.", "_", "a_b", "-", "a-b", "/", "a/b", "a`", "`a", "a{", "{a", "a\x00", "\x00", "a\n", "\na", "a\t", "\x7f", "~", "*", "a*", "a:b", "a;b", "a|b", "a\\", "'a'", "\"a\"",
		"abcdefghijklmnopq", "zzzzzzzzzzzzzzzzz", "aaaaaaaaaaaaaaaaa", "aaaaaaaaaaaaaaa ", "aaaaaaaaaaaaaaaa ", "aaaaaaaaaaaaaaaA",
	} {
		if Name(s) {
			t.Errorf("%q is a name", s)
		}
		judge(t, s)
	}
	for _, x := range strangers {
		for _, s := range []string{x, "a" + x, x + "a", "a" + x + "z", strings.Repeat("n", 15) + x} {
			if Name(s) {
				t.Errorf("%q is a name", s)
			}
			judge(t, s)
			joinless(t, "a", s)
			joinless(t, s, "z")
			nameless(t, "a,"+s)
			nameless(t, s+",z")
		}
	}
}

// Each of the 256 bytes as a name, and at each place of one, and of names.
func TestEachByteOfNames(t *testing.T) {
	for x := range 256 {
		sign := string([]byte{byte(x)})
		for _, form := range []string{"%s", "m%s", "%sm", "m%sm", strings.Repeat("n", 15) + "%s", "%s" + strings.Repeat("n", 15), strings.Repeat("n", 7) + "%s" + strings.Repeat("n", 8)} {
			s := fmt.Sprintf(form, sign)
			if right := x >= 'a' && x <= 'z'; Name(s) != right {
				t.Errorf("Name of %q: %v", s, !right)
			}
			judge(t, s)
			judgeNames(t, "a,"+s+",zz")
			judgeJoin(t, "a", s, "zz")
			judgeJoin(t, s, "zz")
			judgeJoin(t, "a", s)
		}
		// In the place of a comma.
		judgeNames(t, "a"+sign+"b")
		judgeNames(t, "a,b"+sign+"c")
		judgeNames(t, "a"+sign+"b,c")
	}
}

// Each sign up to 0x1ffff in a name: of more than one byte none is there.
func TestEachSignOfNames(t *testing.T) {
	for sign := rune(0x80); sign < 0x20000; sign++ {
		if s := "a" + string(sign); Name(s) || Join("a", s) != "" {
			t.Errorf("%q is a name", s)
		}
	}
}

func TestExamplesOfNames(t *testing.T) {
	for _, names := range [][]string{
		{"a"}, {"list", "read"}, {"a", "b"}, {"a", "ab"}, {"a", "ab", "b"}, {"a", "aa", "aaa"}, {"a", "z"}, {"y", "z"}, {"az", "b"}, {"a", "b", "c"}, {"ab", "abc", "abd", "b"}, {"aaaaaaaaaaaaaaa", "aaaaaaaaaaaaaaaa"}, {"aaaaaaaaaaaaaaaa", "aaaaaaaaaaaaaaab"}, {"a", "zzzzzzzzzzzzzzzz"}, {"zzzzzzzzzzzzzzz", "zzzzzzzzzzzzzzzz"}, {"read", "reader", "write"},
	} {
		named(t, strings.Join(names, ","), names...)
		// The other way round, and twice, none is above the one ahead.
		if back := slices.Clone(names); len(back) > 1 {
			slices.Reverse(back)
			nameless(t, strings.Join(back, ","))
			joinless(t, back...)
		}
		for i, name := range names {
			twice := slices.Insert(slices.Clone(names), i, name)
			nameless(t, strings.Join(twice, ","))
			joinless(t, twice...)
		}
	}
	for _, s := range []string{
		// No name at one side of a comma.
		"", ",", ",,", ",,,", "a,", ",a", ",a,", "a,,b", "a,,", ",,a", "a,b,", ",a,b", "a,b,,c", "a,,b,c",
		// Rows that don't rise, at the first name, in the midst, or at the last one alone.
		"a,a", "b,a", "ab,a", "abc,ab", "read,list", "z,y", "a,b,b", "a,b,a", "a,c,b", "b,a,c", "a,b,c,d,e,f,a", "a,b,c,d,e,f,f", "a,b,c,d,e,f,ea", "a,aa,a", "aa,a,b", "b,az", "a,b,ba,bb,baa", "c,b,a", "a,a,b", "aaaaaaaaaaaaaaab,aaaaaaaaaaaaaaaa", "aaaaaaaaaaaaaaaa,aaaaaaaaaaaaaaa",
		// What is no name among others.
		"A", "a,B", "A,b", "a,b1", "1,a", "a,1", "a b", "a, b", "a ,b", " a,b", "a,b ", "a,b\n", "a;b", "a.b", "a|b", "a,b.c", "a,b,C", "a,b,c_d", "\x00,a", "a,\x00", "a,{", "`,a", "a,~",
		"aaaaaaaaaaaaaaaaa", "aaaaaaaaaaaaaaaaa,b", "a,bbbbbbbbbbbbbbbbb", "a,bbbbbbbbbbbbbbbbb,c", "a,b,ccccccccccccccccc",
	} {
		nameless(t, s)
		judgeNames(t, s)
	}
}

// How many names there are: of one letter and of two; and each of these rows with two of its names in the place of each other.
func TestCountsOfNames(t *testing.T) {
	for many := range 200 {
		names := some(many)
		s := strings.Join(names, ",")
		if got, ok := Names(s); ok != (many >= 1 && many <= 32) || ok && !slices.Equal(got, names) || !ok && len(got) != 0 {
			t.Errorf("Names of %d: %q, %v", many, got, ok)
		}
		judgeNames(t, s)
		judgeJoin(t, names...)
		// One comma more, and with it one name that is none.
		nameless(t, s+",")
		nameless(t, ","+s)
		joinless(t, append(slices.Clone(names), "")...)
		joinless(t, append([]string{""}, names...)...)
		if many > 40 {
			continue
		}
		for i := range many {
			fallen := slices.Clone(names)
			fallen[i] = "aa"
			judgeNames(t, strings.Join(fallen, ","))
			judgeJoin(t, fallen...)
			if i > 0 {
				swapped := slices.Clone(names)
				swapped[i-1], swapped[i] = swapped[i], swapped[i-1]
				nameless(t, strings.Join(swapped, ","))
				joinless(t, swapped...)
			}
			for _, wrong := range []string{"", names[i] + ",", "," + names[i], names[i] + "A", names[i] + ",zz", strings.Repeat("n", 17), names[i] + " ", "é"} {
				other := slices.Clone(names)
				other[i] = wrong
				joinless(t, other...)
			}
		}
	}
	for _, many := range []int{1, 2, 31, 32} {
		named(t, strings.Join(some(many), ","), some(many)...)
	}
	nameless(t, strings.Join(some(33), ","))
	joinless(t, some(33)...)
}

// The longest names, and as many as there may be: their text has more bytes than a caveat's.
func TestLongestNames(t *testing.T) {
	for many := 1; many <= 34; many++ {
		var names []string
		for _, name := range some(many) {
			names = append(names, strings.Repeat("n", 14)+name)
		}
		s := strings.Join(names, ",")
		if many > 32 {
			nameless(t, s)
			joinless(t, names...)
			continue
		}
		named(t, s, names...)
		if many == 32 && len(s) != 543 {
			t.Errorf("%d bytes", len(s))
		}
	}
}

// Names that go on from the one ahead, each by a letter; and the other way round.
func TestNamesThatGoOn(t *testing.T) {
	for _, sign := range []string{"a", "z"} {
		var names []string
		for many := 1; many <= 16; many++ {
			names = append(names, strings.Repeat(sign, many))
			named(t, strings.Join(names, ","), names...)
			nameless(t, strings.Join(append(slices.Clone(names), sign), ","))
			if many > 1 {
				nameless(t, names[many-1]+","+names[many-2])
				joinless(t, names[many-1], names[many-2])
				nameless(t, strings.Join(append(slices.Clone(names), names[many-2]), ","))
			}
		}
	}
}

// All rows of a few names, and of what is none; and of a few signs.
func TestRowsOfNames(t *testing.T) {
	rows([]string{"", "a", "ab", "b", "B", "a,b", "b,c", strings.Repeat("n", 17)}, 4, func(row ...string) {
		judgeJoin(t, row...)
		judgeNames(t, strings.Join(row, ","))
	})
	rows([]string{"a", "aa", "ab", "b", "ba", "z"}, 5, func(row ...string) { judgeJoin(t, row...) })
	rows([]string{",", "a", "b", "z", "A", " "}, 6, func(row ...string) { judge(t, strings.Join(row, "")) })
}

// All names of up to two letters, held against each other.
func TestOrderOfNames(t *testing.T) {
	var all []string
	for a := 'a'; a <= 'z'; a++ {
		all = append(all, string(a))
		for b := 'a'; b <= 'z'; b++ {
			all = append(all, string([]rune{a, b}))
		}
	}
	for i, a := range all {
		for k, b := range all {
			if got := Join(a, b) != ""; got != (i < k) {
				t.Errorf("Join of %q and %q: %v", a, b, got)
			}
			if _, ok := Names(a + "," + b); ok != (i < k) {
				t.Errorf("Names of %q and %q: %v", a, b, ok)
			}
		}
	}
}

// Join changes nothing of what it is handed in, and keeps none of it; what Names answers is the caller's.
func TestNamesAreNewMemory(t *testing.T) {
	for _, many := range []int{1, 2, 5, 31, 32, 33} {
		room := append(slices.Grow(some(many), 8), "spare", "room")
		names := room[:many]
		before := slices.Clone(room)
		s := Join(names...)
		if !slices.Equal(room, before) {
			t.Errorf("Join of %q: %q", before, room)
		}
		overwrite(names)
		if want := strings.Join(before[:many], ","); many <= 32 && s != want {
			t.Errorf("Join of %q: %q, when it was written over", before[:many], s)
		}
		first, _ := Names(s)
		second, _ := Names(s)
		overwrite(first)
		if many <= 32 {
			named(t, s, second...)
			named(t, s, before[:many]...)
		}
	}
}

func TestJoinOfNone(t *testing.T) {
	joinless(t)
	joinless(t, []string{}...)
	joinless(t, []string(nil)...)
	joinless(t, "")
	joinless(t, "", "")
	joinless(t, "", "a")
	joinless(t, "a", "")
	joinless(t, "a", "", "b")
	joinless(t, ",")
	joinless(t, "a,b")
	joinless(t, "a,b", "c")
	joinless(t, "a", "b,c")
	joinless(t, "a", ",", "b")
	joinless(t, slices.Repeat([]string{""}, 32)...)
	joinless(t, slices.Repeat([]string{"a"}, 32)...)
	joinless(t, slices.Repeat([]string{"a"}, 1<<16)...)
	joinless(t, append(some(31), "z,zz")...)
	joinless(t, append(some(32), "zz")...)
}

// All calls

func TestChangedTexts(t *testing.T) {
	for _, s := range []string{"", "a", "0", "before 90", "op list,read", "list,read", "a,ab,b", "18446744073709551615", "1000", "zzzzzzzzzzzzzzzz", "aaaaaaaaaaaaaaa,b", "18446744073709551616", "a b c"} {
		changed(s, func(s string) { judge(t, s) })
	}
	names := strings.Join(some(32), ",")
	changed(names, func(s string) { judgeNames(t, s) })
	changed(strings.Repeat("x ", 255)+"xy", func(s string) { judgeWords(t, s) })
}

// Texts of bytes that no rule of the program picks.
func TestTextsByChance(t *testing.T) {
	for _, bytes := range []string{" !a~", "a,", "abz,", "0123456789", "az,09 ~\x1f\x7f"} {
		for seed := range uint64(5000) {
			state, s := seed, ""
			for range seed % 40 {
				state = state*6364136223846793005 + 1442695040888963407
				s += string(bytes[state>>40%uint64(len(bytes))])
			}
			judge(t, s)
		}
	}
}

// However long a text is, each call ends.
func TestLongTexts(t *testing.T) {
	many := 1 << 14
	for _, s := range []string{"a", "z", "A", "0", "1", "9", " ", ",", "a ", " a", "a,", ",a", "-", "+", "\x00", "\x7f", "\xff", "é", "18446744073709551615", strings.Repeat("n", 16) + ","} {
		all := strings.Repeat(s, many)
		for _, text := range []string{all, all + "a", "a" + all, "0" + all, "1" + all, "a," + all, all + ",b", "a " + all} {
			wordless(t, text)
			numberless(t, text)
			judgeName(t, text)
			nameless(t, text)
			joinless(t, "a", text)
			joinless(t, text, "a")
		}
	}
}

// P1 and P2: what a call answers doesn't hang on the calls ahead of it.
func TestAnswersStayTheSame(t *testing.T) {
	texts := []string{"", "a", "0", "18446744073709551615", "18446744073709551616", "op list,read", "read,list", "list,read", "a  b", " ", ",", "é", strings.Repeat("n", 16), strings.Repeat("n", 17), strings.Repeat("x", 512), strings.Repeat("x", 513)}
	ask := func(s string) string {
		words, said := Words(s)
		number, counted := Number(s)
		names, told := Names(s)
		return fmt.Sprintf("%q %v %d %v %q %v %v %q %q", words, said, number, counted, names, told, Name(s), Join(s), Join("a", s))
	}
	var first []string
	for _, s := range texts {
		first = append(first, ask(s))
	}
	for i, s := range slices.Backward(texts) {
		if again := ask(s); again != first[i] {
			t.Errorf("%q: %s, and then %s", s, first[i], again)
		}
	}
}

func FuzzTexts(f *testing.F) {
	for _, s := range []string{"", "a", "0", "18446744073709551615", "op list,read", "list,read", "a  b", "é", "\xff"} {
		f.Add(s)
	}
	f.Fuzz(judge)
}
