package path

import (
	"fmt"
	library "path"
	"regexp"
	"slices"
	"strings"
	"testing"
)

// signs: those that a name may have.
const signs = "abcdefghijklmnopqrstuvwxyzABCDEFGHIJKLMNOPQRSTUVWXYZ0123456789._-"

// shape: a text that a right path could be, were it not for names of dots and for its length.
var shape = regexp.MustCompile(`\A(/|(/[a-zA-Z0-9._-]{1,64})+)\z`)

// sound: is the path right? Told by its shape, not piece by piece.
func sound(p string) bool {
	return len(p) <= 256 && shape.MatchString(p) && !strings.Contains(p+"/", "/./") && !strings.Contains(p+"/", "/../")
}

// below: are both right, and does p lie under top? Told by the texts, not by names.
func below(top, p string) bool {
	return sound(top) && sound(p) && (top == "/" || p == top || strings.HasPrefix(p, top+"/"))
}

// spelt: the path of these names.
func spelt(names ...string) string {
	if len(names) == 0 {
		return "/"
	}
	return strings.Join(append([]string{""}, names...), "/")
}

// gone: the text's path, and whether it has one. Told from the text's end on: each .. waits for the name that it takes away.
func gone(s string) (string, bool) {
	if s == "" || s[0] != '/' {
		return "", false
	}
	var names []string
	waiting := 0
	pieces := strings.Split(s, "/")[1:]
	for _, piece := range slices.Backward(pieces) {
		switch {
		case piece == "..":
			waiting++
		case piece == "" || piece == ".":
		case !sound("/" + piece):
			return "", false
		case waiting > 0:
			waiting--
		default:
			names = append(names, piece)
		}
	}
	slices.Reverse(names)
	p := spelt(names...)
	if waiting > 0 || len(p) > 256 {
		return "", false
	}
	return p, true
}

// right: is it right, and are these its names?
func right(t *testing.T, p string, names ...string) {
	t.Helper()
	if !Right(p) || !sound(p) {
		t.Errorf("%q isn't right", p)
	}
	if got := Names(p); !slices.Equal(got, names) {
		t.Errorf("Names of %q: %q, not %q", p, got, names)
	}
	if !Under(p, p) || !Under("/", p) {
		t.Errorf("%q isn't under itself, or under /", p)
	}
	if got, ok := Normal(p); !ok || got != p {
		t.Errorf("Normal of %q: %q, %v", p, got, ok)
	}
}

// wrong: is it told by each call that it isn't right?
func wrong(t *testing.T, p string) {
	t.Helper()
	if Right(p) || sound(p) {
		t.Errorf("%.80q, of %d bytes, is right", p, len(p))
	}
	if got := Names(p); len(got) != 0 {
		t.Errorf("Names of %.80q, of %d bytes: %d of them", p, len(p), len(got))
	}
	for _, other := range []string{"/", "/a", "/a/b", p} {
		if Under(other, p) || Under(p, other) {
			t.Errorf("%.80q, of %d bytes, and %q: one is under the other one", p, len(p), other)
		}
	}
	if got, ok := Normal(p); ok && got == p {
		t.Errorf("Normal of %.80q, of %d bytes, is itself", p, len(p))
	}
}

// judged: right or wrong, whichever sound tells.
func judged(t *testing.T, p string) {
	t.Helper()
	switch {
	case !sound(p):
		wrong(t, p)
	case p == "/":
		right(t, p)
	default:
		right(t, p, strings.Split(p, "/")[1:]...)
	}
}

// comes: is it the text's path?
func comes(t *testing.T, s, p string) {
	t.Helper()
	got, ok := Normal(s)
	if !ok || got != p {
		t.Errorf("Normal of %.80q, of %d bytes: %q, %v; not %q", s, len(s), got, ok, p)
	}
	if !sound(p) || !Right(got) {
		t.Errorf("Normal of %.80q, of %d bytes, isn't right: %q", s, len(s), got)
	}
	if again, ok := Normal(got); !ok || again != got {
		t.Errorf("Normal of %q: %q, %v", got, again, ok)
	}
	if clean := library.Clean(s); clean != p {
		t.Errorf("%.80q, of %d bytes, is %q for the library", s, len(s), clean)
	}
}

// nowhere: has the text no path?
func nowhere(t *testing.T, s string) {
	t.Helper()
	if got, ok := Normal(s); ok || got != "" {
		t.Errorf("Normal of %.80q, of %d bytes: %q, %v", s, len(s), got, ok)
	}
	if Right(s) {
		t.Errorf("%.80q, of %d bytes, is right", s, len(s))
	}
}

// walked: comes or nowhere, whichever gone tells.
func walked(t *testing.T, s string) {
	t.Helper()
	if p, ok := gone(s); ok {
		comes(t, s, p)
	} else {
		nowhere(t, s)
	}
}

// rows: calls what is to be done with each row of up to so many of the pieces, the empty one too.
func rows(pieces []string, most int, do func(row ...string)) {
	var from func(row []string)
	from = func(row []string) {
		do(slices.Clone(row)...)
		if len(row) == most {
			return
		}
		for _, piece := range pieces {
			from(append(slices.Clone(row), piece))
		}
	}
	from(nil)
}

// changed: calls what is to be done with a text's beginnings and ends, and with each of its bytes changed, left out, or put in: by each of all 256.
func changed(s string, do func(s string)) {
	for i := range len(s) + 1 {
		front, back := s[:i], s[i:]
		do(front)
		do(back)
		for x := range 256 {
			sign := string([]byte{byte(x)})
			do(front + sign + back)
			if back != "" {
				do(front + sign + back[1:])
			}
		}
		if back != "" {
			do(front + back[1:])
		}
	}
}

// sized: a path of so many bytes, 2 or more, of names of so many bytes, the last one of what is left (never a lone /).
func sized(bytes, name int) string {
	p := ""
	for len(p)+name+1 < bytes-1 {
		p += "/" + strings.Repeat("n", name)
	}
	for bytes-len(p) > 65 {
		p += "/n"
	}
	return p + "/" + strings.Repeat("x", bytes-len(p)-1)
}

// P14.1

func TestRight(t *testing.T) {
	long := strings.Repeat("a", 64)
	right(t, "/")
	for _, names := range [][]string{
		{"a"}, {"a", "b"}, {"a", "b.c", "-_9"}, {"A"}, {"Z"}, {"z"}, {"0"}, {"9"}, {"_"}, {"-"}, {"a", "a", "a"}, {"usr", "share", "doc", "README.md"},
		{"..."}, {"...."}, {".a"}, {"a."}, {"..a"}, {"a.."}, {"a..b"}, {".-"}, {"_."}, {"-."}, {"..-"}, {".-."}, {"a", "..."}, {"...", "..."}, {"...", "a"},
		{long}, {long[:63]}, {strings.Repeat(".", 64)}, {strings.Repeat(".", 3)}, {strings.Repeat("-", 64)}, {long, "b"}, {"b", long}, {long, long, long},
		{signs[:64]}, {signs[1:65]}, {"con"}, {"nul"}, {"etc", "passwd"}, {"-rf"}, {"0.0"}, {"1_000"},
	} {
		right(t, spelt(names...), names...)
	}
	right(t, strings.Repeat("/abc", 64), slices.Repeat([]string{"abc"}, 64)...)
	right(t, strings.Repeat("/a", 128), slices.Repeat([]string{"a"}, 128)...)
	right(t, strings.Repeat("/...", 64), slices.Repeat([]string{"..."}, 64)...)
}

func TestWrong(t *testing.T) {
	for _, p := range []string{
		"", " ", "\x00", "\n",
		// No / at the beginning.
		"a", "a/b", "a/", ".", "..", "...", "./a", "../a", " /", " /a", "\x00/a", "\n/a", "\\a", "\\", "~", "~/a", "C:/a", "C:\\a", "http://a/b", "-", "_", "0", "\ufeff/a", "\u2215a", "\uff0fa", "%2fa", "*", "a//", "\xaf/a",
		// A / at the end, or two side by side.
		"/a/", "/a/b/", "/.../", "//", "///", "//a", "///a", "/a//b", "/a///b", "/a//", "/a/b//", "/a//b/c", "/a/b//c", "//a/b", "/a//b//c",
		// Dots alone.
		"/.", "/..", "/./", "/../", "/./.", "/../..", "/a/.", "/a/..", "/./a", "/../a", "/a/./b", "/a/../b", "/a/b/.", "/a/b/..", "/.../.", "/.../..", "/./...", "/../...",
		// Bytes that no name has.
		"/a b", "/ ", "/ a", "/a ", "/a/ /b", "/a%20", "/%2e", "/%2e%2e", "/\u00e9", "/a\x00", "/\x00", "/a\x00b", "/a\n", "/a\t", "/\ta", "/a\r\n", "/a\\b", "/\\", "/a\\", "/a:b", "/a;b", "/a?b", "/a?", "/a#b", "/a*", "/*", "/a+b", "/a,b", "/a=b", "/a@b", "/~", "/~a", "/a~", "/$a", "/!", "/a&b", "/'", "/\"a\"", "/(a)", "/[a]", "/{a}", "/<a>", "/a|b", "/^", "/`", "/\x7f", "/\x80", "/\xff", "/a\xff", "/a\xffb", "/\xc3", "/\xc0\xaf", "/\xc0\xae",
		// Signs that are letters, digits or dots elsewhere, or whose lowest byte is one that a name has.
		"/\u00e4", "/\u0161", "/\u0141", "/\u0130", "/\u012e", "/\u015f", "/\u012d", "/\u0661", "/\uff41", "/\uff11", "/\uff0e", "/\u2024", "/\u2026", "/\u212a", "/\u0131", "/\u017f", "/\u03b1", "/\u4e00", "/\U00010061", "/\U0001d41a", "/\u2010", "/\u2013", "/\u203f", "/\ufffd", "/a\u0301", "/\u200ba", "/a\u00a0", "/\ud7ff", "/\ufeffa",
	} {
		wrong(t, p)
	}
}

// Each of the 256 bytes as a name, and at each place of one.
func TestEachByteInAName(t *testing.T) {
	for x := range 256 {
		sign := string([]byte{byte(x)})
		there := strings.Contains(signs, sign)
		for _, form := range []string{"/%s", "/a%s", "/%sa", "/a%sb", "/.%s", "/%s.", "/a/%s", "/a/b%s", "/%s/a", "/a%s/b", "/a/%s/b", "/a/b%sc/d", "/" + strings.Repeat("n", 63) + "%s", "/%s" + strings.Repeat("n", 63)} {
			p := fmt.Sprintf(form, sign)
			judged(t, p)
			dots := strings.Contains(p+"/", "/./") || strings.Contains(p+"/", "/../")
			if x != '/' && Right(p) != (there && !dots) {
				t.Errorf("%q: %v", p, !there)
			}
			walked(t, p)
		}
	}
}

// Each sign up to 0xffff, and some beyond, in a name: of more than one byte none is there.
func TestEachSignInAName(t *testing.T) {
	for sign := rune(0x80); sign < 0x20000; sign++ {
		if p := "/a" + string(sign); Right(p) {
			t.Errorf("%q is right", p)
		}
	}
}

// Two bytes at a time, whatever sign they make.
func TestEachTwoBytesInAName(t *testing.T) {
	for x := range 1 << 16 {
		if p := "/" + string([]byte{byte(x >> 8), byte(x)}); Right(p) != sound(p) {
			t.Errorf("%q: %v", p, Right(p))
		}
	}
}

func TestLengthsOfNames(t *testing.T) {
	for many := range 200 {
		for _, sign := range []string{"a", "Z", "0", "_", "-", "."} {
			name := strings.Repeat(sign, many)
			want := many >= 1 && many <= 64 && (sign != "." || many > 2)
			for _, p := range []string{"/" + name, "/" + name + "/b", "/b/" + name, "/b/" + name + "/c"} {
				// A name of no bytes alone is /.
				if Right(p) != want && p != "/" {
					t.Errorf("%q, of a name of %d bytes: %v", p, many, !want)
				}
				judged(t, p)
				walked(t, p)
			}
		}
	}
}

func TestLengthsOfPaths(t *testing.T) {
	for _, name := range []int{1, 2, 3, 7, 31, 50, 63, 64} {
		for bytes := 2; bytes <= 600; bytes++ {
			p := sized(bytes, name)
			if len(p) != bytes || !shape.MatchString(p) {
				t.Fatalf("%q isn't of %d bytes", p, bytes)
			}
			if Right(p) != (bytes <= 256) || Under("/", p) != (bytes <= 256) || Under(p, p) != (bytes <= 256) {
				t.Errorf("%q, of %d bytes: %v", p, bytes, Right(p))
			}
			judged(t, p)
			walked(t, p)
		}
	}
	for _, p := range []string{strings.Repeat("/a", 128), strings.Repeat("/a", 127) + "/a", strings.Repeat("/"+strings.Repeat("a", 63), 4)} {
		if len(p) != 256 || !Right(p) || Right(p+"a") || Right(p+"/") {
			t.Errorf("%q, of %d bytes", p, len(p))
		}
	}
}

func TestChangedPaths(t *testing.T) {
	for _, p := range []string{"/", "/a", "/a/b", "/.a/..", "/.../b", "/a/b.c/-_9", "/a/" + strings.Repeat("n", 64), sized(256, 40), sized(257, 40)} {
		changed(p, func(s string) { judged(t, s) })
	}
}

// All rows of a few signs, whatever they make.
func TestRowsOfSigns(t *testing.T) {
	rows([]string{"/", ".", "a", "B", " "}, 6, func(row ...string) {
		p := strings.Join(row, "")
		judged(t, p)
		walked(t, p)
	})
}

// What Names answers is the caller's: written over, no later answer is another one.
func TestNamesAreNewMemory(t *testing.T) {
	for _, names := range [][]string{{"a"}, {"a", "b"}, {"a", "b", "c", "d", "e"}} {
		p := spelt(names...)
		first, second := Names(p), Names(p)
		for _, l := range [][]string{first, first[:cap(first)]} {
			for i := range l {
				l[i] = "written over"
			}
		}
		_ = append(first[:1], "on")
		if !slices.Equal(second, names) || !slices.Equal(Names(p), names) || !Right(p) || !Under(p, p) {
			t.Errorf("Names of %q: %q, then %q", p, second, Names(p))
		}
	}
}

// P14.2

func TestExample(t *testing.T) {
	if !Under("/a", "/a/b") || Under("/a", "/ab") {
		t.Error("under /a", Under("/a", "/a/b"), Under("/a", "/ab"))
	}
	comes(t, "//a/./b/../c/", "/a/c")
}

func TestUnder(t *testing.T) {
	long := strings.Repeat("n", 64)
	for _, x := range []struct {
		top, p string
		want   bool
	}{
		{"/", "/", true}, {"/", "/a", true}, {"/", "/a/b", true}, {"/", "/...", true}, {"/", sized(256, 9), true}, {"/", sized(257, 9), false},
		{"/a", "/a", true}, {"/a", "/a/b", true}, {"/a", "/a/b/c", true}, {"/a/b", "/a/b", true}, {"/a/b", "/a/b/c", true}, {"/a", "/a/a", true}, {"/...", "/.../a", true}, {"/" + long, "/" + long + "/a", true}, {"/" + long, "/" + long, true},
		// The one above is not under the one below.
		{"/a", "/", false}, {"/a/b", "/a", false}, {"/a/b", "/", false}, {"/a/b/c", "/a/b", false}, {"/a/a", "/a", false},
		// Under another one's first bytes, but not under its names.
		{"/a", "/ab", false}, {"/a", "/ab/c", false}, {"/ab", "/a", false}, {"/a", "/a.b", false}, {"/a", "/a-b", false}, {"/a", "/a_", false}, {"/a/b", "/a/bc", false}, {"/a/b", "/a/bc/d", false}, {"/a/b", "/ab", false}, {"/ab", "/a/b", false}, {"/a/bc", "/a/b/c", false}, {"/" + long[1:], "/" + long, false}, {"/" + long, "/" + long[1:] + "/n", false}, {"/..a", "/...", false}, {"/a", "/a...", false},
		// Other names.
		{"/a", "/b", false}, {"/a", "/b/a", false}, {"/a/b", "/a/c", false}, {"/a/b", "/c/b", false}, {"/a/b", "/b/a", false}, {"/a/b", "/a/c/b", false}, {"/a/b/c", "/a/b/d", false}, {"/b", "/a/b", false}, {"/a/c", "/a/b/c", false},
		// The same letters, large and small.
		{"/a", "/A", false}, {"/A", "/a", false}, {"/a", "/A/b", false}, {"/A/b", "/a/b", false}, {"/a/B", "/a/b/c", false}, {"/A", "/A", true}, {"/A", "/A/b", true}, {"/ab", "/aB/c", false},
		// No paths, on either side, though they begin with or come to one.
		{"", "", false}, {"", "/", false}, {"/", "", false}, {"", "/a", false}, {"/a", "", false}, {"a", "a", false}, {"a", "a/b", false}, {"/a", "a", false}, {"a", "/a", false}, {"/a", "a/b", false},
		{"/a/", "/a", false}, {"/a", "/a/", false}, {"/a/", "/a/", false}, {"/a/", "/a/b", false}, {"/a", "/a/b/", false}, {"/a", "/a//b", false}, {"//a", "/a/b", false}, {"//", "/", false}, {"/", "//", false}, {"//", "//", false}, {"//", "/a", false}, {"/", "//a", false}, {"//a", "//a", false},
		{"/", "/.", false}, {"/.", "/", false}, {"/", "/..", false}, {"/..", "/", false}, {"/.", "/.", false}, {"/..", "/..", false}, {"/a", "/a/.", false}, {"/a/.", "/a", false}, {"/a", "/a/..", false}, {"/a", "/a/../b", false}, {"/a", "/a/../a", false}, {"/a", "/b/../a", false}, {"/a", "/./a", false}, {"/a/../a", "/a", false}, {"/a/..", "/a", false}, {"/./a", "/a/b", false}, {"/a/../a", "/a/../a", false},
		{"/a", "/a/ ", false}, {"/a ", "/a ", false}, {"/a", "/a/b c", false}, {"/\u00e9", "/\u00e9", false}, {"/\u00e9", "/\u00e9/a", false}, {"/a", "/a/\xff", false}, {"/\xff", "/\xff", false}, {"/a", "/a\x00", false}, {"/a\x00", "/a", false}, {"/a", "/a/\x00", false}, {"/a", "/a\\b", false}, {"/*", "/a", false}, {"/a*", "/ab", false},
		{"/" + long + "n", "/" + long + "n", false}, {"/", "/" + long + "n", false}, {"/" + long + "n", "/" + long, false},
	} {
		if got := Under(x.top, x.p); got != x.want || got != below(x.top, x.p) {
			t.Errorf("%q under %q: %v", x.p, x.top, got)
		}
	}
}

// A long path, and each that is above it: also where the longest one has 256 bytes, and 257.
func TestUnderOfLongPaths(t *testing.T) {
	for _, name := range []int{1, 2, 30, 63, 64} {
		for _, bytes := range []int{200, 255, 256, 257, 258} {
			p := sized(bytes, name)
			names := strings.Split(p, "/")[1:]
			for i := range names {
				top := spelt(names[:i]...)
				if Under(top, p) != (bytes <= 256) {
					t.Errorf("%q, of %d bytes, under its first %d names: %v", p, bytes, i, bytes > 256)
				}
				other := slices.Clone(names[:i+1])
				other[i] = "other"
				if Under(spelt(other...), p) || Under(p, top) {
					t.Errorf("%q, of %d bytes, under another one than its first %d names, or these under it", p, bytes, i)
				}
			}
		}
	}
}

// All paths of up to three of a few names, held against each other; and what lies under one that lies under another one.
func TestUnderOfAllRows(t *testing.T) {
	var all []string
	rows([]string{"a", "ab", "b", "A", "..."}, 3, func(row ...string) { all = append(all, spelt(row...)) })
	under := map[[2]string]bool{}
	for _, top := range all {
		for _, p := range all {
			got := Under(top, p)
			under[[2]string{top, p}] = got
			if got != below(top, p) {
				t.Errorf("%q under %q: %v", p, top, got)
			}
			if first, all := Names(top), Names(p); got != (len(first) <= len(all) && slices.Equal(first, all[:min(len(first), len(all))])) {
				t.Errorf("%q under %q, of names %q and %q: %v", p, top, all, first, got)
			}
			if got && Under(p, top) != (p == top) {
				t.Errorf("%q and %q: each is under the other one", p, top)
			}
		}
	}
	for _, x := range all {
		for _, y := range all {
			for _, z := range all {
				if under[[2]string{x, y}] && under[[2]string{y, z}] && !under[[2]string{x, z}] {
					t.Errorf("%q isn't under %q, though both have %q between", z, x, y)
				}
			}
		}
	}
}

// Texts of all shapes, held against each other: of two that aren't both right none is under the other one.
func TestUnderOfAllTexts(t *testing.T) {
	var all []string
	rows([]string{"/", ".", "a", "é"}, 5, func(row ...string) { all = append(all, strings.Join(row, "")) })
	for _, top := range all {
		for _, p := range all {
			if got := Under(top, p); got != below(top, p) {
				t.Errorf("%q under %q: %v", p, top, got)
			}
		}
	}
}

// P14.3

func TestNormal(t *testing.T) {
	long := strings.Repeat("n", 64)
	for s, p := range map[string]string{
		"/": "/", "//": "/", "///": "/", "////////": "/", "/.": "/", "/./": "/", "/./.": "/", "//.": "/", "/.//": "/", "/a/..": "/", "/a/../": "/", "//a//..//": "/", "/a/../.": "/", "/./a/..": "/", "/a/b/../..": "/", "/a/../b/..": "/", "/.../..": "/", "/a/./..": "/",
		"/a": "/a", "/a/": "/a", "//a": "/a", "/a//": "/a", "/a/.": "/a", "/./a": "/a", "/./a/.": "/a", "/././a/././": "/a", "/a/b/..": "/a", "/a/b/../": "/a", "/a/../a": "/a", "/b/../a": "/a", "/a/b/c/../..": "/a", "/b/c/../../a": "/a", "/a/./b/./..": "/a", "/a//..//a": "/a", "/../a"[3:]: "/a",
		"//a/./b/../c/": "/a/c", "/a/b/../../c": "/c", "/a//b/": "/a/b", "/a/b/../b/c/..": "/a/b", "/a/b/../c/../d": "/a/d", "/a/b/c/../../d/e": "/a/d/e", "/a/..b": "/a/..b", "/a/b..": "/a/b..", "/a/..././b": "/a/.../b",
		"/a/.../b": "/a/.../b", "/...": "/...", "/..../": "/....", "/.../...": "/.../...", "/.../../...": "/...", "/.a/..": "/", "/.a": "/.a", "/..a": "/..a", "/..a/..": "/", "/..a/../..b": "/..b", "/A/b": "/A/b", "/_/-/9": "/_/-/9", "/a/a/..": "/a", "/a/a/../..": "/",
		"/" + long: "/" + long, "/" + long + "/..": "/", "/" + long + "/../a": "/a", "/a/" + long + "/..": "/a", "//" + long + "//": "/" + long,
		strings.Repeat("/abc", 64) + "/d/..": strings.Repeat("/abc", 64),
	} {
		comes(t, s, p)
		if got, ok := gone(s); !ok || got != p {
			t.Errorf("%q should come to %q: %v", s, got, ok)
		}
	}
}

func TestNormalOfWhatHasNoPath(t *testing.T) {
	long := strings.Repeat("n", 65)
	for _, s := range []string{
		// No / at the beginning.
		"", "a", "a/b", "a/", ".", "..", "./a", "../a", "./", "../", " /a", "\x00/a", "\\a", "~/a", "a/../b", "\u2215a", "...", "C:/a", " ", "%2fa", "a/..", "./.", "\ufeff/",
		// No name at a .. .
		"/..", "/../", "//..", "//../", "/./..", "/../..", "/../a", "/../a/b", "/a/../..", "/a/../../a", "/a/b/../../..", "/a/b/../../../c", "/./../a", "/a/./../..", "/a//../../", "/a/../b/../..", "/a/../../b/c", "/a/../b/../../c/d", "/.../../..", "/../...",
		// A piece that is no name.
		"/a b", "/ ", "/ /..", "/a /../b", "/a/ /b", "/a%20", "/%2e%2e", "/a/%2e%2e", "/é", "/a/é/b", "/é/..", "/a\x00", "/\x00/..", "/a\\b", "/a\\..", "/\\", "/\xff", "/\xff/../a", "/a/\xc0\xae/b", "/\xc0\xae\xc0\xae", "/a/b?c", "/a/*", "/a\n", "/a/..\n", "/a/.. ", "/a/ ..", "/a/..\x00", "/. ", "/ .", "/.\x00", "/a:b", "/~", "/\u2024", "/\uff0e\uff0e", "/\u2025", "/a/+/b",
		// A piece that is no name ahead of a .. that would take it away.
		"/a b/..", "/a/b c/..", "/a/b c/../d", "/" + long + "/..", "/a/" + long + "/../b", "/%/../a", "/a/\u00e9/../b", "/\x00/../a", "/a/*/..", "/a/*/b/../..", "/+/b/../..", "/ /a/../../b",
		// A piece that is no name behind what is right, and too long a one.
		"/a/../ ", "/a/b/../../é", "/" + long, "/a/" + long, "/" + long + "/a", "/" + strings.Repeat(".", 65), "/a/../" + long, "/" + strings.Repeat("n", 256), "/" + strings.Repeat("n", 255),
		// Too long a path.
		strings.Repeat("/abc", 64) + "/d", strings.Repeat("/a", 129), strings.Repeat("/a", 130) + "/..", strings.Repeat("/abc", 65), strings.Repeat("/a", 128) + "a",
	} {
		nowhere(t, s)
		if got, ok := gone(s); ok {
			t.Errorf("%q should come to %q", s, got)
		}
	}
}

// All rows of a few pieces, of each kind: what is passed over, what takes away, names, and what is none.
func TestNormalOfAllRows(t *testing.T) {
	rows([]string{"", ".", "..", "...", "a", "bc", "d "}, 5, func(row ...string) {
		s := strings.Join(row, "/")
		walked(t, s)
		walked(t, "/"+s)
		walked(t, "/"+s+"/")
	})
	rows([]string{"..", "a", "b"}, 9, func(row ...string) { walked(t, "/"+strings.Join(row, "/")) })
}

// Long texts that come to paths about the most bytes that there may be: what they were on the way doesn't matter.
func TestNormalOfEdges(t *testing.T) {
	detours := []string{"", "/", "/.", "/./.", "/a/..", "/ab/../cd/..", strings.Repeat("/n", 200) + strings.Repeat("/..", 200), "/a/b/../..", strings.Repeat("/", 300), strings.Repeat("/.", 300), strings.Repeat("/"+strings.Repeat("n", 64)+"/..", 10)}
	for _, bytes := range []int{2, 3, 100, 254, 255, 256, 257, 258, 300, 512} {
		for _, name := range []int{1, 2, 20, 63, 64} {
			p := sized(bytes, name)
			for _, detour := range detours {
				at := strings.LastIndex(p, "/")
				for _, s := range []string{p + detour, detour + p, p[:at] + detour + p[at:], p + detour + "/"} {
					walked(t, s)
					if got, ok := Normal(s); ok != (bytes <= 256) || ok && got != p {
						t.Errorf("Normal of %.80q, of %d bytes, of a path of %d: %q, %v", s, len(s), bytes, got, ok)
					}
				}
			}
			// One name less, and what is left is short enough, or isn't.
			walked(t, p+"/..")
			walked(t, p+"/a/../..")
			walked(t, p+"/"+strings.Repeat("n", 65)+"/..")
		}
	}
}

// Long rows of pieces that no rule of the program picks.
func TestNormalOfLongRows(t *testing.T) {
	pieces := []string{"", ".", "..", "..", "..", "..", "a", "bc", "def", "ghij", "...", strings.Repeat("n", 30), "."}
	came := 0
	for seed := range uint64(3000) {
		state, s := seed, strings.Repeat("/n", int(seed%7))
		for range 1 + seed%90 {
			state = state*6364136223846793005 + 1442695040888963407
			s += "/" + pieces[state>>40%uint64(len(pieces))]
		}
		walked(t, s)
		if _, ok := gone(s); ok {
			came++
		}
	}
	if came < 500 || came > 2500 {
		t.Errorf("%d of 3000 come to a path", came)
	}
}

func TestNormalOfChangedTexts(t *testing.T) {
	for _, s := range []string{"/", "//a/./b/../c/", "/a/.../../b", "/a/b/../../c", "/./a/" + strings.Repeat("n", 64) + "/../b", sized(256, 50) + "/a/.."} {
		changed(s, func(s string) { walked(t, s) })
	}
}

// However long a text is, each call ends.
func TestLongTexts(t *testing.T) {
	many := 1 << 16
	for _, s := range []string{"/", "/.", "/a/..", "//", "/./"} {
		all := strings.Repeat(s, many)
		wrong(t, all)
		comes(t, all, "/")
		comes(t, all+"/a", "/a")
		comes(t, "/a"+all, "/a")
		comes(t, "/a/"+all+"/b", "/a/b")
		nowhere(t, all+"/..")
		nowhere(t, all+"/ ")
		nowhere(t, all[1:]+"/a b")
	}
	for _, s := range []string{"/a", "a", "/..", "..", ".", "/...", "-", " ", "\x00", "\xff", "é", "/é", "/" + strings.Repeat("n", 64)} {
		all := strings.Repeat(s, many)
		for _, text := range []string{all, "/" + all, "/a" + all, all + "/a", all + "/.."} {
			wrong(t, text)
			nowhere(t, text)
		}
	}
	comes(t, strings.Repeat("/a", many)+strings.Repeat("/..", many), "/")
	comes(t, strings.Repeat("/a", many)+strings.Repeat("/..", many-128), strings.Repeat("/a", 128))
	nowhere(t, strings.Repeat("/a", many)+strings.Repeat("/..", many-129))
	nowhere(t, strings.Repeat("/a", many)+strings.Repeat("/..", many+1))
}

// P1 and P2: what a call answers doesn't hang on the calls ahead of it.
func TestAnswersStayTheSame(t *testing.T) {
	texts := []string{"", "/", "/a", "/a/b", "/a/../b", "/..", "a", "/a b", "//a//", sized(256, 5), sized(257, 5)}
	ask := func(s string) string {
		p, ok := Normal(s)
		return fmt.Sprintf("%v %q %v %v %q %v", Right(s), Names(s), Under("/a", s), Under(s, "/a/b"), p, ok)
	}
	var first []string
	for _, s := range texts {
		first = append(first, ask(s))
	}
	for i, s := range slices.Backward(texts) {
		if again := ask(s); again != first[i] {
			t.Errorf("%q: %s, and then %s", s, first[i], again)
		}
	}
}

func FuzzNormal(f *testing.F) {
	for _, s := range []string{"", "/", "/a", "//a/./b/../c/", "/a/../..", "/a b/.."} {
		f.Add(s)
	}
	f.Fuzz(func(t *testing.T, s string) {
		judged(t, s)
		walked(t, s)
	})
}
