package derive

import (
	"bytes"
	stdhmac "crypto/hmac"
	"crypto/sha256"
	"encoding/binary"
	"encoding/hex"
	"slices"
	"strconv"
	"strings"
	"testing"

	"chitty/api"
	"chitty/hmac"
)

// chance: many bytes that no rule of the program makes, others for each seed.
func chance(seed uint64, many int) string {
	out := make([]byte, many)
	for i := range out {
		seed = seed*6364136223846793005 + 1442695040888963407
		out[i] = byte(seed >> 40)
	}
	return string(out)
}

// keyOf: a key that looks like chance, another one for each seed.
func keyOf(seed uint64) api.Tag {
	return api.Tag([]byte(chance(seed, api.Size)))
}

// told: the Frame that P6.1 tells, by Go's own order of bytes.
func told(parts ...string) []byte {
	var out []byte
	for _, p := range parts {
		out = binary.BigEndian.AppendUint64(out, uint64(len(p)))
		out = append(out, p...)
	}
	return out
}

// mac: the Key that P6.2 tells, by Go's own HMAC.
func mac(key api.Tag, row ...string) api.Tag {
	h := stdhmac.New(sha256.New, key[:])
	h.Write(told(row...))
	return api.Tag(h.Sum(nil))
}

// every: a text of all 256 bytes, most of which are no text of UTF-8.
func every() string {
	var out [256]byte
	for i := range out {
		out[i] = byte(i)
	}
	return string(out[:])
}

// short: parts of few bytes, among them such as look like lengths and Frames; no two are the same.
func short() []string {
	return []string{
		"", "a", "b", "ab", "ba", "aa", "use", "\x00", "\x01", "\xff", "\xc3",
		strings.Repeat("\x00", 7), strings.Repeat("\x00", 8), strings.Repeat("\x00", 16),
		"\x00\x00\x00\x00\x00\x00\x00\x01", "\x00\x00\x00\x00\x00\x00\x00\x01a",
		"\x00\x00\x00\x00\x00\x00\x00\x08\x00\x00\x00\x00\x00\x00\x00\x00", "a\x00\x00\x00\x00\x00\x00\x00\x00",
	}
}

// rows: each row of at most three of those parts, the shorter rows first.
func rows() [][]string {
	out := [][]string{nil}
	ahead := out
	for range 3 {
		var longer [][]string
		for _, row := range ahead {
			for _, p := range short() {
				longer = append(longer, append(slices.Clone(row), p))
			}
		}
		out = append(out, longer...)
		ahead = longer
	}
	return out
}

// brief: what is told of a part in a fault.
func brief(parts []string) string {
	var out []string
	for _, p := range parts {
		if len(p) > 30 {
			p = p[:30] + ".. of " + strconv.Itoa(len(p))
		}
		out = append(out, strconv.Quote(p))
	}
	return strings.Join(out, " ")
}

// frames: is it what P6.1 tells of these parts?
func frames(t *testing.T, parts ...string) {
	t.Helper()
	want := told(parts...)
	if got := Frame(parts...); !bytes.Equal(got, want) {
		t.Errorf("%s: %d bytes, not %d, or others", brief(parts), len(got), len(want))
	}
}

// keys: is it what P6.2 tells of this use and these parts?
func keys(t *testing.T, key api.Tag, use string, parts ...string) {
	t.Helper()
	row := append([]string{use}, parts...)
	if got, want := Key(key, use, parts...), mac(key, row...); got != want {
		t.Errorf("%x, %s: %x, not %x", key[:4], brief(row), got, want)
	}
}

// P6.1

func TestFrameOfExamples(t *testing.T) {
	for _, c := range []struct {
		parts []string
		want  string
	}{
		{nil, ""},
		{[]string{}, ""},
		{[]string{""}, "\x00\x00\x00\x00\x00\x00\x00\x00"},
		{[]string{"a"}, "\x00\x00\x00\x00\x00\x00\x00\x01a"},
		{[]string{"a", ""}, "\x00\x00\x00\x00\x00\x00\x00\x01a\x00\x00\x00\x00\x00\x00\x00\x00"},
		{[]string{"", "a"}, "\x00\x00\x00\x00\x00\x00\x00\x00\x00\x00\x00\x00\x00\x00\x00\x01a"},
		{[]string{"", ""}, "\x00\x00\x00\x00\x00\x00\x00\x00\x00\x00\x00\x00\x00\x00\x00\x00"},
		{[]string{"ab", "", "\xff\x00"}, "\x00\x00\x00\x00\x00\x00\x00\x02ab\x00\x00\x00\x00\x00\x00\x00\x00\x00\x00\x00\x00\x00\x00\x00\x02\xff\x00"},
	} {
		if got := Frame(c.parts...); string(got) != c.want {
			t.Errorf("%q: %q, not %q", c.parts, got, c.want)
		}
	}
	if got := Frame("a", ""); len(got) != 17 {
		t.Errorf("the document's example has %d bytes", len(got))
	}
}

func TestFrameOfNoPart(t *testing.T) {
	if got := Frame(); len(got) != 0 {
		t.Errorf("no part: %v", got)
	}
	if got := Frame([]string{"spare"}[:0]...); len(got) != 0 {
		t.Errorf("no part, but spare room: %v", got)
	}
}

// Each count of bytes that another byte of the length tells, alone, and between others.
func TestFrameOfEachLength(t *testing.T) {
	for n := range 600 {
		p := chance(uint64(n), n)
		frames(t, p)
		frames(t, "", p, "x")
	}
	for _, n := range []int{4096, 65535, 65536, 65537, 1<<16 + 1<<8, 1<<24 - 1, 1 << 24, 1<<24 + 1<<16 + 1<<8 + 1} {
		p := chance(uint64(n), n)
		frames(t, p)
		frames(t, "ahead", p, "", "behind")
	}
	for n, want := range map[int]string{
		255:     "\x00\x00\x00\x00\x00\x00\x00\xff",
		256:     "\x00\x00\x00\x00\x00\x00\x01\x00",
		65536:   "\x00\x00\x00\x00\x00\x01\x00\x00",
		1 << 24: "\x00\x00\x00\x00\x01\x00\x00\x00",
	} {
		got := Frame(strings.Repeat("z", n))
		if len(got) != n+8 || string(got[:8]) != want || got[8] != 'z' || got[n+7] != 'z' {
			t.Errorf("a part of %d bytes: %d bytes, which begin with %q", n, len(got), got[:8])
		}
	}
}

func TestFrameOfEachByte(t *testing.T) {
	all := every()
	frames(t, all)
	frames(t, all, "", all)
	var each []string
	for i := range all {
		frames(t, all[i:i+1])
		frames(t, all[i:], all[:i])
		each = append(each, all[i:i+1])
	}
	frames(t, each...)
}

// A length counts bytes, not signs, and what is no text of UTF-8 is taken as it is.
func TestFrameOfOtherTexts(t *testing.T) {
	for _, p := range []string{"\u00e9", "\u65e5\u672c", "\U0001f511", "\ufffd", "\xc3", "\xed\xa0\x80", "\xff\xfe", "\xf8\x88\x80\x80\x80", "a\x00b", " ", "\r\n", "\ufeff"} {
		frames(t, p)
		frames(t, p, p)
		frames(t, "", p, "", p+p)
	}
}

func TestFrameOfEmptyParts(t *testing.T) {
	for n := range 300 {
		if got := Frame(make([]string, n)...); !bytes.Equal(got, make([]byte, 8*n)) {
			t.Errorf("%d empty parts: %d bytes, or others than 0", n, len(got))
		}
	}
	// First, last, between, and around.
	frames(t, "", "a", "b")
	frames(t, "a", "b", "")
	frames(t, "a", "", "b")
	frames(t, "", "a", "")
	frames(t, "", "", "a", "", "")
}

func TestFrameOfManyParts(t *testing.T) {
	var parts []string
	for i := range 3000 {
		parts = append(parts, chance(uint64(i), i*7%300))
		if i%100 < 2 {
			frames(t, parts...)
		}
	}
	frames(t, parts...)
	frames(t, make([]string, 1<<17)...)
}

// The Frame of a row is those of its pieces, one behind the other, wherever it is cut.
func TestFrameOfPieces(t *testing.T) {
	row := []string{"", "a", every(), "", "\x00", chance(1, 256), chance(2, 65536), ""}
	whole := Frame(row...)
	for i := range len(row) + 1 {
		if got := append(Frame(row[:i]...), Frame(row[i:]...)...); !bytes.Equal(got, whole) {
			t.Errorf("cut ahead of part %d: others", i)
		}
	}
}

// The parts of a Frame can be told from it: no other row has it.
func TestFrameTellsItsParts(t *testing.T) {
	for _, row := range rows() {
		b, n := Frame(row...), 0
		for len(b) >= 8 {
			size := binary.BigEndian.Uint64(b)
			if size > uint64(len(b)-8) || n == len(row) || string(b[8:8+size]) != row[n] {
				t.Fatalf("%q: part %d of it is another one", row, n)
			}
			b, n = b[8+size:], n+1
		}
		if len(b) > 0 || n != len(row) {
			t.Fatalf("%q: %d parts, and %d bytes behind", row, n, len(b))
		}
	}
}

// No two rows have the same Frame, and what begins a Frame is that of the row's first parts, or nobody's.
func TestFramesAreUnlike(t *testing.T) {
	whose := map[string][]string{}
	for _, row := range rows() {
		f := string(Frame(row...))
		if other, ok := whose[f]; ok {
			t.Fatalf("%q and %q have one Frame", row, other)
		}
		whose[f] = row
	}
	for f, row := range whose {
		begun := 0
		for n := range len(f) {
			other, ok := whose[f[:n]]
			if !ok {
				continue
			}
			begun++
			if len(other) >= len(row) || !slices.Equal(other, row[:len(other)]) {
				t.Fatalf("%q has a Frame that begins that of %q", other, row)
			}
		}
		if begun != len(row) {
			t.Fatalf("%q: %d of the rows of its first parts begin its Frame", row, begun)
		}
	}
}

// The same bytes, cut otherwise, are another row.
func TestFramesOfOtherCuts(t *testing.T) {
	s := chance(3, 40)
	seen := map[string]bool{string(Frame(s)): true}
	many := 1
	for i := range len(s) + 1 {
		for j := i; j <= len(s); j++ {
			seen[string(Frame(s[:i], s[i:j], s[j:]))] = true
			many++
		}
		seen[string(Frame(s[:i], s[i:]))] = true
		many++
	}
	if len(seen) != many {
		t.Errorf("%d cuts, but %d Frames", many, len(seen))
	}
	// A part that is itself a Frame isn't the parts of that.
	inner := Frame("a", "bc")
	if bytes.Equal(Frame(string(inner)), inner) || bytes.Equal(Frame("a", "bc"), Frame("a", string(Frame("bc")))) {
		t.Error("a Frame as a part is as its parts")
	}
}

// P6.2

// The numbers were worked out by another program's HMAC.
func TestKeyOfExamples(t *testing.T) {
	var rising, full api.Tag
	for i := range rising {
		rising[i] = byte(i)
		full[i] = 255
	}
	for _, c := range []struct {
		key  api.Tag
		row  []string
		want string
	}{
		{api.Tag{}, []string{""}, "f375180aba92888401f1919be4a8715a62763b65c1c10e1d0858e81d4d6f9fd2"},
		{api.Tag{}, []string{"use"}, "154de0bcfb98178faa36359e66e5af2109ad3325bc5c1e46cd1b9348d6b48775"},
		{rising, []string{"use"}, "b39fafbb6de279ff35f15249a8a1aed2a02ab43b7a22cc8be726de87b69a3251"},
		{rising, []string{"use", ""}, "ec543c41a76c2ab79348c2190752d24cb5def59bc66de096f621396b98cb63b4"},
		{rising, []string{"use", "a", "bc"}, "1197b5e9b98f81470ae58e9689b3358d922f82d67cb32903c2d2d81c48245ea6"},
		{full, []string{"stream", every(), "\x00\x00\x00\x00\x00\x00\x00\x00"}, "bcc53d8073d0ae336f4497c1e5d2adb8a1b0ca60e270528bdc02fcf713232385"},
		{rising, []string{"seal", strings.Repeat("x", 65536), "", strings.Repeat("\xff", 255)}, "7473166af509dd25ca3f885984c44af961db24d957896065a91799f1e315ca66"},
	} {
		got := Key(c.key, c.row[0], c.row[1:]...)
		if hex.EncodeToString(got[:]) != c.want {
			t.Errorf("%s: %x, not %s", brief(c.row), got, c.want)
		}
	}
}

func TestKeyOfEachLength(t *testing.T) {
	key := keyOf(1)
	for n := range 300 {
		s := chance(uint64(n)+10, n)
		keys(t, key, s)
		keys(t, key, s, "")
		keys(t, key, "", s)
		keys(t, key, "use", s, "x")
		keys(t, key, s, s, s)
	}
	for _, n := range []int{4096, 65535, 65536, 65537} {
		s := chance(uint64(n), n)
		keys(t, key, s)
		keys(t, key, "use", s, "")
		keys(t, key, s, "", s)
	}
}

func TestKeyOfEachByte(t *testing.T) {
	all := every()
	key := api.Tag([]byte(all[100:132]))
	keys(t, key, all)
	keys(t, key, all, all, "", all)
	for i := range all {
		keys(t, key, all[i:i+1])
		keys(t, key, "use", all[i:i+1])
		keys(t, key, all[i:], all[:i])
	}
}

func TestKeyOfManyParts(t *testing.T) {
	var parts []string
	for i := range 600 {
		keys(t, keyOf(uint64(i)), "use", parts...)
		parts = append(parts, chance(uint64(i), i%40))
	}
	for n := range 300 {
		keys(t, keyOf(2), "", make([]string, n)...)
	}
}

func TestKeyIsMadeOfTheLayerBelow(t *testing.T) {
	for i, row := range rows() {
		if len(row) == 0 {
			continue
		}
		key := keyOf(uint64(i))
		if got, want := Key(key, row[0], row[1:]...), hmac.Of(key[:], Frame(row...)); got != want {
			t.Fatalf("%q: %x, not %x", row, got, want)
		}
	}
}

// No two rows of a use and parts have the same key: cut otherwise, begun alike, changed over, with an empty one more.
func TestKeysAreUnlike(t *testing.T) {
	key := keyOf(3)
	whose := map[api.Tag][]string{}
	for _, row := range rows()[1:] {
		k := Key(key, row[0], row[1:]...)
		if other, ok := whose[k]; ok {
			t.Fatalf("%q and %q have one key", row, other)
		}
		whose[k] = row
	}
	// The same, written out, of what the rows above have among them.
	for _, pair := range [][2]api.Tag{
		{Key(key, "use"), Key(key, "use", "")},
		{Key(key, "use"), Key(key, "", "use")},
		{Key(key, ""), Key(key, "", "")},
		{Key(key, "a", "b"), Key(key, "b", "a")},
		{Key(key, "use", "a", "b"), Key(key, "use", "b", "a")},
		{Key(key, "a", "bc"), Key(key, "ab", "c")},
		{Key(key, "use", "a", "bc"), Key(key, "use", "ab", "c")},
		{Key(key, "use", "abc"), Key(key, "use", "a", "bc")},
		{Key(key, "use", "a"), Key(key, "use", "a", "b")},
		{Key(key, "use", "", "a"), Key(key, "use", "a", "")},
		{Key(key, "use", string(Frame("a"))), Key(key, "use", "a")},
	} {
		if pair[0] == pair[1] {
			t.Errorf("two rows, one key: %x", pair[0])
		}
	}
}

// A use and a part that change places are another row, unless they are the same.
func TestKeyOfChangedPlaces(t *testing.T) {
	key := keyOf(4)
	for _, a := range short() {
		for _, b := range short() {
			if (Key(key, a, b) == Key(key, b, a)) != (a == b) {
				t.Errorf("%q, %q: changed places are wrong", a, b)
			}
			if (Key(key, a, "x", b) == Key(key, b, "x", a)) != (a == b) {
				t.Errorf("%q, x, %q: changed places are wrong", a, b)
			}
		}
	}
}

// Each bit of the key is seen.
func TestKeyOfOtherKeys(t *testing.T) {
	for _, key := range []api.Tag{{}, {9, 8}, keyOf(5)} {
		seen := map[api.Tag]bool{Key(key, "use", "part"): true}
		for i := range 8 * api.Size {
			other := key
			other[i/8] ^= 1 << (i % 8)
			keys(t, other, "use", "part")
			seen[Key(other, "use", "part")] = true
		}
		if len(seen) != 8*api.Size+1 {
			t.Errorf("%x: %d keys of %d", key, len(seen), 8*api.Size+1)
		}
	}
}

// Each bit of a use, and of a part, is seen.
func TestKeyOfOtherBits(t *testing.T) {
	key, s := keyOf(6), []byte(chance(7, 80))
	seen := map[api.Tag]bool{Key(key, string(s)): true, Key(key, "use", string(s)): true}
	for i := range 8 * len(s) {
		s[i/8] ^= 1 << (i % 8)
		seen[Key(key, string(s))] = true
		seen[Key(key, "use", string(s))] = true
		s[i/8] ^= 1 << (i % 8)
	}
	if len(seen) != 2*(8*len(s)+1) {
		t.Errorf("%d keys of %d", len(seen), 2*(8*len(s)+1))
	}
}

// A key may be made of one that was made, and isn't the one.
func TestKeyOfAKey(t *testing.T) {
	k := keyOf(8)
	seen := map[api.Tag]bool{k: true}
	for range 100 {
		keys(t, k, "next")
		k = Key(k, "next")
		if seen[k] {
			t.Fatalf("%x comes again", k)
		}
		seen[k] = true
	}
}

// The rules that hold everywhere: what is handed in is neither changed nor kept, and an answer is new memory.

// spared: a row of the parts with other texts in its spare room, and all of that memory.
func spared(parts ...string) (row, whole []string) {
	whole = append(slices.Clone(parts), "spare", "", "room")
	return whole[:len(parts)], whole
}

func TestWhatIsHandedInIsNotChanged(t *testing.T) {
	for _, parts := range rows() {
		row, whole := spared(parts...)
		was := slices.Clone(whole)
		if !bytes.Equal(Frame(row...), told(parts...)) {
			t.Fatalf("%q: the Frame", parts)
		}
		if !slices.Equal(whole, was) {
			t.Fatalf("%q: Frame made %q of it", was, whole)
		}
		key := keyOf(9)
		if Key(key, "use", row...) != mac(key, append([]string{"use"}, parts...)...) {
			t.Fatalf("%q: the Key", parts)
		}
		if !slices.Equal(whole, was) || key != keyOf(9) {
			t.Fatalf("%q: Key made %q of it", was, whole)
		}
	}
}

func TestWhatIsHandedInIsNotKept(t *testing.T) {
	row := []string{"a", "", chance(10, 300)}
	f, k := Frame(row...), Key(keyOf(11), "use", row...)
	wantF, wantK := told(row...), mac(keyOf(11), append([]string{"use"}, row...)...)
	for i := range row {
		row[i] = "other"
	}
	if !bytes.Equal(f, wantF) || k != wantK {
		t.Error("an answer hangs on what was written over behind the call")
	}
	frames(t, row...)
	keys(t, keyOf(11), "use", row...)
}

func TestFrameHasNewMemory(t *testing.T) {
	for _, row := range [][]string{nil, {""}, {"a"}, {"a", ""}, {"", "xyz"}, {every(), every()}, {chance(12, 65536)}} {
		one, two := Frame(row...), Frame(row...)
		over := one[:cap(one)]
		for i := range over {
			over[i] ^= 255
		}
		want := told(row...)
		if !bytes.Equal(two, want) || !bytes.Equal(Frame(row...), want) {
			t.Errorf("%s: two answers share memory", brief(row))
		}
	}
}

// P1 and P2: every call ends, and answers the same again, whatever was called between.

func TestAnswersStayTheSame(t *testing.T) {
	all := rows()[1:]
	var wasF []string
	var wasK []api.Tag
	for i, row := range all {
		wasF = append(wasF, string(Frame(row...)))
		wasK = append(wasK, Key(keyOf(uint64(i)), row[0], row[1:]...))
	}
	for i := len(all) - 1; i >= 0; i-- {
		row := all[i]
		if string(Frame(row...)) != wasF[i] || Key(keyOf(uint64(i)), row[0], row[1:]...) != wasK[i] {
			t.Fatalf("%q: another answer", row)
		}
	}
}
