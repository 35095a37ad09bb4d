package packet

import (
	"bytes"
	"encoding/binary"
	"math"
	"regexp"
	"slices"
	"strings"
	"testing"

	"chitty/api"
)

// chance: many bytes that no rule of the program makes, others for each seed.
func chance(seed uint64, many int) []byte {
	out := make([]byte, many)
	for i := range out {
		seed = seed*6364136223846793005 + 1442695040888963407
		out[i] = byte(seed >> 40)
	}
	return out
}

// long: a text of so many bytes.
func long(many int) string { return strings.Repeat("a", many) }

// few: a number in as few bytes as it needs.
func few(n uint64) string { return string(binary.AppendUvarint(nil, n)) }

// piece: a field's bytes.
func piece(kind byte, value string) string {
	return string([]byte{kind}) + few(uint64(len(value))) + value
}

// toldCaveat: the caveat's bytes, as P10.1 tells them.
func toldCaveat(c api.Caveat) string {
	if c.Third {
		return piece(4, few(c.Party)) + piece(5, c.ID) + piece(6, c.Vault)
	}
	return piece(3, c.Text)
}

// told: the token's bytes, as P10.2 tells them.
func told(x api.Token) string {
	var out strings.Builder
	out.WriteString(piece(1, few(x.Key)) + piece(2, x.ID))
	for _, c := range x.Caveats {
		out.WriteString(toldCaveat(c))
	}
	bound := "\x00"
	if x.Bound {
		bound = "\x01"
	}
	out.WriteString(piece(7, bound) + piece(8, string(x.Tag[:])))
	return out.String()
}

// short: a token's bytes, or the first of them, to tell it by.
func short(x api.Token) string {
	s := told(x)
	return s[:min(len(s), 100)]
}

// alike: are all fields the same? (Not by Same, which is tried itself.)
func alike(a, b api.Token) bool {
	if a.Key != b.Key || a.ID != b.ID || len(a.Caveats) != len(b.Caveats) || a.Bound != b.Bound || a.Tag != b.Tag {
		return false
	}
	for i, c := range a.Caveats {
		if c != b.Caveats[i] {
			return false
		}
	}
	return true
}

// copied: the same token, its caveats in memory of their own.
func copied(x api.Token) api.Token {
	x.Caveats = append([]api.Caveat(nil), x.Caveats...)
	return x
}

// full: a token of which no field is zero, and two caveats of each kind.
func full() api.Token {
	return api.Token{Key: 300, ID: "me", Caveats: []api.Caveat{
		{Text: "op a"},
		{Third: true, Party: 5, ID: "cid", Vault: "vid"},
		{},
		{Third: true},
	}, Bound: true, Tag: api.Tag(chance(1, api.Size))}
}

// numbers: those for keys and parties.
func numbers() []uint64 {
	out := []uint64{0, 1, 2, 127, 128, 129, 255, 256, 300, math.MaxUint64 - 1, math.MaxUint64}
	for bits := 7; bits < 64; bits++ {
		out = append(out, 1<<bits-1, 1<<bits)
	}
	return out
}

// caveats: such as can be.
func caveats() []api.Caveat {
	out := []api.Caveat{{}, {Third: true}, {Text: "op a"}, {Third: true, Party: 5, ID: "cid", Vault: "vid"}}
	for _, many := range []int{1, 2, 126, 127, 128, 129, 255, 256, 511, 512} {
		out = append(out, api.Caveat{Text: long(many)}, api.Caveat{Text: string(chance(uint64(many), many))})
	}
	for _, many := range []int{1, 127, 128, 512, 513, 1023, 1024} {
		s := string(chance(uint64(many), many))
		out = append(out,
			api.Caveat{Third: true, ID: s},
			api.Caveat{Third: true, Vault: s},
			api.Caveat{Third: true, Party: 9, ID: s, Vault: long(many)},
		)
	}
	for _, n := range numbers() {
		out = append(out, api.Caveat{Third: true, Party: n}, api.Caveat{Third: true, Party: n, ID: "a", Vault: "b"})
	}
	for x := range 256 {
		s := string([]byte{byte(x)})
		out = append(out, api.Caveat{Text: s}, api.Caveat{Third: true, ID: s}, api.Caveat{Third: true, Vault: s})
	}
	// Texts that look like fields, or like a token's bytes.
	for _, s := range []string{"\x03\x00", "\x04\x01\x00\x05\x00\x06\x00", "\x07\x01\x00", "\x07\x01\x01\x08\x20", told(full()), "ä€😀\xc3", "\x00"} {
		out = append(out, api.Caveat{Text: s}, api.Caveat{Third: true, Party: 7, ID: s, Vault: s})
	}
	return out
}

// tokens: such as can be.
func tokens() []api.Token {
	out := []api.Token{{}, {Bound: true}, full()}
	for _, n := range numbers() {
		out = append(out, api.Token{Key: n}, api.Token{Key: n, ID: "x", Caveats: []api.Caveat{{Third: true, Party: n}}})
	}
	for _, many := range []int{1, 2, 127, 128, 255, 256, 1023, 1024} {
		out = append(out, api.Token{ID: long(many)}, api.Token{Key: 1, ID: string(chance(uint64(many), many)), Bound: many%2 == 0})
	}
	for x := range 256 {
		out = append(out,
			api.Token{ID: string([]byte{byte(x)})},
			api.Token{Tag: api.Tag(bytes.Repeat([]byte{byte(x)}, api.Size))},
			api.Token{Bound: x%2 == 0, Tag: api.Tag(chance(uint64(x), api.Size))},
		)
	}
	for i := range api.Size {
		var x api.Token
		x.Tag[i] = byte(255 - i)
		out = append(out, x)
	}
	l := caveats()
	for i, c := range l {
		out = append(out, api.Token{Caveats: []api.Caveat{c}}, api.Token{Key: 2, ID: "two", Caveats: []api.Caveat{c, l[(7*i+1)%len(l)]}, Bound: true, Tag: api.Tag{3}})
	}
	for many := range api.MaxCaveats + 1 {
		out = append(out,
			api.Token{Caveats: make([]api.Caveat, many)},
			api.Token{Caveats: slices.Repeat([]api.Caveat{{Third: true}}, many)},
			api.Token{Key: uint64(many), ID: "many", Caveats: slices.Clone(l[many : 2*many]), Bound: true, Tag: api.Tag{9}},
		)
	}
	return append(out, largest())
}

// largest: the token of the most bytes.
func largest() api.Token {
	c := api.Caveat{Third: true, Party: math.MaxUint64, ID: long(api.MaxID), Vault: long(api.MaxID)}
	return api.Token{Key: math.MaxUint64, ID: long(api.MaxID), Caveats: slices.Repeat([]api.Caveat{c}, api.MaxCaveats), Bound: true, Tag: api.Tag(bytes.Repeat([]byte{255}, api.Size))}
}

// badCaveats: such as can't be.
func badCaveats() []api.Caveat {
	out := []api.Caveat{
		{Text: long(513)},
		{Text: long(1024)},
		{Text: long(1 << 17)},
		{Text: strings.Repeat("ä", 257)},
		{Third: true, Text: "a"},
		{Third: true, Text: "\x00"},
		{Third: true, Text: long(513)},
		{Third: true, Text: "a", Party: 1, ID: "b", Vault: "c"},
		{Third: true, ID: long(1025)},
		{Third: true, Vault: long(1025)},
		{Third: true, ID: long(1025), Vault: long(1025)},
		{Third: true, ID: long(1024), Vault: long(1025)},
		{Third: true, ID: long(1025), Vault: long(1024)},
		{Third: true, Party: 1, ID: long(1 << 17)},
		{Third: true, ID: strings.Repeat("ä", 513)},
		{Third: true, Vault: strings.Repeat("€", 342)},
		{Party: 1},
		{Party: 1 << 32},
		{Party: 1 << 63},
		{Party: math.MaxUint64},
		{ID: "a"},
		{ID: "\x00"},
		{Vault: "a"},
		{Vault: "\x00"},
		{ID: "a", Vault: "b"},
		{Party: 1, ID: "a", Vault: "b"},
		{Text: "op a", Party: 1},
		{Text: "op a", ID: "a"},
		{Text: "op a", Vault: "a"},
		{Text: long(512), ID: long(1024)},
	}
	return out
}

// badTokens: such as can't be.
func badTokens() []api.Token {
	out := []api.Token{
		{ID: long(1025)},
		{ID: long(1026)},
		{ID: long(2048)},
		{ID: long(1 << 17)},
		{ID: strings.Repeat("ä", 513)},
		{Key: 1, ID: long(1025), Caveats: full().Caveats, Bound: true, Tag: api.Tag{1}},
	}
	for _, many := range []int{65, 66, 100, 128, 256, 257, 1000, 70000} {
		out = append(out, api.Token{Caveats: make([]api.Caveat, many)}, api.Token{Caveats: slices.Repeat([]api.Caveat{{Third: true}}, many)})
	}
	for _, c := range badCaveats() {
		out = append(out, api.Token{Caveats: []api.Caveat{c}}, api.Token{Key: 1, ID: "a", Caveats: []api.Caveat{{}, c, {Third: true}}, Bound: true, Tag: api.Tag{1}})
		// At the first place, at the last one, and within.
		for _, at := range []int{0, 1, 31, 62, 63} {
			x := api.Token{Caveats: make([]api.Caveat, api.MaxCaveats)}
			x.Caveats[at] = c
			out = append(out, x)
		}
	}
	return out
}

// TestSamples: P10.1 to P10.3 of each token that can be.
func TestSamples(t *testing.T) {
	for i, x := range tokens() {
		was := copied(x)
		if e := Check(x); e != api.OK {
			t.Errorf("Check of %d: %d", i, e)
		}
		want := told(x)
		b, e := Encode(x)
		if e != api.OK || string(b) != want {
			t.Errorf("Encode of %d: %d, %.60q; not %.60q", i, e, b, want)
		}
		if y, e := Decode([]byte(want)); e != api.OK || !alike(y, x) {
			t.Errorf("Decode of %d: %d, %q", i, e, short(y))
		}
		if y, e := Decode(b); e != api.OK || !alike(y, x) {
			t.Errorf("Decode of Encode of %d: %d, %q", i, e, short(y))
		}
		if y := Clone(x); !alike(y, x) || !Same(x, y) || !Same(y, x) || !Same(x, x) {
			t.Errorf("Clone, or Same, of %d", i)
		}
		if !alike(x, was) {
			t.Errorf("token %d was changed", i)
		}
	}
}

// TestBadSamples: P10.1, P10.2 and P10.4 of each token that can't be; laid as bytes, they are never read as it.
func TestBadSamples(t *testing.T) {
	for i, x := range badTokens() {
		was := copied(x)
		if e := Check(x); e != api.ErrRange {
			t.Errorf("Check of %d: %d", i, e)
		}
		if b, e := Encode(x); e != api.ErrRange || len(b) != 0 {
			t.Errorf("Encode of %d: %d, %d bytes", i, e, len(b))
		}
		if y, _ := Decode([]byte(told(x))); alike(y, x) {
			t.Errorf("Decode of %d: it can't be", i)
		}
		sound(t, told(x))
		if y := Clone(x); !alike(y, x) || !Same(x, y) || !Same(y, x) || !Same(x, x) {
			t.Errorf("Clone, or Same, of %d", i)
		}
		if !alike(x, was) {
			t.Errorf("token %d was changed", i)
		}
	}
}

// P10.1

func TestCheckAtTheEdges(t *testing.T) {
	check := func(what string, want api.Errno, x api.Token) {
		t.Helper()
		if e := Check(x); e != want {
			t.Errorf("%s: %d, not %d", what, e, want)
		}
		if b, e := Encode(x); e != want || (len(b) > 0) != (want == api.OK) {
			t.Errorf("Encode, %s: %d, %d bytes", what, e, len(b))
		}
	}
	one := func(what string, want api.Errno, c api.Caveat) {
		t.Helper()
		check(what, want, api.Token{Caveats: []api.Caveat{c}})
	}
	check("none", api.OK, api.Token{})
	check("an empty list", api.OK, api.Token{Caveats: []api.Caveat{}})
	check("an ID of 1024", api.OK, api.Token{ID: long(1024)})
	check("an ID of 1025", api.ErrRange, api.Token{ID: long(1025)})
	check("an ID of 1024 bytes, 512 signs", api.OK, api.Token{ID: strings.Repeat("ä", 512)})
	check("an ID of 1026 bytes, 513 signs", api.ErrRange, api.Token{ID: strings.Repeat("ä", 513)})
	check("64 caveats", api.OK, api.Token{Caveats: make([]api.Caveat, 64)})
	check("65 caveats", api.ErrRange, api.Token{Caveats: make([]api.Caveat, 65)})
	check("64 caveats, with room for more", api.OK, api.Token{Caveats: make([]api.Caveat, 64, 100)})
	check("64 caveats of third parties", api.OK, api.Token{Caveats: slices.Repeat([]api.Caveat{{Third: true}}, 64)})
	check("65 caveats of third parties", api.ErrRange, api.Token{Caveats: slices.Repeat([]api.Caveat{{Third: true}}, 65)})
	one("a Text of 512", api.OK, api.Caveat{Text: long(512)})
	one("a Text of 513", api.ErrRange, api.Caveat{Text: long(513)})
	one("a Text of 512 bytes, 256 signs", api.OK, api.Caveat{Text: strings.Repeat("ä", 256)})
	one("a third party's ID of 1024", api.OK, api.Caveat{Third: true, ID: long(1024)})
	one("a third party's ID of 1025", api.ErrRange, api.Caveat{Third: true, ID: long(1025)})
	one("a Vault of 1024", api.OK, api.Caveat{Third: true, Vault: long(1024)})
	one("a Vault of 1025", api.ErrRange, api.Caveat{Third: true, Vault: long(1025)})
	one("both of 1024", api.OK, api.Caveat{Third: true, Party: math.MaxUint64, ID: long(1024), Vault: long(1024)})
	one("a third party's Text", api.ErrRange, api.Caveat{Third: true, Text: "a"})
	one("a Party alone", api.ErrRange, api.Caveat{Party: 1})
	one("an ID alone", api.ErrRange, api.Caveat{ID: "a"})
	one("a Vault alone", api.ErrRange, api.Caveat{Vault: "a"})
	check("the largest", api.OK, largest())
}

// What has no bound is any: whatever a caveat's text says, Check looks at how long it is alone.
func TestCheckOfAnyBytes(t *testing.T) {
	for seed := range uint64(200) {
		x := api.Token{Key: seed << 40, ID: string(chance(seed, int(seed*5))), Bound: seed%3 == 0, Tag: api.Tag(chance(seed, api.Size))}
		x.Caveats = []api.Caveat{{Text: string(chance(seed+1, int(seed*2)))}, {Third: true, Party: seed << 57, ID: string(chance(seed+2, int(seed*5))), Vault: string(chance(seed+3, int(1000-seed)))}}
		if e := Check(x); e != api.OK {
			t.Errorf("seed %d: %d", seed, e)
		}
	}
}

func TestCaveat(t *testing.T) {
	check := func(want string, c api.Caveat) {
		t.Helper()
		if b := Caveat(c); string(b) != want {
			t.Errorf("%q, not %q", b, want)
		}
	}
	check("\x03\x00", api.Caveat{})
	check("\x03\x04op a", api.Caveat{Text: "op a"})
	check("\x03\x80\x04"+long(512), api.Caveat{Text: long(512)})
	check("\x04\x01\x00\x05\x00\x06\x00", api.Caveat{Third: true})
	check("\x04\x01\x05\x05\x03cid\x06\x03vid", api.Caveat{Third: true, Party: 5, ID: "cid", Vault: "vid"})
	check("\x04\x01\x7f\x05\x00\x06\x00", api.Caveat{Third: true, Party: 127})
	check("\x04\x02\x80\x01\x05\x00\x06\x00", api.Caveat{Third: true, Party: 128})
	check("\x04\x0a\xff\xff\xff\xff\xff\xff\xff\xff\xff\x01\x05\x00\x06\x01x", api.Caveat{Third: true, Party: math.MaxUint64, Vault: "x"})
	for _, c := range caveats() {
		check(toldCaveat(c), c)
	}
	// Nothing says that it has to be one that can be; of its kind's fields, and no others, the bytes are told.
	check("\x03\x00", api.Caveat{Party: 1, ID: "a", Vault: "b"})
	check("\x03\x04op a", api.Caveat{Text: "op a", Party: 1, ID: "a", Vault: "b"})
	check("\x04\x01\x01\x05\x01b\x06\x01c", api.Caveat{Third: true, Text: "a", Party: 1, ID: "b", Vault: "c"})
	check("\x03\x81\x04"+long(513), api.Caveat{Text: long(513)})
	for _, c := range badCaveats() {
		check(toldCaveat(c), c)
	}
}

func TestCaveatHasNewMemory(t *testing.T) {
	for _, c := range append(caveats(), badCaveats()...) {
		one, two := Caveat(c), Caveat(c)
		spoil(one)
		if string(two) != toldCaveat(c) || string(Caveat(c)) != toldCaveat(c) {
			t.Errorf("two answers share memory: %.60q", two)
		}
	}
}

// spoil: all bytes that a row has room for are written over.
func spoil(b []byte) {
	b = b[:cap(b)]
	for i := range b {
		b[i] ^= 255
	}
}

// P10.2

func TestExample(t *testing.T) {
	b, e := Encode(api.Token{})
	want := "\x01\x01\x00" + "\x02\x00" + "\x07\x01\x00" + "\x08\x20" + strings.Repeat("\x00", 32)
	if e != api.OK || string(b) != want || len(b) != 3+2+3+34 {
		t.Errorf("%d, %q", e, b)
	}
}

func TestEncode(t *testing.T) {
	x := full()
	want := "\x01\x02\xac\x02" + "\x02\x02me" +
		"\x03\x04op a" +
		"\x04\x01\x05\x05\x03cid\x06\x03vid" +
		"\x03\x00" +
		"\x04\x01\x00\x05\x00\x06\x00" +
		"\x07\x01\x01" + "\x08\x20" + string(chance(1, 32))
	if b, e := Encode(x); e != api.OK || string(b) != want {
		t.Errorf("%d, %q", e, b)
	}
	x.Bound = false
	if b, e := Encode(x); e != api.OK || string(b) != strings.Replace(want, "\x07\x01\x01", "\x07\x01\x00", 1) {
		t.Errorf("not bound: %d, %q", e, b)
	}
	// The caveats are in their order, not in one of kinds.
	x.Caveats = []api.Caveat{{Third: true}, {Text: "z"}, {}, {Text: "a"}, {Third: true, Party: 1}}
	want = "\x01\x02\xac\x02\x02\x02me" + "\x04\x01\x00\x05\x00\x06\x00" + "\x03\x01z" + "\x03\x00" + "\x03\x01a" + "\x04\x01\x01\x05\x00\x06\x00" + "\x07\x01\x00\x08\x20" + string(chance(1, 32))
	if b, e := Encode(x); e != api.OK || string(b) != want {
		t.Errorf("in another order: %d, %q", e, b)
	}
}

func TestEncodeOfTheLargest(t *testing.T) {
	x := largest()
	b, e := Encode(x)
	want := 12 + 1 + 2 + 1024 + 64*(12+2*(1+2+1024)) + 3 + 34
	if e != api.OK || len(b) != want || string(b) != told(x) {
		t.Errorf("%d, %d bytes, not %d", e, len(b), want)
	}
	if y, e := Decode(b); e != api.OK || !alike(x, y) {
		t.Errorf("it doesn't come back: %d", e)
	}
}

// Unlike tokens have unlike bytes, and none's are the beginning of another one's.
func TestEncodeTellsTokensApart(t *testing.T) {
	var all []string
	for _, x := range unlike() {
		b, e := Encode(x)
		if e != api.OK {
			t.Fatalf("%q: %d", short(x), e)
		}
		all = append(all, string(b))
	}
	for i, a := range all {
		for j, b := range all {
			if i != j && strings.HasPrefix(a, b) {
				t.Errorf("%d and %d: %q and %q", i, j, a, b)
			}
		}
	}
}

func TestEncodeHasNewMemory(t *testing.T) {
	for _, x := range []api.Token{{}, full(), largest()} {
		one, _ := Encode(x)
		two, _ := Encode(x)
		spoil(one)
		three, _ := Encode(x)
		if string(two) != told(x) || string(three) != told(x) {
			t.Error("two answers share memory")
		}
	}
}

// roomy: the token, with two caveats more in the spare room of its list.
func roomy(x api.Token) api.Token {
	x.Caveats = append(slices.Clone(x.Caveats), api.Caveat{Text: "spare"}, api.Caveat{Third: true, Party: 7})[:len(x.Caveats)]
	return x
}

// spared: is the spare room of roomy as it was?
func spared(x api.Token) bool {
	l := x.Caveats[len(x.Caveats) : len(x.Caveats)+2]
	return l[0] == api.Caveat{Text: "spare"} && l[1] == api.Caveat{Third: true, Party: 7}
}

// No call changes a token, its spare room included, nor looks there, nor keeps what it was handed.
func TestTokensStayAsTheyWere(t *testing.T) {
	for i, x := range []api.Token{{}, full(), {ID: long(1025)}, {Caveats: badCaveats()}, largest()} {
		y := roomy(x)
		e := Check(y)
		b, _ := Encode(y)
		again, _ := Encode(x)
		c := Clone(y)
		same := Same(y, x) && Same(x, y) && Same(y, c)
		if e != Check(x) || !bytes.Equal(b, again) || !same || !alike(c, x) {
			t.Errorf("token %d, with room: other answers than without", i)
		}
		if !alike(y, x) || !spared(y) {
			t.Errorf("token %d was changed, or its spare room", i)
		}
		for j := range y.Caveats {
			y.Caveats[j] = api.Caveat{Text: "over"}
		}
		if !alike(c, x) || !bytes.Equal(b, again) {
			t.Errorf("token %d was kept", i)
		}
	}
}

// P10.3

// none: does Decode tell that these are no token's bytes?
func none(t *testing.T, what, b string) {
	t.Helper()
	in := []byte(b)
	if x, e := Decode(in); e != api.ErrForm || !alike(x, api.Token{}) {
		t.Errorf("%s: %.100q is %q, %d", what, b, short(x), e)
	}
	if string(in) != b {
		t.Errorf("%s: the bytes were changed", what)
	}
}

// some: does Decode tell this token?
func some(t *testing.T, what, b string, x api.Token) {
	t.Helper()
	in := []byte(b)
	if y, e := Decode(in); e != api.OK || !alike(x, y) {
		t.Errorf("%s: %.100q is %q, %d", what, b, short(y), e)
	}
	if string(in) != b {
		t.Errorf("%s: the bytes were changed", what)
	}
}

// sound: if Decode tells a token, it can be, and these are its bytes; else it tells a zero one and ErrForm.
func sound(t *testing.T, b string) bool {
	t.Helper()
	x, e := Decode([]byte(b))
	switch {
	case e == api.OK && told(x) == b && Check(x) == api.OK:
		return true
	case e == api.ErrForm && alike(x, api.Token{}):
		return false
	}
	t.Errorf("%.100q is %q, %d", b, short(x), e)
	return false
}

func TestDecode(t *testing.T) {
	zeros := strings.Repeat("\x00", 32)
	some(t, "the example", "\x01\x01\x00\x02\x00\x07\x01\x00\x08\x20"+zeros, api.Token{})
	some(t, "bound", "\x01\x01\x00\x02\x00\x07\x01\x01\x08\x20"+zeros, api.Token{Bound: true})
	some(t, "a key", "\x01\x02\xac\x02\x02\x00\x07\x01\x00\x08\x20"+zeros, api.Token{Key: 300})
	some(t, "the greatest key", "\x01\x0a\xff\xff\xff\xff\xff\xff\xff\xff\xff\x01\x02\x00\x07\x01\x00\x08\x20"+zeros, api.Token{Key: math.MaxUint64})
	some(t, "an ID", "\x01\x01\x00\x02\x03\x03\x00\x07\x07\x01\x00\x08\x20"+zeros, api.Token{ID: "\x03\x00\x07"})
	some(t, "a text", "\x01\x01\x00\x02\x00\x03\x01a\x07\x01\x00\x08\x20"+zeros, api.Token{Caveats: []api.Caveat{{Text: "a"}}})
	some(t, "a third party", "\x01\x01\x00\x02\x00\x04\x01\x7f\x05\x01b\x06\x01c\x07\x01\x00\x08\x20"+zeros, api.Token{Caveats: []api.Caveat{{Third: true, Party: 127, ID: "b", Vault: "c"}}})
	some(t, "a tag", "\x01\x01\x00\x02\x00\x07\x01\x00\x08\x20"+string(chance(5, 32)), api.Token{Tag: api.Tag(chance(5, 32))})
}

// frame: a token's bytes, with these where its caveats' are.
func frame(within string) string {
	return "\x01\x01\x09\x02\x02me" + within + "\x07\x01\x00\x08\x20" + string(chance(2, 32))
}

// TestWrongFields: fields left out, twice, in another order, or of a kind that is none.
func TestWrongFields(t *testing.T) {
	l := []string{piece(1, "\x05"), piece(2, "me"), piece(3, "op a"), piece(4, "\x05"), piece(5, "cid"), piece(6, "vid"), piece(3, ""), piece(7, "\x01"), piece(8, string(chance(1, 32)))}
	x := api.Token{Key: 5, ID: "me", Caveats: []api.Caveat{{Text: "op a"}, {Third: true, Party: 5, ID: "cid", Vault: "vid"}, {}}, Bound: true, Tag: api.Tag(chance(1, 32))}
	some(t, "all in order", strings.Join(l, ""), x)
	none(t, "no bytes", "")
	for i, p := range l {
		if p[0] != 3 {
			none(t, "a field left out", strings.Join(slices.Delete(slices.Clone(l), i, i+1), ""))
			none(t, "a field twice", strings.Join(slices.Insert(slices.Clone(l), i, p), ""))
		}
		none(t, "a field alone", p)
		for j, q := range l {
			if i == j {
				continue
			}
			m := slices.Clone(l)
			m[i], m[j] = q, p
			if p[0] != 3 || q[0] != 3 {
				none(t, "two fields changed over", strings.Join(m, ""))
			}
			if p[0] != 3 {
				none(t, "a field twice, apart", strings.Join(slices.Insert(slices.Clone(l), j, p), ""))
			}
		}
		none(t, "one more behind them", strings.Join(l, "")+p)
		none(t, "one more ahead of them", p+strings.Join(l, ""))
		for kind := range 256 {
			for _, v := range []string{"", "\x00", "a", p[2:]} {
				if kind < 1 || kind > 8 {
					none(t, "a kind that is none", strings.Join(slices.Insert(slices.Clone(l), i, piece(byte(kind), v)), ""))
					none(t, "a kind that is none, in place", strings.Join(slices.Concat(l[:i], []string{piece(byte(kind), v)}, l[i+1:]), ""))
				}
				none(t, "one more behind them", strings.Join(l, "")+piece(byte(kind), v))
			}
		}
	}
	none(t, "two tokens", strings.Join(l, "")+strings.Join(l, ""))
}

// TestRowsOfKinds: of all rows of right fields those are a token's that have the kinds in order, and no others.
func TestRowsOfKinds(t *testing.T) {
	values := []string{"x", "\x05", "me", "op a", "\x07", "cid", "vid", "\x01", string(chance(1, 32)), ""}
	right := regexp.MustCompile(`^12(3|456)*78$`)
	found := 0
	check := func(kinds string) {
		var b string
		for _, k := range []byte(kinds) {
			b += piece(k-'0', values[k-'0'])
		}
		x, e := Decode([]byte(b))
		if right.MatchString(kinds) {
			found++
			if e != api.OK || told(x) != b {
				t.Errorf("kinds %s: %q, %d", kinds, short(x), e)
			}
		} else if e != api.ErrForm || !alike(x, api.Token{}) {
			t.Errorf("kinds %s: %q, %d", kinds, short(x), e)
		}
	}
	var rows func(ahead, behind, signs string, more int)
	rows = func(ahead, behind, signs string, more int) {
		check(ahead + behind)
		if more == 0 {
			return
		}
		for i := range signs {
			rows(ahead+signs[i:i+1], behind, signs, more-1)
		}
	}
	rows("", "", "0123456789", 4)
	rows("12", "", "12345678", 5)
	rows("12", "78", "0123456789", 4)
	rows("12", "78", "3456", 7)
	if found < 40 {
		t.Errorf("%d rows are a token's: too few to tell", found)
	}
}

// wrongNumbers: bytes that are no number's whole bytes.
func wrongNumbers() []string {
	out := []string{"", "\x80", "\xff", "\x80\x00", "\x81\x00", "\xac\x82\x00", "\x80\x80", "\x00\x00", "\x05\x00", "\x05\x05", "\x7f\x01", "\xac\x02\x00", "\xac\x02\x01",
		"\xff\xff\xff\xff\xff\xff\xff\xff\xff\x02", "\xff\xff\xff\xff\xff\xff\xff\xff\xff\x7f", "\xff\xff\xff\xff\xff\xff\xff\xff\xff\x81\x00", "\xff\xff\xff\xff\xff\xff\xff\xff\xff\x01\x00",
		"\x80\x80\x80\x80\x80\x80\x80\x80\x80\x00", "\x80\x80\x80\x80\x80\x80\x80\x80\x80\x02", "\x80\x80\x80\x80\x80\x80\x80\x80\x80\x80\x01"}
	for _, n := range numbers() {
		b := few(n)
		last := len(b) - 1
		out = append(out, b+"\x00", b+"\x01", b+"\x80", b+b, b[:last]+string([]byte{b[last] | 128}), b[:last]+string([]byte{b[last] | 128})+"\x00")
	}
	return out
}

func TestWrongNumbers(t *testing.T) {
	behind := "\x02\x02me\x07\x01\x00\x08\x20" + string(chance(2, 32))
	for _, n := range wrongNumbers() {
		none(t, "a key's number", piece(1, n)+behind)
		none(t, "a party's number", frame(piece(4, n)+piece(5, "cid")+piece(6, "vid")))
		none(t, "the second party's number", frame(piece(3, "a")+piece(4, "\x05")+piece(5, "")+piece(6, "")+piece(4, n)+piece(5, "cid")+piece(6, "vid")))
	}
	// The same rows, with numbers that are right.
	for _, n := range numbers() {
		some(t, "a key's number", piece(1, few(n))+behind, api.Token{Key: n, ID: "me", Tag: api.Tag(chance(2, 32))})
		some(t, "a party's number", frame(piece(4, few(n))+piece(5, "cid")+piece(6, "vid")), api.Token{Key: 9, ID: "me", Caveats: []api.Caveat{{Third: true, Party: n, ID: "cid", Vault: "vid"}}, Tag: api.Tag(chance(2, 32))})
	}
}

// Each number of one byte, and of two, is the one that has these bytes, or none.
func TestNumbersOfFewBytes(t *testing.T) {
	behind := "\x02\x00\x07\x01\x00\x08\x20" + strings.Repeat("\x00", 32)
	for x := range 256 {
		one := string([]byte{byte(x)})
		if x < 128 {
			some(t, "one byte", piece(1, one)+behind, api.Token{Key: uint64(x)})
		} else {
			none(t, "one byte", piece(1, one)+behind)
		}
		for y := range 256 {
			two := piece(1, one+string([]byte{byte(y)})) + behind
			if x >= 128 && y > 0 && y < 128 {
				some(t, "two bytes", two, api.Token{Key: uint64(x-128) + uint64(y)<<7})
			} else {
				none(t, "two bytes", two)
			}
		}
	}
}

func TestWrongBound(t *testing.T) {
	row := func(v string) string { return "\x01\x01\x00\x02\x00" + piece(7, v) + piece(8, string(chance(3, 32))) }
	for x := range 256 {
		v := string([]byte{byte(x)})
		if x < 2 {
			some(t, "field 7", row(v), api.Token{Bound: x == 1, Tag: api.Tag(chance(3, 32))})
		} else {
			none(t, "field 7 of another byte", row(v))
		}
		for y := range 256 {
			none(t, "field 7 of two bytes", row(v+string([]byte{byte(y)})))
		}
	}
	none(t, "field 7 of no byte", row(""))
	none(t, "field 7 of three bytes", row("\x00\x00\x01"))
	none(t, "field 7 of many bytes", row(strings.Repeat("\x01", 300)))
	none(t, "field 7 of a digit", row("1"))
	none(t, "field 7 of a word", row("true"))
}

func TestWrongTag(t *testing.T) {
	for many := range 300 {
		for _, v := range []string{string(chance(4, many)), strings.Repeat("\x00", many)} {
			for _, bound := range []string{"\x00", "\x01"} {
				b := "\x01\x01\x00\x02\x00" + piece(7, bound) + piece(8, v)
				if many == 32 {
					some(t, "field 8", b, api.Token{Bound: bound == "\x01", Tag: api.Tag([]byte(v))})
				} else {
					none(t, "field 8 of another length", b)
				}
			}
		}
	}
}

func TestThirdPartyInPart(t *testing.T) {
	four, five, six, text := piece(4, "\x05"), piece(5, "cid"), piece(6, "vid"), piece(3, "op a")
	one := api.Caveat{Third: true, Party: 5, ID: "cid", Vault: "vid"}
	tag := api.Tag(chance(2, 32))
	some(t, "the whole", frame(four+five+six), api.Token{Key: 9, ID: "me", Caveats: []api.Caveat{one}, Tag: tag})
	some(t, "a text behind it", frame(four+five+six+text), api.Token{Key: 9, ID: "me", Caveats: []api.Caveat{one, {Text: "op a"}}, Tag: tag})
	for _, b := range []string{
		five + six, six + five, five, six, four, four + five, four + six, four + six + five, five + four + six,
		four + four + five + six, four + five + five + six, four + five + six + six, four + five + six + five, four + five + six + four,
		four + text + five + six, four + five + text + six, text + five + six, four + five + six + five + six,
	} {
		none(t, "in part", frame(b))
		none(t, "in part, a text ahead", frame(text+b))
		none(t, "in part, a text behind", frame(b+text))
		none(t, "in part, a whole one ahead", frame(four+five+six+b))
	}
	// At the end, with nothing behind.
	for _, b := range []string{four, four + five, four + five + six} {
		none(t, "the end", "\x01\x01\x09\x02\x02me"+b)
	}
}

// TestTooLong: what can't be has no bytes that are read, even if they are laid as those of others are.
func TestTooLong(t *testing.T) {
	tag := api.Tag(chance(2, 32))
	fits := func(what string, x api.Token) {
		t.Helper()
		x.Tag = tag
		some(t, what, told(x), x)
	}
	not := func(what string, x api.Token) {
		t.Helper()
		none(t, what, told(x))
	}
	fits("an ID of 1024", api.Token{ID: long(1024)})
	for _, many := range []int{1025, 1026, 2048, 16384, 1 << 17} {
		not("an ID", api.Token{ID: long(many)})
		not("a third party's ID", api.Token{Caveats: []api.Caveat{{Third: true, ID: long(many)}}})
		not("a Vault", api.Token{Caveats: []api.Caveat{{Third: true, Vault: long(many)}}})
		not("a Text", api.Token{Caveats: []api.Caveat{{Text: long(many)}}})
	}
	fits("a Text of 512", api.Token{Caveats: []api.Caveat{{Text: long(512)}}})
	not("a Text of 513", api.Token{Caveats: []api.Caveat{{Text: long(513)}}})
	not("a Text of 513 among others", api.Token{Caveats: []api.Caveat{{}, {Third: true}, {Text: long(513)}, {}}})
	fits("a third party's ID and Vault of 1024", api.Token{Caveats: []api.Caveat{{Third: true, ID: long(1024), Vault: long(1024)}}})
	for _, c := range []api.Caveat{{}, {Third: true}, {Text: long(512)}, {Third: true, Party: math.MaxUint64, ID: long(1024), Vault: long(1024)}} {
		fits("64 caveats", api.Token{Caveats: slices.Repeat([]api.Caveat{c}, 64)})
		for _, many := range []int{65, 66, 67, 128, 129, 256, 257, 320} {
			not("more than 64 caveats", api.Token{Caveats: slices.Repeat([]api.Caveat{c}, many)})
		}
	}
	not("65 caveats, one of a third party", api.Token{Caveats: append(make([]api.Caveat, 64), api.Caveat{Third: true})})
	not("65 caveats, one of a text", api.Token{Caveats: append(slices.Repeat([]api.Caveat{{Third: true}}, 64), api.Caveat{Text: "a"})})
}

// TestBytesCutAndMore: each beginning of a token's bytes is none's, and they aren't with a byte more, behind or ahead.
func TestBytesCutAndMore(t *testing.T) {
	for _, x := range []api.Token{{}, {Bound: true, Tag: api.Tag{31: 1}}, full(), {Key: 128, ID: long(130), Caveats: []api.Caveat{{Text: long(128)}}}, largest()} {
		whole := told(x)
		step := 1 + len(whole)/500
		for i := 0; i < len(whole); i += step {
			none(t, "cut", whole[:i])
			none(t, "without its front", whole[len(whole)-i:])
		}
		none(t, "the last byte cut", whole[:len(whole)-1])
		none(t, "the first byte cut", whole[1:])
		for more := range 256 {
			none(t, "a byte more", whole+string([]byte{byte(more)}))
			none(t, "a byte ahead", string([]byte{byte(more)})+whole)
		}
		none(t, "many more", whole+strings.Repeat("\x00", 1000))
		// What there is room for isn't looked at.
		b := append([]byte(whole), "\x03\x00"...)
		if y, e := Decode(b[:len(whole)]); e != api.OK || !alike(x, y) {
			t.Errorf("with spare room: %d", e)
		}
		if y, e := Decode([]byte(whole)[:len(whole)-1]); e != api.ErrForm || !alike(y, api.Token{}) {
			t.Errorf("the last byte in the spare room: %d", e)
		}
	}
}

// TestChangedBytes: with one byte changed, left out or put in, the bytes are those of what is told, or none's.
func TestChangedBytes(t *testing.T) {
	for _, x := range []api.Token{{}, full(), {Key: 128, ID: long(130), Caveats: []api.Caveat{{Text: long(128)}}, Tag: api.Tag{8, 32}}} {
		whole := told(x)
		found := 0
		for i := range len(whole) {
			sound(t, whole[:i]+whole[i+1:])
			for y := range 256 {
				c := string([]byte{byte(y)})
				if sound(t, whole[:i]+c+whole[i+1:]) {
					found++
				}
				sound(t, whole[:i]+c+whole[i:])
			}
		}
		if found < 32*256 {
			t.Errorf("%d rows are a token's: those of other tags are, at least", found)
		}
	}
}

// TestAnyBytes: whatever the bytes are, they are those of what is told, or none's.
func TestAnyBytes(t *testing.T) {
	zeros := strings.Repeat("\x00", 32)
	found := 0
	for seed := range uint64(30000) {
		b := chance(seed, int(seed%60))
		for i := range b {
			if b[i] < 250 {
				b[i] %= 9
			}
		}
		sound(t, string(b))
		sound(t, "\x01\x01\x00\x02"+string(b))
		if sound(t, "\x01\x01\x00\x02\x00"+string(b[:len(b)%12])+"\x07\x01\x00\x08\x20"+zeros) {
			found++
		}
	}
	if found < 100 {
		t.Errorf("%d rows are a token's: too few to tell", found)
	}
}

// A length that isn't in as few bytes as it needs, or that is more than there is, is no field's.
func TestWrongLengths(t *testing.T) {
	behind := "\x07\x01\x00\x08\x20" + strings.Repeat("\x00", 32)
	none(t, "a key's length", "\x01\x81\x00\x05\x02\x00"+behind)
	none(t, "an ID's length", "\x01\x01\x05\x02\x80\x00"+behind)
	none(t, "an ID's length", "\x01\x01\x05\x02\x82\x00me"+behind)
	none(t, "a text's length", "\x01\x01\x05\x02\x00\x03\x84\x00op a"+behind)
	none(t, "field 7's length", "\x01\x01\x05\x02\x00\x07\x81\x00\x00"+behind[3:])
	none(t, "field 8's length", "\x01\x01\x05\x02\x00\x07\x01\x00\x08\xa0\x00"+behind[5:])
	for _, n := range []uint64{1000, 1 << 31, 1 << 32, 1<<63 - 1, 1 << 63, math.MaxUint64} {
		none(t, "a key's length", "\x01"+few(n)+"\x05\x02\x00"+behind)
		none(t, "an ID's length", "\x01\x01\x05\x02"+few(n)+behind)
		none(t, "a tag's length", "\x01\x01\x05\x02\x00\x07\x01\x00\x08"+few(n)+behind[5:])
	}
}

// Many bytes end, too.
func TestManyBytes(t *testing.T) {
	const many = 1 << 21
	head := "\x01\x01\x00\x02\x00"
	tail := "\x07\x01\x00\x08\x20" + strings.Repeat("\x00", 32)
	none(t, "many texts", head+strings.Repeat("\x03\x00", many)+tail)
	none(t, "many third parties", head+strings.Repeat("\x04\x01\x00\x05\x00\x06\x00", many/4)+tail)
	none(t, "a long key", piece(1, strings.Repeat("\x80", many))+"\x02\x00"+tail)
	none(t, "a long ID", "\x01\x01\x00"+piece(2, long(many))+tail)
	none(t, "a long text", head+piece(3, long(many))+tail)
	none(t, "a long tag", head+"\x07\x01\x00"+piece(8, long(many)))
	none(t, "zeros", strings.Repeat("\x00", many))
	none(t, "ones", strings.Repeat("\x01", many))
	none(t, "the highest", strings.Repeat("\xff", many))
}

// What was told stays, whatever becomes of the bytes, or of another answer.
func TestDecodeHasNewMemory(t *testing.T) {
	for _, x := range []api.Token{{}, full(), {Key: 1, ID: "a", Caveats: make([]api.Caveat, 5)}, largest()} {
		b := []byte(told(x))
		one, _ := Decode(b)
		two, _ := Decode(b)
		if string(b) != told(x) {
			t.Error("the bytes were changed")
		}
		spoil(b)
		if !alike(one, x) || !alike(two, x) {
			t.Error("the bytes were kept")
		}
		one.Caveats = one.Caveats[:cap(one.Caveats)]
		for i := range one.Caveats {
			one.Caveats[i] = api.Caveat{Text: "over"}
		}
		three, _ := Decode([]byte(told(x)))
		if !alike(two, x) || !alike(three, x) {
			t.Error("two answers share memory")
		}
	}
}

// P10.4

// unlike: tokens of which each is another one than all others; most differ from the first one in one field alone.
func unlike() []api.Token {
	out := []api.Token{full()}
	change := func(f func(x *api.Token)) {
		x := full()
		f(&x)
		out = append(out, x)
	}
	for _, n := range []uint64{0, 299, 301, 300 + 1<<32, 300 + 1<<63, math.MaxUint64} {
		change(func(x *api.Token) { x.Key = n })
	}
	for _, s := range []string{"", "m", "mE", "me\x00", "\x00me", "em", "op a"} {
		change(func(x *api.Token) { x.ID = s })
	}
	change(func(x *api.Token) { x.Bound = false })
	for bit := range 8 * api.Size {
		change(func(x *api.Token) { x.Tag[bit/8] ^= 1 << (bit % 8) })
	}
	for i := range full().Caveats {
		change(func(x *api.Token) { x.Caveats = x.Caveats[:i:i] })
		change(func(x *api.Token) { x.Caveats = slices.Insert(x.Caveats, i, api.Caveat{Text: "more"}) })
		change(func(x *api.Token) { x.Caveats[i] = api.Caveat{Text: "another"} })
		change(func(x *api.Token) { x.Caveats[i] = api.Caveat{Third: true, Party: 77} })
		for j := range i {
			change(func(x *api.Token) { x.Caveats[i], x.Caveats[j] = x.Caveats[j], x.Caveats[i] })
		}
	}
	change(func(x *api.Token) { x.Caveats = append(x.Caveats, api.Caveat{}) })
	change(func(x *api.Token) { x.Caveats = append(x.Caveats, api.Caveat{Third: true}) })
	change(func(x *api.Token) { x.Caveats[0].Text = "op b" })
	change(func(x *api.Token) { x.Caveats[0].Text = "op" })
	change(func(x *api.Token) { x.Caveats[0].Text = "" })
	change(func(x *api.Token) { x.Caveats[1].Party = 6 })
	change(func(x *api.Token) { x.Caveats[1].Party = 5 + 1<<32 })
	change(func(x *api.Token) { x.Caveats[1].ID = "cie" })
	change(func(x *api.Token) { x.Caveats[1].ID = "" })
	change(func(x *api.Token) { x.Caveats[1].Vault = "vie" })
	change(func(x *api.Token) { x.Caveats[1].Vault = "" })
	change(func(x *api.Token) { x.Caveats[1].ID, x.Caveats[1].Vault = "cidv", "id" })
	change(func(x *api.Token) { x.Caveats[1].ID, x.Caveats[1].Vault = "vid", "cid" })
	change(func(x *api.Token) { x.Caveats[3].Vault = "a" })
	return out
}

func TestSame(t *testing.T) {
	l := unlike()
	for i, a := range l {
		for j, b := range l {
			if got := Same(a, copied(b)); got != (i == j) {
				t.Errorf("%d and %d: %t", i, j, got)
			}
		}
	}
}

// Of tokens that can't be, too, each field of each caveat is held against the other one's.
func TestSameOfWhatCannotBe(t *testing.T) {
	base := api.Caveat{Third: true, Text: "t", Party: 1, ID: "i", Vault: "v"}
	others := []api.Caveat{
		{Text: "t", Party: 1, ID: "i", Vault: "v"},
		{Third: true, Party: 1, ID: "i", Vault: "v"},
		{Third: true, Text: "t", Party: 2, ID: "i", Vault: "v"},
		{Third: true, Text: "t", Party: 1, ID: "j", Vault: "v"},
		{Third: true, Text: "t", Party: 1, ID: "i", Vault: "w"},
		{},
	}
	token := func(many, at int, c api.Caveat) api.Token {
		x := api.Token{ID: long(2000), Caveats: slices.Repeat([]api.Caveat{base}, many)}
		x.Caveats[at] = c
		return x
	}
	for _, many := range []int{1, 2, 64, 65, 100} {
		for _, at := range []int{0, many / 2, many - 1} {
			x := token(many, at, base)
			if !Same(x, token(many, at, base)) {
				t.Errorf("%d caveats: not the same", many)
			}
			for i, c := range others {
				y := token(many, at, c)
				if Same(x, y) || Same(y, x) {
					t.Errorf("%d caveats, %d at %d: the same", many, i, at)
				}
			}
		}
	}
	a, b := api.Token{ID: long(2000)}, api.Token{ID: long(1999) + "b"}
	if Same(a, b) || !Same(a, api.Token{ID: long(2000)}) {
		t.Error("long IDs")
	}
	// The list's length counts, even if what is more of it is zero.
	for many := range 70 {
		for more := range 70 {
			if Same(api.Token{Caveats: make([]api.Caveat, many)}, api.Token{Caveats: make([]api.Caveat, more)}) != (many == more) {
				t.Errorf("%d and %d caveats", many, more)
			}
		}
	}
}

// A list is nil or empty: the two are one.
func TestNilAndEmpty(t *testing.T) {
	none, empty, roomy := api.Token{ID: "a"}, api.Token{ID: "a", Caveats: []api.Caveat{}}, api.Token{ID: "a", Caveats: make([]api.Caveat, 0, 9)}
	for _, a := range []api.Token{none, empty, roomy} {
		for _, b := range []api.Token{none, empty, roomy, Clone(a)} {
			if !Same(a, b) || !Same(b, a) {
				t.Error("not the same")
			}
		}
		if b, e := Encode(a); e != api.OK || string(b) != told(none) {
			t.Errorf("%d, %q", e, b)
		}
	}
}

func TestClone(t *testing.T) {
	for i, x := range append(unlike(), append(tokens(), badTokens()...)...) {
		c := Clone(x)
		if !alike(c, x) {
			t.Errorf("%d: another token", i)
		}
	}
}

// A Clone's caveats are its own, spare room too: nothing that is done to the one is seen in the other one.
func TestCloneHasNewMemory(t *testing.T) {
	over := api.Caveat{Third: true, Text: "over", Party: 1, ID: "o", Vault: "v"}
	for i, x := range []api.Token{full(), {Caveats: make([]api.Caveat, 1)}, {Caveats: make([]api.Caveat, 64)}, {Caveats: badCaveats()}, largest(), {Caveats: make([]api.Caveat, 1000)}, {}} {
		y := roomy(x)
		c, d := Clone(y), Clone(y)
		for j := range c.Caveats[:cap(c.Caveats)] {
			c.Caveats[:cap(c.Caveats)][j] = over
		}
		c.Tag[0]++
		if !alike(y, x) || !spared(y) || !alike(d, x) {
			t.Errorf("%d: what is done to the clone is seen", i)
		}
		for j := range y.Caveats[:cap(y.Caveats)] {
			y.Caveats[:cap(y.Caveats)][j] = over
		}
		if !alike(d, x) {
			t.Errorf("%d: what is done to the token is seen in its clone", i)
		}
		// What is put behind a clone's caveats isn't behind the token's, nor behind another clone's.
		z := roomy(x)
		e, f := Clone(z), Clone(z)
		e.Caveats = append(e.Caveats, over)
		f.Caveats = append(f.Caveats, api.Caveat{})
		if !spared(z) || e.Caveats[len(x.Caveats)] != over {
			t.Errorf("%d: a clone's spare room is another's", i)
		}
	}
}

// P1 and P2: every call answers the same again, whatever was called between.

func TestAnswersStayTheSame(t *testing.T) {
	type answer struct {
		check, encode, decode api.Errno
		bytes, again, caveat  string
		same                  bool
	}
	l := append(tokens(), badTokens()...)
	of := func(i int) answer {
		x := l[i]
		b, e := Encode(x)
		y, f := Decode(append(b, chance(uint64(i), i%2)...))
		again, _ := Encode(y)
		var c api.Caveat
		if len(x.Caveats) > 0 {
			c = x.Caveats[0]
		}
		return answer{Check(x), e, f, string(b), string(again), string(Caveat(c)), Same(x, l[i/2])}
	}
	var was []answer
	for i := range l {
		was = append(was, of(i))
	}
	for i := len(l) - 1; i >= 0; i-- {
		if of(i) != was[i] {
			t.Errorf("token %d: other answers than ahead of it", i)
		}
	}
}
