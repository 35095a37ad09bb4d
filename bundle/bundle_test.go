package bundle

import (
	"bytes"
	"encoding/binary"
	"math"
	"slices"
	"strings"
	"testing"

	"chitty/api"
	"chitty/packet"
)

// long: a text of so many bytes.
func long(many int) string { return strings.Repeat("a", many) }

// piece: a field's bytes.
func piece(kind byte, value string) string {
	return string(binary.AppendUvarint([]byte{kind}, uint64(len(value)))) + value
}

// laidOut: the bytes of a token that can be.
func laidOut(x api.Token) string {
	b, e := packet.Encode(x)
	if e != api.OK {
		panic("a token that can't be has no bytes")
	}
	return string(b)
}

// told: the bundle's bytes, as P11.2 tells them, be they too many or not; also such as break layer 11's bounds alone.
func told(b api.Bundle) string {
	var out strings.Builder
	out.WriteString(piece(16, laidOut(b.Root)))
	for _, d := range b.Discharges {
		out.WriteString(piece(17, laidOut(d)))
	}
	return out.String()
}

// alike: are all tokens the same? (Not by Same, which is tried itself.)
func alike(a, b api.Bundle) bool {
	if len(a.Discharges) != len(b.Discharges) || !packet.Same(a.Root, b.Root) {
		return false
	}
	for i, d := range a.Discharges {
		if !packet.Same(d, b.Discharges[i]) {
			return false
		}
	}
	return true
}

// copied: the same bundle, its lists in memory of their own. (Not by Clone.)
func copied(b api.Bundle) api.Bundle {
	b.Root.Caveats = append([]api.Caveat(nil), b.Root.Caveats...)
	b.Discharges = append([]api.Token(nil), b.Discharges...)
	for i := range b.Discharges {
		b.Discharges[i].Caveats = append([]api.Caveat(nil), b.Discharges[i].Caveats...)
	}
	return b
}

// root: a token with a key, and caveats of both kinds.
func root() api.Token {
	return api.Token{Key: 300, ID: "me", Caveats: []api.Caveat{{Text: "op a"}, {Third: true, Party: 5, ID: "cid", Vault: "vid"}, {}}, Tag: api.Tag{1, 2, 31: 3}}
}

// full: a bundle with three discharges, of which no two are the same.
func full() api.Bundle {
	return api.Bundle{Root: root(), Discharges: []api.Token{
		{ID: "cid", Caveats: []api.Caveat{{Text: "before 9"}, {Third: true}}, Bound: true, Tag: api.Tag{4}},
		{},
		{ID: "other", Caveats: []api.Caveat{{Third: true, Party: 1 << 40, ID: "x", Vault: "y"}}, Tag: api.Tag{31: 5}},
	}}
}

// several: so many discharges, of which no two are the same.
func several(many int) []api.Token {
	var out []api.Token
	for i := range many {
		out = append(out, api.Token{ID: long(i), Caveats: make([]api.Caveat, i%4), Bound: i%2 == 0, Tag: api.Tag{byte(i)}})
	}
	return out
}

// wide: so many caveats of 2057 bytes each.
func wide(many int) []api.Caveat {
	return slices.Repeat([]api.Caveat{{Third: true, Party: 1, ID: long(api.MaxID), Vault: long(api.MaxID)}}, many)
}

// texts: so many caveats of 515 bytes each.
func texts(many int) []api.Caveat {
	return slices.Repeat([]api.Caveat{{Text: long(api.MaxText)}}, many)
}

// sized: bundles of so many bytes, which are some 65536: most of them in the root, in a discharge, or in many.
func sized(many int) []api.Bundle {
	most := append(wide(31), texts(2)...)
	all := several(api.MaxDischarges)
	for i := range all {
		all[i].Caveats = append(texts(3), wide(1)...)
	}
	return []api.Bundle{
		padded(api.Bundle{Root: api.Token{Key: 1, Caveats: most, Tag: api.Tag{7}}}, many),
		padded(api.Bundle{Root: root(), Discharges: []api.Token{{Caveats: most}}}, many),
		padded(api.Bundle{Root: api.Token{Caveats: wide(3)}, Discharges: all}, many),
	}
}

// padded: the bundle with a Root's ID as long as it takes, so that it has so many bytes.
func padded(b api.Bundle, many int) api.Bundle {
	b.Root.ID = ""
	without := len(told(b))
	// The ID's length takes room, too, and so may the root's.
	for less := range 4 {
		b.Root.ID = long(many - without - less)
		if len(told(b)) == many {
			return b
		}
	}
	panic("no ID is as long as it takes")
}

// bundles: such as can be, and have bytes.
func bundles() []api.Bundle {
	out := []api.Bundle{{}, {Root: root()}, full(), {Discharges: []api.Token{{}}}, {Discharges: []api.Token{{Bound: true}}}}
	for _, n := range []uint64{1, 2, 127, 128, 1 << 32, 1 << 63, math.MaxUint64} {
		out = append(out, api.Bundle{Root: api.Token{Key: n}}, api.Bundle{Root: api.Token{Key: n}, Discharges: several(2)})
	}
	for many := range api.MaxDischarges + 1 {
		out = append(out,
			api.Bundle{Discharges: make([]api.Token, many)},
			api.Bundle{Root: root(), Discharges: several(many)},
			api.Bundle{Root: root(), Discharges: slices.Repeat([]api.Token{{ID: "cid", Bound: true}}, many)},
		)
	}
	// Lengths of fields of one byte, of two and of three; caveats as many as there may be.
	for _, many := range []int{1, 80, 81, 82, 83, 84, 85, 86, 87, 127, 128, 255, 256, 1023, 1024} {
		out = append(out, api.Bundle{Root: api.Token{ID: long(many)}, Discharges: []api.Token{{ID: long(many)}, {ID: long(api.MaxID - many)}}})
	}
	for _, many := range []int{7, 8, 9} {
		out = append(out, api.Bundle{Root: api.Token{Caveats: wide(many)}, Discharges: []api.Token{{Caveats: wide(many)}}})
	}
	out = append(out, api.Bundle{Root: api.Token{Caveats: make([]api.Caveat, 64)}, Discharges: []api.Token{{Caveats: make([]api.Caveat, 64)}}})
	// Texts that look like fields, or like a bundle's bytes.
	for _, s := range []string{"\x10\x00", "\x11\x00", told(full()), piece(17, laidOut(api.Token{})), "\x00", "ä€😀\xc3"} {
		x := api.Token{ID: s, Caveats: []api.Caveat{{Text: s}, {Third: true, ID: s, Vault: s}}}
		out = append(out, api.Bundle{Root: x}, api.Bundle{Root: x, Discharges: []api.Token{x, x}})
	}
	return slices.Concat(out, sized(api.MaxBundle), sized(api.MaxBundle-1))
}

// longBundles: such as can be, but have more bytes than a bundle may have.
func longBundles() []api.Bundle {
	most := api.Token{ID: long(api.MaxID), Caveats: wide(api.MaxCaveats)}
	return append(sized(api.MaxBundle+1),
		api.Bundle{Root: most},
		api.Bundle{Discharges: []api.Token{most}},
		api.Bundle{Root: api.Token{Caveats: wide(17)}, Discharges: []api.Token{{Caveats: wide(17)}}},
		api.Bundle{Root: most, Discharges: slices.Repeat([]api.Token{most}, api.MaxDischarges)},
	)
}

// unfits: tokens that can't be.
func unfits() []api.Token {
	return []api.Token{
		{ID: long(api.MaxID + 1)},
		{Caveats: make([]api.Caveat, api.MaxCaveats+1)},
		{Caveats: []api.Caveat{{Text: long(api.MaxText + 1)}}},
		{Caveats: []api.Caveat{{}, {ID: "a"}}},
		{Caveats: []api.Caveat{{Party: 1}}},
		{Caveats: []api.Caveat{{Third: true, Text: "a"}}},
		{Caveats: []api.Caveat{{Third: true}, {Third: true, Vault: long(api.MaxID + 1)}, {}}},
		{ID: long(1 << 17)},
	}
}

// places: the bundles that have the token as discharge at the first place, at the last one, and within; or as all of them.
func places(d api.Token) []api.Bundle {
	out := []api.Bundle{{Discharges: []api.Token{d}}, {Root: root(), Discharges: slices.Repeat([]api.Token{d}, api.MaxDischarges)}}
	for _, many := range []int{2, 3, api.MaxDischarges} {
		for _, at := range []int{0, many / 2, many - 1} {
			b := api.Bundle{Root: root(), Discharges: several(many)}
			b.Discharges[at] = d
			out = append(out, b)
		}
	}
	return out
}

// breakers: bundles that can't be, though all of their tokens can be.
func breakers() []api.Bundle {
	bound := root()
	bound.Bound = true
	out := []api.Bundle{{Root: api.Token{Bound: true}}, {Root: bound}, {Root: bound, Discharges: several(3)}, {Root: bound, Discharges: several(16)}}
	for _, many := range []int{17, 18, 31, 32, 33, 100, 256, 257, 272} {
		out = append(out, api.Bundle{Discharges: make([]api.Token, many)}, api.Bundle{Root: root(), Discharges: several(many)})
	}
	for _, n := range []uint64{1, 2, 300, 1 << 32, 1 << 63, math.MaxUint64} {
		out = append(out, places(api.Token{Key: n})...)
		out = append(out, places(api.Token{Key: n, ID: "cid", Bound: true, Tag: api.Tag{1}})...)
	}
	return out
}

// badBundles: bundles that can't be, by what they break themselves or by a token.
func badBundles() []api.Bundle {
	out := breakers()
	for _, x := range unfits() {
		out = append(out, api.Bundle{Root: x}, api.Bundle{Root: x, Discharges: several(3)})
		out = append(out, places(x)...)
	}
	out = append(out, api.Bundle{Discharges: make([]api.Token, 70000)})
	// What is too long, and can't be beside.
	for _, b := range longBundles() {
		x := copied(b)
		x.Root.Bound = true
		y := copied(b)
		y.Discharges = append(y.Discharges, api.Token{Key: 1})
		z := copied(b)
		z.Root.Caveats = append(z.Root.Caveats, api.Caveat{Party: 1})
		out = append(out, x, y, z)
	}
	return out
}

// TestSamples: P11.1 to P11.4 of each bundle that can be, and has bytes.
func TestSamples(t *testing.T) {
	for i, b := range bundles() {
		was := copied(b)
		if e := Check(b); e != api.OK {
			t.Errorf("Check of %d: %d", i, e)
		}
		want := told(b)
		s, e := Encode(b)
		if e != api.OK || string(s) != want {
			t.Errorf("Encode of %d: %d, %d bytes %.60q; not %d, %.60q", i, e, len(s), s, len(want), want)
		}
		some(t, "what was told", want, b)
		if c, e := Decode(s); e != api.OK || !alike(c, b) {
			t.Errorf("Decode of Encode of %d: %d", i, e)
		}
		copies(t, i, b)
		if !alike(b, was) {
			t.Errorf("bundle %d was changed", i)
		}
	}
}

// TestLongSamples: P11.1, P11.2 and P11.4 of each that can be and has more bytes than there may be; they aren't read, either.
func TestLongSamples(t *testing.T) {
	for i, b := range longBundles() {
		if e := Check(b); e != api.OK {
			t.Errorf("Check of %d: %d", i, e)
		}
		if s, e := Encode(b); e != api.ErrLong || len(s) != 0 {
			t.Errorf("Encode of %d, of %d bytes: %d, %d bytes", i, len(told(b)), e, len(s))
		}
		tooLong(t, "what was told", told(b))
		copies(t, i, b)
	}
}

// TestBadSamples: P11.1, P11.2 and P11.4 of each that can't be, be it too long, or not.
func TestBadSamples(t *testing.T) {
	for i, b := range badBundles() {
		was := copied(b)
		if e := Check(b); e != api.ErrRange {
			t.Errorf("Check of %d: %d", i, e)
		}
		if s, e := Encode(b); e != api.ErrRange || len(s) != 0 {
			t.Errorf("Encode of %d: %d, %d bytes", i, e, len(s))
		}
		copies(t, i, b)
		if !alike(b, was) {
			t.Errorf("bundle %d was changed", i)
		}
	}
}

// copies: are Of, Clone and Same right of this bundle, whether it can be or not?
func copies(t *testing.T, i int, b api.Bundle) {
	t.Helper()
	for _, c := range []api.Bundle{Clone(b), Of(b.Root, b.Discharges...), copied(b)} {
		if !alike(c, b) || !Same(b, c) || !Same(c, b) {
			t.Errorf("Clone, Of, or Same, of %d", i)
		}
	}
	if !Same(b, b) {
		t.Errorf("bundle %d is not the same as itself", i)
	}
	// One discharge more, and one less: another bundle.
	more := Of(b.Root, append(slices.Clone(b.Discharges), api.Token{})...)
	if Same(b, more) || Same(more, b) {
		t.Errorf("bundle %d is the same with one discharge more", i)
	}
	if last := len(b.Discharges) - 1; last >= 0 {
		less := Of(b.Root, b.Discharges[:last]...)
		if Same(b, less) || Same(less, b) {
			t.Errorf("bundle %d is the same with one discharge less", i)
		}
	}
}

// P11.1

func TestCheckAtTheEdges(t *testing.T) {
	check := func(what string, want api.Errno, b api.Bundle) {
		t.Helper()
		if e := Check(b); e != want {
			t.Errorf("%s: %d, not %d", what, e, want)
		}
		if s, e := Encode(b); e != want || (len(s) > 0) != (want == api.OK) {
			t.Errorf("Encode, %s: %d, %d bytes", what, e, len(s))
		}
	}
	check("a zero one", api.OK, api.Bundle{})
	check("no discharges", api.OK, api.Bundle{Root: root()})
	check("an empty list of them", api.OK, api.Bundle{Root: root(), Discharges: []api.Token{}})
	check("16 discharges", api.OK, api.Bundle{Root: root(), Discharges: several(16)})
	check("16 discharges, with room for more", api.OK, api.Bundle{Root: root(), Discharges: several(20)[:16]})
	check("16 discharges that are the same", api.OK, api.Bundle{Discharges: make([]api.Token, 16)})
	check("17 discharges", api.ErrRange, api.Bundle{Root: root(), Discharges: several(17)})
	check("17 discharges that are the same", api.ErrRange, api.Bundle{Discharges: make([]api.Token, 17)})
	check("a bound root", api.ErrRange, api.Bundle{Root: api.Token{Bound: true}})
	check("a root with key 1", api.OK, api.Bundle{Root: api.Token{Key: 1}})
	check("a root with the greatest key", api.OK, api.Bundle{Root: api.Token{Key: math.MaxUint64}})
	check("a discharge with key 0", api.OK, api.Bundle{Root: root(), Discharges: []api.Token{{Key: 0}}})
	check("a discharge with key 1", api.ErrRange, api.Bundle{Root: root(), Discharges: []api.Token{{Key: 1}}})
	check("a discharge with the root's key", api.ErrRange, api.Bundle{Root: root(), Discharges: []api.Token{{Key: root().Key}}})
	check("a discharge with the greatest key", api.ErrRange, api.Bundle{Root: root(), Discharges: []api.Token{{Key: math.MaxUint64}}})
	check("a bound discharge", api.OK, api.Bundle{Root: root(), Discharges: []api.Token{{Bound: true}}})
	check("bound discharges alone", api.OK, api.Bundle{Root: root(), Discharges: slices.Repeat([]api.Token{{Bound: true}}, 16)})
	check("a bound root, and a bound discharge", api.ErrRange, api.Bundle{Root: api.Token{Bound: true}, Discharges: []api.Token{{Bound: true}}})
	check("an ID of 1024 as root's and as a discharge's", api.OK, api.Bundle{Root: api.Token{ID: long(1024)}, Discharges: []api.Token{{ID: long(1024)}}})
	check("an ID of 1025 as root's", api.ErrRange, api.Bundle{Root: api.Token{ID: long(1025)}})
	check("an ID of 1025 as a discharge's", api.ErrRange, api.Bundle{Discharges: []api.Token{{ID: long(1025)}}})
	for _, x := range unfits() {
		for _, b := range append(places(x), api.Bundle{Root: x}) {
			check("a token that can't be", api.ErrRange, b)
		}
	}
}

// What is in the spare room of a list of discharges is none of them.
func TestSpareRoomIsNotLookedAt(t *testing.T) {
	b := api.Bundle{Root: root(), Discharges: append(several(4), api.Token{Key: 1}, api.Token{ID: long(1025)})[:4]}
	want := api.Bundle{Root: root(), Discharges: several(4)}
	if s, e := Encode(b); Check(b) != api.OK || e != api.OK || string(s) != told(want) || !Same(b, want) || !alike(Clone(b), want) {
		t.Errorf("%d, %d", Check(b), e)
	}
}

func TestOf(t *testing.T) {
	l := several(40)
	for many := range l {
		b := Of(root(), l[:many]...)
		if !alike(b, api.Bundle{Root: root(), Discharges: l[:many]}) {
			t.Errorf("%d discharges: others", many)
		}
	}
	if b := Of(api.Token{}); !alike(b, api.Bundle{}) {
		t.Error("of a zero token: not a zero bundle")
	}
	// In the order in which they come, the same one as often as it does.
	x, y := api.Token{ID: "x"}, api.Token{ID: "y", Bound: true}
	if b := Of(y, y, x, x, y); !alike(b, api.Bundle{Root: y, Discharges: []api.Token{y, x, x, y}}) {
		t.Error("another order")
	}
	// Whether it can be, or not.
	for _, x := range append(unfits(), api.Token{Bound: true}, api.Token{Key: 5}) {
		if b := Of(x, x, x); !alike(b, api.Bundle{Root: x, Discharges: []api.Token{x, x}}) {
			t.Error("of a token that can't be: another bundle")
		}
	}
}

// P11.2

func TestExample(t *testing.T) {
	s, e := Encode(api.Bundle{})
	want := "\x10\x2a" + "\x01\x01\x00" + "\x02\x00" + "\x07\x01\x00" + "\x08\x20" + strings.Repeat("\x00", 32)
	if e != api.OK || string(s) != want || len(s) != 44 {
		t.Errorf("%d, %q", e, s)
	}
	some(t, "the example", want, api.Bundle{})
}

func TestEncode(t *testing.T) {
	zeros := strings.Repeat("\x00", 31)
	b := api.Bundle{
		Root: api.Token{Key: 3, ID: "r", Caveats: []api.Caveat{{Text: "op a"}}, Tag: api.Tag{9}},
		Discharges: []api.Token{
			{ID: "z", Bound: true, Tag: api.Tag{8}},
			{ID: "", Caveats: []api.Caveat{{Third: true, Party: 1, ID: "i", Vault: "v"}}},
			{ID: "a", Tag: api.Tag{7}},
		},
	}
	want := "\x10\x31" + "\x01\x01\x03" + "\x02\x01r" + "\x03\x04op a" + "\x07\x01\x00" + "\x08\x20\x09" + zeros +
		"\x11\x2b" + "\x01\x01\x00" + "\x02\x01z" + "\x07\x01\x01" + "\x08\x20\x08" + zeros +
		"\x11\x33" + "\x01\x01\x00" + "\x02\x00" + "\x04\x01\x01\x05\x01i\x06\x01v" + "\x07\x01\x00" + "\x08\x20\x00" + zeros +
		"\x11\x2b" + "\x01\x01\x00" + "\x02\x01a" + "\x07\x01\x00" + "\x08\x20\x07" + zeros
	if s, e := Encode(b); e != api.OK || string(s) != want {
		t.Errorf("%d, %q", e, s)
	}
	some(t, "as it is written out", want, b)
}

// TestEncodeAtTheLastByte: 65536 bytes fit, and 65537 don't; what can't be is told first.
func TestEncodeAtTheLastByte(t *testing.T) {
	for i := range sized(api.MaxBundle) {
		for many := 65530; many <= 65543; many++ {
			b := sized(many)[i]
			s, e := Encode(b)
			if many <= 65536 && (e != api.OK || len(s) != many || string(s) != told(b)) {
				t.Errorf("bundle %d of %d bytes: %d, %d bytes", i, many, e, len(s))
			}
			if many > 65536 && (e != api.ErrLong || len(s) != 0) {
				t.Errorf("bundle %d of %d bytes: %d, %d bytes", i, many, e, len(s))
			}
			b.Root.Bound = true
			if s, e := Encode(b); e != api.ErrRange || len(s) != 0 {
				t.Errorf("bundle %d of %d bytes, that can't be: %d, %d bytes", i, many, e, len(s))
			}
		}
	}
}

// Unlike bundles have unlike bytes.
func TestEncodeTellsBundlesApart(t *testing.T) {
	seen := map[string]int{}
	for i, b := range unlike() {
		s, e := Encode(b)
		if e != api.OK {
			continue
		}
		if j, ok := seen[string(s)]; ok {
			t.Errorf("%d and %d have the same bytes", i, j)
		}
		seen[string(s)] = i
	}
	if len(seen) < 100 {
		t.Errorf("%d bundles have bytes: too few to tell", len(seen))
	}
}

// spoil: all bytes that a row has room for are written over.
func spoil(b []byte) {
	b = b[:cap(b)]
	for i := range b {
		b[i] ^= 255
	}
}

func TestEncodeHasNewMemory(t *testing.T) {
	for i, b := range append([]api.Bundle{{}, {Root: root()}, full()}, sized(api.MaxBundle)...) {
		one, _ := Encode(b)
		two, _ := Encode(b)
		spoil(one)
		three, _ := Encode(b)
		if string(two) != told(b) || string(three) != told(b) {
			t.Errorf("%d: two answers share memory", i)
		}
	}
}

// P11.3

// refused: does Decode answer this error, and a zero bundle?
func refused(t *testing.T, want api.Errno, what, s string) {
	t.Helper()
	in := []byte(s)
	if b, e := Decode(in); e != want || !alike(b, api.Bundle{}) {
		t.Errorf("%s: %d bytes %.60q: %d, %d discharges; not %d", what, len(s), s, e, len(b.Discharges), want)
	}
	if string(in) != s {
		t.Errorf("%s: the bytes were changed", what)
	}
}

// none: does Decode tell that these are no bundle's bytes?
func none(t *testing.T, what, s string) { t.Helper(); refused(t, api.ErrForm, what, s) }

// tooLong: does Decode tell that these are too many bytes?
func tooLong(t *testing.T, what, s string) { t.Helper(); refused(t, api.ErrLong, what, s) }

// some: does Decode tell this bundle, and does Encode make these very bytes of it?
func some(t *testing.T, what, s string, b api.Bundle) {
	t.Helper()
	in := []byte(s)
	c, e := Decode(in)
	if e != api.OK || !alike(b, c) {
		t.Errorf("%s: %d bytes %.60q: %d, %d discharges", what, len(s), s, e, len(c.Discharges))
	}
	if again, e := Encode(c); e != api.OK || string(again) != s {
		t.Errorf("%s: %d, other bytes than were read", what, e)
	}
	if string(in) != s {
		t.Errorf("%s: the bytes were changed", what)
	}
}

// sound: if Decode tells a bundle, it can be, and these are its bytes; else it tells a zero one and ErrForm.
func sound(t *testing.T, s string) bool {
	t.Helper()
	b, e := Decode([]byte(s))
	switch {
	case e == api.OK && Check(b) == api.OK && told(b) == s:
		return true
	case e == api.ErrForm && alike(b, api.Bundle{}):
		return false
	}
	t.Errorf("%d bytes %.60q: %d", len(s), s, e)
	return false
}

func TestWrongRows(t *testing.T) {
	d := []api.Token{{ID: "d", Bound: true, Tag: api.Tag{8}}, {ID: "e"}}
	r, one, two := piece(16, laidOut(root())), piece(17, laidOut(d[0])), piece(17, laidOut(d[1]))
	some(t, "a root alone", r, api.Bundle{Root: root()})
	some(t, "a root, and a discharge", r+one, api.Bundle{Root: root(), Discharges: d[:1]})
	some(t, "a root, and two discharges", r+one+two, api.Bundle{Root: root(), Discharges: d})
	some(t, "the discharges changed over", r+two+one, api.Bundle{Root: root(), Discharges: []api.Token{d[1], d[0]}})
	some(t, "a discharge twice", r+one+one, api.Bundle{Root: root(), Discharges: []api.Token{d[0], d[0]}})
	none(t, "no bytes", "")
	none(t, "a discharge alone", one)
	none(t, "discharges alone", one+two)
	none(t, "the root behind", one+r)
	none(t, "the root at the end", one+two+r)
	none(t, "the root between", one+r+two)
	none(t, "two roots", r+r)
	none(t, "two roots, and a discharge", r+r+one)
	none(t, "two roots, a discharge between", r+one+r)
	none(t, "two roots at the ends", r+one+two+r)
	none(t, "two bundles", r+one+r+one)
	none(t, "a token's bytes", laidOut(root()))
	none(t, "a token's bytes behind", r+laidOut(d[0]))
	none(t, "a bundle in a root", piece(16, r+one))
	none(t, "a bundle in a discharge", r+piece(17, r))
}

func TestWrongKinds(t *testing.T) {
	zero := laidOut(api.Token{})
	d := piece(17, zero)
	r := piece(16, zero)
	for kind := range 256 {
		p := piece(byte(kind), zero)
		if kind == 16 {
			some(t, "kind 16 first", p+d, api.Bundle{Discharges: make([]api.Token, 1)})
		} else {
			none(t, "another kind alone", p)
			none(t, "another kind first", p+d)
			none(t, "another kind ahead", p+r)
		}
		if kind == 17 {
			some(t, "kind 17 behind", r+p+d, api.Bundle{Discharges: make([]api.Token, 2)})
			continue
		}
		none(t, "another kind behind", r+p)
		none(t, "another kind at the end", r+d+p)
		none(t, "another kind between", r+p+d)
		for _, v := range []string{"", "\x00", "\x11"} {
			none(t, "another kind at the end", r+d+piece(byte(kind), v))
			none(t, "another kind ahead", piece(byte(kind), v)+r+d)
		}
	}
}

// wrongValues: what is no token's bytes.
func wrongValues() []string {
	zero, whole := laidOut(api.Token{}), laidOut(root())
	out := []string{"", "\x00", "\x10", "\x11", zero + "\x00", "\x00" + zero, zero + zero, zero[1:], whole[1:], whole + zero, strings.Repeat("\x00", 42), strings.Repeat("\xff", 42)}
	for i := range len(whole) {
		out = append(out, whole[:i])
	}
	// Laid as tokens are, but of what can't be, or not in as few bytes as it takes.
	tag := "\x07\x01\x00\x08\x20" + strings.Repeat("\x00", 32)
	return append(out,
		"\x01\x01\x00"+piece(2, long(1025))+tag,
		"\x01\x01\x00\x02\x00"+piece(3, long(513))+tag,
		"\x01\x01\x00\x02\x00"+strings.Repeat("\x03\x00", 65)+tag,
		"\x01\x02\x80\x00\x02\x00"+tag,
		"\x01\x81\x00\x00\x02\x00"+tag,
		"\x02\x00\x01\x01\x00"+tag,
		"\x01\x01\x00\x02\x00\x07\x01\x02"+tag[3:],
	)
}

func TestWrongValues(t *testing.T) {
	zero := piece(17, laidOut(api.Token{}))
	r := piece(16, laidOut(root()))
	for _, v := range wrongValues() {
		none(t, "a root's", piece(16, v))
		none(t, "a root's, with a discharge", piece(16, v)+zero)
		none(t, "a discharge's", r+piece(17, v))
		none(t, "the first discharge's", r+piece(17, v)+zero+zero)
		none(t, "the second discharge's", r+zero+piece(17, v)+zero)
		none(t, "the last discharge's", r+zero+zero+piece(17, v))
		none(t, "the 16th discharge's", r+strings.Repeat(zero, 15)+piece(17, v))
	}
}

// TestWrongBundles: what can't be, though its tokens can, has no bytes that are read.
func TestWrongBundles(t *testing.T) {
	for _, b := range breakers() {
		if s := told(b); len(s) <= api.MaxBundle {
			none(t, "it can't be", s)
		}
	}
	r := piece(16, laidOut(root()))
	one := piece(17, laidOut(api.Token{}))
	some(t, "16 discharges", r+strings.Repeat(one, 16), api.Bundle{Root: root(), Discharges: make([]api.Token, 16)})
	for _, many := range []int{17, 18, 32, 33, 256, 272, 1400} {
		none(t, "more than 16 discharges", r+strings.Repeat(one, many))
	}
	none(t, "16 discharges, and an empty one", r+strings.Repeat(one, 16)+"\x11\x00")
}

// TestRowsOfPieces: of all rows of such fields those are a bundle's that begin with a root and go on with discharges.
func TestRowsOfPieces(t *testing.T) {
	bound, keyed, plain := api.Token{ID: "b", Bound: true}, api.Token{Key: 1, ID: "k"}, api.Token{ID: "p"}
	pieces := []struct {
		bytes          string
		token          api.Token
		first, further bool
	}{
		{piece(16, laidOut(plain)), plain, true, false},
		{piece(16, laidOut(keyed)), keyed, true, false},
		{piece(16, laidOut(bound)), bound, false, false},
		{piece(17, laidOut(plain)), plain, false, true},
		{piece(17, laidOut(bound)), bound, false, true},
		{piece(17, laidOut(keyed)), keyed, false, false},
		{piece(18, laidOut(plain)), plain, false, false},
		{piece(17, ""), plain, false, false},
		{piece(16, ""), plain, false, false},
		{piece(0, ""), plain, false, false},
	}
	found := 0
	var rows func(s string, b api.Bundle, ok bool, more int)
	rows = func(s string, b api.Bundle, ok bool, more int) {
		if ok && s != "" {
			found++
			some(t, "a row", s, b)
		} else {
			none(t, "a row", s)
		}
		if more == 0 {
			return
		}
		for _, p := range pieces {
			if s == "" {
				rows(p.bytes, api.Bundle{Root: p.token}, p.first, more-1)
				continue
			}
			c := api.Bundle{Root: b.Root, Discharges: append(slices.Clone(b.Discharges), p.token)}
			rows(s+p.bytes, c, ok && p.further, more-1)
		}
	}
	rows("", api.Bundle{}, true, 4)
	if found != 2*(1+2+4+8) {
		t.Errorf("%d rows are a bundle's, not 30", found)
	}
}

// TestBytesCutAndMore: the only beginnings of a bundle's bytes that are a bundle's end with one of its tokens.
func TestBytesCutAndMore(t *testing.T) {
	for _, b := range []api.Bundle{{}, full(), {Root: root(), Discharges: several(16)}} {
		whole := told(b)
		ends := map[int]int{}
		for many := range len(b.Discharges) + 1 {
			ends[len(told(api.Bundle{Root: b.Root, Discharges: b.Discharges[:many]}))] = many
		}
		for i := range len(whole) {
			if many, ok := ends[i]; ok {
				some(t, "cut at a token's end", whole[:i], api.Bundle{Root: b.Root, Discharges: b.Discharges[:many]})
			} else {
				none(t, "cut", whole[:i])
			}
			if i > 0 {
				none(t, "without its front", whole[i:])
			}
		}
		none(t, "the last byte cut", whole[:len(whole)-1])
		for more := range 256 {
			none(t, "a byte more", whole+string([]byte{byte(more)}))
			none(t, "a byte ahead", string([]byte{byte(more)})+whole)
		}
		none(t, "many more", whole+strings.Repeat("\x00", 1000))
		// What there is room for isn't looked at.
		room := append([]byte(whole), "\x11\x00"...)
		if c, e := Decode(room[:len(whole)]); e != api.OK || !alike(b, c) {
			t.Errorf("with spare room: %d", e)
		}
		if c, e := Decode(room[:len(whole)-1]); e != api.ErrForm || !alike(c, api.Bundle{}) {
			t.Errorf("the last byte in the spare room: %d", e)
		}
	}
}

// TestChangedBytes: with one byte changed, left out or put in, the bytes are those of what is told, or none's.
func TestChangedBytes(t *testing.T) {
	whole := told(full())
	found := 0
	for i := range len(whole) {
		sound(t, whole[:i]+whole[i+1:])
		for y := range 256 {
			c := string([]byte{byte(y)})
			if sound(t, whole[:i]+c+whole[i+1:]) {
				found++
			}
			sound(t, whole[:i]+c+whole[i:])
		}
	}
	if found < 4*32*256 {
		t.Errorf("%d rows are a bundle's: those of other tags are, at least", found)
	}
}

// A length that isn't in as few bytes as it needs, or that is more than there is, is no field's.
func TestWrongLengths(t *testing.T) {
	zero := laidOut(api.Token{})
	r := piece(16, zero)
	none(t, "a root's length", "\x10\xaa\x00"+zero)
	none(t, "a root's length", "\x10\xaa\x80\x00"+zero)
	none(t, "a discharge's length", r+"\x11\xaa\x00"+zero)
	none(t, "a root's length, one more", "\x10\x2b"+zero)
	none(t, "a root's length, one less", "\x10\x29"+zero)
	none(t, "a discharge's length, one more", r+"\x11\x2b"+zero)
	none(t, "a discharge's length, one less", r+"\x11\x29"+zero)
	for _, n := range []uint64{1000, 1 << 31, 1 << 32, 1<<63 - 1, 1 << 63, math.MaxUint64} {
		none(t, "a root's length", string(binary.AppendUvarint([]byte{16}, n))+zero)
		none(t, "a discharge's length", r+string(binary.AppendUvarint([]byte{17}, n))+zero)
	}
}

// TestManyBytes: 65536 are looked at, whatever they are; more aren't.
func TestManyBytes(t *testing.T) {
	r, d := piece(16, laidOut(root())), piece(17, laidOut(api.Token{}))
	for _, s := range []string{"\x00", "\xff", "\x10", "\x11", "\x80", "\x01", "\x10\x00", "\x11\x00", d, r} {
		s = strings.Repeat(s, 1<<18/len(s))
		none(t, "65536 bytes", s[:65536])
		none(t, "65535 bytes", s[:65535])
		none(t, "a root, and 65536 bytes in all", (r + s)[:65536])
		tooLong(t, "65537 bytes", s[:65537])
		tooLong(t, "a root, and 65537 bytes in all", (r + s)[:65537])
		tooLong(t, "a root, sixteen discharges, and more", r+strings.Repeat(d, 16)+s)
		tooLong(t, "many bytes", s)
		tooLong(t, "very many bytes", strings.Repeat(s, 8))
	}
	for _, b := range sized(api.MaxBundle) {
		whole := told(b)
		some(t, "65536 bytes that are a bundle's", whole, b)
		none(t, "the last of them cut", whole[:65535])
		tooLong(t, "a byte more", whole+"\x11")
		tooLong(t, "a discharge more", whole+d)
		tooLong(t, "a byte ahead", "\x10"+whole)
	}
	for _, b := range sized(api.MaxBundle + 1) {
		tooLong(t, "65537 bytes that would be a bundle's", told(b))
		none(t, "the first 65536 of them", told(b)[:65536])
	}
}

// What was told stays, whatever becomes of the bytes, or of another answer.
func TestDecodeHasNewMemory(t *testing.T) {
	for i, b := range append([]api.Bundle{{}, full(), {Root: root(), Discharges: several(16)}}, sized(api.MaxBundle)...) {
		s := []byte(told(b))
		one, _ := Decode(s)
		two, _ := Decode(s)
		spoil(s)
		if !alike(one, b) || !alike(two, b) {
			t.Errorf("%d: the bytes were kept", i)
		}
		apart(t, i, one)
		overwrite(one)
		three, _ := Decode([]byte(told(b)))
		if !alike(two, b) || !alike(three, b) {
			t.Errorf("%d: two answers share memory", i)
		}
	}
}

// overwrite: all that a bundle's lists have room for is written over.
func overwrite(b api.Bundle) {
	over := func(l []api.Caveat) {
		l = l[:cap(l)]
		for i := range l {
			l[i] = api.Caveat{Third: true, Text: "over", Party: 1, ID: "o", Vault: "v"}
		}
	}
	over(b.Root.Caveats)
	l := b.Discharges[:cap(b.Discharges)]
	for i := range l {
		over(l[i].Caveats)
		l[i] = api.Token{Key: 77, ID: "over"}
	}
}

// apart: has each list of a bundle memory of its own, spare room too? (What is written to one is seen in none of the others.)
func apart(t *testing.T, i int, b api.Bundle) {
	t.Helper()
	was := copied(b)
	lists := []*[]api.Caveat{&b.Root.Caveats}
	wants := [][]api.Caveat{was.Root.Caveats}
	for j := range b.Discharges {
		lists = append(lists, &b.Discharges[j].Caveats)
		wants = append(wants, was.Discharges[j].Caveats)
	}
	for j, l := range lists {
		room := (*l)[:cap(*l)]
		kept := slices.Clone(room)
		for k := range room {
			room[k] = api.Caveat{Text: "over"}
		}
		for k, m := range lists {
			if k != j && !slices.Equal(*m, wants[k]) {
				t.Errorf("%d: lists %d and %d share memory", i, j, k)
			}
		}
		copy(room, kept)
	}
}

// P11.4

// unlike: bundles of which each is another one than all others; most differ from the first one in one field of one token alone.
func unlike() []api.Bundle {
	out := []api.Bundle{full()}
	change := func(f func(b *api.Bundle)) {
		b := full()
		f(&b)
		out = append(out, b)
	}
	for at := -1; at < len(full().Discharges); at++ {
		token := func(f func(x *api.Token)) {
			change(func(b *api.Bundle) {
				if at < 0 {
					f(&b.Root)
				} else {
					f(&b.Discharges[at])
				}
			})
		}
		for _, n := range []uint64{7, 301, 300 + 1<<32, math.MaxUint64} {
			token(func(x *api.Token) { x.Key = n })
		}
		for _, s := range []string{"c", "ci", "cie", "cid\x00", "\x00cid", "CID"} {
			token(func(x *api.Token) { x.ID = s })
		}
		token(func(x *api.Token) { x.Bound = !x.Bound })
		for i := range api.Size {
			token(func(x *api.Token) { x.Tag[i] ^= 1 << (i % 8) })
		}
		token(func(x *api.Token) { x.Caveats = append(x.Caveats, api.Caveat{}) })
		token(func(x *api.Token) { x.Caveats = append(x.Caveats, api.Caveat{Third: true}) })
		token(func(x *api.Token) { x.Caveats = append([]api.Caveat{{Text: "ahead"}}, x.Caveats...) })
		if at == 1 {
			continue
		}
		token(func(x *api.Token) { x.Caveats = nil })
		last := len(full().Root.Caveats) - 1
		if at >= 0 {
			last = len(full().Discharges[at].Caveats) - 1
		}
		token(func(x *api.Token) { x.Caveats[last] = api.Caveat{Text: "another"} })
		token(func(x *api.Token) { x.Caveats[last] = api.Caveat{Third: true, Party: 2} })
		token(func(x *api.Token) { x.Caveats[last] = api.Caveat{Third: true, ID: "x"} })
		token(func(x *api.Token) { x.Caveats[last] = api.Caveat{Third: true, Vault: "y"} })
	}
	// The discharges' order, and how many there are.
	for _, order := range [][]int{{}, {0}, {1}, {2}, {0, 1}, {0, 2}, {1, 2}, {1, 0}, {2, 1}, {0, 2, 1}, {1, 0, 2}, {1, 2, 0}, {2, 0, 1}, {2, 1, 0}, {0, 0, 1, 2}, {0, 1, 1, 2}, {0, 1, 2, 1}, {0, 1, 2, 2}, {0, 1, 2, 0, 1, 2}, {1, 0, 1, 2}} {
		change(func(b *api.Bundle) {
			l := b.Discharges
			b.Discharges = nil
			for _, i := range order {
				b.Discharges = append(b.Discharges, l[i])
			}
		})
	}
	change(func(b *api.Bundle) { b.Discharges = append(b.Discharges, b.Root) })
	change(func(b *api.Bundle) { b.Root, b.Discharges[0] = b.Discharges[0], b.Root })
	return append(out, api.Bundle{}, api.Bundle{Discharges: make([]api.Token, 1)}, api.Bundle{Discharges: make([]api.Token, 2)}, api.Bundle{Discharges: make([]api.Token, 40)})
}

func TestSame(t *testing.T) {
	l := unlike()
	for i, a := range l {
		for j, b := range l {
			if got := Same(a, copied(b)); got != (i == j) {
				t.Errorf("%d and %d: %t", i, j, got)
			}
		}
	}
}

// Of bundles that can't be, too, each discharge is held against the other one's, wherever it is.
func TestSameOfManyDischarges(t *testing.T) {
	for _, many := range []int{1, 2, 16, 17, 40} {
		x := api.Bundle{Root: root(), Discharges: several(many)}
		for at := range many {
			for _, f := range []func(d *api.Token){
				func(d *api.Token) { d.Key++ },
				func(d *api.Token) { d.ID += "b" },
				func(d *api.Token) { d.Caveats = append(d.Caveats, api.Caveat{Text: long(600)}) },
				func(d *api.Token) { d.Bound = !d.Bound },
				func(d *api.Token) { d.Tag[31]++ },
			} {
				y := copied(x)
				f(&y.Discharges[at])
				if Same(x, y) || Same(y, x) {
					t.Errorf("%d discharges, another at %d: the same", many, at)
				}
			}
		}
	}
	// The list's length counts, even if what is more of it is zero.
	for many := range 20 {
		for more := range 20 {
			if Same(api.Bundle{Discharges: make([]api.Token, many)}, api.Bundle{Discharges: make([]api.Token, more)}) != (many == more) {
				t.Errorf("%d and %d discharges", many, more)
			}
		}
	}
}

// A list is nil or empty: the two are one.
func TestNilAndEmpty(t *testing.T) {
	lists := [][]api.Token{nil, {}, make([]api.Token, 0, 9)}
	for _, l := range lists {
		for _, m := range lists {
			a, b := api.Bundle{Root: root(), Discharges: l}, api.Bundle{Root: root(), Discharges: m}
			if !Same(a, b) || !Same(a, Clone(b)) || !Same(a, Of(root(), m...)) {
				t.Error("not the same")
			}
		}
		if s, e := Encode(api.Bundle{Root: root(), Discharges: l}); e != api.OK || string(s) != piece(16, laidOut(root())) {
			t.Errorf("%d, %q", e, s)
		}
	}
	if !Same(api.Bundle{Root: api.Token{Caveats: []api.Caveat{}}}, api.Bundle{}) {
		t.Error("empty caveats: not the same")
	}
}

// roomy: the bundle, with something more in the spare room of each of its lists.
func roomy(b api.Bundle) api.Bundle {
	more := func(l []api.Caveat) []api.Caveat {
		return append(slices.Clone(l), api.Caveat{Text: "spare"})[:len(l)]
	}
	b = copied(b)
	b.Root.Caveats = more(b.Root.Caveats)
	for i := range b.Discharges {
		b.Discharges[i].Caveats = more(b.Discharges[i].Caveats)
	}
	b.Discharges = append(b.Discharges, api.Token{ID: "spare"})[:len(b.Discharges)]
	return b
}

// spared: is the spare room of roomy as it was?
func spared(b api.Bundle) bool {
	kept := func(l []api.Caveat) bool { return l[:len(l)+1][len(l)] == api.Caveat{Text: "spare"} }
	for _, d := range b.Discharges {
		if !kept(d.Caveats) {
			return false
		}
	}
	many := len(b.Discharges)
	return kept(b.Root.Caveats) && packet.Same(b.Discharges[:many+1][many], api.Token{ID: "spare"})
}

// roomySamples: bundles with which memory is tried.
func roomySamples() []api.Bundle {
	twice := api.Token{ID: "twice", Caveats: make([]api.Caveat, 3)}
	return append(longBundles(),
		api.Bundle{}, full(),
		api.Bundle{Root: root(), Discharges: several(16)},
		api.Bundle{Root: root(), Discharges: several(40)},
		api.Bundle{Root: twice, Discharges: []api.Token{twice, twice}},
		api.Bundle{Root: api.Token{Bound: true, Caveats: make([]api.Caveat, 100)}, Discharges: unfits()},
	)
}

// No call changes a bundle, its spare room included, nor looks there, nor keeps what it was handed.
func TestBundlesStayAsTheyWere(t *testing.T) {
	for i, b := range roomySamples() {
		c := roomy(b)
		e := Check(c)
		s, f := Encode(c)
		was, g := Encode(b)
		d, o := Clone(c), Of(c.Root, c.Discharges...)
		same := Same(c, b) && Same(b, c) && Same(c, d) && Same(c, o)
		if e != Check(b) || f != g || !bytes.Equal(s, was) || !same || !alike(d, b) || !alike(o, b) {
			t.Errorf("bundle %d, with room: other answers than without", i)
		}
		if !alike(c, b) || !spared(c) {
			t.Errorf("bundle %d was changed, or its spare room", i)
		}
		overwrite(c)
		if !alike(d, b) || !alike(o, b) || !bytes.Equal(s, was) {
			t.Errorf("bundle %d was kept", i)
		}
	}
}

// The lists of what Clone and Of answer are their own, spare room too, and no two of them share any.
func TestCopiesHaveNewMemory(t *testing.T) {
	for _, copyOf := range []func(b api.Bundle) api.Bundle{
		Clone,
		func(b api.Bundle) api.Bundle { return Of(b.Root, b.Discharges...) },
	} {
		for i, b := range roomySamples() {
			c := roomy(b)
			one, two := copyOf(c), copyOf(c)
			apart(t, i, one)
			overwrite(one)
			if !alike(c, b) || !spared(c) || !alike(two, b) {
				t.Errorf("%d: what is done to the copy is seen", i)
			}
			// What is put behind a copy's lists isn't behind those it was made of.
			two.Discharges = append(two.Discharges, api.Token{ID: "over"})
			two.Root.Caveats = append(two.Root.Caveats, api.Caveat{Text: "over"})
			for j := range c.Discharges {
				two.Discharges[j].Caveats = append(two.Discharges[j].Caveats, api.Caveat{Text: "over"})
			}
			if !alike(c, b) || !spared(c) {
				t.Errorf("%d: a copy's spare room is another's", i)
			}
		}
	}
	// One token handed in twice, or more: its caveats are in memory of their own each time.
	x := api.Token{ID: "x", Caveats: []api.Caveat{{Text: "a"}, {Text: "b"}}}
	b := Of(x, x, x)
	apart(t, -1, b)
	b.Root.Caveats[0].Text = "over"
	b.Discharges[0].Caveats[1].Text = "over"
	if !alike(api.Bundle{Root: x}, api.Bundle{Root: api.Token{ID: "x", Caveats: []api.Caveat{{Text: "a"}, {Text: "b"}}}}) || !packet.Same(b.Discharges[1], x) {
		t.Error("a token that is handed in twice shares its caveats")
	}
}

// P1 and P2: every call answers the same again, whatever was called between.

func TestAnswersStayTheSame(t *testing.T) {
	type answer struct {
		check, encode, decode api.Errno
		bytes, again          string
		same                  bool
	}
	l := slices.Concat(bundles(), longBundles(), badBundles())
	of := func(i int) answer {
		b := l[i]
		s, e := Encode(b)
		c, f := Decode(append(s, make([]byte, i%2)...))
		again, _ := Encode(c)
		return answer{Check(b), e, f, string(s), string(again), Same(b, l[i/2])}
	}
	var was []answer
	for i := range l {
		was = append(was, of(i))
	}
	for i := len(l) - 1; i >= 0; i-- {
		if of(i) != was[i] {
			t.Errorf("bundle %d: other answers than ahead of it", i)
		}
	}
}
