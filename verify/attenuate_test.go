package verify

import (
	"fmt"
	"math"
	"slices"
	"testing"

	"chitty/addr"
	"chitty/api"
	"chitty/bundle"
	"chitty/grant"
)

// P22.4

// size: how many bytes a bundle has.
func size(b api.Bundle) int {
	many := 0
	for i, x := range all(b) {
		s := piece(1, few(x.Key)) + piece(2, x.ID)
		for _, c := range x.Caveats {
			s += pieces(c)
		}
		s += piece(7, "0") + piece(8, string(x.Tag[:]))
		many += len(piece([]byte{16, 17}[min(i, 1)], s))
	}
	return many
}

// toldAttenuate: the answer of Attenuate that P22.4 tells; whether the text is a predicate's is told.
func toldAttenuate(b api.Bundle, text string, good bool) (api.Bundle, api.Errno) {
	isBound := func(d api.Token) bool { return d.Bound }
	out := copiedAll(b)
	out.Root = with(out.Root, text)
	switch {
	case !bundleCan(b):
		return api.Bundle{}, 1
	case slices.ContainsFunc(b.Discharges, isBound):
		return api.Bundle{}, 6
	case !good:
		return api.Bundle{}, 2
	case len(b.Root.Caveats) == 64:
		return api.Bundle{}, 1
	case size(out) > 65536:
		return api.Bundle{}, 3
	}
	return out, 0
}

// attenuates: is Attenuate what P22.4 tells, with that error, and the bundle as it was?
func attenuates(t *testing.T, why string, b api.Bundle, text string, good bool, want api.Errno) api.Bundle {
	t.Helper()
	was := copiedAll(b)
	should, e := toldAttenuate(b, text, good)
	got, f := Attenuate(b, text)
	if e != want {
		t.Errorf("%s, %.30q: the document tells %d, not %d", why, text, e, want)
	}
	if f != want || !allAlike(got, should) {
		t.Errorf("%s, %.30q: %d, not %d; %s, not %s", why, text, f, want, briefAll(got), briefAll(should))
	}
	if f != api.OK && !allAlike(got, api.Bundle{}) {
		t.Errorf("%s, %.30q: beside the error %d: %s", why, text, f, briefAll(got))
	}
	if !allAlike(b, was) {
		t.Errorf("%s, %.30q: changed", why, text)
	}
	return got
}

// predicates: all texts of the tests that are predicates'.
func predicates() []string { return append(holding(), failing()...) }

func TestAttenuate(t *testing.T) {
	for i, b := range []api.Bundle{
		of(root()), of(root("op read")), of(root("op read", 1), proof(1)), of(root(1)), of(root(1), proof(2, 3)), wide(16), deep(16), {},
		of(root("no such thing")), of(api.Token{Key: math.MaxUint64, ID: long(1024), Tag: tagOf(3)}), of(root(), proof(1), proof(1)), of(root(repeated(63)...)), of(root(1), proof(1, repeated(64)...)),
	} {
		why := fmt.Sprint("bundle ", i)
		for _, s := range predicates() {
			x := attenuates(t, why, b, s, true, api.OK)
			many := len(b.Root.Caveats)
			if len(x.Root.Caveats) != many+1 || x.Root.Caveats[many] != (api.Caveat{Text: s}) || x.Root.Tag != toldNext(b.Root.Tag, api.Caveat{Text: s}) {
				t.Errorf("%s, %s: %s", why, s, briefAll(x))
			}
			if !slices.EqualFunc(x.Discharges, b.Discharges, alike) {
				t.Errorf("%s, %s: other discharges", why, s)
			}
		}
		for _, s := range append(strange(), long(513), long(1<<17)) {
			attenuates(t, why, b, s, false, api.ErrForm)
		}
	}
}

// The digits were worked out by another program's HMAC: of a root, and of the same a caveat more.
func TestAttenuateOfDigits(t *testing.T) {
	rising := from(0, 1)
	x := with(api.Token{Key: 300, ID: "me", Tag: toldStart(rising, 300, "me")}, "op read,write")
	y, e := Attenuate(of(x, proof(1)), "before 90")
	z, f := Attenuate(y, "before 90")
	if e != 0 || f != 0 || fmt.Sprintf("%x", y.Root.Tag) != "9bd9e59e6df9463c451af58cc1cab544ea244068684af78a0de0b23251edacb2" || fmt.Sprintf("%x", z.Root.Tag) != "3aaaf91592854643d77e35ccd024dbc6e328375177435bd16ba9dd8d5a12e5d5" {
		t.Errorf("%d, %d, %x, %x", e, f, y.Root.Tag, z.Root.Tag)
	}
}

// greatly: the bundle, and far more bytes of discharges than there may be.
func greatly(b api.Bundle) api.Bundle {
	b = copiedAll(b)
	greatest := api.Caveat{Third: true, Party: math.MaxUint64, ID: long(1024), Vault: long(1024)}
	b.Discharges = append(b.Discharges, with(api.Token{ID: "great"}, slices.Repeat([]any{greatest}, 64)...))
	return b
}

func TestWhichErrorComesFirst(t *testing.T) {
	full := of(root(repeated(64)...))
	for i, b := range badBundles() {
		why := fmt.Sprint("bad bundle ", i)
		off := copiedAll(b)
		off.Discharges = append(off.Discharges, tied(b.Root, proof(5)))
		more := copiedAll(b)
		more.Root = with(more.Root, slices.Repeat([]any{"op read"}, 64)...)
		for _, x := range []api.Bundle{b, off, more, greatly(b)} {
			attenuates(t, why, x, "op read", true, api.ErrRange)
			attenuates(t, why, x, "no such thing", false, api.ErrRange)
			attenuates(t, why, x, "", false, api.ErrRange)
		}
	}
	for which := 1; which < 16; which++ {
		for _, r := range []api.Token{root(), root(1, 2), full.Root} {
			b := tiedSome(of(r, proof(1), proof(2), proof(3), proof(4)), which)
			for _, x := range []api.Bundle{b, greatly(b)} {
				attenuates(t, "a discharge that is Bound", x, "op read", true, api.ErrBound)
				attenuates(t, "a discharge that is Bound", x, "no such thing", false, api.ErrBound)
				attenuates(t, "a discharge that is Bound", x, "", false, api.ErrBound)
			}
		}
	}
	last := wide(16)
	last.Discharges[15].Bound = true
	attenuates(t, "the last discharge Bound", last, "op read", true, api.ErrBound)
	for _, s := range append(strange(), long(513)) {
		attenuates(t, "no predicate's", of(root()), s, false, api.ErrForm)
		attenuates(t, "no predicate's, 64 caveats", full, s, false, api.ErrForm)
		attenuates(t, "no predicate's, too many bytes", greatly(of(root())), s, false, api.ErrForm)
		attenuates(t, "no predicate's, 64 caveats, too many bytes", greatly(full), s, false, api.ErrForm)
	}
	for _, s := range predicates() {
		attenuates(t, "64 caveats", full, s, true, api.ErrRange)
		attenuates(t, "64 caveats, too many bytes", greatly(full), s, true, api.ErrRange)
		attenuates(t, "too many bytes", greatly(of(root())), s, true, api.ErrLong)
		attenuates(t, "63 caveats, too many bytes", greatly(of(root(repeated(63)...))), s, true, api.ErrLong)
	}
	off := of(root("op read"), proof(1))
	off.Root.Bound = true
	attenuates(t, "a root that is Bound", off, "op read", true, api.ErrRange)
	attenuates(t, "a root that is Bound, no predicate's", off, "x", false, api.ErrRange)
}

// shapes: bundles of many bytes, which grow by a byte with each byte of room, and by more with each text.
func shapes() map[string]func(texts, room int) api.Bundle {
	great := func(many int) []any {
		return slices.Repeat([]any{api.Caveat{Third: true, Party: 1, ID: long(1000), Vault: long(1000)}}, many)
	}
	small := func(many int) []any { return slices.Repeat([]any{"path /" + long(60)}, many) }
	return map[string]func(texts, room int) api.Bundle{
		"room in a discharge's ID": func(texts, room int) api.Bundle {
			return of(root(great(31)...), proofOf(long(room), rootOf(1), small(texts)...))
		},
		"room in the root's ID": func(texts, room int) api.Bundle {
			return of(with(api.Token{Key: 5, ID: long(room)}, small(texts)...), proofOf("c", rootOf(1), great(31)...))
		},
		"room in a vault": func(texts, room int) api.Bundle {
			return of(root(append(great(31), api.Caveat{Third: true, Vault: long(room)})...), proof(1, small(texts)...))
		},
		"16 discharges": func(texts, room int) api.Bundle {
			b := of(root())
			for i := range 15 {
				b.Discharges = append(b.Discharges, proof(i, append(great(2), small(1)...)...))
			}
			last := api.Caveat{Third: true, ID: long(room)}
			b.Discharges = append(b.Discharges, proof(15, append(small(texts), last)...))
			return b
		},
	}
}

// sized: the bundle of that shape that has so many bytes.
func sized(t *testing.T, many int, shape func(texts, room int) api.Bundle) api.Bundle {
	t.Helper()
	const room = 300
	// Of 70 bytes a text takes most, and the room the rest.
	texts := (many - size(shape(0, room))) / 70
	b := shape(texts, room+many-size(shape(texts, room)))
	if size(b) != many || !bundleCan(b) {
		t.Fatalf("%d bytes, not %d", size(b), many)
	}
	return b
}

// Just as many bytes as there may be, and one more, by what is in the bundle.
func TestAttenuateAtTheLastByte(t *testing.T) {
	for why, shape := range shapes() {
		for _, s := range []string{"op a", "before 90", "path /" + long(64)} {
			for many := 65535; many <= 65538; many++ {
				b := sized(t, many-len(s)-2, shape)
				want := api.OK
				if many > 65536 {
					want = api.ErrLong
				}
				x := attenuates(t, fmt.Sprintf("%s, %d bytes", why, many), b, s, true, want)
				if l, e := bundle.Encode(x); want == api.OK && (e != api.OK || len(l) != many) {
					t.Errorf("%s: %d, %d bytes, not %d", why, e, len(l), many)
				}
				attenuates(t, why, b, s+" ", false, api.ErrForm)
				attenuates(t, why, tiedSome(b, 1), s, true, api.ErrBound)
			}
		}
	}
}

// Just as many bytes, and one more, by the text; and a bundle that has as many already, or too many.
func TestAttenuateByTheLastByteOfAText(t *testing.T) {
	for why, shape := range shapes() {
		b := sized(t, 65536-2-20, shape)
		for many := 6; many < 40; many++ {
			want := api.OK
			if many > 20 {
				want = api.ErrLong
			}
			attenuates(t, fmt.Sprintf("%s, a text of %d", why, many), b, "path /"+long(many-6), true, want)
		}
		for _, many := range []int{65531, 65535, 65536, 65537, 66000} {
			attenuates(t, fmt.Sprintf("%s, %d bytes already", why, many), sized(t, many, shape), "op a", true, api.ErrLong)
		}
	}
}

func TestAttenuateBundlesByChance(t *testing.T) {
	met := map[api.Errno]int{}
	good, bad := predicates(), strange()
	for i, b := range byChance(23, 3000) {
		for _, s := range []string{good[i%len(good)], bad[i%len(bad)]} {
			_, want := toldAttenuate(b, s, s == good[i%len(good)])
			attenuates(t, fmt.Sprint("bundle by chance ", i), b, s, s == good[i%len(good)], want)
			met[want]++
		}
	}
	if met[api.OK] < 500 || met[api.ErrRange] < 50 || met[api.ErrForm] < 500 || met[api.ErrBound] < 500 {
		t.Errorf("%v", met)
	}
}

// apart: has each list of a bundle memory of its own, spare room too? (What is written to one is seen in none of the others.)
func apart(t *testing.T, b api.Bundle) {
	t.Helper()
	lists := [][]api.Caveat{b.Root.Caveats}
	for _, d := range b.Discharges {
		lists = append(lists, d.Caveats)
	}
	var was [][]api.Caveat
	for _, l := range lists {
		was = append(was, slices.Clone(l))
	}
	for j, l := range lists {
		room := l[:cap(l)]
		kept := slices.Clone(room)
		spoilCaveats(l)
		for k, m := range lists {
			if k != j && !slices.Equal(m, was[k]) {
				t.Errorf("lists %d and %d share memory", j, k)
			}
		}
		copy(room, kept)
	}
}

// Two answers to one bundle, with spare room behind its lists or without: neither is the other one's, nor the bundle's.
func TestAttenuateHasNewMemory(t *testing.T) {
	one, off := proof(1, 2, "op read"), proof(2, "op list", "path /a")
	for i, b := range append(byChance(29, 500), wide(16), tree(16), of(root(repeated(63)...), proof(1, repeated(64)...)), of(root(1, 1, 2), one, one, off, off), of(root(repeated(64)...)), of(off, off, off)) {
		for _, s := range []string{"op list", "no such thing"} {
			want, e := toldAttenuate(b, s, s == "op list")
			for j, c := range []api.Bundle{copiedAll(b), roomyAll(b)} {
				one, e1 := Attenuate(c, s)
				two, e2 := Attenuate(c, s)
				other, _ := Attenuate(c, "op read")
				if e1 != e || e2 != e || !allAlike(one, want) || !allAlike(two, want) {
					t.Errorf("bundle %d: %d, %d, %s", i, e1, e2, briefAll(one))
				}
				apart(t, one)
				spoilAll(one)
				spoilAll(other)
				one.Discharges = append(one.Discharges, api.Token{ID: "behind"})
				if !allAlike(two, want) || !allAlike(c, b) || (j == 1 && !sparedAll(c)) {
					t.Errorf("bundle %d: what is done to an answer is seen", i)
				}
				spoilAll(c)
				if !allAlike(two, want) {
					t.Errorf("bundle %d: what is done to the bundle is seen", i)
				}
			}
		}
	}
}

// P22.5

// lessByOne: is what Attenuate answers allowed just what the bundle is allowed and the text, too? It counts what was met.
func lessByOne(t *testing.T, key api.Tag, b api.Bundle, s string, r api.Request, clock uint64, met map[[3]bool]int) {
	t.Helper()
	x, e := Attenuate(b, s)
	if e != api.OK {
		return
	}
	whole := Verify(key, b, r, clock) == api.Allow
	holds := grant.Text(s, r, clock)
	less := Verify(key, x, r, clock) == api.Allow
	met[[3]bool{whole, holds, less}]++
	if less != (whole && holds) {
		t.Errorf("%s: the bundle %t, the text %t, both %t; %s", s, whole, holds, less, briefAll(b))
	}
}

// metAll: was each of the four rows of two met so often?
func metAll(t *testing.T, met map[[3]bool]int, many int) {
	t.Helper()
	for _, row := range [][3]bool{{true, true, true}, {true, false, false}, {false, true, false}, {false, false, false}} {
		if met[row] < many {
			t.Errorf("%v was met %d times alone", row, met[row])
		}
	}
}

// By requests, clocks and keys by which the bundle and the text hold, and don't.
func TestLessAndNoMore(t *testing.T) {
	met := map[[3]bool]int{}
	var requests []api.Request
	for _, op := range []string{"read", "list", ""} {
		for _, path := range []string{"/a/b", "/a/../ab", ""} {
			requests = append(requests, api.Request{Op: op, Path: path, From: addr.Four(10, 1, 2, byte(len(path))), Cost: float64(len(op)) - 3})
		}
	}
	requests = append(requests, visit(), api.Request{}, api.Request{Op: "read", Path: "/a", Cost: math.NaN()})
	for _, b := range []api.Bundle{of(root()), of(root("op list,read", 1, "before 90"), proof(1, "path /a", 2), proof(2, "cost 1p0")), wide(3), of(root("op list")), of(root(1)), of(root(), proof(1)), of(root("no such thing"))} {
		for _, s := range predicates() {
			for _, r := range requests {
				for i, clock := range []uint64{0, 49, 50, 51, 90, math.MaxUint64} {
					lessByOne(t, key(), b, s, r, clock, met)
					if i == 2 {
						lessByOne(t, tagOf(2), b, s, r, clock, met)
					}
				}
			}
		}
	}
	metAll(t, met, 500)
}

func TestLessAndNoMoreByChance(t *testing.T) {
	met := map[[3]bool]int{}
	d := dice(31)
	for _, b := range byChance(37, 3000) {
		s := predicates()[d.roll(24)]
		r := visit()
		if d.roll(3) == 0 {
			r.Op = "list"
		}
		lessByOne(t, key(), b, s, r, uint64(now-1+d.roll(3)), met)
		lessByOne(t, turned(key(), d.roll(256)), b, s, r, now, met)
	}
	metAll(t, met, 200)
}

// Texts row on row: each answer allows what all of them ask.
func TestLessAndLess(t *testing.T) {
	b := of(root(1), proof(1, "since 3"))
	held := true
	for i := range 63 {
		s := holding()[i%12]
		if i == 40 {
			s = "op list"
		}
		held = held && grant.Text(s, visit(), now)
		x, e := Attenuate(b, s)
		if e != api.OK || len(x.Root.Caveats) != i+2 || (Verify(key(), x, visit(), now) == api.Allow) != held || Verify(key(), x, visit(), 2) == api.Allow {
			t.Fatalf("%d texts: %d, %d", i, e, Verify(key(), x, visit(), now))
		}
		if l := Texts(x.Root); len(l) != i+1 || l[i] != s || len(Needs(x)) != 0 {
			t.Errorf("%d texts: %q", i, l)
		}
		b = x
	}
	if x, e := Attenuate(b, "op read"); e != api.ErrRange || !allAlike(x, api.Bundle{}) {
		t.Errorf("64 caveats: %d", e)
	}
}
