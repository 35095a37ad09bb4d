package bind

import (
	"bytes"
	"crypto/hmac"
	"crypto/sha256"
	"encoding/binary"
	"encoding/hex"
	"fmt"
	"math"
	"slices"
	"strings"
	"testing"

	"chitty/api"
	"chitty/bundle"
	"chitty/chain"
	"chitty/derive"
	"chitty/packet"
	"chitty/third"
)

// chance: many bytes that no rule of the program makes, others for each seed.
func chance(seed uint64, many int) string {
	out := make([]byte, many)
	for i := range out {
		seed = seed*6364136223846793005 + 1442695040888963407
		out[i] = byte(seed >> 40)
	}
	return string(out)
}

// tagOf: a tag that looks like chance, another one for each seed.
func tagOf(seed uint64) api.Tag { return api.Tag([]byte(chance(seed, api.Size))) }

// from: the tag of that byte, and of the others that step leads to.
func from(first, step byte) api.Tag {
	var t api.Tag
	for i := range t {
		t[i] = first + byte(i)*step
	}
	return t
}

// rising: the tag whose bytes are 0 to 31.
func rising() api.Tag { return from(0, 1) }

// turned: the tag, one of its bits turned.
func turned(t api.Tag, bit int) api.Tag {
	t[bit/8] ^= 1 << (bit % 8)
	return t
}

// long: a text of so many bytes.
func long(many int) string { return strings.Repeat("a", many) }

// every: a text of all 256 bytes, most of which are no text of UTF-8.
func every() string {
	var out [256]byte
	for i := range out {
		out[i] = byte(i)
	}
	return string(out[:])
}

// mac: layer 6's Key, by Go's own HMAC and order of bytes.
func mac(key api.Tag, row ...string) api.Tag {
	h := hmac.New(sha256.New, key[:])
	for _, p := range row {
		h.Write(binary.BigEndian.AppendUint64(nil, uint64(len(p))))
		h.Write([]byte(p))
	}
	return api.Tag(h.Sum(nil))
}

// toldTag: the Tag that P21.1 tells.
func toldTag(root, end api.Tag) api.Tag { return mac(root, "bind", string(end[:])) }

// toldBind: the answer of Bind that P21.1 tells.
func toldBind(root api.Tag, d api.Token) (api.Token, api.Errno) {
	if d.Bound {
		return api.Token{}, 6
	}
	return api.Token{Key: d.Key, ID: d.ID, Caveats: slices.Clone(d.Caveats), Bound: true, Tag: toldTag(root, d.Tag)}, 0
}

// toldFits: the answer of Fits that P21.2 tells.
func toldFits(root, end api.Tag, d api.Token) bool {
	if d.Bound {
		return d.Tag == toldTag(root, end)
	}
	return d.Tag == end
}

// tokenCan: can a token be?
func tokenCan(x api.Token) bool {
	for _, c := range x.Caveats {
		if c.Third && (c.Text != "" || len(c.ID) > 1024 || len(c.Vault) > 1024) {
			return false
		}
		if !c.Third && (len(c.Text) > 512 || c.Party != 0 || c.ID != "" || c.Vault != "") {
			return false
		}
	}
	return len(x.ID) <= 1024 && len(x.Caveats) <= 64
}

// bundleCan: can a bundle be?
func bundleCan(b api.Bundle) bool {
	for _, d := range b.Discharges {
		if d.Key != 0 || !tokenCan(d) {
			return false
		}
	}
	return len(b.Discharges) <= 16 && !b.Root.Bound && tokenCan(b.Root)
}

// toldAll: the answer of All that P21.3 tells.
func toldAll(b api.Bundle) (api.Bundle, api.Errno) {
	if !bundleCan(b) {
		return api.Bundle{}, 1
	}
	out := copiedAll(b)
	for i, d := range b.Discharges {
		if !d.Bound {
			out.Discharges[i].Bound = true
			out.Discharges[i].Tag = toldTag(b.Root.Tag, d.Tag)
		}
	}
	return out, 0
}

// alike: are all fields the same?
func alike(a, b api.Token) bool {
	return a.Key == b.Key && a.ID == b.ID && slices.Equal(a.Caveats, b.Caveats) && a.Bound == b.Bound && a.Tag == b.Tag
}

// allAlike: are all tokens the same?
func allAlike(a, b api.Bundle) bool {
	return alike(a.Root, b.Root) && slices.EqualFunc(a.Discharges, b.Discharges, alike)
}

// copied: the same token, its caveats in memory of their own.
func copied(x api.Token) api.Token {
	x.Caveats = append([]api.Caveat(nil), x.Caveats...)
	return x
}

// copiedAll: the same bundle, all its lists in memory of their own.
func copiedAll(b api.Bundle) api.Bundle {
	out := api.Bundle{Root: copied(b.Root)}
	for _, d := range b.Discharges {
		out.Discharges = append(out.Discharges, copied(d))
	}
	return out
}

// brief: what is told of a token in a fault.
func brief(x api.Token) string {
	return fmt.Sprintf("key %d, id %.20q of %d bytes, %d caveats, bound %t, tag %x", x.Key, x.ID, len(x.ID), len(x.Caveats), x.Bound, x.Tag[:4])
}

// briefAll: what is told of a bundle in a fault.
func briefAll(b api.Bundle) string {
	s := "{" + brief(b.Root) + "}"
	for _, d := range b.Discharges {
		s += ", {" + brief(d) + "}"
	}
	return s
}

// tags: zero, of like bytes, of one bit, and such as look like chance; no two are the same.
func tags() []api.Tag {
	return []api.Tag{{}, from(255, 0), rising(), from(255, 255), {31: 1}, {1}, {0: 128}, {15: 16}, from(1, 3), from(2, 5), tagOf(1), tagOf(2)}
}

// mixed: so many caveats, of both kinds, no two of which are the same.
func mixed(many int) []api.Caveat {
	var out []api.Caveat
	for i := range many {
		c := api.Caveat{Text: fmt.Sprintf("before %d", 1000-i)}
		if i%3 == 1 {
			c = api.Caveat{Third: true, Party: uint64(i), ID: chance(uint64(i), i), Vault: "v"}
		}
		out = append(out, c)
	}
	return out
}

// badCaveats: such as can't be.
func badCaveats() []api.Caveat {
	return []api.Caveat{
		{Text: long(513)}, {Third: true, Text: "a"}, {Third: true, ID: long(1025)}, {Third: true, Vault: long(1025)},
		{Party: 1}, {Party: math.MaxUint64}, {ID: "a"}, {Vault: "a"}, {Text: "op a", Party: 1}, {Text: long(513), ID: long(1025)},
	}
}

// tokens: such as can be, and aren't bound; with a Key, some of them.
func tokens() []api.Token {
	out := []api.Token{{}, {Tag: tagOf(3)}, {Key: 9, ID: "alice", Tag: tagOf(4)}, {Key: math.MaxUint64}, {Caveats: []api.Caveat{}}, {ID: long(1024)}, {ID: every()}}
	for many := range api.MaxCaveats + 1 {
		out = append(out, api.Token{Caveats: make([]api.Caveat, many)}, api.Token{Key: uint64(many % 2), ID: fmt.Sprint("many ", many), Caveats: mixed(many), Tag: tagOf(uint64(many) + 5)})
	}
	greatest := api.Caveat{Third: true, Party: math.MaxUint64, ID: long(1024), Vault: long(1024)}
	return append(out, api.Token{ID: long(1024), Caveats: slices.Repeat([]api.Caveat{greatest}, 64), Tag: from(255, 0)})
}

// badTokens: such as can't be, and aren't bound.
func badTokens() []api.Token {
	out := []api.Token{{ID: long(1025)}, {ID: long(1 << 17)}, {ID: strings.Repeat("\u00e9", 513), Caveats: mixed(5), Tag: rising()}}
	for _, many := range []int{65, 66, 128, 256, 320, 1000} {
		out = append(out, api.Token{Caveats: make([]api.Caveat, many)}, api.Token{ID: "many", Caveats: mixed(many), Tag: rising()})
	}
	for _, c := range badCaveats() {
		out = append(out, api.Token{Caveats: []api.Caveat{c}})
		for _, at := range []int{0, 31, 63} {
			l := mixed(64)
			l[at] = c
			out = append(out, api.Token{ID: "bad", Caveats: l, Tag: tagOf(6)})
		}
	}
	return out
}

// bound: the same tokens, Bound.
func bound(l []api.Token) []api.Token {
	out := slices.Clone(l)
	for i := range out {
		out[i].Bound = true
	}
	return out
}

// P21.1

// tagged: is Tag what P21.1 tells?
func tagged(t *testing.T, root, end api.Tag) api.Tag {
	t.Helper()
	got, want := Tag(root, end), toldTag(root, end)
	if got != want {
		t.Errorf("Tag of %x and %x: %x, not %x", root, end, got, want)
	}
	return got
}

// The digits were worked out by another program's HMAC.
func TestTagOfExamples(t *testing.T) {
	none, up, down, all := api.Tag{}, rising(), from(255, 255), from(255, 0)
	for _, c := range []struct {
		root, end api.Tag
		digits    string
	}{
		{none, none, "b8b36bf4b9736b3ca936590356b4f6c5fced31636f73d2fd91f786c881b982b9"},
		{up, down, "e7f08d1efbe75b4579f210ecbff4542041ff6ef76c1527ea7420d7aefddedd75"},
		{down, up, "d0f6fa783f7b3d75054f6d8fef578b13d5921fd775ce042046e2734f7effd61f"},
		{all, up, "3766b4a2a3b95b3331385f8aa99ebc93c755db409d664cc2836671eb263df79a"},
		{up, up, "1e8c30e6eecede7901ea2e0ea75984bc04f76748a9e323442622cdc9e5a49413"},
		{none, api.Tag{1}, "7f90ad6df0ba6a7890f76c5755f6e52dadafe47250a4fdb7d9da90cd4018bb2f"},
		{api.Tag{31: 1}, none, "2cacccc1a3f25278fd805ce58980f49d7639348b86c299a9aa6c4ff2db34b798"},
		{from(1, 3), from(2, 5), "c540db658b1c961b054b2a6017d2abbfd24667c40e59e70a285997931b8faed7"},
	} {
		if got := Tag(c.root, c.end); hex.EncodeToString(got[:]) != c.digits {
			t.Errorf("Tag of %x and %x: %x, not %s", c.root, c.end, got, c.digits)
		}
	}
}

func TestTagOfAnyTwo(t *testing.T) {
	seen := map[api.Tag]bool{}
	many := 0
	for _, root := range tags() {
		for _, end := range tags() {
			seen[tagged(t, root, end)] = true
			many++
		}
	}
	for i := range uint64(1000) {
		seen[tagged(t, tagOf(i+100), tagOf(i+5000))] = true
		many++
	}
	if len(seen) != many {
		t.Errorf("%d tags of %d rows of two", len(seen), many)
	}
}

func TestTagIsMadeByLayer6(t *testing.T) {
	for i := range uint64(200) {
		root, end := tagOf(i), tagOf(i+500)
		if got, want := Tag(root, end), derive.Key(root, "bind", string(end[:])); got != want {
			t.Errorf("%d: %x, not %x", i, got, want)
		}
	}
}

// A single bit of either is seen, and which of them is the root; the answer is none of the two, either.
func TestTagsAreUnlike(t *testing.T) {
	for seed := range uint64(10) {
		root, end := tagOf(seed+10), tagOf(seed+30)
		seen := map[api.Tag]bool{root: true, end: true}
		many := 2
		add := func(a, b api.Tag) {
			seen[tagged(t, a, b)] = true
			many++
		}
		add(root, end)
		add(end, root)
		add(root, root)
		add(end, end)
		for bit := range 8 * api.Size {
			add(turned(root, bit), end)
			add(root, turned(end, bit))
			add(turned(end, bit), root)
			add(end, turned(root, bit))
		}
		if len(seen) != many {
			t.Errorf("%d: %d tags of %d", seed, len(seen), many)
		}
	}
	// In each other's place, the two come to something else.
	for i, a := range tags() {
		for j, b := range tags() {
			if (Tag(a, b) == Tag(b, a)) != (i == j) {
				t.Errorf("%x and %x, in each other's place", a[:4], b[:4])
			}
		}
	}
}

// What the root's tag makes for other uses, or of other parts, is no bound tag.
func TestTagIsOfItsUseAlone(t *testing.T) {
	for i := range uint64(20) {
		root, end := tagOf(i), tagOf(i+50)
		s := string(end[:])
		got := Tag(root, end)
		for j, other := range []api.Tag{
			mac(root, s), mac(root, "", s), mac(root, "bind"), mac(root, "bind", ""), mac(root, "bind", s, ""), mac(root, "bind", "", s), mac(root, "bind", s, s), mac(root, "bind", s[:31]), mac(root, "bind", s+"\x00"), mac(root, "bind", "bind", s), mac(root, "bind", hex.EncodeToString(end[:])), mac(root, "bind"+s), mac(root, s, "bind"),
			mac(root, "Bind", s), mac(root, "bound", s), mac(root, "bind\x00", s), mac(root, "mint", s), mac(root, "caveat", s), mac(root, "party", s), mac(root, "vault", s), mac(root, "seal", s), mac(root, "stream", s), mac(mac(root, "bind"), s), mac(end, "bind", string(root[:])),
			chain.Start(root, 0, s), chain.Next(root, api.Caveat{Text: s}), derive.Key(root, "vault"), root, end, {},
		} {
			if got == other {
				t.Errorf("%d: the same as the other one %d", i, j)
			}
		}
	}
}

// binds: does Bind answer what P21.1 tells, and leave the token as it was?
func binds(t *testing.T, root api.Tag, d api.Token) {
	t.Helper()
	was := copied(d)
	want, e := toldBind(root, d)
	got, f := Bind(root, d)
	if f != e || !alike(got, want) {
		t.Errorf("Bind by %x of %s: %s, %d; not %s, %d", root[:4], brief(d), brief(got), f, brief(want), e)
	}
	if !alike(d, was) {
		t.Errorf("Bind by %x of %s changed it", root[:4], brief(was))
	}
}

// The digits were worked out by another program's HMAC: of a root, and of a discharge, made from their keys on.
func TestBindOfExamples(t *testing.T) {
	root, _ := chain.Mint(rising(), 2, "me")
	root, _ = chain.Attenuate(root, "op read")
	for _, c := range []struct {
		texts  []string
		digits string
	}{
		{nil, "929200a12115b34fe2d9dc859b36ef537d06874877e55cf2c9dcc01a2c0bb114"},
		{[]string{"before 90"}, "590fd996edfb9f599fd1eb9e8c18c6fef900da7113ab097356addf6eda86f15f"},
	} {
		d, _ := third.Discharge(from(255, 255), "cid", c.texts...)
		x, e := Bind(root.Tag, d)
		if e != api.OK || x.Key != 0 || x.ID != "cid" || !slices.Equal(x.Caveats, d.Caveats) || len(x.Caveats) != len(c.texts) || !x.Bound || hex.EncodeToString(x.Tag[:]) != c.digits {
			t.Errorf("%d texts: %d, %s, not %s", len(c.texts), e, brief(x), c.digits)
		}
	}
}

func TestBind(t *testing.T) {
	for i, d := range append(tokens(), badTokens()...) {
		for _, root := range []api.Tag{{}, d.Tag, tagOf(uint64(i))} {
			binds(t, root, d)
			d.Bound = true
			binds(t, root, d)
			d.Bound = false
		}
	}
	for _, root := range tags() {
		for _, own := range tags() {
			binds(t, root, api.Token{ID: "any", Caveats: mixed(3), Tag: own})
		}
	}
}

// Whether a token can be, and be a discharge, isn't asked: all that it has stays as it was.
func TestBindOfTokensThatCannotBe(t *testing.T) {
	l := badTokens()
	for _, n := range []uint64{1, 255, 256, 1 << 32, math.MaxUint64} {
		l = append(l, api.Token{Key: n, ID: "key", Caveats: mixed(2), Tag: tagOf(n)})
	}
	for _, many := range []int{0, 1, 2, 63, 64, 65, 66, 1000} {
		for _, c := range append(badCaveats(), api.Caveat{}, api.Caveat{Third: true}, api.Caveat{Text: "op A"}) {
			l = append(l, api.Token{Key: 7, ID: long(1025), Caveats: slices.Repeat([]api.Caveat{c}, many), Tag: tagOf(8)})
		}
	}
	for _, d := range l {
		x, e := Bind(tagOf(7), d)
		if e != api.OK || x.Key != d.Key || x.ID != d.ID || !slices.Equal(x.Caveats, d.Caveats) || !x.Bound || x.Tag != toldTag(tagOf(7), d.Tag) {
			t.Errorf("%s: %d, %s", brief(d), e, brief(x))
		}
	}
}

// One that is Bound is refused, whatever else it has, and by whatever root; so is what Bind answered itself.
func TestBindOfOneThatIsBound(t *testing.T) {
	refused := func(root api.Tag, d api.Token) {
		t.Helper()
		if x, e := Bind(root, d); e != api.ErrBound || !alike(x, api.Token{}) {
			t.Errorf("Bind by %x of %s: %d, %s", root[:4], brief(d), e, brief(x))
		}
	}
	for i, d := range bound(append(tokens(), badTokens()...)) {
		for _, root := range []api.Tag{{}, d.Tag, tagOf(uint64(i))} {
			refused(root, d)
		}
	}
	for i, d := range append(tokens(), badTokens()...) {
		root := tagOf(uint64(i) + 40)
		x, _ := Bind(root, d)
		refused(root, x)
		refused(tagOf(9), x)
	}
}

// P21.2

// fits: is Fits what is wanted, and what P21.2 tells?
func fits(t *testing.T, root, end api.Tag, d api.Token, want bool, why string) {
	t.Helper()
	was := copied(d)
	if got := Fits(root, end, d); got != want || want != toldFits(root, end, d) {
		t.Errorf("%s: Fits of %x, %x and %s: %t", why, root[:4], end[:4], brief(d), got)
	}
	if !alike(d, was) {
		t.Errorf("%s: Fits changed %s", why, brief(was))
	}
}

// One that isn't Bound fits by its own Tag alone, whatever the root is.
func TestFitsOfOneThatIsNotBound(t *testing.T) {
	for i, d := range append(tokens(), badTokens()...) {
		for _, root := range []api.Tag{{}, d.Tag, tagOf(uint64(i) + 60)} {
			fits(t, root, d.Tag, d, true, "its own Tag")
			fits(t, root, Tag(root, d.Tag), d, false, "the Tag of the root and its own")
			fits(t, root, Tag(d.Tag, root), d, false, "the Tag of its own and the root")
		}
	}
	for _, own := range tags() {
		d := api.Token{ID: "any", Tag: own}
		for _, root := range tags() {
			for _, end := range tags() {
				fits(t, root, end, d, end == own, "any end")
			}
		}
		for bit := range 8 * api.Size {
			fits(t, tagOf(11), turned(own, bit), d, false, "an end's turned bit")
			fits(t, turned(tagOf(11), bit), own, d, true, "another root")
		}
	}
}

// One that is Bound fits by the root and the end it was bound with, and by no other.
func TestFitsOfOneThatIsBound(t *testing.T) {
	for i, d := range append(tokens(), badTokens()...) {
		root := tagOf(uint64(i) + 70)
		x, _ := Bind(root, d)
		fits(t, root, d.Tag, x, true, "its root, its end")
		fits(t, root, x.Tag, x, false, "its own Tag as end")
		fits(t, x.Tag, d.Tag, x, false, "its own Tag as root")
		fits(t, d.Tag, root, x, false, "in each other's place")
		fits(t, tagOf(9012), d.Tag, x, false, "another root")
		fits(t, root, tagOf(9013), x, false, "another end")
		fits(t, root, root, x, false, "its root as end")
		fits(t, d.Tag, d.Tag, x, false, "its end as root")
		fits(t, api.Tag{}, api.Tag{}, x, false, "zeros")
	}
	for _, own := range tags() {
		for _, root := range tags() {
			x, _ := Bind(root, api.Token{ID: "any", Tag: own})
			for _, other := range tags() {
				fits(t, other, own, x, other == root, "any root")
				fits(t, root, other, x, other == own, "any end")
			}
		}
	}
}

func TestFitsByATurnedBit(t *testing.T) {
	for seed := range uint64(10) {
		root, end := tagOf(seed+80), tagOf(seed+100)
		d := api.Token{ID: "bits", Caveats: mixed(2), Tag: end}
		x, _ := Bind(root, d)
		for bit := range 8 * api.Size {
			fits(t, turned(root, bit), end, x, false, "a root's turned bit")
			fits(t, root, turned(end, bit), x, false, "an end's turned bit")
			y, z := x, d
			y.Tag, z.Tag = turned(x.Tag, bit), turned(end, bit)
			fits(t, root, end, y, false, "a bound tag's turned bit")
			fits(t, root, end, z, false, "a tag's turned bit")
		}
		fits(t, root, end, x, true, "its root, its end")
	}
}

// Whoever takes Bound off again, or says it of one that isn't, has nothing that fits.
func TestFitsOfABoundThatIsTakenOff(t *testing.T) {
	for i, d := range append(tokens(), badTokens()...) {
		root := tagOf(uint64(i) + 120)
		x, _ := Bind(root, d)
		x.Bound = false
		fits(t, root, d.Tag, x, false, "Bound taken off")
		fits(t, root, x.Tag, x, true, "its own Tag")
		d.Bound = true
		fits(t, root, d.Tag, d, false, "Bound set alone")
		fits(t, d.Tag, root, d, false, "Bound set alone")
	}
}

// Nothing but Bound and the Tag is looked at.
func TestFitsLooksAtTheTagAlone(t *testing.T) {
	root, end := tagOf(14), tagOf(15)
	for _, d := range append(tokens(), badTokens()...) {
		d.Tag = end
		fits(t, root, end, d, true, "any other fields")
		d.Bound, d.Tag = true, toldTag(root, end)
		fits(t, root, end, d, true, "any other fields, bound")
		fits(t, tagOf(16), end, d, false, "any other fields, bound, another root")
	}
}

// Bound twice by hand, once more than Bind does it, it doesn't fit with the end that it had.
func TestFitsOfOneThatIsBoundTwice(t *testing.T) {
	root, end := tagOf(17), tagOf(18)
	x, _ := Bind(root, api.Token{Tag: end})
	x.Bound = false
	y, e := Bind(root, x)
	if e != api.OK || y.Tag != toldTag(root, toldTag(root, end)) {
		t.Errorf("%d, %s", e, brief(y))
	}
	fits(t, root, end, y, false, "bound twice")
	fits(t, root, toldTag(root, end), y, true, "bound twice, by the first one's Tag")
}

// P21.3

// alls: does All answer what P21.3 tells, and leave the bundle as it was? And the same once more of what it answers.
func alls(t *testing.T, b api.Bundle) {
	t.Helper()
	was := copiedAll(b)
	want, e := toldAll(b)
	got, f := All(b)
	if f != e || !allAlike(got, want) {
		t.Fatalf("All of %s: %s, %d; not %s, %d", briefAll(b), briefAll(got), f, briefAll(want), e)
	}
	if !allAlike(b, was) {
		t.Fatalf("All changed %s", briefAll(was))
	}
	if e != api.OK {
		return
	}
	if again, f := All(got); f != api.OK || !allAlike(again, want) {
		t.Errorf("All of what it answered of %s: %d, %s", briefAll(b), f, briefAll(again))
	}
	if bundle.Check(got) != api.OK {
		t.Errorf("All of %s: a bundle that can't be", briefAll(b))
	}
	for i, d := range got.Discharges {
		if !d.Bound || Fits(b.Root.Tag, b.Discharges[i].Tag, d) == b.Discharges[i].Bound {
			t.Errorf("All of %s: discharge %d is %s", briefAll(b), i, brief(d))
		}
	}
}

// root: a token with a key, and caveats of both kinds.
func root() api.Token {
	return api.Token{Key: 300, ID: "me", Caveats: mixed(5), Tag: tagOf(19)}
}

// several: so many discharges, of which no two are the same; which of them are Bound, bit by bit.
func several(many int, which uint64) []api.Token {
	var out []api.Token
	for i := range many {
		out = append(out, api.Token{ID: fmt.Sprint("d", i), Caveats: mixed(i % 5), Bound: which>>i&1 == 1, Tag: tagOf(uint64(i) + 200)})
	}
	return out
}

// badBundles: such as can't be, each by one thing alone, but for the last ones.
func badBundles() []api.Bundle {
	off := root()
	off.Bound = true
	out := []api.Bundle{{Root: api.Token{Bound: true}}, {Root: off}, {Root: off, Discharges: several(3, 0)}, {Root: off, Discharges: several(16, 5)}}
	for _, many := range []int{17, 18, 32, 33, 256, 272, 1000} {
		out = append(out, api.Bundle{Root: root(), Discharges: several(many, 0)}, api.Bundle{Discharges: make([]api.Token, many)}, api.Bundle{Root: root(), Discharges: bound(several(many, 0))})
	}
	bad := badTokens()
	for _, n := range []uint64{1, 2, 255, 256, 1 << 32, math.MaxUint64} {
		bad = append(bad, api.Token{Key: n}, api.Token{Key: n, ID: "key", Caveats: mixed(2), Tag: tagOf(n)})
	}
	for _, x := range badTokens() {
		out = append(out, api.Bundle{Root: x}, api.Bundle{Root: x, Discharges: several(2, 1)})
	}
	for _, x := range append(bad, bound(bad)...) {
		out = append(out, api.Bundle{Discharges: []api.Token{x}})
		for _, c := range [][2]int{{2, 0}, {2, 1}, {16, 0}, {16, 7}, {16, 15}} {
			l := several(c[0], 2)
			l[c[1]] = x
			out = append(out, api.Bundle{Root: root(), Discharges: l})
		}
	}
	return append(out, api.Bundle{Root: badTokens()[0], Discharges: several(17, 0)}, api.Bundle{Root: off, Discharges: badTokens()})
}

func TestAll(t *testing.T) {
	alls(t, api.Bundle{})
	for many := range api.MaxDischarges + 1 {
		for _, which := range []uint64{0, 1, 2, 1 << 15, 0x5555, 0xaaaa, 0x00ff, 0xffff} {
			alls(t, api.Bundle{Root: root(), Discharges: several(many, which)})
			alls(t, api.Bundle{Discharges: several(many, which)})
		}
		alls(t, api.Bundle{Root: root(), Discharges: make([]api.Token, many)})
		alls(t, api.Bundle{Root: root(), Discharges: slices.Repeat([]api.Token{{ID: "cid", Caveats: mixed(2), Tag: tagOf(20)}}, many)})
	}
	// Each choice of those that are Bound already.
	for which := range uint64(64) {
		alls(t, api.Bundle{Root: root(), Discharges: several(6, which)})
	}
	for i, d := range tokens() {
		d.Key = 0
		r := root()
		r.Tag = tagOf(uint64(i) + 300)
		alls(t, api.Bundle{Root: r, Discharges: []api.Token{d}})
		alls(t, api.Bundle{Root: tokens()[i], Discharges: []api.Token{d, d}})
	}
	for _, own := range tags() {
		for _, d := range tags() {
			alls(t, api.Bundle{Root: api.Token{Tag: own}, Discharges: []api.Token{{Tag: d}, {Tag: d, Bound: true}}})
		}
	}
}

// Bundles of more bytes than may be sent can be; All asks nothing more.
func TestAllOfBundlesOfManyBytes(t *testing.T) {
	greatest := api.Caveat{Third: true, Party: math.MaxUint64, ID: long(1024), Vault: long(1024)}
	d := api.Token{ID: long(1024), Caveats: slices.Repeat([]api.Caveat{greatest}, 64), Tag: tagOf(21)}
	b := api.Bundle{Root: d, Discharges: slices.Repeat([]api.Token{d}, 16)}
	b.Root.Key = math.MaxUint64
	if _, e := bundle.Encode(b); e != api.ErrLong {
		t.Fatalf("%d", e)
	}
	alls(t, b)
}

func TestAllOfBundlesThatCannotBe(t *testing.T) {
	for _, b := range badBundles() {
		if x, e := All(b); e != api.ErrRange || !allAlike(x, api.Bundle{}) {
			t.Errorf("%s: %d, %s", briefAll(b), e, briefAll(x))
		}
		alls(t, b)
	}
}

func TestAllAtTheEdge(t *testing.T) {
	check := func(what string, b api.Bundle, want api.Errno) {
		t.Helper()
		if x, e := All(b); e != want || (e == api.OK) != (len(x.Discharges) == len(b.Discharges) && alike(x.Root, b.Root)) {
			t.Errorf("%s: %d, not %d; %s", what, e, want, briefAll(x))
		}
	}
	one := func(d api.Token) api.Bundle { return api.Bundle{Root: root(), Discharges: []api.Token{d}} }
	check("no discharge", api.Bundle{Root: root()}, api.OK)
	check("16 discharges", api.Bundle{Root: root(), Discharges: several(16, 0)}, api.OK)
	check("17 discharges", api.Bundle{Root: root(), Discharges: several(17, 0)}, api.ErrRange)
	check("a discharge of 64 caveats", one(api.Token{Caveats: mixed(64)}), api.OK)
	check("a discharge of 65 caveats", one(api.Token{Caveats: mixed(65)}), api.ErrRange)
	check("a discharge whose ID has 1024 bytes", one(api.Token{ID: long(1024)}), api.OK)
	check("a discharge whose ID has 1025 bytes", one(api.Token{ID: long(1025)}), api.ErrRange)
	check("a discharge with a Key", one(api.Token{Key: 1}), api.ErrRange)
	check("a discharge with a Key, bound", one(api.Token{Key: 1, Bound: true}), api.ErrRange)
	for _, c := range badCaveats() {
		check("a discharge's caveat that can't be", one(api.Token{Caveats: []api.Caveat{{}, c}}), api.ErrRange)
		check("a bound discharge's caveat that can't be", one(api.Token{Bound: true, Caveats: []api.Caveat{c}}), api.ErrRange)
		check("a root's caveat that can't be", api.Bundle{Root: api.Token{Caveats: []api.Caveat{c}}}, api.ErrRange)
	}
	off := root()
	off.Bound = true
	check("a root that is Bound", api.Bundle{Root: off, Discharges: several(1, 0)}, api.ErrRange)
}

// Those that are Bound stay as they are, be it by this root's Tag or by others'; the others are as Bind makes them.
func TestAllOfSomeThatAreBound(t *testing.T) {
	r := root()
	for many := range api.MaxDischarges + 1 {
		l := several(many, 0)
		was := slices.Clone(l)
		for i := range l {
			switch i % 4 {
			case 1:
				l[i], _ = Bind(r.Tag, l[i])
			case 2:
				l[i], _ = Bind(tagOf(22), l[i])
			case 3:
				l[i].Bound = true
			}
		}
		x, e := All(bundle.Of(r, l...))
		if e != api.OK || len(x.Discharges) != many || !alike(x.Root, r) {
			t.Fatalf("%d discharges: %d, %s", many, e, briefAll(x))
		}
		for i, d := range x.Discharges {
			if want, _ := Bind(r.Tag, was[i]); i%4 == 0 && !alike(d, want) {
				t.Errorf("discharge %d of %d: %s, not %s", i, many, brief(d), brief(want))
			}
			if i%4 != 0 && !alike(d, l[i]) {
				t.Errorf("discharge %d of %d was bound: %s, not %s", i, many, brief(d), brief(l[i]))
			}
			fits(t, r.Tag, was[i].Tag, d, i%4 < 2, "behind All")
		}
		alls(t, api.Bundle{Root: r, Discharges: l})
		all := bound(l)
		if y, e := All(api.Bundle{Root: r, Discharges: all}); e != api.OK || !allAlike(y, api.Bundle{Root: r, Discharges: all}) {
			t.Errorf("%d discharges, all of them bound: %d, %s", many, e, briefAll(y))
		}
	}
}

// Two roots

// What was bound to a root fits with that root alone: not with that of another key, ID or caveat, nor with what comes of it by a caveat more, nor with what it came of.
func TestBoundToOneRootAlone(t *testing.T) {
	var roots []api.Token
	for i, key := range []api.Tag{rising(), tagOf(23)} {
		for _, id := range []string{"", "me", "you"} {
			x, _ := chain.Mint(key, uint64(i), id)
			roots = append(roots, x)
			for _, s := range []string{"op read", "before 90", "op read"} {
				x, _ = chain.Attenuate(x, s)
				roots = append(roots, x)
			}
		}
	}
	for i, d := range []api.Token{{}, {ID: "d", Tag: tagOf(24)}, {ID: "many", Caveats: mixed(64), Tag: tagOf(25)}} {
		for j, r := range roots {
			one, e1 := Bind(r.Tag, d)
			all, e2 := All(bundle.Of(r, d))
			if e1 != api.OK || e2 != api.OK || len(all.Discharges) != 1 || !alike(all.Discharges[0], one) {
				t.Fatalf("discharge %d, root %d: %d, %d, %s", i, j, e1, e2, briefAll(all))
			}
			for k, other := range roots {
				fits(t, other.Tag, d.Tag, one, j == k, fmt.Sprintf("discharge %d, bound to root %d, with root %d", i, j, k))
			}
		}
	}
}

// A discharge's own End, by the root that was dealt, is what it fits by, bound or not.
func TestBoundDischargesOfADeal(t *testing.T) {
	key := tagOf(26)
	x, _ := chain.Mint(key, 1, "me")
	deal := third.Deal{Party: 7, Key: tagOf(27), Root: tagOf(28), Cond: "am I me?", Ask: tagOf(29), Vault: tagOf(30)}
	at := x.Tag
	x, _ = third.Add(x, deal)
	found, _ := third.Reveal(at, x.Caveats[0].Vault)
	d, _ := third.Discharge(deal.Root, x.Caveats[0].ID, "op read", "before 90")
	b, e := All(bundle.Of(x, d))
	if e != api.OK || chain.End(found, d) != d.Tag {
		t.Fatalf("%d", e)
	}
	y := b.Discharges[0]
	// The End is worked out of ID and caveats alone, which Bind left as they were.
	fits(t, x.Tag, chain.End(found, y), y, true, "bound")
	fits(t, x.Tag, chain.End(found, d), d, true, "not bound")
	fits(t, at, chain.End(found, y), y, false, "the tag ahead of the caveat")
	z := copied(y)
	z.Caveats = z.Caveats[:1]
	fits(t, x.Tag, chain.End(found, z), z, false, "a caveat less")
	z.Caveats = append(z.Caveats, api.Caveat{Text: "before 91"})
	fits(t, x.Tag, chain.End(found, z), z, false, "another caveat")
	if _, e := chain.Attenuate(y, "op read"); e != api.ErrBound {
		t.Errorf("a caveat more of one that is bound: %d", e)
	}
	less, _ := chain.Attenuate(x, "op read")
	fits(t, less.Tag, chain.End(found, y), y, false, "the root, a caveat more")
}

// The rules that hold everywhere: what is handed in is neither changed nor kept, and an answer is new memory.

// roomyCaveats: the same caveats, with others in their spare room.
func roomyCaveats(l []api.Caveat) []api.Caveat {
	return append(slices.Clone(l), api.Caveat{Text: "spare"}, api.Caveat{Third: true, Party: 7})[:len(l)]
}

// sparedCaveats: is the spare room of roomyCaveats as it was?
func sparedCaveats(l []api.Caveat) bool {
	room := l[len(l) : len(l)+2]
	return room[0] == api.Caveat{Text: "spare"} && room[1] == api.Caveat{Third: true, Party: 7}
}

// spoilCaveats: all that the list has room for is written over.
func spoilCaveats(l []api.Caveat) {
	l = l[:cap(l)]
	for i := range l {
		l[i] = api.Caveat{Third: true, Text: "over", Party: 9, ID: "o", Vault: "v"}
	}
}

// roomy: the same token, with caveats in its spare room.
func roomy(x api.Token) api.Token {
	x.Caveats = roomyCaveats(x.Caveats)
	return x
}

// roomyAll: the same bundle, with something in the spare room of each of its lists.
func roomyAll(b api.Bundle) api.Bundle {
	out := api.Bundle{Root: roomy(b.Root)}
	for _, d := range b.Discharges {
		out.Discharges = append(out.Discharges, roomy(d))
	}
	out.Discharges = append(out.Discharges, api.Token{ID: "spare"}, api.Token{ID: "room"})[:len(b.Discharges)]
	return out
}

// sparedAll: is the spare room of roomyAll as it was?
func sparedAll(b api.Bundle) bool {
	for _, d := range b.Discharges {
		if !sparedCaveats(d.Caveats) {
			return false
		}
	}
	l := b.Discharges[len(b.Discharges) : len(b.Discharges)+2]
	return sparedCaveats(b.Root.Caveats) && alike(l[0], api.Token{ID: "spare"}) && alike(l[1], api.Token{ID: "room"})
}

// spoilAll: all that a bundle's lists have room for is written over.
func spoilAll(b api.Bundle) {
	spoilCaveats(b.Root.Caveats)
	l := b.Discharges[:cap(b.Discharges)]
	for i := range l {
		spoilCaveats(l[i].Caveats)
		l[i] = api.Token{Key: 77, ID: "over"}
	}
}

// apart: has each list of a bundle memory of its own, spare room too? (What is written to one is seen in none of the others.)
func apart(t *testing.T, b api.Bundle) {
	t.Helper()
	lists := [][]api.Caveat{b.Root.Caveats}
	for _, d := range b.Discharges {
		lists = append(lists, d.Caveats)
	}
	var was [][]api.Caveat
	for _, l := range lists {
		was = append(was, slices.Clone(l))
	}
	for j, l := range lists {
		room := l[:cap(l)]
		kept := slices.Clone(room)
		spoilCaveats(l)
		for k, m := range lists {
			if k != j && !slices.Equal(m, was[k]) {
				t.Errorf("lists %d and %d share memory", j, k)
			}
		}
		copy(room, kept)
	}
}

// Two answers to one token, with spare room behind its caveats or without: neither is the other one's, nor the token's.
func TestBindHasNewMemory(t *testing.T) {
	for many := range api.MaxCaveats + 2 {
		x := api.Token{Key: 3, ID: "room", Caveats: mixed(many), Tag: tagOf(31)}
		want, _ := toldBind(tagOf(32), x)
		for i, y := range []api.Token{copied(x), roomy(x)} {
			one, e1 := Bind(tagOf(32), y)
			two, e2 := Bind(tagOf(32), y)
			if e1 != api.OK || e2 != api.OK || !alike(one, want) || !alike(two, want) {
				t.Errorf("%d caveats: %d, %s", many, e1, brief(one))
			}
			spoilCaveats(one.Caveats)
			one.Caveats = append(one.Caveats, api.Caveat{Text: "behind"})
			if !alike(two, want) || !alike(y, x) || (i == 1 && !sparedCaveats(y.Caveats)) {
				t.Errorf("%d caveats: what is done to an answer is seen", many)
			}
			spoilCaveats(y.Caveats)
			if !alike(two, want) {
				t.Errorf("%d caveats: what is done to the token is seen", many)
			}
		}
	}
}

// Fits changes no token, its spare room included, and doesn't look there.
func TestFitsLeavesTheToken(t *testing.T) {
	for many := range api.MaxCaveats + 2 {
		x := api.Token{Key: 3, ID: "room", Caveats: mixed(many), Tag: tagOf(33)}
		for range 2 {
			y := roomy(x)
			fits(t, tagOf(34), tagOf(33), y, !x.Bound, "spare room")
			if !alike(x, y) || !sparedCaveats(y.Caveats) {
				t.Errorf("%d caveats: changed", many)
			}
			x.Bound = true
		}
	}
}

// memories: bundles with which memory is tried: some of whose tokens share their lists, too.
func memories() []api.Bundle {
	twice := api.Token{ID: "twice", Caveats: mixed(3), Tag: tagOf(35)}
	off := twice
	off.Bound = true
	out := []api.Bundle{
		{}, {Root: root()}, {Root: twice, Discharges: []api.Token{twice, twice, off, off}},
		{Root: api.Token{Caveats: mixed(64)}, Discharges: []api.Token{{Caveats: mixed(64)}, {Caveats: mixed(64), Bound: true}}},
	}
	for _, which := range []uint64{0, 0x5555, 0xffff} {
		for _, many := range []int{1, 2, 3, 15, 16, 17} {
			out = append(out, api.Bundle{Root: root(), Discharges: several(many, which)})
		}
	}
	return out
}

func TestAllHasNewMemory(t *testing.T) {
	for i, b := range memories() {
		want, e := toldAll(b)
		for j, c := range []api.Bundle{copiedAll(b), roomyAll(b)} {
			one, e1 := All(c)
			two, e2 := All(c)
			if e1 != e || e2 != e || !allAlike(one, want) || !allAlike(two, want) {
				t.Errorf("bundle %d: %d, %s", i, e1, briefAll(one))
			}
			apart(t, one)
			spoilAll(one)
			one.Discharges = append(one.Discharges, api.Token{ID: "behind"})
			if !allAlike(two, want) || !allAlike(c, b) || (j == 1 && !sparedAll(c)) {
				t.Errorf("bundle %d: what is done to an answer is seen", i)
			}
			spoilAll(c)
			if !allAlike(two, want) {
				t.Errorf("bundle %d: what is done to the bundle is seen", i)
			}
		}
	}
}

// Tokens that share one list when they are handed in share none in the answer.
func TestAllOfTokensThatShareAList(t *testing.T) {
	l := mixed(9)
	x := api.Token{ID: "shared", Caveats: l[2:5], Tag: tagOf(36)}
	y := x
	y.Bound, y.Caveats = true, l[3:7]
	b := api.Bundle{Root: x, Discharges: []api.Token{x, y, x, y}}
	want, _ := toldAll(b)
	got, e := All(b)
	if e != api.OK || !allAlike(got, want) {
		t.Fatalf("%d, %s", e, briefAll(got))
	}
	apart(t, got)
	spoilAll(got)
	if !slices.Equal(l, mixed(9)) {
		t.Error("what is done to the answer is seen")
	}
}

// A list is nil or empty: the two are one.
func TestNilAndEmpty(t *testing.T) {
	for _, l := range [][]api.Caveat{nil, {}, make([]api.Caveat, 0, 9), mixed(4)[:0]} {
		x := api.Token{ID: "a", Caveats: l, Tag: tagOf(37)}
		binds(t, tagOf(38), x)
		fits(t, tagOf(38), tagOf(37), x, true, "no caveats")
		for _, m := range [][]api.Token{nil, {}, make([]api.Token, 0, 9), several(4, 0)[:0], {x}} {
			alls(t, api.Bundle{Root: x, Discharges: m})
			alls(t, api.Bundle{Root: root(), Discharges: m})
		}
	}
}

// P1 and P2: every call ends, and answers the same again, whatever was called between.

func TestGreatArguments(t *testing.T) {
	great := long(1 << 21)
	x := api.Token{Key: math.MaxUint64, ID: great, Caveats: slices.Repeat([]api.Caveat{{Third: true, Text: great, ID: great, Vault: great}}, 1<<16), Tag: tagOf(39)}
	binds(t, tagOf(40), x)
	fits(t, tagOf(40), tagOf(39), x, true, "a great token")
	y, _ := Bind(tagOf(40), x)
	fits(t, tagOf(40), tagOf(39), y, true, "a great token, bound")
	binds(t, tagOf(40), y)
	for _, b := range []api.Bundle{{Root: x}, {Root: root(), Discharges: []api.Token{x}}, {Root: root(), Discharges: slices.Repeat([]api.Token{{ID: great}}, 1<<16)}, {Discharges: make([]api.Token, 1<<16)}} {
		if z, e := All(b); e != api.ErrRange || !allAlike(z, api.Bundle{}) {
			t.Errorf("%d discharges: %d", len(b.Discharges), e)
		}
	}
}

func TestAnswersStayTheSame(t *testing.T) {
	all := append(badBundles(), memories()...)
	l := append(append(tokens(), badTokens()...), bound(tokens())...)
	of := func(i int) string {
		b, x := all[i], l[i%len(l)]
		var out bytes.Buffer
		fmt.Fprintln(&out, Tag(b.Root.Tag, x.Tag))
		y, e := Bind(b.Root.Tag, x)
		fmt.Fprintln(&out, y, e, Fits(b.Root.Tag, x.Tag, x), Fits(b.Root.Tag, x.Tag, y), packet.Same(x, y))
		c, e := All(b)
		fmt.Fprintln(&out, c, e)
		return out.String()
	}
	var was []string
	for i := range all {
		was = append(was, of(i))
	}
	for i := len(all) - 1; i >= 0; i-- {
		if of(i) != was[i] {
			t.Errorf("bundle %d: other answers than ahead of it", i)
		}
	}
}
