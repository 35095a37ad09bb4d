package verify

import (
	"crypto/hmac"
	"crypto/sha256"
	"encoding/binary"
	"encoding/hex"
	"fmt"
	"math"
	"slices"
	"strings"
	"testing"

	"chitty/addr"
	"chitty/api"
	"chitty/bind"
	"chitty/bundle"
	"chitty/chain"
	"chitty/grant"
	"chitty/third"
)

// chance: many bytes that no rule of the program makes, others for each seed.
func chance(seed uint64, many int) string {
	out := make([]byte, many)
	for i := range out {
		seed = seed*6364136223846793005 + 1442695040888963407
		out[i] = byte(seed >> 40)
	}
	return string(out)
}

// dice are numbers that look like chance.
type dice uint64

// roll: a number from 0 on, below that one.
func (d *dice) roll(below int) int {
	*d = *d*6364136223846793005 + 1442695040888963407
	return int(*d>>33) % below
}

// tagOf: a tag that looks like chance, another one for each seed.
func tagOf(seed uint64) api.Tag { return api.Tag([]byte(chance(seed, api.Size))) }

// from: the tag of that byte, and of the others that step leads to.
func from(first, step byte) api.Tag {
	var t api.Tag
	for i := range t {
		t[i] = first + byte(i)*step
	}
	return t
}

// turned: the tag, one of its bits turned.
func turned(t api.Tag, bit int) api.Tag {
	t[bit/8] ^= 1 << (bit % 8)
	return t
}

// flipped: the text, one of its bits turned.
func flipped(s string, bit int) string {
	b := []byte(s)
	b[bit/8] ^= 1 << (bit % 8)
	return string(b)
}

// long: a text of so many bytes.
func long(many int) string { return strings.Repeat("a", many) }

// eight: a number's eight bytes, the highest first.
func eight(n uint64) string { return string(binary.BigEndian.AppendUint64(nil, n)) }

// few: a number in as few bytes as it needs.
func few(n uint64) string { return string(binary.AppendUvarint(nil, n)) }

// piece: a field's bytes.
func piece(kind byte, value string) string {
	return string([]byte{kind}) + few(uint64(len(value))) + value
}

// mac: layer 6's Key, by Go's own HMAC.
func mac(key api.Tag, row ...string) api.Tag {
	h := hmac.New(sha256.New, key[:])
	for _, p := range row {
		h.Write([]byte(eight(uint64(len(p))) + p))
	}
	return api.Tag(h.Sum(nil))
}

// toldStart: layer 19's Start.
func toldStart(key api.Tag, number uint64, id string) api.Tag {
	return mac(key, "mint", eight(number), id)
}

// pieces: a caveat's bytes.
func pieces(c api.Caveat) string {
	if c.Third {
		return piece(4, few(c.Party)) + piece(5, c.ID) + piece(6, c.Vault)
	}
	return piece(3, c.Text)
}

// toldNext: layer 19's Next.
func toldNext(t api.Tag, c api.Caveat) api.Tag { return mac(t, "caveat", pieces(c)) }

// toldTags: layer 19's Tags.
func toldTags(key api.Tag, x api.Token) []api.Tag {
	l := []api.Tag{toldStart(key, x.Key, x.ID)}
	for i, c := range x.Caveats {
		l = append(l, toldNext(l[i], c))
	}
	return l
}

// toldEnd: layer 19's End.
func toldEnd(key api.Tag, x api.Token) api.Tag { return toldTags(key, x)[len(x.Caveats)] }

// toldSeal: layer 7's Seal, of at most 64 bytes.
func toldSeal(key, nonce api.Tag, plain string) string {
	out := []byte(plain)
	for i := range out {
		by := mac(key, "stream", string(nonce[:]), eight(uint64(i/32)))
		out[i] ^= by[i%32]
	}
	end := mac(key, "seal", string(nonce[:]), string(out))
	return string(nonce[:]) + string(out) + string(end[:])
}

// toldHide: layer 20's Hide.
func toldHide(t, nonce, root api.Tag) string {
	return toldSeal(mac(t, "vault"), nonce, string(root[:]))
}

// toldReveal: layer 20's Reveal: the root that is hidden again in just this vault.
func toldReveal(t api.Tag, vault string) (api.Tag, bool) {
	if len(vault) != 96 {
		return api.Tag{}, false
	}
	nonce := api.Tag([]byte(vault[:32]))
	by := mac(mac(t, "vault"), "stream", vault[:32], eight(0))
	root := api.Tag([]byte(vault[32:64]))
	for i := range root {
		root[i] ^= by[i]
	}
	return root, toldHide(t, nonce, root) == vault
}

// toldTie: layer 21's Tag.
func toldTie(root, end api.Tag) api.Tag { return mac(root, "bind", string(end[:])) }

// toldFits: layer 21's Fits.
func toldFits(root, end api.Tag, d api.Token) bool {
	if d.Bound {
		return d.Tag == toldTie(root, end)
	}
	return d.Tag == end
}

// tokenCan: can a token be?
func tokenCan(x api.Token) bool {
	for _, c := range x.Caveats {
		if c.Third && (c.Text != "" || len(c.ID) > 1024 || len(c.Vault) > 1024) {
			return false
		}
		if !c.Third && (len(c.Text) > 512 || c.Party != 0 || c.ID != "" || c.Vault != "") {
			return false
		}
	}
	return len(x.ID) <= 1024 && len(x.Caveats) <= 64
}

// bundleCan: can a bundle be?
func bundleCan(b api.Bundle) bool {
	for _, d := range b.Discharges {
		if d.Key != 0 || !tokenCan(d) {
			return false
		}
	}
	return len(b.Discharges) <= 16 && !b.Root.Bound && tokenCan(b.Root)
}

// all: a bundle's tokens, the root first.
func all(b api.Bundle) []api.Token { return append([]api.Token{b.Root}, b.Discharges...) }

// told: the answer of Verify that P22.1 tells. The tokens go by their numbers; one that has a key is used.
func told(key api.Tag, b api.Bundle, r api.Request, clock uint64) api.Reason {
	if !bundleCan(b) {
		return 1
	}
	if b.Root.Tag != toldEnd(key, b.Root) {
		return 6
	}
	tokens := all(b)
	order := []int{0}
	keys := map[int]api.Tag{0: key}
	for at := 0; at < len(order); at++ {
		x := tokens[order[at]]
		tags := toldTags(keys[order[at]], x)
		for i, c := range x.Caveats {
			if !c.Third {
				if !grant.Text(c.Text, r, clock) {
					return 7
				}
				continue
			}
			root, ok := toldReveal(tags[i], c.Vault)
			if !ok {
				return 8
			}
			found := 0
			for j := len(tokens) - 1; j > 0; j-- {
				if _, used := keys[j]; !used && tokens[j].ID == c.ID {
					found = j
				}
			}
			if found == 0 {
				return 9
			}
			if !toldFits(b.Root.Tag, toldEnd(root, tokens[found]), tokens[found]) {
				return 10
			}
			keys[found] = root
			order = append(order, found)
		}
	}
	if len(order) < len(tokens) {
		return 11
	}
	return 0
}

// alike: are all fields the same?
func alike(a, b api.Token) bool {
	return a.Key == b.Key && a.ID == b.ID && slices.Equal(a.Caveats, b.Caveats) && a.Bound == b.Bound && a.Tag == b.Tag
}

// allAlike: are all tokens the same?
func allAlike(a, b api.Bundle) bool {
	return alike(a.Root, b.Root) && slices.EqualFunc(a.Discharges, b.Discharges, alike)
}

// copied: the same token, its caveats in memory of their own.
func copied(x api.Token) api.Token {
	x.Caveats = append([]api.Caveat(nil), x.Caveats...)
	return x
}

// copiedAll: the same bundle, all its lists in memory of their own.
func copiedAll(b api.Bundle) api.Bundle {
	out := api.Bundle{Root: copied(b.Root)}
	for _, d := range b.Discharges {
		out.Discharges = append(out.Discharges, copied(d))
	}
	return out
}

// brief: what is told of a token in a fault.
func brief(x api.Token) string {
	s := fmt.Sprintf("{key %d, id %.20q, bound %t, tag %x, %d caveats:", x.Key, x.ID, x.Bound, x.Tag[:4], len(x.Caveats))
	for _, c := range x.Caveats[:min(len(x.Caveats), 5)] {
		s += fmt.Sprintf(" %.20q%.20q", c.Text, c.ID)
	}
	return s + "}"
}

// briefAll: what is told of a bundle in a fault.
func briefAll(b api.Bundle) string {
	var out []string
	for _, x := range all(b) {
		out = append(out, brief(x))
	}
	return strings.Join(out[:min(len(out), 20)], ", ")
}

// The world of the tests: one key, one clock, one request, and deals by their numbers.

// now is the clock by which the texts of holding hold.
const now = 50

// key: the key by which roots are minted.
func key() api.Tag { return tagOf(1) }

// visit: the request of which the texts of holding hold.
func visit() api.Request {
	return api.Request{Op: "read", Path: "/a/./b", From: addr.Four(10, 1, 2, 3), Cost: 1.5}
}

// holding: texts that hold, two of each kind.
func holding() []string {
	return []string{"before 51", "op list,read", "path /a", "net 10.0.0.0/8", "cost 3p-1", "since 50", "before 18446744073709551615", "op read", "path /a/b", "net 10.1.2.3/32", "cost inf", "since 0"}
}

// failing: predicates' texts that don't hold, of each kind.
func failing() []string {
	return []string{"before 50", "op list,write", "path /a/b/c", "net 10.1.2.2/32", "cost 1p0", "since 51", "before 0", "op rea", "path /ab", "net ::/0", "cost -inf", "since 18446744073709551615"}
}

// strange: texts that are no predicate's.
func strange() []string {
	return []string{
		"", " ", "x", "op", "op ", " op read", "op read ", "op  read", "op read\n", "op read\x00", "OP read", "op READ", "op read,read", "op read,list", "op read," + long(17),
		"before 051", "before -1", "before 18446744073709551616", "before", "since 00", "path a", "path /a/", "path /a/.", "net 10.1.2.3/8", "net 10.0.0.0/33", "cost nan", "cost 6p-2", "cost 2", "allow", "true", "\xff", "\u00e9", "op " + long(509), long(512),
	}
}

// rootOf: the key of the discharges of that deal.
func rootOf(deal int) api.Tag { return tagOf(uint64(deal) + 2000) }

// idOf: the ID of that deal's caveats and discharges.
func idOf(deal int) string { return fmt.Sprint("c", deal) }

// asking: a third party's caveat of that ID, behind that tag, with that root in its vault.
func asking(ahead api.Tag, id string, root api.Tag) api.Caveat {
	return api.Caveat{Third: true, Party: 7, ID: id, Vault: toldHide(ahead, tagOf(uint64(len(id))+3000), root)}
}

// ask is a third party's caveat that is still to be made: what is asked by ID, and the root that is hidden.
type ask struct {
	id   string
	root api.Tag
}

// with: the token, these caveats more: a text's, that of a deal by its number, of an ask, or one that is whole.
func with(x api.Token, l ...any) api.Token {
	x = copied(x)
	for _, a := range l {
		var c api.Caveat
		switch v := a.(type) {
		case string:
			c.Text = v
		case int:
			c = asking(x.Tag, idOf(v), rootOf(v))
		case ask:
			c = asking(x.Tag, v.id, v.root)
		case api.Caveat:
			c = v
		}
		x.Caveats = append(x.Caveats, c)
		x.Tag = toldNext(x.Tag, c)
	}
	return x
}

// root: the root of these caveats.
func root(l ...any) api.Token {
	return with(api.Token{Key: 9, ID: "me", Tag: toldStart(key(), 9, "me")}, l...)
}

// proof: the discharge of that deal, with these caveats.
func proof(deal int, l ...any) api.Token { return proofOf(idOf(deal), rootOf(deal), l...) }

// proofOf: the discharge of that ID, by that root, with these caveats.
func proofOf(id string, root api.Tag, l ...any) api.Token {
	return with(api.Token{ID: id, Tag: toldStart(root, 0, id)}, l...)
}

// tied: the discharge, bound to that root.
func tied(root api.Token, d api.Token) api.Token {
	d.Bound, d.Tag = true, toldTie(root.Tag, d.Tag)
	return d
}

// tiedSome: the bundle, those of its discharges bound whose bit is 1.
func tiedSome(b api.Bundle, which int) api.Bundle {
	out := copiedAll(b)
	for i, d := range out.Discharges {
		if which>>i&1 == 1 {
			out.Discharges[i] = tied(b.Root, d)
		}
	}
	return out
}

// of: the bundle of these tokens.
func of(root api.Token, l ...api.Token) api.Bundle { return api.Bundle{Root: root, Discharges: l} }

// verifies: is Verify what is wanted, and what P22.1 tells, and the bundle as it was?
func verifies(t *testing.T, why string, key api.Tag, b api.Bundle, r api.Request, clock uint64, want api.Reason) {
	t.Helper()
	was := copiedAll(b)
	if got := Verify(key, b, r, clock); got != want {
		t.Errorf("%s: %d, not %d; %s", why, got, want, briefAll(b))
	}
	if should := told(key, b, r, clock); should != want {
		t.Errorf("%s: the document tells %d, not %d; %s", why, should, want, briefAll(b))
	}
	if !allAlike(b, was) {
		t.Errorf("%s: changed: %s", why, briefAll(was))
	}
}

// says: the same, by the key, the request and the clock of all tests.
func says(t *testing.T, why string, b api.Bundle, want api.Reason) {
	t.Helper()
	verifies(t, why, key(), b, visit(), now, want)
}

// bytesOf: the bytes of the digits.
func bytesOf(t *testing.T, digits string) string {
	t.Helper()
	b, e := hex.DecodeString(digits)
	if e != nil {
		t.Fatal(e)
	}
	return string(b)
}

// P22.1

// The digits were worked out by another program's HMAC: a root, its discharge, and that one's.
func TestDigits(t *testing.T) {
	tag := func(digits string) api.Tag { return api.Tag([]byte(bytesOf(t, digits))) }
	r := api.Token{Key: 300, ID: "me", Tag: tag("fc412a89c0cc3e93321f3fffb8a83d85b1196ca0b0c747673cc81f14796e1ead"), Caveats: []api.Caveat{
		{Text: "op read,write"},
		{Third: true, Party: 300, ID: "cid", Vault: bytesOf(t, "0104070a0d101316191c1f2225282b2e3134373a3d404346494c4f5255585b5ebc4ff0be2e9f81bd3e037ff413c5c86054e6cd245e700c993e72357c395da6e4af330210c0453d0c499193435403e66544e4dfbcc81303f1e79d67d781e53f0f")},
		{Text: "before 90"},
	}}
	d := api.Token{ID: "cid", Tag: tag("4863d302556a003ccf0cf722100788714855163239b3b11759935de82d7a0845"), Caveats: []api.Caveat{
		{Text: "path /a"},
		{Third: true, Party: math.MaxUint64, ID: "deep", Vault: bytesOf(t, "0910171e252c333a41484f565d646b727980878e959ca3aab1b8bfc6cdd4dbe299ec13a390668687e99041a5c829bb8bbd9691c86689e0cfba0a7caf2bcd3ef9d67c783550f85a91f30a1bc3d753c0ae94fdf2dec5c5c0039387b3db10f93e36")},
	}}
	e := api.Token{ID: "deep", Tag: tag("30d5d055131c7fb53f2153c4e33ff0c50e1b9adf7f46c4d5fe72a99b0ca98800"), Caveats: []api.Caveat{{Text: "cost 3p-1"}}}
	dTied, eTied := d, e
	dTied.Bound, dTied.Tag = true, tag("b5e3907543870cbb87be91ae38244b636d0033df3b5ce60a828c764a4ef2109a")
	eTied.Bound, eTied.Tag = true, tag("73009ca4ee6f74fc56ab9b716c183d08cc578939e6b8e9cd482c377bc834144b")
	rising := from(0, 1)
	for _, l := range [][]api.Token{{d, e}, {e, d}, {dTied, e}, {d, eTied}, {dTied, eTied}, {eTied, dTied}} {
		verifies(t, "digits", rising, of(r, l...), visit(), 89, api.Allow)
		verifies(t, "digits, later", rising, of(r, l...), visit(), 90, api.Denied)
		verifies(t, "digits, another key", key(), of(r, l...), visit(), 89, api.BadTag)
		for _, q := range []api.Request{{Op: "list", Path: "/a"}, {Op: "read", Path: "/b"}, {Op: "read", Path: "/a", Cost: 2}} {
			verifies(t, "digits, another request", rising, of(r, l...), q, 89, api.Denied)
		}
	}
	verifies(t, "digits, one of two", rising, of(r, dTied), visit(), 89, api.Missing)
	verifies(t, "digits, the other one", rising, of(r, e), visit(), 89, api.Missing)
	dTied.Bound = false
	verifies(t, "digits, Bound taken off", rising, of(r, dTied, e), visit(), 89, api.BadDischarge)
}

// The document's example: a token that was minted allows each request.
func TestMintedAllowsEachRequest(t *testing.T) {
	for i, id := range []string{"", "me", "\x00\xff", long(1024)} {
		for _, number := range []uint64{0, 1, math.MaxUint64} {
			k := tagOf(number + uint64(i))
			x, _ := chain.Mint(k, number, id)
			for _, r := range []api.Request{{}, visit(), {Op: "OP", Path: "..", From: api.Addr{B: [16]byte{9: 1}}, Cost: math.NaN()}, {Op: long(1 << 16), Path: "/" + long(1<<16), Cost: math.Inf(1)}} {
				for _, clock := range []uint64{0, now, math.MaxUint64} {
					verifies(t, "minted", k, of(x), r, clock, api.Allow)
				}
			}
		}
	}
}

// What layers 19 to 21 make themselves is allowed.
func TestWhatOtherLayersMake(t *testing.T) {
	x, _ := chain.Mint(key(), 9, "me")
	x, _ = chain.Attenuate(x, "op read")
	deal := third.Deal{Party: 7, Key: tagOf(41), Root: tagOf(42), Cond: "am I me?", Ask: tagOf(43), Vault: tagOf(44)}
	x, _ = third.Add(x, deal)
	x, _ = chain.Attenuate(x, "before 51")
	found, cond, ok := third.Unlock(deal.Key, x.Caveats[1].ID)
	if !ok || cond != deal.Cond {
		t.Fatal("no root")
	}
	d, _ := third.Discharge(found, x.Caveats[1].ID, "path /a", "since 3")
	says(t, "without the discharge", bundle.Of(x), api.Missing)
	says(t, "loose", bundle.Of(x, d), api.Allow)
	b, _ := bind.All(bundle.Of(x, d))
	says(t, "bound", b, api.Allow)
	less, _ := chain.Attenuate(x, "op read")
	says(t, "loose, the root a caveat more", bundle.Of(less, d), api.Allow)
	says(t, "bound, the root a caveat more", bundle.Of(less, b.Discharges...), api.BadDischarge)
	d, _ = third.Discharge(found, x.Caveats[1].ID, "path /a", "since 51")
	says(t, "too early", bundle.Of(x, d), api.Denied)
}

// places: bundles in which a text stands at each place: the root's, a discharge's, and that of a discharge's discharge.
func places(s string) []api.Bundle {
	return []api.Bundle{
		of(root(s)), of(root("op read", s)), of(root(s, "op read")), of(root(1, s), proof(1)), of(root(s, 1), proof(1)),
		of(root(1), proof(1, s)), of(root(1), proof(1, "op read", s, "path /")), of(root(1, 2), proof(1), proof(2, s)), of(root(1, 2), proof(2), proof(1, s)),
		of(root(1), proof(1, 2), proof(2, s)), of(root(1), proof(2, s), proof(1, 2)), of(root(1), proof(1, 2), proof(2, 3), proof(3, "op read", s)),
	}
}

func TestTextsAtEachPlace(t *testing.T) {
	for reason, l := range map[api.Reason][]string{api.Allow: holding(), api.Denied: append(failing(), strange()...)} {
		for _, s := range l {
			for i, b := range places(s) {
				says(t, fmt.Sprintf("%.30q, place %d", s, i), b, reason)
				says(t, fmt.Sprintf("%.30q, place %d, bound", s, i), tiedSome(b, -1), reason)
			}
		}
	}
}

// One of 64 that doesn't hold.
func TestOneOf64Denied(t *testing.T) {
	good := make([]any, 64)
	for i := range good {
		good[i] = holding()[i%12]
	}
	says(t, "64 in the root", of(root(good...)), api.Allow)
	good[0] = 1
	says(t, "64 in both", of(root(good...), proof(1, good[1:]...)), api.Allow)
	good[0] = "op read"
	for i := range 64 {
		l := slices.Clone(good)
		l[i] = append(failing(), strange()...)[i%40]
		says(t, fmt.Sprint("the root's caveat ", i), of(root(l...)), api.Denied)
		says(t, fmt.Sprint("the discharge's caveat ", i), of(root(1), proof(1, l...)), api.Denied)
	}
}

// The clocks and requests at which all of a bundle holds, and at which one of its caveats doesn't.
func TestClocksAndRequests(t *testing.T) {
	b := of(root("before 90", 1, "op read,write"), proof(1, "since 3", 2, "path /a"), proof(2, "net 10.0.0.0/8", "cost 1p1"))
	good := api.Request{Op: "write", Path: "/a", From: addr.Four(10, 0, 0, 0), Cost: 2}
	type change struct {
		turn func(r *api.Request)
		want api.Reason
	}
	changes := []change{
		{func(r *api.Request) {}, 0}, {func(r *api.Request) { *r = visit() }, 0}, {func(r *api.Request) { *r = api.Request{} }, 7},
		{func(r *api.Request) { r.Op = "read" }, 0}, {func(r *api.Request) { r.Op = "list" }, 7}, {func(r *api.Request) { r.Op = "" }, 7}, {func(r *api.Request) { r.Op = "read,write" }, 7},
		{func(r *api.Request) { r.Path = "/a/b/../c" }, 0}, {func(r *api.Request) { r.Path = "/a/../b" }, 7}, {func(r *api.Request) { r.Path = "/" }, 7}, {func(r *api.Request) { r.Path = "" }, 7},
		{func(r *api.Request) { r.From.B[3] = 255 }, 0}, {func(r *api.Request) { r.From.B[0] = 11 }, 7}, {func(r *api.Request) { r.From.V6 = true }, 7}, {func(r *api.Request) { r.From.B[4] = 1 }, 7},
		{func(r *api.Request) { r.Cost = math.Inf(-1) }, 0}, {func(r *api.Request) { r.Cost = math.Nextafter(2, 3) }, 7}, {func(r *api.Request) { r.Cost = math.NaN() }, 7},
	}
	for which := range 4 {
		x := tiedSome(b, which)
		for i, c := range changes {
			r := good
			c.turn(&r)
			for _, clock := range []uint64{0, 2, 3, 4, 89, 90, 91, math.MaxUint64} {
				want := c.want
				if clock < 3 || clock >= 90 {
					want = api.Denied
				}
				verifies(t, fmt.Sprintf("request %d by the clock %d", i, clock), key(), x, r, clock, want)
			}
		}
	}
}

// Bundles that can't be

// badCaveats: such as can't be.
func badCaveats() []api.Caveat {
	return []api.Caveat{
		{Text: long(513)}, {Text: strings.Repeat("\u00e9", 257)}, {Third: true, Text: "op read"}, {Third: true, ID: long(1025)}, {Third: true, Vault: long(1025)},
		{Text: "op read", Party: 1}, {Text: "op read", ID: "a"}, {Text: "op read", Vault: "a"}, {Party: 1}, {ID: "a"}, {Vault: "a"}, {Text: long(513), ID: long(1025)},
	}
}

// repeated: so many times the text op read.
func repeated(many int) []any { return slices.Repeat([]any{"op read"}, many) }

// wide: a root that asks for so many discharges, and these.
func wide(many int) api.Bundle {
	var l []any
	var d []api.Token
	for i := range many {
		l = append(l, i+1)
		d = append(d, proof(i+1))
	}
	return of(root(l...), d...)
}

// badBundles: such as can't be, but would be allowed, did nobody ask for that.
func badBundles() []api.Bundle {
	bad := of(root())
	bad.Root.Bound = true
	also := of(root(1), proof(1))
	also.Root.Bound = true
	number := proof(1)
	number.Key = 1
	number.Tag = toldStart(rootOf(1), 1, number.ID)
	great := proof(2)
	great.Key = math.MaxUint64
	great.Tag = toldStart(rootOf(2), math.MaxUint64, great.ID)
	out := []api.Bundle{
		bad, also, wide(17), wide(18), wide(64), of(root(1), number), of(root(1, 2), proof(1), great), of(root(1), tied(root(1), number)),
		of(root(repeated(65)...)), of(root(1), proof(1, repeated(65)...)), of(root(1), proof(1, repeated(1000)...)),
		of(with(api.Token{ID: long(1025), Tag: toldStart(key(), 0, long(1025))}, "op read")),
		of(root(ask{long(1025), rootOf(1)}), proofOf(long(1025), rootOf(1))), of(root(1), proof(1), proofOf(long(1025), rootOf(1))),
	}
	for _, c := range badCaveats() {
		out = append(out, of(root(c)), of(root("op read", c)), of(root(c, "op read")), of(root(1), proof(1, c)), of(root(1, 2), proof(1), proof(2, "op read", c, "op read")), of(root(1), proof(1), proof(2, c)))
	}
	return out
}

func TestBundlesThatCannotBe(t *testing.T) {
	for i, b := range badBundles() {
		why := fmt.Sprint("bad bundle ", i)
		says(t, why, b, api.BadForm)
		verifies(t, why+", another key", tagOf(2), b, visit(), now, api.BadForm)
		x := copiedAll(b)
		x.Root.Tag = turned(x.Root.Tag, i)
		says(t, why+", a wrong tag", x, api.BadForm)
		x = copiedAll(b)
		x.Root.Caveats = append([]api.Caveat{{Text: "op list"}}, x.Root.Caveats...)
		says(t, why+", a caveat that doesn't hold", x, api.BadForm)
		x = copiedAll(b)
		x.Discharges = append(x.Discharges, proof(40))
		says(t, why+", one that isn't used", x, api.BadForm)
		x = copiedAll(b)
		x.Root = with(x.Root, 41)
		says(t, why+", one that is missing", x, api.BadForm)
		x = copiedAll(b)
		x.Root = with(x.Root, api.Caveat{Third: true, ID: "c1"})
		says(t, why+", a bad vault", x, api.BadForm)
		for j := range x.Discharges {
			x = copiedAll(b)
			x.Discharges[j].Tag = turned(x.Discharges[j].Tag, j)
			says(t, why+", a bad discharge", x, api.BadForm)
		}
	}
}

// Those that can just be are looked at.
func TestBundlesThatCanJustBe(t *testing.T) {
	says(t, "16 discharges", wide(16), api.Allow)
	says(t, "64 caveats", of(root(repeated(64)...)), api.Allow)
	says(t, "a discharge of 64 caveats", of(root(1), proof(1, repeated(64)...)), api.Allow)
	says(t, "a root's ID of 1024", of(with(api.Token{ID: long(1024), Tag: toldStart(key(), 0, long(1024))}, "op read")), api.Allow)
	says(t, "a discharge's ID of 1024", of(root(ask{long(1024), rootOf(1)}), proofOf(long(1024), rootOf(1))), api.Allow)
	says(t, "an empty ID", of(root(ask{"", rootOf(1)}), proofOf("", rootOf(1))), api.Allow)
	says(t, "a vault of 1024", of(root(api.Caveat{Third: true, ID: "c1", Vault: long(1024)}), proof(1)), api.BadVault)
	says(t, "a text of 512", of(root(long(512))), api.Denied)
	says(t, "a party of all bits", of(root(api.Caveat{Third: true, Party: math.MaxUint64, ID: "c1", Vault: asking(root().Tag, "c1", rootOf(1)).Vault}), proof(1)), api.Allow)
	verifies(t, "nothing at all", key(), api.Bundle{}, api.Request{}, 0, api.BadTag)
	verifies(t, "no key, number and ID", api.Tag{}, of(api.Token{Tag: toldStart(api.Tag{}, 0, "")}), api.Request{}, 0, api.Allow)
}

// More bytes than a bundle may be sent as are none that Verify asks about.
func TestBundleOfManyBytes(t *testing.T) {
	var l []any
	for range 64 {
		l = append(l, "path "+strings.Repeat("/abc", 60))
	}
	b := wide(16)
	for i := range b.Discharges {
		b.Discharges[i] = proof(i+1, l...)
	}
	if _, e := bundle.Encode(b); e != api.ErrLong {
		t.Fatal(e)
	}
	r := visit()
	r.Path = strings.Repeat("/abc", 61)
	verifies(t, "many bytes", key(), b, r, now, api.Allow)
	says(t, "many bytes, another path", b, api.Denied)
}

// Roots whose tag is wrong

// wrongRoots: the bundle, its root's Tag wrong in each way.
func wrongRoots(b api.Bundle) map[string]api.Bundle {
	out := map[string]api.Bundle{}
	add := func(why string, turn func(x *api.Token)) {
		x := copiedAll(b)
		turn(&x.Root)
		out[why] = x
	}
	for bit := range 8 * api.Size {
		add(fmt.Sprint("bit ", bit, " turned"), func(x *api.Token) { x.Tag = turned(x.Tag, bit) })
	}
	add("none", func(x *api.Token) { x.Tag = api.Tag{} })
	add("the key", func(x *api.Token) { x.Tag = key() })
	add("by another key", func(x *api.Token) { x.Tag = toldEnd(tagOf(2), *x) })
	add("by the zero key", func(x *api.Token) { x.Tag = toldEnd(api.Tag{}, *x) })
	add("of another number", func(x *api.Token) { x.Key++ })
	add("of another ID", func(x *api.Token) { x.ID += "\x00" })
	add("bound to itself", func(x *api.Token) { x.Tag = toldTie(x.Tag, x.Tag) })
	tags := toldTags(key(), b.Root)
	for i := range b.Root.Caveats {
		add(fmt.Sprint("the tag ahead of caveat ", i), func(x *api.Token) { x.Tag = tags[i] })
		add(fmt.Sprint("without caveat ", i), func(x *api.Token) { x.Caveats = slices.Delete(x.Caveats, i, i+1) })
		add(fmt.Sprint("caveat ", i, " twice"), func(x *api.Token) { x.Caveats = slices.Insert(x.Caveats, i, x.Caveats[i]) })
		add(fmt.Sprint("one more, ahead of caveat ", i), func(x *api.Token) { x.Caveats = slices.Insert(x.Caveats, i, api.Caveat{Text: "op read"}) })
		add(fmt.Sprint("another caveat ", i), func(x *api.Token) { x.Caveats[i] = api.Caveat{Text: "since 1"} })
		add(fmt.Sprint("the first ones ahead of caveat ", i), func(x *api.Token) { x.Caveats = x.Caveats[:i] })
	}
	add("one more, at the end", func(x *api.Token) { x.Caveats = append(x.Caveats, api.Caveat{Text: "op read"}) })
	add("one more that doesn't hold", func(x *api.Token) { x.Caveats = append(x.Caveats, api.Caveat{Text: "op list"}) })
	add("one more of a third party", func(x *api.Token) { x.Caveats = append(x.Caveats, asking(x.Tag, "c1", rootOf(1))) })
	return out
}

func TestWrongRoots(t *testing.T) {
	for i, b := range []api.Bundle{
		of(root()), of(root("op read")), of(root("op read", 1, "before 90"), proof(1, "path /a")), of(root(1, 2), proof(1), proof(2)),
		of(root("op list")), of(root(1)), of(root("op read"), proof(1)), of(root(1), proofOf("c1", rootOf(2))), of(root(api.Caveat{Third: true, ID: "c1"}), proof(1)), of(root("op read", "", "no such thing")),
	} {
		if told(key(), b, visit(), now) == api.BadTag {
			t.Fatal(i)
		}
		for why, x := range wrongRoots(b) {
			says(t, fmt.Sprintf("bundle %d, %s", i, why), x, api.BadTag)
		}
		verifies(t, "another key", tagOf(2), b, visit(), now, api.BadTag)
		verifies(t, "the zero key", api.Tag{}, b, visit(), now, api.BadTag)
		verifies(t, "the root's own Tag as key", b.Root.Tag, b, visit(), now, api.BadTag)
		for bit := range 8 * api.Size {
			verifies(t, fmt.Sprint("the key's bit ", bit, " turned"), turned(key(), bit), b, visit(), now, api.BadTag)
		}
	}
	// Two caveats in each other's place.
	x := root("op read", "before 90")
	slices.Reverse(x.Caveats)
	says(t, "in each other's place", of(x), api.BadTag)
}

// Vaults

// vaults: those in which the tag ahead of the caveat finds nothing, of a root of these caveats ahead.
func vaults(x api.Token) map[string]string {
	good := asking(x.Tag, "c1", rootOf(1)).Vault
	own := rootOf(1)
	plain := string(own[:])
	out := map[string]string{
		"empty": "", "a byte less": good[:95], "a byte more": good + "\x00", "a byte less ahead": good[1:], "a byte more ahead": "\x00" + good, "twice": good + good, "noughts": string(make([]byte, 96)), "chance": chance(5, 96), "the longest": long(1024),
		"by the key":             toldHide(key(), tagOf(3), own),
		"by no tag":              toldHide(api.Tag{}, tagOf(3), own),
		"by the root itself":     toldHide(own, tagOf(3), own),
		"by the first tag":       toldHide(toldStart(tagOf(2), 9, "me"), tagOf(3), own),
		"by the tag, no vault's": toldSeal(x.Tag, tagOf(3), plain),
		"by a party's":           toldSeal(mac(x.Tag, "party"), tagOf(3), plain),
		"31 bytes":               toldSeal(mac(x.Tag, "vault"), tagOf(3), plain[:31]),
		"33 bytes":               toldSeal(mac(x.Tag, "vault"), tagOf(3), plain+"a"),
		"no bytes":               toldSeal(mac(x.Tag, "vault"), tagOf(3), ""),
		"64 bytes":               toldSeal(mac(x.Tag, "vault"), tagOf(3), plain+plain),
		"by the tag behind":      toldHide(toldNext(x.Tag, api.Caveat{Third: true, Party: 7, ID: "c1", Vault: good}), tagOf(3), own),
	}
	for i, tag := range toldTags(key(), x)[:len(x.Caveats)] {
		out[fmt.Sprint("by the tag ahead of caveat ", i)] = toldHide(tag, tagOf(3), own)
	}
	for bit := range 8 * 96 {
		out[fmt.Sprint("bit ", bit, " turned")] = flipped(good, bit)
	}
	return out
}

func TestVaultsOfNothing(t *testing.T) {
	for i, x := range []api.Token{root(), root("op read"), root("op read", 2)} {
		also := []api.Token{proof(2)}[:i/2]
		for why, vault := range vaults(x) {
			c := api.Caveat{Third: true, Party: 7, ID: "c1", Vault: vault}
			why = fmt.Sprintf("%d caveats ahead, %s", i, why)
			says(t, why, of(with(x, c), append(also, proof(1))...), api.BadVault)
			says(t, why+", without a discharge", of(with(x, c), also...), api.BadVault)
			says(t, why+", with a discharge that doesn't fit", of(with(x, c), append(also, proofOf("c1", rootOf(2)))...), api.BadVault)
			says(t, why+", a bad text behind", of(with(x, c, "op list"), append(also, proof(1))...), api.BadVault)
		}
		says(t, "a good one", of(with(x, 1), append(also, proof(1))...), api.Allow)
	}
}

// A caveat is its place's alone: behind another tag its vault opens no more, though the tag of the token is right.
func TestVaultsAtOtherPlaces(t *testing.T) {
	x := root("op read", 1)
	c := x.Caveats[1]
	says(t, "at its place", of(x, proof(1)), api.Allow)
	says(t, "ahead of it", of(root(c), proof(1)), api.BadVault)
	says(t, "behind it", of(with(x, c), proof(1), proof(1)), api.BadVault)
	says(t, "in another root", of(with(api.Token{Key: 8, ID: "me", Tag: toldStart(key(), 8, "me")}, "op read", c), proof(1)), api.BadVault)
	says(t, "in a discharge", of(root(2), proof(2, "op read", c), proof(1)), api.BadVault)
	d := proof(2, 1)
	says(t, "a discharge's in the root", of(root(2, d.Caveats[0]), proof(2), proof(1)), api.BadVault)
	says(t, "a discharge's, bad", of(root(2), proof(2, api.Caveat{Third: true, ID: "c1"}), proof(1)), api.BadVault)
	// The vault says nothing of the ID, nor of the party.
	c = asking(root().Tag, "c1", rootOf(1))
	c.ID, c.Party = "other", 0
	says(t, "another ID", of(root(c), proofOf("other", rootOf(1))), api.Allow)
	// Discharges are looked at by their vault's root: a vault by the tag that the service's key would make opens none.
	e := api.Token{ID: "c2", Tag: toldStart(key(), 0, "c2")}
	e = with(e, 1)
	says(t, "made by the service's key", of(root(2), proof(2, e.Caveats[0]), proof(1)), api.BadVault)
	// Nor does one by a bound discharge's Tag.
	y := root(2)
	f := tied(y, proof(2))
	says(t, "by a bound tag", of(y, tied(y, proof(2, asking(f.Tag, "c1", rootOf(1)))), proof(1)), api.BadVault)
}

// Discharges that aren't there, or aren't right

func TestMissing(t *testing.T) {
	x := root("op read", 1, "before 90")
	says(t, "none", of(x), api.Missing)
	for _, id := range []string{"", "c", "c11", "c2", "C1", " c1", "c1 ", "c1\x00", "1", "me", long(1024), idOf(11)} {
		says(t, fmt.Sprintf("one of %.20q", id), of(x, proofOf(id, rootOf(1))), api.Missing)
		says(t, fmt.Sprintf("one of %.20q, bound", id), of(x, tied(x, proofOf(id, rootOf(1)))), api.Missing)
		says(t, fmt.Sprintf("one of %.20q beside", id), of(x, proofOf(id, rootOf(1)), proof(1)), api.Unused)
	}
	says(t, "another one's", of(x, proof(2)), api.Missing)
	says(t, "the root itself", of(root(ask{"me", key()})), api.Missing)
	says(t, "the first of two", of(root(1, 2), proof(2)), api.Missing)
	says(t, "the second of two", of(root(1, 2), proof(1)), api.Missing)
	says(t, "a discharge's", of(root(1), proof(1, 2)), api.Missing)
	says(t, "a discharge's discharge's", of(root(1), proof(1, 2), proof(2, 3)), api.Missing)
	says(t, "that of a discharge which has another one's", of(root(1, 2), proof(1, 3), proof(2)), api.Missing)
	for many := range 17 {
		b := wide(many)
		for i := range b.Discharges {
			y := copiedAll(b)
			y.Discharges = slices.Delete(y.Discharges, i, i+1)
			says(t, fmt.Sprintf("number %d of %d", i, many), y, api.Missing)
		}
	}
	b := wide(16)
	b.Root = with(b.Root, 17, 18)
	says(t, "the 17th", b, api.Missing)
}

// wrongProofs: discharges of deal 1 that don't fit with that root.
func wrongProofs(x api.Token) map[string]api.Token {
	good := proof(1, "op read", "path /a")
	out := map[string]api.Token{
		"by another root":        proofOf("c1", rootOf(2), "op read"),
		"by the zero root":       proofOf("c1", api.Tag{}),
		"by the key":             proofOf("c1", key()),
		"by the root's Tag":      proofOf("c1", x.Tag),
		"bound to another root":  tied(root("op list"), good),
		"bound to the key":       tied(api.Token{Tag: key()}, good),
		"bound to no root":       tied(api.Token{}, good),
		"bound to itself":        tied(good, good),
		"bound twice":            tied(x, tied(x, good)),
		"bound, by another root": tied(x, proofOf("c1", rootOf(2))),
	}
	add := func(why string, turn func(d *api.Token)) {
		for _, d := range []api.Token{copied(good), tied(x, copied(good))} {
			y := copied(d)
			turn(&y)
			out[fmt.Sprint(why, ", bound ", d.Bound)] = y
		}
	}
	for i := range good.Caveats {
		add(fmt.Sprint("without caveat ", i), func(d *api.Token) { d.Caveats = slices.Delete(d.Caveats, i, i+1) })
		add(fmt.Sprint("one more, ahead of caveat ", i), func(d *api.Token) { d.Caveats = slices.Insert(d.Caveats, i, api.Caveat{Text: "op read"}) })
		add(fmt.Sprint("another caveat ", i), func(d *api.Token) { d.Caveats[i] = api.Caveat{Text: "since 1"} })
	}
	add("no caveats", func(d *api.Token) { d.Caveats = nil })
	add("in each other's place", func(d *api.Token) { slices.Reverse(d.Caveats) })
	add("one more", func(d *api.Token) { d.Caveats = append(d.Caveats, api.Caveat{Text: "op read"}) })
	add("one more that doesn't hold", func(d *api.Token) { d.Caveats = append(d.Caveats, api.Caveat{Text: "op list"}) })
	add("the other kind", func(d *api.Token) { d.Bound = !d.Bound })
	add("no Tag", func(d *api.Token) { d.Tag = api.Tag{} })
	add("the root's Tag", func(d *api.Token) { d.Tag = x.Tag })
	for bit := range 8 * api.Size {
		add(fmt.Sprint("bit ", bit, " turned"), func(d *api.Token) { d.Tag = turned(d.Tag, bit) })
	}
	return out
}

func TestDischargesThatDoNotFit(t *testing.T) {
	for _, x := range []api.Token{root(1), root("op read", 1, "before 90")} {
		for why, d := range wrongProofs(x) {
			says(t, why, of(x, d), api.BadDischarge)
			says(t, why+", one that fits behind", of(x, d, proof(1)), api.BadDischarge)
			says(t, why+", one that fits ahead", of(x, proof(1), d), api.Unused)
			says(t, why+", another one ahead", of(x, proof(2), d), api.BadDischarge)
		}
	}
	// As a discharge's discharge: it is bound to the root's Tag, not to the one of the discharge that asks for it.
	x := root(2)
	for why, d := range wrongProofs(x) {
		says(t, why+", deeper", of(x, proof(2, 1), d), api.BadDischarge)
	}
	up := proof(2, 1)
	says(t, "bound to who asks for it", of(x, up, tied(up, proof(1))), api.BadDischarge)
	says(t, "bound to who asks for it, bound", of(x, tied(x, up), tied(tied(x, up), proof(1))), api.BadDischarge)
	says(t, "bound to the root", of(x, tied(x, up), tied(x, proof(1))), api.Allow)
	// Bound to what came of the root by a caveat more, or what it came of.
	y := root("op read", 1)
	says(t, "bound to a root with a caveat less", of(with(y, "op read"), tied(y, proof(1))), api.BadDischarge)
	says(t, "bound to a root with a caveat more", of(y, tied(with(y, "op read"), proof(1))), api.BadDischarge)
	// A discharge that doesn't fit isn't gone through: neither is its text asked, nor its caveat.
	says(t, "with a text that doesn't hold", of(y, proofOf("c1", rootOf(2), "op list")), api.BadDischarge)
	says(t, "with one that is missing", of(y, proofOf("c1", rootOf(2), 3)), api.BadDischarge)
}

func TestUnused(t *testing.T) {
	x := root("op read", 1)
	for i, d := range []api.Token{{}, {ID: "x"}, proof(2), proof(1), proof(1, "op list"), proof(1, 1), proofOf("c1", rootOf(2)), proofOf("", rootOf(1)), proofOf("me", key()), proof(2, "no such thing"), proof(2, 3), tied(x, proof(1)), tied(x, proof(2)), proof(1, repeated(64)...)} {
		why := fmt.Sprint("one more, ", i)
		says(t, why+", nothing asked for", of(root("op read"), d), api.Unused)
		says(t, why+", behind", of(x, proof(1), d), api.Unused)
		says(t, why+", behind a bound one", of(x, tied(x, proof(1)), d), api.Unused)
		says(t, why+", twice", of(x, proof(1), d, d), api.Unused)
		says(t, why+", and one that doesn't hold", of(with(x, "op list"), proof(1), d), api.Denied)
	}
	says(t, "another one's ahead", of(x, proof(2), proof(1)), api.Unused)
	says(t, "16 of one", of(x, slices.Repeat([]api.Token{proof(1)}, 16)...), api.Unused)
	says(t, "16 of none", of(root(), slices.Repeat([]api.Token{{}}, 16)...), api.Unused)
	for many := range 16 {
		b := wide(many)
		for i := range many {
			y := copiedAll(b)
			y.Discharges = append(y.Discharges, b.Discharges[i])
			says(t, "one twice", y, api.Unused)
		}
	}
	// What only one that isn't used asks for isn't used, either.
	says(t, "two that ask for one another", of(x, proof(1), proof(2, 3), proof(3, 2)), api.Unused)
	says(t, "a row that nothing asked for", of(x, proof(1), proof(2, 3), proof(3)), api.Unused)
}

// Which comes first

// fault is a caveat, and a discharge that goes along, by which a bundle isn't allowed for one reason alone.
type fault struct {
	reason api.Reason
	caveat func(n int) any
	beside func(n int) []api.Token
}

// faults: of each reason that a caveat may have, and none.
func faults() []fault {
	none := func(int) []api.Token { return nil }
	good := func(n int) []api.Token { return []api.Token{proof(n)} }
	deal := func(n int) any { return n }
	return []fault{
		{api.Allow, func(int) any { return "op read" }, none},
		{api.Allow, deal, good},
		{api.Denied, func(int) any { return "op list" }, none},
		{api.Denied, func(int) any { return "no such thing" }, none},
		{api.BadVault, func(n int) any { return api.Caveat{Third: true, ID: idOf(n), Vault: chance(1, 96)} }, good},
		{api.BadVault, func(n int) any { return api.Caveat{Third: true, ID: idOf(n)} }, none},
		{api.Missing, deal, none},
		{api.Missing, deal, func(n int) []api.Token { return []api.Token{proofOf("other", rootOf(n))} }},
		{api.BadDischarge, deal, func(n int) []api.Token { return []api.Token{proofOf(idOf(n), rootOf(n+1))} }},
		{api.BadDischarge, deal, func(n int) []api.Token { return []api.Token{tied(api.Token{}, proof(n))} }},
	}
}

// first: the first reason that isn't Allow.
func first(l ...api.Reason) api.Reason {
	for _, r := range l {
		if r != api.Allow {
			return r
		}
	}
	return api.Allow
}

// orders: is it answered so, whatever the discharges' order, which is turned round and turned about?
func orders(t *testing.T, why string, x api.Token, d []api.Token, want api.Reason) {
	t.Helper()
	for i := range d {
		says(t, fmt.Sprint(why, ", from ", i), of(x, append(slices.Clone(d[i:]), d[:i]...)...), want)
	}
	y := slices.Clone(d)
	slices.Reverse(y)
	says(t, why+", turned round", of(x, y...), want)
	says(t, why+", with one that isn't used", of(x, append(y, proof(99))...), first(want, api.Unused))
}

func TestWhichComesFirst(t *testing.T) {
	for i, f := range faults() {
		for j, g := range faults() {
			why := fmt.Sprintf("fault %d, and %d", i, j)
			beside := append(f.beside(10), g.beside(20)...)
			orders(t, why+", in the root", root(f.caveat(10), g.caveat(20)), beside, first(f.reason, g.reason))
			orders(t, why+", in the root, a text between", root(f.caveat(10), "before 90", g.caveat(20)), beside, first(f.reason, g.reason))
			orders(t, why+", in one discharge", root(1), append(beside, proof(1, f.caveat(10), g.caveat(20))), first(f.reason, g.reason))
			orders(t, why+", in the root behind, and in a discharge", root(1, f.caveat(10)), append(beside, proof(1, g.caveat(20))), first(f.reason, g.reason))
			orders(t, why+", in the root ahead, and in a discharge", root(f.caveat(10), 1), append(beside, proof(1, g.caveat(20))), first(f.reason, g.reason))
			orders(t, why+", in two discharges", root(1, 2), append(beside, proof(1, f.caveat(10)), proof(2, g.caveat(20))), first(f.reason, g.reason))
			orders(t, why+", in a discharge, and in one of the other one", root(1, 2), append(beside, proof(1, 3), proof(2, f.caveat(10)), proof(3, g.caveat(20))), first(f.reason, g.reason))
			orders(t, why+", in a discharge behind its own one, and in that", root(1), append(beside, proof(1, 3, f.caveat(10)), proof(3, g.caveat(20))), first(f.reason, g.reason))
			orders(t, why+", in two discharges of one", root(1), append(beside, proof(1, 2, 3), proof(2, f.caveat(10)), proof(3, g.caveat(20))), first(f.reason, g.reason))
			orders(t, why+", in discharges of two", root(1, 2), append(beside, proof(1, 3), proof(2, 4), proof(3, f.caveat(10)), proof(4, g.caveat(20))), first(f.reason, g.reason))
		}
	}
}

// The root's caveats come before any discharge's: one that is Denied there, though the discharge ahead of it has a text that doesn't hold, too, and a bad vault.
func TestRootBeforeDischarges(t *testing.T) {
	bad := api.Caveat{Third: true, ID: "c9"}
	says(t, "a bad vault in the root", of(root(1, bad), proof(1, "op list")), api.BadVault)
	says(t, "one that is missing in the root", of(root(1, 2), proof(1, "op list")), api.Missing)
	says(t, "one that is missing, a bad vault in the discharge", of(root(1, 2), proof(1, bad)), api.Missing)
	says(t, "a text in the root, a bad vault in the discharge", of(root(1, "op list"), proof(1, bad)), api.Denied)
	says(t, "a bad discharge in the root", of(root(1, 2), proof(1, "op list"), proofOf("c2", rootOf(1))), api.BadDischarge)
	says(t, "the discharge that was found later, deep", of(root(1, 2), proof(1, 3), proof(3, "op list"), proof(2, bad)), api.BadVault)
	says(t, "the discharge that was found first, deep", of(root(1, 2), proof(2, 3), proof(3, "op list"), proof(1, bad)), api.BadVault)
}

// One ID, more than once

func TestTwoDischargesOfOneID(t *testing.T) {
	good, bad, denied := proof(1, "op read"), proofOf("c1", rootOf(2)), proof(1, "op list")
	for _, c := range []struct {
		why  string
		b    api.Bundle
		want api.Reason
	}{
		{"the first one fits", of(root(1), good, bad), api.Unused},
		{"the second one fits", of(root(1), bad, good), api.BadDischarge},
		{"both fit", of(root(1), good, proof(1)), api.Unused},
		{"the first one holds", of(root(1), good, denied), api.Unused},
		{"the second one holds", of(root(1), denied, good), api.Denied},
		{"two caveats, one discharge", of(root(1, 1), good), api.Missing},
		{"two caveats, a text between, one discharge", of(root(1, "op read", 1), good), api.Missing},
		{"two caveats, the same twice", of(root(1, 1), good, good), api.Allow},
		{"two caveats, two discharges", of(root(1, 1), good, proof(1, "path /a", "cost inf")), api.Allow},
		{"two caveats, the second doesn't fit", of(root(1, 1), good, bad), api.BadDischarge},
		{"two caveats, the first doesn't fit", of(root(1, 1), bad, good), api.BadDischarge},
		{"two caveats, the second doesn't hold", of(root(1, 1), good, denied), api.Denied},
		{"two caveats, the first doesn't hold", of(root(1, 1), denied, good), api.Denied},
		{"two caveats, three discharges", of(root(1, 1), good, good, good), api.Unused},
		{"three caveats, two discharges", of(root(1, 1, 1), good, good), api.Missing},
		{"one in the root, one in a discharge, one discharge", of(root(1, 2), good, proof(2, 1)), api.Missing},
		{"one in the root, one in a discharge", of(root(1, 2), good, proof(2, 1), good), api.Allow},
		{"one in each of two discharges", of(root(2, 3), proof(2, 1), good, proof(3, 1), good), api.Allow},
		{"one in each of two discharges, one discharge", of(root(2, 3), proof(2, 1), good, proof(3, 1)), api.Missing},
		{"bound and loose", of(root(1, 1), good, tied(root(1, 1), good)), api.Allow},
		{"bound to another root and loose", of(root(1, 1), good, tied(root(1), good)), api.BadDischarge},
		{"bound to another root, ahead", of(root(1), tied(root(2), good), good), api.BadDischarge},
		{"an empty ID twice", of(root(ask{"", rootOf(1)}, ask{"", rootOf(2)}), proofOf("", rootOf(1)), proofOf("", rootOf(2))), api.Allow},
	} {
		says(t, c.why, c.b, c.want)
	}
}

// Two caveats of one ID with unlike roots in their vaults: which discharge goes with which is told by the order of the caveats, as they are come to, and of the discharges.
func TestWhichDischargeIsUsedByWhich(t *testing.T) {
	a, b := ask{"z", rootOf(51)}, ask{"z", rootOf(52)}
	da, db := proofOf("z", rootOf(51)), proofOf("z", rootOf(52))
	for _, c := range []struct {
		why  string
		x    api.Token
		more []api.Token
	}{
		{"in the root", root(a, b), nil},
		{"in the root, one between", root(a, 1, "op read", b), []api.Token{proof(1)}},
		{"in the root behind, and in a discharge", root(1, a), []api.Token{proof(1, b)}},
		{"in two discharges", root(1, 2), []api.Token{proof(1, a), proof(2, b)}},
		{"in one discharge", root(1), []api.Token{proof(1, a, b)}},
		{"in a discharge, and in one of the other one", root(1, 2), []api.Token{proof(1, 3), proof(2, a), proof(3, b)}},
		{"in a discharge, and in its own", root(1), []api.Token{proof(1, 3, a), proof(3, b)}},
		{"in discharges of two", root(1, 2), []api.Token{proof(1, 3), proof(2, 4), proof(3, a), proof(4, b)}},
		{"in the root, and in its own discharge", root(a), nil},
	} {
		if c.x.Caveats[len(c.x.Caveats)-1].ID == "z" && len(c.x.Caveats) == 1 {
			d := proofOf("z", rootOf(51), b)
			says(t, c.why, of(c.x, d, db), api.Allow)
			says(t, c.why+", the other way round", of(c.x, db, d), api.BadDischarge)
			continue
		}
		more := slices.Clone(c.more)
		for range 2 {
			says(t, c.why, of(c.x, append(slices.Clone(more), da, db)...), api.Allow)
			says(t, c.why+", ahead", of(c.x, append([]api.Token{da, db}, more...)...), api.Allow)
			says(t, c.why+", about", of(c.x, append(append([]api.Token{da}, more...), db)...), api.Allow)
			says(t, c.why+", the other way round", of(c.x, append(slices.Clone(more), db, da)...), api.BadDischarge)
			says(t, c.why+", the other way about", of(c.x, append(append([]api.Token{db}, more...), da)...), api.BadDischarge)
			slices.Reverse(more)
		}
	}
}

// Discharges that name each other, or themselves: each is used once at most, and all ends.
func TestDischargesThatNameEachOther(t *testing.T) {
	self, plain := proof(1, 1), proof(1)
	x := root(1)
	says(t, "itself", of(x, self), api.Missing)
	says(t, "itself, and a plain one", of(x, self, plain), api.Allow)
	says(t, "a plain one, and itself", of(x, plain, self), api.Unused)
	says(t, "itself, bound, and a plain one", of(x, tied(x, self), tied(x, plain)), api.Allow)
	for many := range 16 {
		l := slices.Repeat([]api.Token{self}, many+1)
		says(t, "itself, more than once", of(x, l...), api.Missing)
		l[many] = plain
		says(t, "itself, more than once, and a plain one", of(x, l...), api.Allow)
	}
	says(t, "two, each the other one", of(x, proof(1, 2), proof(2, 1)), api.Missing)
	says(t, "two, each the other one, the other way round", of(x, proof(2, 1), proof(1, 2)), api.Missing)
	says(t, "two, each the other one, and a plain one", of(x, proof(1, 2), proof(2, 1), plain), api.Allow)
	says(t, "a plain one ahead", of(x, plain, proof(1, 2), proof(2, 1)), api.Unused)
	says(t, "two, asked for both", of(root(1, 2), proof(1, 2), proof(2, 1)), api.Missing)
	says(t, "two, asked for both, and plain ones", of(root(1, 2), proof(1, 2), proof(2, 1), proof(1), proof(2)), api.Allow)
	says(t, "three in a ring", of(x, proof(1, 2), proof(2, 3), proof(3, 1)), api.Missing)
	says(t, "three in a ring, and a plain one", of(x, proof(3, 1), proof(2, 3), proof(1, 2), plain), api.Allow)
	says(t, "nothing asked for", of(root(), self, proof(2, 1)), api.Unused)
	// 64 caveats each, of themselves.
	l := make([]any, 64)
	for i := range l {
		l[i] = 1
	}
	says(t, "each 64 times", of(root(l...), slices.Repeat([]api.Token{proof(1, l...)}, 16)...), api.Missing)
}

// Many discharges

// deep: a root, and so many discharges, each of which asks for the next one.
func deep(many int) api.Bundle {
	b := of(root(1))
	for i := range many {
		if i == many-1 {
			b.Discharges = append(b.Discharges, proof(i+1, "op read"))
		} else {
			b.Discharges = append(b.Discharges, proof(i+1, "op read", i+2))
		}
	}
	return b
}

// tree: a root, and so many discharges, each of which asks for two more, as long as there are more.
func tree(many int) api.Bundle {
	asked := func(i int) []any {
		l := []any{"path /a"}
		for j := 2*i + 1; j <= 2*i+2 && j <= many; j++ {
			l = append(l, j)
		}
		return l
	}
	b := of(root(asked(0)...))
	for i := range many {
		b.Discharges = append(b.Discharges, proof(i+1, asked(i+1)...))
	}
	return b
}

// shuffled: the list in another order, by dice.
func shuffled(l []api.Token, d *dice) []api.Token {
	out := slices.Clone(l)
	for i := range out {
		j := i + d.roll(len(out)-i)
		out[i], out[j] = out[j], out[i]
	}
	return out
}

func TestManyDischarges(t *testing.T) {
	d := dice(1)
	for shape, f := range map[string]func(int) api.Bundle{"wide": wide, "deep": deep, "tree": tree} {
		for _, many := range []int{1, 2, 3, 7, 15, 16} {
			b := f(many)
			says(t, fmt.Sprint(shape, many), b, api.Allow)
			for range 4 {
				x := tiedSome(of(b.Root, shuffled(b.Discharges, &d)...), d.roll(1<<16))
				why := fmt.Sprintf("%s of %d, shuffled", shape, many)
				says(t, why, x, api.Allow)
				at := d.roll(many)
				y := copiedAll(x)
				y.Discharges[at].Bound = !y.Discharges[at].Bound
				says(t, why+", one called what it isn't", y, api.BadDischarge)
				y = copiedAll(x)
				y.Discharges = slices.Delete(y.Discharges, at, at+1)
				says(t, why+", one less", y, api.Missing)
				y = copiedAll(x)
				y.Discharges = append(y.Discharges, y.Discharges[at])
				says(t, why+", one twice", y, []api.Reason{api.Unused, api.BadForm}[many/16])
			}
		}
	}
}

// orderings: calls f with the list in each order.
func orderings(l []api.Token, f func([]api.Token)) {
	var pick func(at int)
	pick = func(at int) {
		if at == len(l) {
			f(l)
			return
		}
		for i := at; i < len(l); i++ {
			l[at], l[i] = l[i], l[at]
			pick(at + 1)
			l[at], l[i] = l[i], l[at]
		}
	}
	pick(0)
}

// In each order, and each choice of those that are bound.
func TestEachOrder(t *testing.T) {
	x := root("op read", 1, "before 90", 2)
	l := []api.Token{proof(1, 3, "path /a"), proof(2, "since 3"), proof(3, "op read", 4), proof(4)}
	orderings(slices.Clone(l), func(m []api.Token) {
		for which := range 16 {
			b := tiedSome(of(x, m...), which)
			says(t, "in order", b, api.Allow)
			verifies(t, "in order, too early", key(), b, visit(), 2, api.Denied)
			y := tiedSome(of(root("op read", 1, "before 90", 2, "op read"), m...), 0)
			y.Discharges = b.Discharges
			want := api.BadDischarge
			if which == 0 {
				want = api.Allow
			}
			says(t, "bound to a root with a caveat less", y, want)
		}
	})
}

// Whatever bit of a bundle's bytes is turned, it is allowed no more.
func TestEachBitOfABundle(t *testing.T) {
	for i, b := range []api.Bundle{of(root("op read", 1), proof(1, "path /a", 2), proof(2)), of(root())} {
		for _, x := range []api.Bundle{b, tiedSome(b, 1), tiedSome(b, -1)} {
			says(t, "as it was", x, api.Allow)
			l, _ := bundle.Encode(x)
			read := map[api.Reason]int{}
			for bit := range 8 * len(l) {
				y, e := bundle.Decode([]byte(flipped(string(l), bit)))
				if e != api.OK {
					continue
				}
				got := Verify(key(), y, visit(), now)
				if got == api.Allow || got != told(key(), y, visit(), now) {
					t.Errorf("bundle %d, bit %d: %d; %s", i, bit, got, briefAll(y))
				}
				read[got]++
			}
			if read[api.BadTag] < 200 || (i == 0 && read[api.BadDischarge] < 200) {
				t.Errorf("bundle %d: %v", i, read)
			}
		}
	}
}

// Bundles by chance

// grown: a bundle by chance, of few IDs, in which each discharge is asked for by a token ahead of it.
func grown(d *dice) api.Bundle {
	many := d.roll(7)
	asked := make([][]any, many+1)
	deals := make([]int, many+1)
	for i := 1; i <= many; i++ {
		deals[i] = 1 + d.roll(4)
		by := d.roll(i)
		asked[by] = append(asked[by], deals[i])
	}
	for i := range asked {
		for range d.roll(3) {
			asked[i] = slices.Insert(asked[i], d.roll(len(asked[i])+1), any(holding()[d.roll(12)]))
		}
	}
	b := of(root(asked[0]...))
	for i := 1; i <= many; i++ {
		b.Discharges = append(b.Discharges, proof(deals[i], asked[i]...))
	}
	if d.roll(2) == 0 {
		b.Discharges = shuffled(b.Discharges, d)
	}
	return b
}

// caveatByChance: one that may be wrong.
func caveatByChance(d *dice) any {
	switch d.roll(5) {
	case 0:
		return failing()[d.roll(12)]
	case 1:
		return strange()[d.roll(30)]
	case 2:
		return api.Caveat{Third: true, ID: idOf(1 + d.roll(4)), Vault: chance(uint64(d.roll(9)), 96)}
	case 3:
		return ask{idOf(1 + d.roll(4)), rootOf(1 + d.roll(4))}
	}
	return 1 + d.roll(5)
}

// harmed: the bundle, something in it other than it was, mostly.
func harmed(b api.Bundle, d *dice) api.Bundle {
	b = copiedAll(b)
	many := len(b.Discharges)
	switch what := d.roll(12); {
	case what == 0:
		b.Root = with(b.Root, caveatByChance(d))
	case what == 1:
		b.Discharges = append(b.Discharges, proof(1+d.roll(5), caveatByChance(d)))
	case what == 2 && d.roll(4) == 0:
		b.Root.Tag = turned(b.Root.Tag, d.roll(256))
	case what == 3 && d.roll(4) == 0:
		b.Root.Bound = true
	case many == 0:
		b.Root = with(b.Root, 1+d.roll(4))
	case what == 4:
		at := d.roll(many)
		b.Discharges[at].Tag = turned(b.Discharges[at].Tag, d.roll(256))
	case what == 5:
		b.Discharges[d.roll(many)].Bound = true
	case what == 6:
		at := d.roll(many)
		b.Discharges[at] = with(b.Discharges[at], caveatByChance(d))
	case what == 7:
		at := d.roll(many)
		b.Discharges = slices.Delete(b.Discharges, at, at+1)
	case what == 8:
		b.Discharges = append(b.Discharges, b.Discharges[d.roll(many)])
	case what == 9 && d.roll(4) == 0:
		b.Discharges[d.roll(many)].Key = 1
	case what == 10:
		b = tiedSome(b, d.roll(128))
	}
	return b
}

// byChance: bundles by chance, whole ones and such as were harmed once or twice.
func byChance(seed, many int) []api.Bundle {
	d := dice(seed)
	var out []api.Bundle
	for i := range many {
		b := grown(&d)
		for range i % 3 {
			b = harmed(b, &d)
		}
		if d.roll(4) == 0 {
			b = tiedSome(b, d.roll(128))
		}
		out = append(out, b)
	}
	return out
}

func TestBundlesByChance(t *testing.T) {
	met := map[api.Reason]int{}
	for i, b := range byChance(7, 4000) {
		want := told(key(), b, visit(), now)
		says(t, fmt.Sprint("bundle by chance ", i), b, want)
		met[want]++
	}
	for _, r := range []api.Reason{api.Allow, api.BadForm, api.BadTag, api.Denied, api.BadVault, api.Missing, api.BadDischarge, api.Unused} {
		if met[r] < 50 {
			t.Errorf("reason %d was met %d times alone", r, met[r])
		}
	}
}

// The rules that hold everywhere: what is handed in is neither changed nor kept.

// roomyCaveats: the same caveats, with others in their spare room.
func roomyCaveats(l []api.Caveat) []api.Caveat {
	return append(slices.Clone(l), api.Caveat{Text: "spare"}, api.Caveat{Third: true, Party: 7})[:len(l)]
}

// sparedCaveats: is the spare room of roomyCaveats as it was?
func sparedCaveats(l []api.Caveat) bool {
	room := l[len(l) : len(l)+2]
	return room[0] == api.Caveat{Text: "spare"} && room[1] == api.Caveat{Third: true, Party: 7}
}

// spoilCaveats: all that the list has room for is written over.
func spoilCaveats(l []api.Caveat) {
	l = l[:cap(l)]
	for i := range l {
		l[i] = api.Caveat{Third: true, Text: "over", Party: 9, ID: "o", Vault: "v"}
	}
}

// roomy: the same token, with caveats in its spare room.
func roomy(x api.Token) api.Token {
	x.Caveats = roomyCaveats(x.Caveats)
	return x
}

// roomyAll: the same bundle, with something in the spare room of each of its lists.
func roomyAll(b api.Bundle) api.Bundle {
	out := api.Bundle{Root: roomy(b.Root)}
	for _, d := range b.Discharges {
		out.Discharges = append(out.Discharges, roomy(d))
	}
	out.Discharges = append(out.Discharges, api.Token{ID: "spare"}, api.Token{ID: "c1"})[:len(b.Discharges)]
	return out
}

// sparedAll: is the spare room of roomyAll as it was?
func sparedAll(b api.Bundle) bool {
	for _, d := range b.Discharges {
		if !sparedCaveats(d.Caveats) {
			return false
		}
	}
	l := b.Discharges[len(b.Discharges) : len(b.Discharges)+2]
	return sparedCaveats(b.Root.Caveats) && alike(l[0], api.Token{ID: "spare"}) && alike(l[1], api.Token{ID: "c1"})
}

// spoilAll: all that a bundle's lists have room for is written over.
func spoilAll(b api.Bundle) {
	spoilCaveats(b.Root.Caveats)
	l := b.Discharges[:cap(b.Discharges)]
	for i := range l {
		spoilCaveats(l[i].Caveats)
		l[i] = api.Token{Key: 77, ID: "over"}
	}
}

func TestVerifyLeavesTheBundle(t *testing.T) {
	for i, b := range append(byChance(11, 1000), badBundles()...) {
		want := told(key(), b, visit(), now)
		x := roomyAll(b)
		for range 2 {
			says(t, fmt.Sprint("bundle ", i, ", spare room"), x, want)
		}
		if !allAlike(x, b) || !sparedAll(x) {
			t.Errorf("bundle %d: changed; %s", i, briefAll(x))
		}
	}
}

// A list is nil or empty: the two are one.
func TestNilAndEmpty(t *testing.T) {
	for _, l := range [][]api.Caveat{nil, {}, make([]api.Caveat, 0, 9), root(1, 2).Caveats[:0]} {
		for _, m := range [][]api.Token{nil, {}, make([]api.Token, 0, 9), wide(3).Discharges[:0]} {
			x := root()
			x.Caveats = l
			says(t, "no caveats", api.Bundle{Root: x, Discharges: m}, api.Allow)
			d := proof(1)
			d.Caveats = l
			says(t, "no caveats of a discharge", of(root(1), append(m, d)...), api.Allow)
			if y, e := Attenuate(api.Bundle{Root: x, Discharges: m}, "op a"); e != api.OK || !allAlike(y, of(root("op a"))) {
				t.Errorf("%d, %s", e, briefAll(y))
			}
			if len(Needs(api.Bundle{Root: x, Discharges: m})) != 0 || len(Texts(x)) != 0 {
				t.Error("something of nothing")
			}
		}
	}
}

// P1 and P2: every call ends, and answers the same again, whatever was called between.

func TestGreatArguments(t *testing.T) {
	great := long(1 << 21)
	x := api.Token{ID: great, Caveats: slices.Repeat([]api.Caveat{{Third: true, Text: great, ID: great, Vault: great}}, 1<<16)}
	y := api.Token{Caveats: slices.Repeat([]api.Caveat{{Text: great}}, 1<<16)}
	for _, b := range []api.Bundle{of(x), of(y), of(root(1), x), of(root(), slices.Repeat([]api.Token{{ID: great}}, 1<<16)...), of(x, slices.Repeat([]api.Token{x}, 1<<16)...)} {
		if got := Verify(key(), b, visit(), now); got != api.BadForm {
			t.Errorf("%d", got)
		}
		if l := Needs(b); len(l) != 0 {
			t.Errorf("%d needed", len(l))
		}
		if z, e := Attenuate(b, great); e != api.ErrRange || !allAlike(z, api.Bundle{}) {
			t.Errorf("%d", e)
		}
	}
	if len(Texts(x)) != 0 || len(Texts(y)) != 1<<16 {
		t.Error("texts")
	}
	r := api.Request{Op: great, Path: "/" + great, Cost: math.NaN()}
	for _, s := range append(holding(), failing()...) {
		b := of(root(1, s), proof(1))
		verifies(t, "a great request, "+s, key(), b, r, math.MaxUint64, told(key(), b, r, math.MaxUint64))
	}
	if z, e := Attenuate(of(root()), great); e != api.ErrForm || !allAlike(z, api.Bundle{}) {
		t.Errorf("%d", e)
	}
}

func TestAnswersStayTheSame(t *testing.T) {
	l := append(byChance(13, 600), badBundles()...)
	texts := append(append(holding(), failing()...), strange()...)
	answers := func(i int) string {
		b := l[i]
		x, e := Attenuate(b, texts[i%len(texts)])
		return fmt.Sprint(Verify(key(), b, visit(), now), Verify(key(), x, visit(), now), Needs(b), Texts(b.Root), x, e)
	}
	var was []string
	for i := range l {
		was = append(was, answers(i))
	}
	for i := len(l) - 1; i >= 0; i-- {
		if answers(i) != was[i] {
			t.Errorf("bundle %d: other answers than ahead of it", i)
		}
	}
}
