package third

import (
	"bytes"
	"crypto/hmac"
	"crypto/sha256"
	"encoding/binary"
	"encoding/hex"
	"fmt"
	"math"
	"slices"
	"strings"
	"testing"

	"chitty/api"
	"chitty/chain"
	"chitty/derive"
	"chitty/packet"
	"chitty/seal"
)

// chance: many bytes that no rule of the program makes, others for each seed.
func chance(seed uint64, many int) string {
	out := make([]byte, many)
	for i := range out {
		seed = seed*6364136223846793005 + 1442695040888963407
		out[i] = byte(seed >> 40)
	}
	return string(out)
}

// tagOf: a tag that looks like chance, another one for each seed.
func tagOf(seed uint64) api.Tag { return api.Tag([]byte(chance(seed, api.Size))) }

// from: the tag of that byte, and of the others that step leads to.
func from(first, step byte) api.Tag {
	var t api.Tag
	for i := range t {
		t[i] = first + byte(i)*step
	}
	return t
}

// rising: the tag whose bytes are 0 to 31.
func rising() api.Tag { return from(0, 1) }

// turned: the tag, one of its bits turned.
func turned(t api.Tag, bit int) api.Tag {
	t[bit/8] ^= 1 << (bit % 8)
	return t
}

// flipped: the text, one of its bits turned.
func flipped(s string, bit int) string {
	b := []byte(s)
	b[bit/8] ^= 1 << (bit % 8)
	return string(b)
}

// long: a text of so many bytes.
func long(many int) string { return strings.Repeat("a", many) }

// every: a text of all 256 bytes, most of which are no text of UTF-8.
func every() string {
	var out [256]byte
	for i := range out {
		out[i] = byte(i)
	}
	return string(out[:])
}

// mac: layer 6's Key, by Go's own HMAC and order of bytes.
func mac(key api.Tag, row ...string) api.Tag {
	h := hmac.New(sha256.New, key[:])
	for _, p := range row {
		h.Write(binary.BigEndian.AppendUint64(nil, uint64(len(p))))
		h.Write([]byte(p))
	}
	return api.Tag(h.Sum(nil))
}

// toldSeal: layer 7's Seal, by Go's own HMAC.
func toldSeal(key, nonce api.Tag, plain string) string {
	out := []byte(plain)
	var by api.Tag
	for i := range out {
		if i%32 == 0 {
			by = mac(key, "stream", string(nonce[:]), string(binary.BigEndian.AppendUint64(nil, uint64(i/32))))
		}
		out[i] ^= by[i%32]
	}
	end := mac(key, "seal", string(nonce[:]), string(out))
	return string(nonce[:]) + string(out) + string(end[:])
}

// toldLock: the Lock that P20.1 tells.
func toldLock(key, nonce, root api.Tag, cond string) string {
	return toldSeal(mac(key, "party"), nonce, string(root[:])+cond)
}

// toldHide: the Hide that P20.2 tells.
func toldHide(t, nonce, root api.Tag) string {
	return toldSeal(mac(t, "vault"), nonce, string(root[:]))
}

// toldStart: layer 19's Start.
func toldStart(key api.Tag, number uint64, id string) api.Tag {
	return mac(key, "mint", string(binary.BigEndian.AppendUint64(nil, number)), id)
}

// few: a number in as few bytes as it needs.
func few(n uint64) string { return string(binary.AppendUvarint(nil, n)) }

// piece: a field's bytes.
func piece(kind byte, value string) string {
	return string([]byte{kind}) + few(uint64(len(value))) + value
}

// toldNext: layer 19's Next.
func toldNext(t api.Tag, c api.Caveat) api.Tag {
	if c.Third {
		return mac(t, "caveat", piece(4, few(c.Party))+piece(5, c.ID)+piece(6, c.Vault))
	}
	return mac(t, "caveat", piece(3, c.Text))
}

// toldCaveat: the caveat that P20.3 tells, behind that tag.
func toldCaveat(t api.Tag, d Deal) api.Caveat {
	return api.Caveat{Third: true, Party: d.Party, ID: toldLock(d.Key, d.Ask, d.Root, d.Cond), Vault: toldHide(t, d.Vault, d.Root)}
}

// caveatCan: can a caveat be?
func caveatCan(c api.Caveat) bool {
	if c.Third {
		return c.Text == "" && len(c.ID) <= 1024 && len(c.Vault) <= 1024
	}
	return len(c.Text) <= 512 && c.Party == 0 && c.ID == "" && c.Vault == ""
}

// toldAdd: the answer of Add that P20.3 tells.
func toldAdd(x api.Token, d Deal) (api.Token, api.Errno) {
	if x.Bound {
		return api.Token{}, 6
	}
	if len(d.Cond) > 512 || len(x.ID) > 1024 || len(x.Caveats) > 63 {
		return api.Token{}, 1
	}
	for _, c := range x.Caveats {
		if !caveatCan(c) {
			return api.Token{}, 1
		}
	}
	y := copied(x)
	y.Caveats = append(y.Caveats, toldCaveat(x.Tag, d))
	y.Tag = toldNext(x.Tag, y.Caveats[len(x.Caveats)])
	return y, 0
}

// toldDischarge: the answer of Discharge that P20.4 tells; how many of the texts are predicates', ahead of the first one that isn't, is told.
func toldDischarge(root api.Tag, id string, texts []string, good int) (api.Token, api.Errno) {
	switch {
	case len(id) > 1024, good > 64:
		return api.Token{}, 1
	case good < len(texts):
		return api.Token{}, 2
	}
	x := api.Token{ID: id, Tag: toldStart(root, 0, id)}
	for _, s := range texts {
		c := api.Caveat{Text: s}
		x.Caveats = append(x.Caveats, c)
		x.Tag = toldNext(x.Tag, c)
	}
	return x, 0
}

// alike: are all fields the same?
func alike(a, b api.Token) bool {
	return a.Key == b.Key && a.ID == b.ID && slices.Equal(a.Caveats, b.Caveats) && a.Bound == b.Bound && a.Tag == b.Tag
}

// copied: the same token, its caveats in memory of their own.
func copied(x api.Token) api.Token {
	x.Caveats = append([]api.Caveat(nil), x.Caveats...)
	return x
}

// brief: what is told of a token in a fault.
func brief(x api.Token) string {
	return fmt.Sprintf("key %d, id %.20q of %d bytes, %d caveats, bound %t, tag %x", x.Key, x.ID, len(x.ID), len(x.Caveats), x.Bound, x.Tag[:4])
}

// briefly: what is told of a deal in a fault.
func briefly(d Deal) string {
	return fmt.Sprintf("party %d, cond %.20q of %d bytes, key %x, root %x", d.Party, d.Cond, len(d.Cond), d.Key[:4], d.Root[:4])
}

// tags: zero, of like bytes, of one bit, and such as look like chance; no two are the same.
func tags() []api.Tag {
	return []api.Tag{{}, from(255, 0), rising(), from(255, 255), {31: 1}, {1}, {0: 128}, tagOf(1), tagOf(2)}
}

// numbers: those for parties.
func numbers() []uint64 {
	out := []uint64{0, 1, 2, 5, 255, 256, 257, 300, math.MaxUint64 - 1, math.MaxUint64}
	for bits := 7; bits < 64; bits++ {
		out = append(out, 1<<bits-1, 1<<bits)
	}
	slices.Sort(out)
	return slices.Compact(out)
}

// conds: what a party may be asked, of 512 bytes and fewer; no two are the same, and some begin as others do.
func conds() []string {
	root := rising()
	out := []string{
		"", "a", "b", "ab", "ba", "am I", "am I me?", "am I me", "am I me?\x00", "op read", "before 90", "party", "vault", " ", "\x00", "\x00\x00", "\x01", "\xff", "\r\n",
		"\u00e9", "\xc3", "\u65e5\u672c", "\xed\xa0\x80", "\ufffd", "\ufeff", every(), every() + every(), string(make([]byte, 32)), string(root[:]), string(root[:]) + "a", strings.Repeat("\u00e9", 256),
	}
	for _, many := range []int{31, 33, 63, 64, 65, 96, 127, 128, 255, 257, 510, 511, 512} {
		out = append(out, long(many), chance(uint64(many), many))
	}
	return out
}

// longConds: such as no caveat can be made of.
func longConds() []string {
	return []string{long(513), chance(513, 513), strings.Repeat("\u00e9", 257), "op " + long(600), long(928), long(929), long(1024), long(1025), long(1 << 17), every() + every() + "\x00"}
}

// some: a deal like any other, another one for each seed.
func some(seed uint64) Deal {
	return Deal{Party: seed, Key: tagOf(seed + 1000), Root: tagOf(seed + 2000), Cond: fmt.Sprint("cond ", seed), Ask: tagOf(seed + 3000), Vault: tagOf(seed + 4000)}
}

// deals: such as a caveat can be made of.
func deals() []Deal {
	out := []Deal{{}, {Party: math.MaxUint64}, {Key: rising(), Root: rising(), Ask: rising(), Vault: rising()}}
	for i, s := range conds() {
		d := some(uint64(i))
		d.Cond = s
		out = append(out, d, Deal{Cond: s})
	}
	for i, t := range tags() {
		d := some(uint64(i))
		one, two, three, four := d, d, d, d
		one.Key, two.Root, three.Ask, four.Vault = t, t, t, t
		out = append(out, one, two, three, four)
	}
	return out
}

// badDeals: such as no caveat can be made of.
func badDeals() []Deal {
	var out []Deal
	for i, s := range longConds() {
		d := some(uint64(i))
		d.Cond = s
		out = append(out, d, Deal{Cond: s})
	}
	return out
}

// mixed: so many caveats, of both kinds, no two of which are the same.
func mixed(many int) []api.Caveat {
	var out []api.Caveat
	for i := range many {
		c := api.Caveat{Text: fmt.Sprintf("before %d", 1000-i)}
		if i%3 == 1 {
			c = api.Caveat{Third: true, Party: uint64(i), ID: chance(uint64(i), i), Vault: "v"}
		}
		out = append(out, c)
	}
	return out
}

// minted: a token of that key, with these caveats, made by what layer 19's promises tell.
func minted(key api.Tag, number uint64, id string, l ...api.Caveat) api.Token {
	x := api.Token{Key: number, ID: id, Caveats: slices.Clone(l), Tag: toldStart(key, number, id)}
	for _, c := range l {
		x.Tag = toldNext(x.Tag, c)
	}
	return x
}

// tokens: such as can be, have room for a caveat more, and aren't bound.
func tokens() []api.Token {
	out := []api.Token{{}, {Tag: tagOf(1)}, {Key: 9, ID: "alice", Tag: tagOf(2)}, {Caveats: []api.Caveat{}}, {ID: long(1024)}, {ID: every()}}
	for many := range api.MaxCaveats {
		out = append(out, api.Token{Caveats: make([]api.Caveat, many)}, minted(tagOf(uint64(many)), math.MaxUint64-uint64(many), "many", mixed(many)...))
	}
	greatest := api.Caveat{Third: true, Party: math.MaxUint64, ID: long(1024), Vault: long(1024)}
	return append(out, minted(tagOf(5), math.MaxUint64, long(1024), slices.Repeat([]api.Caveat{greatest}, 63)...))
}

// badTokens: such as can't be, or can't have a caveat more, and aren't bound.
func badTokens() []api.Token {
	out := []api.Token{{ID: long(1025)}, {ID: long(1 << 17)}, minted(rising(), 1, strings.Repeat("\u00e9", 513), mixed(5)...)}
	for _, many := range []int{64, 65, 66, 128, 256, 320, 1000} {
		out = append(out, api.Token{Caveats: make([]api.Caveat, many)}, minted(rising(), 2, "many", mixed(many)...))
	}
	for _, c := range []api.Caveat{
		{Text: long(513)}, {Third: true, Text: "a"}, {Third: true, ID: long(1025)}, {Third: true, Vault: long(1025)},
		{Party: 1}, {Party: math.MaxUint64}, {ID: "a"}, {Vault: "a"}, {Text: "op a", Party: 1}, {Text: long(513), ID: long(1025)},
	} {
		out = append(out, api.Token{Caveats: []api.Caveat{c}})
		for _, at := range []int{0, 31, 62} {
			l := mixed(63)
			l[at] = c
			out = append(out, api.Token{Key: 3, ID: "bad", Caveats: l, Tag: tagOf(3)})
		}
	}
	return out
}

// bound: the same tokens, Bound.
func bound(l []api.Token) []api.Token {
	out := slices.Clone(l)
	for i := range out {
		out[i].Bound = true
	}
	return out
}

// predicates: texts of each kind.
func predicates() []string {
	return []string{
		"before 0", "before 90", "before 18446744073709551615", "since 0", "since 18446744073709551615",
		"op a", "op list,read", "op " + strings.Repeat("z", 16), "path /", "path /a/b.c", "path " + strings.Repeat("/abc", 64),
		"net 0.0.0.0/0", "net 10.1.2.3/32", "net 2001:db8::/32", "cost 0", "cost -0", "cost 3p-1", "cost inf", "cost 9007199254740991p971",
	}
}

// strange: texts that are no predicate's.
func strange() []string {
	return []string{
		"", " ", "x", "op", "op ", " op a", "op a ", "op  a", "op a\n", "op a\x00", "OP a", "op A", "op a,a", "op read,list", "op " + strings.Repeat("z", 17),
		"before -1", "before 08", "before 18446744073709551616", "path a", "path /a/", "net 10.1.2.3/8", "net ::/129", "cost nan", "cost 2p0", "cost 1",
		every(), "\xff", "\x03\x04op a", "op " + long(508), "op " + long(509), "op " + long(510), long(513), long(1 << 17),
	}
}

// row: so many predicates' texts, one of each kind behind the other.
func row(many int) []string {
	l := predicates()
	var out []string
	for i := range many {
		out = append(out, l[i%len(l)])
	}
	return out
}

// is: are these the bytes of the digits?
func is(t *testing.T, what, got, digits string) {
	t.Helper()
	if hex.EncodeToString([]byte(got)) != digits {
		t.Errorf("%s: %x, not %s", what, got, digits)
	}
}

// sums: are there so many bytes, whose SHA-256 has these digits?
func sums(t *testing.T, what, got string, many int, digits string) {
	t.Helper()
	if s := sha256.Sum256([]byte(got)); len(got) != many || hex.EncodeToString(s[:]) != digits {
		t.Errorf("%s: %d bytes, whose sum is %x", what, len(got), s)
	}
}

// unlocks: does the key find this root, and this cond, in the id?
func unlocks(t *testing.T, key api.Tag, id string, root api.Tag, cond string) {
	t.Helper()
	if r, c, ok := Unlock(key, id); !ok || r != root || c != cond {
		t.Errorf("Unlock of %d bytes: %t, root %x, cond %.20q of %d bytes", len(id), ok, r[:4], c, len(c))
	}
}

// locked: does the key find nothing in the id, and is nothing told beside?
func locked(t *testing.T, key api.Tag, id, why string) {
	t.Helper()
	if r, c, ok := Unlock(key, id); ok || r != (api.Tag{}) || c != "" {
		t.Errorf("%s: Unlock of %d bytes: %t, root %x, cond %.20q of %d bytes", why, len(id), ok, r, c, len(c))
	}
}

// reveals: does the tag find this root in the vault?
func reveals(t *testing.T, by api.Tag, vault string, root api.Tag) {
	t.Helper()
	if r, ok := Reveal(by, vault); !ok || r != root {
		t.Errorf("Reveal of %d bytes: %t, root %x", len(vault), ok, r[:4])
	}
}

// hidden: does the tag find nothing in the vault, and is nothing told beside?
func hidden(t *testing.T, by api.Tag, vault, why string) {
	t.Helper()
	if r, ok := Reveal(by, vault); ok || r != (api.Tag{}) {
		t.Errorf("%s: Reveal of %d bytes: %t, root %x", why, len(vault), ok, r)
	}
}

// shut: does neither find anything?
func shut(t *testing.T, key api.Tag, s, why string) {
	t.Helper()
	locked(t, key, s, why)
	hidden(t, key, s, why)
}

// P20.1

// locks: is it what P20.1 tells, and does it come back?
func locks(t *testing.T, key, nonce, root api.Tag, cond string) string {
	t.Helper()
	got, want := Lock(key, nonce, root, cond), toldLock(key, nonce, root, cond)
	if got != want {
		t.Errorf("Lock by %x, %x of %x and %d bytes: %d bytes, not %d, or others", key[:4], nonce[:4], root[:4], len(cond), len(got), len(want))
	}
	unlocks(t, key, want, root, cond)
	return got
}

// The digits were worked out by another program's HMAC.
func TestLockOfExamples(t *testing.T) {
	none, up, down, all := api.Tag{}, rising(), from(255, 255), from(255, 0)
	first, second := hex.EncodeToString(down[:]), hex.EncodeToString(up[:])
	is(t, "no byte, zero tags", Lock(none, none, none, ""), strings.Repeat("00", 32)+"e33397066ab36aa70cf6ec391f73674590f4a9043db82a1d5b35b1304fc06b67b236b453966cecc6df0903aaaad06ee4847b78fa4feb307a5da6165c16e18a70")
	is(t, "no byte", Lock(up, down, all, ""), first+"3631075c28d60f545363b62b477bcdbf69d395e8fe9fdf1b61e7114af1e05258a7ac6933f6dc2da10f693dc8a8f539331953a91444d99904c3fde9b99c5a1b69")
	is(t, "4 bytes", Lock(up, down, all, "am I"), first+"3631075c28d60f545363b62b477bcdbf69d395e8fe9fdf1b61e7114af1e05258c8788fa14257da782e5af07cfc143d10f9a142367e5f3fd07d379759b4d1a196de35c34b")
	is(t, "8 bytes", Lock(all, up, down, "am I me?"), second+"ba4540a55fafe2f004018dfbc94d8acd335e349319846bc9a10a90fe3c25279ecd7f221608a99764752b612097e35c5fb30258b3266397d81ea44d4257347c50a8836b67fc8b6aaf")
	sums(t, "all bytes", Lock(up, down, all, every()), 352, "96b8d5c63d7e61c6220bdeff2ffa614f1fc6083653d21a95fa2327ff1f6e1055")
	sums(t, "512 bytes", Lock(all, down, up, strings.Repeat("z", 512)), 608, "6f4062e6583484c8f93d9895169f91acd4ef03921c2c9f35b4c915925ebaffa0")
	sums(t, "513 bytes", Lock(all, down, up, strings.Repeat("z", 513)), 609, "d30b1ba3cf06ead4096ef9b681e64716f5cb334c3ea6a34b280475f5db0dfd5c")
	sums(t, "as many as are promised", Lock(up, down, all, strings.Repeat("z", 1<<20-32)), 1<<20+64, "25ab66734e46a92f085bd364fa9e231a5c989d774cd0bbc76444f25b5b3c1e18")
}

func TestLockOfEachLength(t *testing.T) {
	key, nonce, root := tagOf(3), tagOf(4), tagOf(5)
	for many := range 300 {
		if s := locks(t, key, nonce, root, chance(uint64(many), many)); len(s) != many+96 {
			t.Errorf("an id of a cond of %d bytes has %d", many, len(s))
		}
		locks(t, tagOf(uint64(many)), tagOf(uint64(many)+1000), tagOf(uint64(many)+2000), long(many))
	}
	for _, many := range []int{511, 512, 513, 927, 928, 929, 1024, 1025, 65536, 1<<20 - 33, 1<<20 - 32} {
		locks(t, key, nonce, root, chance(uint64(many), many))
	}
}

func TestLockOfAnyBytes(t *testing.T) {
	for i, s := range append(conds(), longConds()...) {
		locks(t, tagOf(uint64(i)), tagOf(uint64(i)+500), tagOf(uint64(i)+900), s)
		locks(t, api.Tag{}, api.Tag{}, api.Tag{}, s)
	}
	for x := range 256 {
		locks(t, rising(), tagOf(6), tagOf(7), string([]byte{byte(x)}))
	}
}

// Tags of like bytes, and the one in the place of the other, are no others than any.
func TestLockOfAnyTags(t *testing.T) {
	for _, key := range tags() {
		for _, nonce := range tags() {
			for _, root := range tags() {
				locks(t, key, nonce, root, "")
				locks(t, key, nonce, root, "am I me?")
			}
		}
	}
}

func TestLockIsMadeOfTheLayersBelow(t *testing.T) {
	for i, s := range append(conds(), longConds()...) {
		key, nonce, root := tagOf(uint64(i)), tagOf(uint64(i)+500), tagOf(uint64(i)+900)
		if got, want := Lock(key, nonce, root, s), seal.Seal(derive.Key(key, "party"), nonce, string(root[:])+s); got != want {
			t.Errorf("cond %d: %d bytes, not %d, or others", i, len(got), len(want))
		}
	}
}

// parts: what a seal has behind its nonce: the bytes that were turned, and the mark.
func parts(s string) (string, string) { return s[32 : len(s)-32], s[len(s)-32:] }

// Each bit of the key, the nonce, the root and the cond is seen; where key or nonce is another, all is.
func TestLocksAreUnlike(t *testing.T) {
	key, nonce, root, cond := tagOf(8), tagOf(9), tagOf(10), chance(11, 40)
	bodies, marks := map[string]bool{}, map[string]bool{}
	many := 0
	add := func(k, n, r api.Tag, c string) {
		body, mark := parts(Lock(k, n, r, c))
		bodies[body], marks[mark] = true, true
		many++
	}
	add(key, nonce, root, cond)
	add(nonce, key, root, cond)
	add(root, nonce, key, cond)
	for bit := range 8 * api.Size {
		add(turned(key, bit), nonce, root, cond)
		add(key, turned(nonce, bit), root, cond)
		add(key, nonce, turned(root, bit), cond)
	}
	for bit := range 8 * len(cond) {
		add(key, nonce, root, flipped(cond, bit))
	}
	for i := range cond {
		add(key, nonce, root, cond[:i])
	}
	if len(bodies) != many || len(marks) != many {
		t.Errorf("%d ids, but %d rows of turned bytes, and %d marks", many, len(bodies), len(marks))
	}
	for a, x := range conds() {
		for b, y := range conds() {
			if a != b && Lock(key, nonce, root, x) == Lock(key, nonce, root, y) {
				t.Errorf("conds %d and %d: one id", a, b)
			}
		}
	}
}

func TestUnlockByAnotherKey(t *testing.T) {
	key, nonce, root := tagOf(12), tagOf(13), tagOf(14)
	for _, cond := range []string{"", "a", "am I me?", long(512), every() + every() + "\x00"} {
		id := Lock(key, nonce, root, cond)
		for bit := range 8 * api.Size {
			locked(t, turned(key, bit), id, "a key's turned bit")
		}
		for _, other := range append(tags(), nonce, root, derive.Key(key, "party"), api.Tag([]byte(id[len(id)-32:]))) {
			locked(t, other, id, "another key")
		}
		unlocks(t, key, id, root, cond)
	}
}

func TestUnlockOfATurnedBit(t *testing.T) {
	key, nonce, root := tagOf(15), tagOf(16), tagOf(17)
	for _, cond := range []string{"", "a", "am I me?", chance(18, 33)} {
		id := Lock(key, nonce, root, cond)
		for bit := range 8 * len(id) {
			locked(t, key, flipped(id, bit), "a turned bit")
		}
	}
	id := Lock(key, nonce, root, long(512))
	for at := range len(id) {
		locked(t, key, flipped(id, 8*at+at%8), "a turned bit of many")
	}
}

// One byte less at either end, or in between, and one more.
func TestUnlockOfAByteLessOrMore(t *testing.T) {
	key, nonce, root := tagOf(19), tagOf(20), tagOf(21)
	for _, cond := range []string{"", "a", "am I me?", long(33), long(512)} {
		id := Lock(key, nonce, root, cond)
		for i := range id {
			locked(t, key, id[:i]+id[i+1:], "a byte less")
			locked(t, key, id[:i], "no bytes behind")
			locked(t, key, id[len(id)-i:], "no bytes ahead")
		}
		for i := range len(id) + 1 {
			for _, x := range []string{"\x00", "\xff", "x"} {
				locked(t, key, id[:i]+x+id[i:], "a byte more")
			}
		}
		locked(t, key, id+id, "an id, twice")
		locked(t, key, id[:32]+id, "a nonce, and an id")
	}
}

func TestUnlockOfWhatNobodyLocked(t *testing.T) {
	for _, key := range tags() {
		locked(t, key, "", "no byte")
		for n := range 400 {
			locked(t, key, string(make([]byte, n)), "bytes 0")
			locked(t, key, long(n), "letters")
			locked(t, key, chance(uint64(n), n), "any bytes")
		}
	}
	for _, n := range []int{607, 608, 609, 1024, 1025, 65536, 1<<20 + 64, 1<<20 + 65} {
		locked(t, rising(), long(n), "many letters")
	}
}

// What who has the key sealed is an id if there is a root in it, whoever made it, and no bound is set to the cond.
func TestUnlockOfSeals(t *testing.T) {
	key, nonce := tagOf(22), tagOf(23)
	own := derive.Key(key, "party")
	for n := range 200 {
		plain := chance(uint64(n)+24, n)
		s := seal.Seal(own, nonce, plain)
		if n < 32 {
			locked(t, key, s, fmt.Sprintf("a plain of %d", n))
			locked(t, key, seal.Seal(own, nonce, string(make([]byte, n))), fmt.Sprintf("a plain of %d bytes 0", n))
			continue
		}
		unlocks(t, key, s, api.Tag([]byte(plain)[:32]), plain[32:])
		if Lock(key, nonce, api.Tag([]byte(plain)[:32]), plain[32:]) != s {
			t.Errorf("a plain of %d: Lock of what is found is another id", n)
		}
	}
	for _, n := range []int{543, 544, 545, 1024, 65536, 1 << 20} {
		plain := chance(uint64(n), n)
		unlocks(t, key, seal.Seal(own, nonce, plain), api.Tag([]byte(plain)[:32]), plain[32:])
	}
}

// unuses: keys, by the key, of other uses or parts than the one.
func unuses(key api.Tag, use, other string) []api.Tag {
	return []api.Tag{
		key, mac(key, other), mac(key, ""), mac(key), mac(key, use, ""), mac(key, use, use), mac(key, "", use), mac(key, use+"\x00"), mac(key, strings.ToUpper(use)),
		mac(key, "mint"), mac(key, "caveat"), mac(key, "seal"), mac(key, "stream"), mac(key, "bind"), mac(mac(key, use), use),
	}
}

func TestUnlockOfOtherUses(t *testing.T) {
	key, nonce := tagOf(25), tagOf(26)
	for _, n := range []int{0, 31, 32, 33, 40} {
		for i, k := range unuses(key, "party", "vault") {
			locked(t, key, seal.Seal(k, nonce, chance(27, n)), fmt.Sprintf("use %d, a plain of %d", i, n))
		}
	}
	for _, root := range tags() {
		locked(t, key, Hide(key, nonce, root), "a Vault")
	}
}

// What is put together of two ids by one key is none.
func TestUnlockOfPiecesOfTwo(t *testing.T) {
	key := tagOf(28)
	a, b := Lock(key, tagOf(29), tagOf(30), "am I me?"), Lock(key, tagOf(31), tagOf(32), "am I he?")
	for i := range a {
		for _, s := range []string{a[:i] + b[i:], b[:i] + a[i:]} {
			if s != a && s != b {
				locked(t, key, s, "pieces of two")
			}
		}
	}
}

// P20.2

// hides: is it what P20.2 tells, and does it come back?
func hides(t *testing.T, by, nonce, root api.Tag) string {
	t.Helper()
	got, want := Hide(by, nonce, root), toldHide(by, nonce, root)
	if got != want {
		t.Errorf("Hide by %x, %x of %x: %x, not %x", by[:4], nonce[:4], root[:4], got, want)
	}
	reveals(t, by, want, root)
	return got
}

// The digits were worked out by another program's HMAC.
func TestHideOfExamples(t *testing.T) {
	none, up, down, all := api.Tag{}, rising(), from(255, 255), from(255, 0)
	is(t, "zero tags", Hide(none, none, none), strings.Repeat("00", 32)+"16390323eb9d1397c4c8c581c7ec4ab157102a3d754713ceaec0355681d60dc77cc0bb8ac9cb50129b010f3086ba2e00f722519e0ff3d061e5358f7d4217ffd3")
	is(t, "one", Hide(up, down, all), hex.EncodeToString(down[:])+"63b696b6b2c342cd1398dd901b87f589f5fd1cc183100c265f1cd3fb3f2a20ac84dc0bb96d82de8f54af1e556e6f9f5dc8c3de94bc2c5196ff3fd83e5c0384ab")
	is(t, "another", Hide(all, up, down), hex.EncodeToString(up[:])+"829c2f66d972d68449ec2fdb6a608556c29198f4b12b43f6a415a73d19c840ed63ec5aba63d276954f536832a76ec5747206cd11c2bc137461cfaa13d1a363bc")
}

func TestHideOfAnyTags(t *testing.T) {
	for _, by := range tags() {
		for _, nonce := range tags() {
			for _, root := range tags() {
				if s := hides(t, by, nonce, root); len(s) != 96 {
					t.Errorf("a vault of %d bytes", len(s))
				}
			}
		}
	}
	for i := range uint64(500) {
		hides(t, tagOf(i), tagOf(i+1000), tagOf(i+2000))
	}
}

func TestHideIsMadeOfTheLayersBelow(t *testing.T) {
	for i := range uint64(200) {
		by, nonce, root := tagOf(i), tagOf(i+500), tagOf(i+900)
		if got, want := Hide(by, nonce, root), seal.Seal(derive.Key(by, "vault"), nonce, string(root[:])); got != want {
			t.Errorf("vault %d: %x, not %x", i, got, want)
		}
	}
}

// Each bit of the tag, the nonce and the root is seen.
func TestHidesAreUnlike(t *testing.T) {
	by, nonce, root := tagOf(33), tagOf(34), tagOf(35)
	bodies, marks := map[string]bool{}, map[string]bool{}
	many := 0
	add := func(b, n, r api.Tag) {
		body, mark := parts(Hide(b, n, r))
		bodies[body], marks[mark] = true, true
		many++
	}
	for _, l := range [][3]api.Tag{{by, nonce, root}, {by, root, nonce}, {nonce, by, root}, {nonce, root, by}, {root, by, nonce}, {root, nonce, by}} {
		add(l[0], l[1], l[2])
	}
	for bit := range 8 * api.Size {
		add(turned(by, bit), nonce, root)
		add(by, turned(nonce, bit), root)
		add(by, nonce, turned(root, bit))
	}
	if len(bodies) != many || len(marks) != many {
		t.Errorf("%d vaults, but %d rows of turned bytes, and %d marks", many, len(bodies), len(marks))
	}
}

// By the same tags, a vault isn't an id, and neither opens as the other.
func TestUsesAreTwo(t *testing.T) {
	for _, by := range tags() {
		for _, root := range tags() {
			id, vault := Lock(by, tagOf(36), root, ""), Hide(by, tagOf(36), root)
			a, b := parts(id)
			c, d := parts(vault)
			if len(id) != len(vault) || a == c || b == d {
				t.Errorf("%x, %x: the same", by[:4], root[:4])
			}
			hidden(t, by, id, "an ID")
			locked(t, by, vault, "a Vault")
		}
	}
}

func TestRevealByAnotherTag(t *testing.T) {
	by, nonce, root := tagOf(37), tagOf(38), tagOf(39)
	vault := Hide(by, nonce, root)
	for bit := range 8 * api.Size {
		hidden(t, turned(by, bit), vault, "a tag's turned bit")
	}
	for _, other := range append(tags(), nonce, root, derive.Key(by, "vault"), api.Tag([]byte(vault[64:]))) {
		hidden(t, other, vault, "another tag")
	}
	// The tags of the other tokens of a chain, those of the same caveats, too, but under another key.
	x := minted(rising(), 7, "chain", mixed(20)...)
	l, others := chain.Tags(rising(), x), chain.Tags(tagOf(40), x)
	for i, at := range l {
		vault := Hide(at, nonce, root)
		for j := range l {
			if i == j {
				reveals(t, l[j], vault, root)
			} else {
				hidden(t, l[j], vault, "another token's tag")
			}
			hidden(t, others[j], vault, "another key's tag")
		}
	}
}

func TestRevealOfATurnedBit(t *testing.T) {
	by, nonce := tagOf(41), tagOf(42)
	for _, root := range []api.Tag{{}, rising(), tagOf(43)} {
		vault := Hide(by, nonce, root)
		for bit := range 8 * len(vault) {
			hidden(t, by, flipped(vault, bit), "a turned bit")
		}
	}
}

func TestRevealOfAByteLessOrMore(t *testing.T) {
	by, nonce := tagOf(44), tagOf(45)
	for _, root := range []api.Tag{{}, rising(), tagOf(46)} {
		vault := Hide(by, nonce, root)
		for i := range vault {
			hidden(t, by, vault[:i]+vault[i+1:], "a byte less")
			hidden(t, by, vault[:i], "no bytes behind")
			hidden(t, by, vault[len(vault)-i:], "no bytes ahead")
		}
		for i := range len(vault) + 1 {
			for x := range 256 {
				hidden(t, by, vault[:i]+string([]byte{byte(x)})+vault[i:], "a byte more")
			}
		}
		hidden(t, by, vault+vault, "a vault, twice")
		hidden(t, by, vault[:32]+vault, "a nonce, and a vault")
	}
}

func TestRevealOfWhatNobodyHid(t *testing.T) {
	for _, by := range tags() {
		hidden(t, by, "", "no byte")
		for n := range 400 {
			hidden(t, by, string(make([]byte, n)), "bytes 0")
			hidden(t, by, long(n), "letters")
			hidden(t, by, chance(uint64(n), n), "any bytes")
		}
	}
	for _, n := range []int{1024, 1025, 65536, 1<<20 + 64, 1<<20 + 65} {
		hidden(t, rising(), long(n), "many letters")
	}
}

// Of what who has the tag sealed, there is a root in what has 32 bytes, neither fewer nor more.
func TestRevealOfSeals(t *testing.T) {
	by, nonce := tagOf(47), tagOf(48)
	own := derive.Key(by, "vault")
	for n := range 300 {
		plain := chance(uint64(n)+49, n)
		s := seal.Seal(own, nonce, plain)
		if n == 32 {
			reveals(t, by, s, api.Tag([]byte(plain)))
			continue
		}
		hidden(t, by, s, fmt.Sprintf("a plain of %d", n))
		hidden(t, by, seal.Seal(own, nonce, string(make([]byte, n))), fmt.Sprintf("a plain of %d bytes 0", n))
	}
	for _, n := range []int{32 << 8, 1 << 16, 1<<16 + 32, 1 << 20} {
		hidden(t, by, seal.Seal(own, nonce, long(n)), fmt.Sprintf("a plain of %d", n))
	}
}

func TestRevealOfOtherUses(t *testing.T) {
	by, nonce := tagOf(50), tagOf(51)
	for _, n := range []int{0, 31, 32, 33, 40} {
		for i, k := range unuses(by, "vault", "party") {
			hidden(t, by, seal.Seal(k, nonce, chance(52, n)), fmt.Sprintf("use %d, a plain of %d", i, n))
		}
	}
	for _, s := range append(conds(), longConds()...) {
		hidden(t, by, Lock(by, nonce, rising(), s), "an ID")
	}
}

func TestRevealOfPiecesOfTwo(t *testing.T) {
	by := tagOf(53)
	a, b := Hide(by, tagOf(54), tagOf(55)), Hide(by, tagOf(56), tagOf(57))
	for i := range a {
		for _, s := range []string{a[:i] + b[i:], b[:i] + a[i:]} {
			if s != a && s != b {
				hidden(t, by, s, "pieces of two")
			}
		}
	}
}

// P20.3

// adds: does Add answer what P20.3 tells, and leave the token as it was?
func adds(t *testing.T, x api.Token, d Deal) {
	t.Helper()
	was := copied(x)
	want, e := toldAdd(x, d)
	got, f := Add(x, d)
	if f != e || !alike(got, want) {
		t.Errorf("Add to %s of %s: %s, %d; not %s, %d", brief(x), briefly(d), brief(got), f, brief(want), e)
	}
	if !alike(x, was) {
		t.Errorf("Add to %s of %s changed it", brief(was), briefly(d))
	}
}

// refused: does Add answer this error, and a zero token?
func refused(t *testing.T, x api.Token, d Deal, want api.Errno) {
	t.Helper()
	if y, e := Add(x, d); e != want || !alike(y, api.Token{}) {
		t.Errorf("Add to %s of %s: %d, not %d; %s", brief(x), briefly(d), e, want, brief(y))
	}
}

// The digits were worked out by another program's HMAC.
func TestAddOfExamples(t *testing.T) {
	x, _ := chain.Mint(rising(), 2, "me")
	x, _ = chain.Attenuate(x, "op read")
	d := Deal{Party: 300, Key: from(255, 0), Root: from(255, 255), Cond: "am I me?", Ask: from(1, 3), Vault: from(2, 5)}
	y, e := Add(x, d)
	if e != api.OK || y.Key != 2 || y.ID != "me" || y.Bound || len(y.Caveats) != 2 || y.Caveats[0] != (api.Caveat{Text: "op read"}) {
		t.Fatalf("%d, %s", e, brief(y))
	}
	c := y.Caveats[1]
	if !c.Third || c.Party != 300 || c.Text != "" {
		t.Errorf("%t, party %d, text %q", c.Third, c.Party, c.Text)
	}
	is(t, "the tag ahead", string(x.Tag[:]), "92ab9ded401f5985a724f18249ce5c76f60dbb69d7c1e09c4739deeb941ec6be")
	is(t, "its ID", c.ID, "0104070a0d101316191c1f2225282b2e3134373a3d404346494c4f5255585b5e876025ec5c782b088444f23b888b1383f2ae7909d4270a5e26c5c6eeb73cc958d89a4570d0f14d1c5f1ee35408bce2f06f5e42b9adf8c0071675514d3dbe156ebb3a5f82168fc6b6")
	is(t, "its Vault", c.Vault, "02070c11161b20252a2f34393e43484d52575c61666b70757a7f84898e93989d763f1751a4a841b7185320bdceab4cce5e008d6b0c77222ea5b7b0ba3985c2203899b2598071134bcc1892f29ba6edc5794576b69554d49d01f695e15be61534")
	is(t, "the tag", string(y.Tag[:]), "642e45e689d110499573eea68991e8bd0fa5b7a385d9280e3b9ca6a701cc2e2e")
}

// The document's example, and a length that no Cond that is taken goes beyond.
func TestLengthsOfACaveat(t *testing.T) {
	for many := range 513 {
		y, e := Add(api.Token{}, Deal{Cond: long(many)})
		if e != api.OK || len(y.Caveats) != 1 || len(y.Caveats[0].ID) != 96+many || len(y.Caveats[0].Vault) != 96 {
			t.Fatalf("a Cond of %d bytes: %d, %v", many, e, y.Caveats)
		}
	}
	y, _ := Add(api.Token{}, Deal{Cond: "am I"})
	if c := y.Caveats[0]; len(c.ID) != 100 || len(c.Vault) != 96 {
		t.Errorf("%d, %d bytes", len(c.ID), len(c.Vault))
	}
}

func TestAdd(t *testing.T) {
	all := append(deals(), badDeals()...)
	for i, x := range append(tokens(), badTokens()...) {
		for j := range 5 {
			adds(t, x, all[(7*i+j)%len(all)])
		}
	}
	for _, d := range all {
		adds(t, api.Token{}, d)
		adds(t, minted(rising(), 9, "alice", mixed(5)...), d)
		adds(t, minted(rising(), 9, "alice", mixed(64)...), d)
		adds(t, api.Token{ID: long(1025)}, d)
		adds(t, api.Token{Bound: true}, d)
	}
}

func TestAddOfEachParty(t *testing.T) {
	for _, n := range numbers() {
		for _, x := range []api.Token{{}, minted(rising(), n, "me", mixed(3)...)} {
			d := some(58)
			d.Party = n
			adds(t, x, d)
			y, e := Add(x, d)
			if e != api.OK || y.Caveats[len(x.Caveats)].Party != n {
				t.Errorf("party %d: %d, %s", n, e, brief(y))
			}
			adds(t, x, Deal{Party: n})
		}
	}
}

// Each thing of the deal comes to its own place, and is seen in the tag.
func TestWhereADealIsSeen(t *testing.T) {
	x := minted(rising(), 9, "alice", mixed(2)...)
	d := some(59)
	first, _ := Add(x, d)
	seen := map[api.Tag]bool{first.Tag: true}
	many := 1
	check := func(what string, f func(d *Deal, bit int), bits int, party, id, vault bool) {
		t.Helper()
		for bit := range bits {
			other := d
			f(&other, bit)
			y, e := Add(x, other)
			if e != api.OK {
				t.Fatalf("%s: %d", what, e)
			}
			a, b := first.Caveats[2], y.Caveats[2]
			if (a.Party != b.Party) != party || (a.ID != b.ID) != id || (a.Vault != b.Vault) != vault {
				t.Errorf("%s, bit %d: %d, %x, %x", what, bit, b.Party, b.ID, b.Vault)
			}
			seen[y.Tag] = true
			many++
		}
	}
	check("party", func(d *Deal, bit int) { d.Party ^= 1 << bit }, 64, true, false, false)
	check("key", func(d *Deal, bit int) { d.Key = turned(d.Key, bit) }, 256, false, true, false)
	check("root", func(d *Deal, bit int) { d.Root = turned(d.Root, bit) }, 256, false, true, true)
	check("cond", func(d *Deal, bit int) { d.Cond = flipped(d.Cond, bit) }, 8*len(d.Cond), false, true, false)
	check("ask", func(d *Deal, bit int) { d.Ask = turned(d.Ask, bit) }, 256, false, true, false)
	check("vault", func(d *Deal, bit int) { d.Vault = turned(d.Vault, bit) }, 256, false, false, true)
	for bit := range 256 {
		other := x
		other.Tag = turned(x.Tag, bit)
		y, _ := Add(other, d)
		if a, b := first.Caveats[2], y.Caveats[2]; a.Party != b.Party || a.ID != b.ID || a.Vault == b.Vault {
			t.Errorf("bit %d of the tag ahead: %d, %x, %x", bit, b.Party, b.ID, b.Vault)
		}
		seen[y.Tag] = true
		many++
	}
	if len(seen) != many {
		t.Errorf("%d tags of %d", len(seen), many)
	}
}

// The token and the caveat are those that layer 19's Add, and layer 7's Seal, make.
func TestAddIsMadeOfTheLayersBelow(t *testing.T) {
	for i, x := range tokens() {
		d := deals()[i%len(deals())]
		c := api.Caveat{Third: true, Party: d.Party, ID: seal.Seal(derive.Key(d.Key, "party"), d.Ask, string(d.Root[:])+d.Cond), Vault: seal.Seal(derive.Key(x.Tag, "vault"), d.Vault, string(d.Root[:]))}
		want, e := chain.Add(x, c)
		got, f := Add(x, d)
		if e != f || e != api.OK || !alike(got, want) || got.Tag != chain.Next(x.Tag, c) || packet.Check(got) != api.OK {
			t.Errorf("%s, %s: %s, %d; not %s, %d", brief(x), briefly(d), brief(got), f, brief(want), e)
		}
	}
}

func TestAddAtTheEdge(t *testing.T) {
	for _, s := range append([]string{long(511), long(512), strings.Repeat("\u00e9", 256)}, conds()...) {
		if y, e := Add(api.Token{}, Deal{Cond: s}); e != api.OK || len(y.Caveats) != 1 {
			t.Errorf("a Cond of %d bytes: %d", len(s), e)
		}
	}
	// Bytes are counted, not signs.
	for _, s := range longConds() {
		refused(t, api.Token{}, Deal{Cond: s}, api.ErrRange)
	}
	for _, d := range deals() {
		for _, many := range []int{0, 1, 62, 63, 64, 65} {
			x := minted(rising(), 1, "edge", mixed(many)...)
			if many > 63 {
				refused(t, x, d, api.ErrRange)
				continue
			}
			if y, e := Add(x, d); e != api.OK || len(y.Caveats) != many+1 || y.Caveats[many].ID != Lock(d.Key, d.Ask, d.Root, d.Cond) {
				t.Errorf("to %d caveats: %d, %s", many, e, brief(y))
			}
		}
	}
	refused(t, api.Token{ID: long(1025)}, some(60), api.ErrRange)
	if _, e := Add(api.Token{ID: long(1024)}, some(60)); e != api.OK {
		t.Errorf("to an ID of 1024: %d", e)
	}
}

// Bound comes first, whatever else is wrong; then all that can't be.
func TestWhichErrorOfAddComesFirst(t *testing.T) {
	all := append([]Deal{{}, some(61)}, badDeals()...)
	for _, x := range bound(append(tokens(), badTokens()...)) {
		for _, d := range all {
			refused(t, x, d, api.ErrBound)
		}
	}
	for _, x := range badTokens() {
		for _, d := range all {
			refused(t, x, d, api.ErrRange)
		}
	}
	for i, x := range tokens() {
		refused(t, x, badDeals()[i%len(badDeals())], api.ErrRange)
	}
}

// P20.4

// discharges: does Discharge answer what P20.4 tells, and leave the texts as they were? (How many of them are predicates' is told.)
func discharges(t *testing.T, root api.Tag, id string, texts []string, good int) {
	t.Helper()
	was := slices.Clone(texts)
	want, e := toldDischarge(root, id, texts, good)
	got, f := Discharge(root, id, texts...)
	if f != e || !alike(got, want) {
		t.Errorf("Discharge of %.20q of %d bytes, %d texts, %d of them good: %s, %d; not %s, %d", id, len(id), len(texts), good, brief(got), f, brief(want), e)
	}
	if e == api.OK && (got.Tag != chain.End(root, got) || packet.Check(got) != api.OK) {
		t.Errorf("Discharge of %.20q of %d bytes: the tag isn't its End", id, len(id))
	}
	if !slices.Equal(texts, was) {
		t.Errorf("Discharge of %.20q changed its texts", id)
	}
}

// The digits were worked out by another program's HMAC.
func TestDischargeOfExamples(t *testing.T) {
	id := Lock(from(255, 0), from(1, 3), from(255, 255), "am I me?")
	texts := []string{"op read", "before 90"}
	want := []string{
		"3a6de11041646dd1f666605c2d9219554698eced8f708700413ca6433499be5d",
		"f46f279b8a5044538f1543359e7e2a15fbc5f8ebcb00de05a9140d49dc2f9d0e",
		"ac36306d7b63097f377d807102250c0dad7a131b138f7cdf733a78ae58846aa0",
	}
	for many := range 3 {
		x, e := Discharge(from(255, 255), id, texts[:many]...)
		if e != api.OK || x.Key != 0 || x.ID != id || x.Bound || len(x.Caveats) != many {
			t.Fatalf("%d texts: %d, %s", many, e, brief(x))
		}
		for i, c := range x.Caveats {
			if c != (api.Caveat{Text: texts[i]}) {
				t.Errorf("caveat %d of %d: %v", i, many, c)
			}
		}
		is(t, fmt.Sprint("the tag of ", many), string(x.Tag[:]), want[many])
	}
	x, e := Discharge(api.Tag{}, "")
	if e != api.OK || x.Key != 0 || x.ID != "" || x.Bound || len(x.Caveats) != 0 {
		t.Errorf("zeros: %d, %s", e, brief(x))
	}
	is(t, "the tag of zeros", string(x.Tag[:]), "ea60615cc81df5bb3c1f3c4c074264c2f7dce22b77488596a6844d249414f8c4")
}

func TestDischarge(t *testing.T) {
	ids := []string{"", "a", "\x00", every(), "\xff", strings.Repeat("\u00e9", 512), strings.Repeat("\u00e9", 513), Lock(rising(), rising(), rising(), "am I me?")}
	for _, many := range []int{2, 96, 97, 608, 1023, 1024, 1025, 1026, 65536} {
		ids = append(ids, long(many), chance(uint64(many), many))
	}
	for i, id := range ids {
		for _, root := range []api.Tag{{}, rising(), tagOf(uint64(i))} {
			for _, many := range []int{0, 1, 2, 19, 63, 64, 65, 66, 200} {
				discharges(t, root, id, row(many), many)
			}
		}
	}
	for i, s := range predicates() {
		discharges(t, tagOf(uint64(i)), "one", []string{s}, 1)
		discharges(t, tagOf(uint64(i)), "one, thrice", []string{s, s, s}, 3)
	}
	for many := range 80 {
		discharges(t, tagOf(uint64(many)), fmt.Sprint("row of ", many), row(many), many)
	}
}

func TestDischargeAtTheEdge(t *testing.T) {
	for _, c := range []struct {
		id, texts int
		want      api.Errno
	}{
		{0, 0, 0}, {1, 0, 0}, {1, 1, 0}, {1023, 1, 0}, {1024, 0, 0}, {1024, 64, 0}, {1025, 0, 1}, {1025, 1, 1}, {1025, 64, 1}, {1025, 65, 1},
		{0, 63, 0}, {0, 64, 0}, {0, 65, 1}, {1024, 65, 1}, {0, 128, 1}, {0, 256, 1}, {0, 320, 1},
	} {
		x, e := Discharge(rising(), long(c.id), row(c.texts)...)
		if e != c.want || (e != 0 && !alike(x, api.Token{})) || (e == 0 && (len(x.Caveats) != c.texts || len(x.ID) != c.id)) {
			t.Errorf("an id of %d, %d texts: %d, not %d; %s", c.id, c.texts, e, c.want, brief(x))
		}
	}
}

// A text that is no predicate's, at each place; the first error is the one of the first text that can't be added.
func TestDischargeOfWhatIsNoPredicates(t *testing.T) {
	for _, s := range strange() {
		for _, many := range []int{1, 2, 5} {
			for at := range many {
				l := row(many)
				l[at] = s
				discharges(t, rising(), "a", l, at)
				discharges(t, rising(), long(1025), l, at)
			}
		}
	}
	for _, many := range []int{64, 65, 66, 100} {
		for at := range many {
			l := row(many)
			l[at] = "op A"
			discharges(t, rising(), "a", l, at)
			l[(at*7+3)%many] = ""
			discharges(t, rising(), "a", l, min(at, (at*7+3)%many))
		}
	}
}

func TestWhichErrorOfDischargeComesFirst(t *testing.T) {
	check := func(what, id string, texts []string, want api.Errno) {
		t.Helper()
		if x, e := Discharge(rising(), id, texts...); e != want || !alike(x, api.Token{}) {
			t.Errorf("%s: %d, not %d; %s", what, e, want, brief(x))
		}
	}
	check("an id that is too long, and such a text", long(1025), []string{"x"}, api.ErrRange)
	check("an id that is too long, and such texts alone", long(1025), slices.Repeat([]string{"x"}, 100), api.ErrRange)
	check("an id that is too long, and such a text behind others", long(1025), append(row(3), "x"), api.ErrRange)
	check("such a text, and behind it too many", "a", append([]string{"x"}, row(65)...), api.ErrForm)
	check("such a text as the last that there may be", "a", append(row(63), "x", "op a"), api.ErrForm)
	check("such a text as the first that is too many", "a", append(row(64), "x"), api.ErrForm)
	check("such a text behind the first that is too many", "a", append(row(65), "x"), api.ErrRange)
	check("such texts alone, too many of them", "a", slices.Repeat([]string{""}, 100), api.ErrForm)
}

// The two find the same

// agree: by the caveat at that place, the party finds by its key what was dealt, and the service by the tag ahead the same root; a discharge by the one has the End that the other one finds.
func agree(t *testing.T, key api.Tag, y api.Token, at int, d Deal) {
	t.Helper()
	c := y.Caveats[at]
	l := chain.Tags(key, y)
	found, cond, ok := Unlock(d.Key, c.ID)
	if !ok || found != d.Root || cond != d.Cond {
		t.Fatalf("%s: the party finds %t, %x, %.20q", briefly(d), ok, found, cond)
	}
	revealed, ok := Reveal(l[at], c.Vault)
	if !ok || revealed != d.Root {
		t.Fatalf("%s: the service finds %t, %x", briefly(d), ok, revealed)
	}
	for j, other := range l {
		if j != at {
			hidden(t, other, c.Vault, "another tag of the token")
		}
	}
	for _, many := range []int{0, 1, 7, 64} {
		z, e := Discharge(found, c.ID, row(many)...)
		if e != api.OK || z.ID != c.ID || z.Tag != chain.End(revealed, z) || z.Tag == chain.End(turned(revealed, many), z) {
			t.Fatalf("%s: the discharge is %d, %s", briefly(d), e, brief(z))
		}
	}
}

func TestTheTwoFindTheSame(t *testing.T) {
	for i, d := range deals() {
		key := tagOf(uint64(i) + 70)
		x := minted(key, uint64(i), "agree", mixed(i%64)...)
		y, e := Add(x, d)
		if e != api.OK || chain.End(key, y) != y.Tag {
			t.Fatalf("%s: %d, %s", briefly(d), e, brief(y))
		}
		agree(t, key, y, len(x.Caveats), d)
	}
}

// A token of third parties' caveats alone, up to as many as there may be: each is found by its own tag, also when others follow.
func TestManyThirdParties(t *testing.T) {
	key := tagOf(71)
	x, _ := chain.Mint(key, 1, "many")
	var l []Deal
	for i := range api.MaxCaveats {
		l = append(l, some(uint64(i)))
		y, e := Add(x, l[i])
		if e != api.OK || len(y.Caveats) != i+1 || chain.End(key, y) != y.Tag {
			t.Fatalf("caveat %d: %d, %s", i, e, brief(y))
		}
		x = y
	}
	for i, d := range l {
		agree(t, key, x, i, d)
	}
	refused(t, x, some(99), api.ErrRange)
}

// The same deal twice is two caveats: one ID, but two Vaults, as the tags ahead are two.
func TestADealTwice(t *testing.T) {
	d := some(72)
	x, _ := chain.Mint(rising(), 1, "twice")
	y, _ := Add(x, d)
	z, e := Add(y, d)
	if e != api.OK || len(z.Caveats) != 2 || z.Caveats[0].ID != z.Caveats[1].ID || z.Caveats[0].Vault == z.Caveats[1].Vault {
		t.Fatalf("%d, %s", e, brief(z))
	}
	agree(t, rising(), z, 0, d)
	agree(t, rising(), z, 1, d)
}

// A discharge may itself ask a third party, and go on from there.
func TestDischargeThatAsksAnother(t *testing.T) {
	d := some(73)
	x, _ := Discharge(rising(), "first", "op read")
	y, e := Add(x, d)
	if e != api.OK || y.Tag != chain.End(rising(), y) {
		t.Fatalf("%d, %s", e, brief(y))
	}
	agree(t, rising(), y, 1, d)
}

// The rules that hold everywhere: what is handed in is neither changed nor kept, and an answer is new memory.

// roomy: the same token, with caveats in its spare room.
func roomy(x api.Token) api.Token {
	x.Caveats = append(slices.Clone(x.Caveats), api.Caveat{Text: "spare"}, api.Caveat{Third: true, Party: 7})[:len(x.Caveats)]
	return x
}

// spared: is the spare room of roomy as it was?
func spared(x api.Token) bool {
	l := x.Caveats[len(x.Caveats) : len(x.Caveats)+2]
	return l[0] == api.Caveat{Text: "spare"} && l[1] == api.Caveat{Third: true, Party: 7}
}

// spoil: all that a token's list has room for is written over.
func spoil(x api.Token) {
	l := x.Caveats[:cap(x.Caveats)]
	for i := range l {
		l[i] = api.Caveat{Third: true, Text: "over", Party: 9, ID: "o", Vault: "v"}
	}
}

// Two answers to one token, with spare room behind its caveats or without: neither is the other one's, nor the token's.
func TestAddHasNewMemory(t *testing.T) {
	for many := range api.MaxCaveats + 2 {
		x := minted(rising(), 2, "room", mixed(many)...)
		y := roomy(x)
		one, e1 := Add(y, some(74))
		wasOne := copied(one)
		two, e2 := Add(y, some(75))
		wasTwo := copied(two)
		if e1 != e2 || !alike(one, wasOne) || !alike(y, x) || !spared(y) {
			t.Errorf("%d caveats: what a second call does is seen", many)
		}
		if want, e := Add(x, some(74)); e != e1 || !alike(one, want) {
			t.Errorf("%d caveats: spare room makes another answer", many)
		}
		spoil(one)
		if !alike(two, wasTwo) || !alike(y, x) || !spared(y) {
			t.Errorf("%d caveats: what is done to an answer is seen", many)
		}
		spoil(y)
		if !alike(two, wasTwo) {
			t.Errorf("%d caveats: what is done to the token is seen", many)
		}
	}
}

func TestDischargeHasNewMemory(t *testing.T) {
	for many := range api.MaxCaveats + 1 {
		room := append(row(many), "spare", "room")
		texts := room[:many]
		one, e1 := Discharge(rising(), "a", texts...)
		two, e2 := Discharge(rising(), "a", texts...)
		was := copied(two)
		spoil(one)
		if e1 != api.OK || e2 != api.OK || !alike(two, was) || !slices.Equal(texts, row(many)) || room[many] != "spare" || room[many+1] != "room" {
			t.Errorf("%d texts: what is done to an answer is seen, or the texts are changed", many)
		}
		clear(room)
		three, _ := Discharge(rising(), "a", row(many)...)
		if !alike(two, was) || !alike(three, was) {
			t.Errorf("%d texts: what is done to the texts is seen", many)
		}
	}
}

// A list is nil or empty: the two are one.
func TestNilAndEmpty(t *testing.T) {
	none := minted(rising(), 1, "a")
	for _, l := range [][]api.Caveat{nil, {}, make([]api.Caveat, 0, 9), mixed(4)[:0]} {
		x := none
		x.Caveats = l
		adds(t, x, some(76))
	}
	for _, l := range [][]string{nil, {}, make([]string, 0, 9), row(4)[:0]} {
		discharges(t, rising(), "a", l, 0)
	}
}

// What is behind a text, or ahead of it, in the memory it is cut from, is of no matter, and isn't changed.
func TestTextsAreCutFromLongerOnes(t *testing.T) {
	around := chance(77, 200)
	for _, n := range []int{0, 1, 32, 100} {
		cond := around[50 : 50+n]
		id := "ahead" + locks(t, tagOf(78), tagOf(79), tagOf(80), cond) + "behind"
		unlocks(t, tagOf(78), id[5:len(id)-6], tagOf(80), cond)
		vault := "ahead" + hides(t, tagOf(78), tagOf(79), tagOf(80)) + "behind"
		reveals(t, tagOf(78), vault[5:101], tagOf(80))
		if around != chance(77, 200) || id != "ahead"+toldLock(tagOf(78), tagOf(79), tagOf(80), cond)+"behind" {
			t.Fatalf("%d bytes: what was handed in is changed", n)
		}
	}
}

// P1 and P2: every call ends, and answers the same again, whatever was called between.

func TestGreatArguments(t *testing.T) {
	great := long(1 << 21)
	unlocks(t, rising(), Lock(rising(), tagOf(81), tagOf(82), great), tagOf(82), great)
	shut(t, rising(), great, "a great text")
	refused(t, api.Token{}, Deal{Cond: great}, api.ErrRange)
	refused(t, api.Token{Bound: true}, Deal{Cond: great}, api.ErrBound)
	refused(t, api.Token{ID: great, Caveats: make([]api.Caveat, 1<<15)}, Deal{Cond: great}, api.ErrRange)
	discharges(t, rising(), great, []string{great}, 0)
	discharges(t, rising(), "a", []string{great}, 0)
	discharges(t, rising(), "a", slices.Repeat([]string{"op a"}, 1<<16), 1<<16)
	discharges(t, rising(), "a", slices.Repeat([]string{great}, 1<<16), 0)
}

func TestAnswersStayTheSame(t *testing.T) {
	all, l := append(deals(), badDeals()...), append(tokens(), badTokens()...)
	of := func(i int) string {
		d, x := all[i], l[i%len(l)]
		var out bytes.Buffer
		id, vault := Lock(d.Key, d.Ask, d.Root, d.Cond), Hide(x.Tag, d.Vault, d.Root)
		fmt.Fprintln(&out, id, vault)
		root, cond, ok := Unlock(d.Key, id)
		fmt.Fprintln(&out, root, cond, ok)
		root, ok = Reveal(x.Tag, vault)
		fmt.Fprintln(&out, root, ok)
		shut(t, tagOf(83), id, "another key")
		y, e := Add(x, d)
		fmt.Fprintln(&out, y, e)
		y, e = Discharge(d.Root, id, row(i)...)
		fmt.Fprintln(&out, y, e)
		return out.String()
	}
	var was []string
	for i := range all {
		was = append(was, of(i))
	}
	for i := len(all) - 1; i >= 0; i-- {
		if of(i) != was[i] {
			t.Errorf("%s: other answers than ahead of it", briefly(all[i]))
		}
	}
}
