package chain

import (
	"bytes"
	"crypto/hmac"
	"crypto/sha256"
	"encoding/binary"
	"encoding/hex"
	"fmt"
	"math"
	"slices"
	"strings"
	"testing"

	"chitty/api"
	"chitty/derive"
	"chitty/packet"
	"chitty/tag"
)

// chance: many bytes that no rule of the program makes, others for each seed.
func chance(seed uint64, many int) []byte {
	out := make([]byte, many)
	for i := range out {
		seed = seed*6364136223846793005 + 1442695040888963407
		out[i] = byte(seed >> 40)
	}
	return out
}

// keyOf: a key that looks like chance, another one for each seed.
func keyOf(seed uint64) api.Tag { return api.Tag(chance(seed, api.Size)) }

// turned: the key, one of its bits turned.
func turned(key api.Tag, bit int) api.Tag {
	key[bit/8] ^= 1 << (bit % 8)
	return key
}

// long: a text of so many bytes.
func long(many int) string { return strings.Repeat("a", many) }

// every: a text of all 256 bytes, most of which are no text of UTF-8.
func every() string {
	var out [256]byte
	for i := range out {
		out[i] = byte(i)
	}
	return string(out[:])
}

// mac: layer 6's Key, by Go's own HMAC and order of bytes.
func mac(key api.Tag, row ...string) api.Tag {
	h := hmac.New(sha256.New, key[:])
	for _, p := range row {
		h.Write(binary.BigEndian.AppendUint64(nil, uint64(len(p))))
		h.Write([]byte(p))
	}
	return api.Tag(h.Sum(nil))
}

// few: a number in as few bytes as it needs.
func few(n uint64) string { return string(binary.AppendUvarint(nil, n)) }

// piece: a field's bytes.
func piece(kind byte, value string) string {
	return string([]byte{kind}) + few(uint64(len(value))) + value
}

// laid: a caveat's bytes.
func laid(c api.Caveat) string {
	if c.Third {
		return piece(4, few(c.Party)) + piece(5, c.ID) + piece(6, c.Vault)
	}
	return piece(3, c.Text)
}

// toldStart: the Start that P19.1 tells.
func toldStart(key api.Tag, number uint64, id string) api.Tag {
	return mac(key, "mint", string(binary.BigEndian.AppendUint64(nil, number)), id)
}

// toldNext: the Next that P19.1 tells.
func toldNext(t api.Tag, c api.Caveat) api.Tag { return mac(t, "caveat", laid(c)) }

// toldTags: the Tags that P19.2 tells.
func toldTags(key api.Tag, x api.Token) []api.Tag {
	out := []api.Tag{toldStart(key, x.Key, x.ID)}
	for i, c := range x.Caveats {
		out = append(out, toldNext(out[i], c))
	}
	return out
}

// caveatCan: can a caveat be?
func caveatCan(c api.Caveat) bool {
	if c.Third {
		return c.Text == "" && len(c.ID) <= 1024 && len(c.Vault) <= 1024
	}
	return len(c.Text) <= 512 && c.Party == 0 && c.ID == "" && c.Vault == ""
}

// tokenCan: can a token be?
func tokenCan(x api.Token) bool {
	for _, c := range x.Caveats {
		if !caveatCan(c) {
			return false
		}
	}
	return len(x.ID) <= 1024 && len(x.Caveats) <= 64
}

// toldAdd: the answer of Add that P19.4 tells.
func toldAdd(x api.Token, c api.Caveat) (api.Token, api.Errno) {
	y := copied(x)
	y.Caveats = append(y.Caveats, c)
	switch {
	case x.Bound:
		return api.Token{}, 6
	case !tokenCan(x) || !tokenCan(y):
		return api.Token{}, 1
	}
	y.Tag = toldNext(x.Tag, c)
	return y, 0
}

// alike: are all fields the same?
func alike(a, b api.Token) bool {
	return a.Key == b.Key && a.ID == b.ID && slices.Equal(a.Caveats, b.Caveats) && a.Bound == b.Bound && a.Tag == b.Tag
}

// copied: the same token, its caveats in memory of their own.
func copied(x api.Token) api.Token {
	x.Caveats = append([]api.Caveat(nil), x.Caveats...)
	return x
}

// brief: what is told of a token in a fault.
func brief(x api.Token) string {
	return fmt.Sprintf("key %d, id %.20q of %d bytes, %d caveats, bound %t, tag %x", x.Key, x.ID, len(x.ID), len(x.Caveats), x.Bound, x.Tag[:4])
}

// briefly: what is told of a caveat in a fault.
func briefly(c api.Caveat) string {
	return fmt.Sprintf("%t, text %.20q of %d, party %d, id %.20q of %d, vault %.20q of %d", c.Third, c.Text, len(c.Text), c.Party, c.ID, len(c.ID), c.Vault, len(c.Vault))
}

// numbers: those for keys and parties.
func numbers() []uint64 {
	out := []uint64{0, 1, 2, 255, 256, 257, 300, math.MaxUint64 - 1, math.MaxUint64}
	for bits := 7; bits < 64; bits++ {
		out = append(out, 1<<bits-1, 1<<bits)
	}
	slices.Sort(out)
	return slices.Compact(out)
}

// ids: of no byte, of one, of as many as there may be, of one more; no two are the same, and some begin as others do.
func ids() []string {
	out := []string{"", "a", "b", "ab", "ba", "alice", "alic", "alice\x00", "alicf", "mint", "caveat", "\x00", "\x00\x00", "\x01", "\xff", "\u00e9", "\xc3", " ", every(), string(make([]byte, 8)), string(make([]byte, 16))}
	for _, many := range []int{63, 64, 65, 255, 256, 1023, 1024, 1025, 1026, 4096, 65537} {
		out = append(out, long(many), string(chance(uint64(many), many)))
	}
	return out
}

// caveats: such as can be, of which no two are the same; most are one bit or one byte, of one field, apart from another one.
func caveats() []api.Caveat {
	out := []api.Caveat{{}, {Third: true}}
	for bit := range 64 {
		out = append(out, api.Caveat{Third: true, Party: 1 << bit}, api.Caveat{Third: true, Party: 1 << bit, ID: "cid", Vault: "vid"})
	}
	for _, s := range []string{"op read", "cid", "vid"} {
		out = append(out, api.Caveat{Text: s}, api.Caveat{Third: true, ID: s}, api.Caveat{Third: true, Vault: s}, api.Caveat{Third: true, ID: s, Vault: s})
		for i := range 8 * len(s) {
			b := []byte(s)
			b[i/8] ^= 1 << (i % 8)
			out = append(out, api.Caveat{Text: string(b)}, api.Caveat{Third: true, ID: string(b), Vault: s}, api.Caveat{Third: true, ID: s, Vault: string(b)})
		}
	}
	for x := range 256 {
		s := string([]byte{byte(x)})
		out = append(out, api.Caveat{Text: s}, api.Caveat{Third: true, ID: s}, api.Caveat{Third: true, Vault: s}, api.Caveat{Third: true, Party: 5, ID: s, Vault: s})
	}
	for _, many := range []int{2, 127, 128, 129, 255, 256, 511, 512} {
		out = append(out, api.Caveat{Text: long(many)}, api.Caveat{Text: string(chance(uint64(many), many))})
	}
	for _, many := range []int{2, 127, 128, 1023, 1024} {
		s := string(chance(uint64(many), many))
		out = append(out, api.Caveat{Third: true, ID: s}, api.Caveat{Third: true, Vault: s}, api.Caveat{Third: true, Party: math.MaxUint64, ID: long(many), Vault: s})
	}
	// The bytes of the one are cut otherwise, or look like fields.
	out = append(out,
		api.Caveat{Third: true, ID: "ci", Vault: "dvid"}, api.Caveat{Third: true, ID: "cidv", Vault: "id"}, api.Caveat{Third: true, ID: "cidvid"}, api.Caveat{Third: true, Vault: "cidvid"},
		api.Caveat{Third: true, ID: "vid", Vault: "cid"}, api.Caveat{Third: true, ID: "cid", Vault: "vid"}, api.Caveat{Text: "\x03\x00"}, api.Caveat{Text: "\x04\x01\x00\x05\x00\x06\x00"}, api.Caveat{Text: "\x07op read"}, api.Caveat{Text: "cidvid"},
	)
	return once(out)
}

// once: each of these once, in order.
func once(l []api.Caveat) []api.Caveat {
	var out []api.Caveat
	seen := map[api.Caveat]bool{}
	for _, c := range l {
		if !seen[c] {
			out = append(out, c)
		}
		seen[c] = true
	}
	return out
}

// badCaveats: such as can't be, in each way.
func badCaveats() []api.Caveat {
	return []api.Caveat{
		{Text: long(513)}, {Text: "op " + long(600)}, {Text: long(1024)}, {Text: long(1 << 17)}, {Text: strings.Repeat("\u00e9", 257)},
		{Third: true, Text: "a"}, {Third: true, Text: "op a"}, {Third: true, Text: "\x00"}, {Third: true, Text: long(513)}, {Third: true, Text: "a", Party: 1, ID: "b", Vault: "c"},
		{Third: true, ID: long(1025)}, {Third: true, Vault: long(1025)}, {Third: true, ID: long(1025), Vault: long(1025)}, {Third: true, ID: long(1024), Vault: long(1025)}, {Third: true, ID: long(1025), Vault: long(1024)}, {Third: true, Party: 1, ID: long(1 << 17)},
		{Party: 1}, {Party: 1 << 32}, {Party: math.MaxUint64}, {ID: "a"}, {ID: "\x00"}, {Vault: "a"}, {Vault: "\x00"}, {Party: 1, ID: "a", Vault: "b"},
		{Text: "op a", Party: 1}, {Text: "op a", ID: "a"}, {Text: "op a", Vault: "a"}, {Text: long(513), ID: long(1025)},
	}
}

// minted: a token of that key, with these caveats, made by what the promises tell.
func minted(key api.Tag, number uint64, id string, l ...api.Caveat) api.Token {
	x := api.Token{Key: number, ID: id, Caveats: slices.Clone(l)}
	tags := toldTags(key, x)
	x.Tag = tags[len(tags)-1]
	return x
}

// mixed: so many caveats, of both kinds, no two of which are the same.
func mixed(many int) []api.Caveat {
	var out []api.Caveat
	for i := range many {
		c := api.Caveat{Text: fmt.Sprintf("before %d", 1000-i)}
		if i%3 == 1 {
			c = api.Caveat{Third: true, Party: uint64(i), ID: string(chance(uint64(i), i)), Vault: "v"}
		}
		out = append(out, c)
	}
	return out
}

// tokens: such as can be, and aren't bound.
func tokens() []api.Token {
	out := []api.Token{{}, {Tag: keyOf(1)}, {Key: 9, ID: "alice", Tag: keyOf(2)}, {Caveats: []api.Caveat{}}}
	for i, id := range ids() {
		if len(id) <= api.MaxID {
			out = append(out, minted(keyOf(3), uint64(i), id), minted(keyOf(4), uint64(i)<<60, id, mixed(i)...))
		}
	}
	for many := range api.MaxCaveats + 1 {
		out = append(out,
			api.Token{Caveats: make([]api.Caveat, many)},
			minted(keyOf(uint64(many)), math.MaxUint64-uint64(many), "many", mixed(many)...),
			api.Token{Key: 1, ID: "wrong", Caveats: mixed(many), Tag: keyOf(uint64(many))},
		)
	}
	greatest := api.Caveat{Third: true, Party: math.MaxUint64, ID: long(1024), Vault: long(1024)}
	return append(out,
		minted(keyOf(5), math.MaxUint64, long(1024), slices.Repeat([]api.Caveat{greatest}, 63)...),
		minted(keyOf(5), math.MaxUint64, long(1024), slices.Repeat([]api.Caveat{greatest}, 64)...),
	)
}

// badTokens: such as can't be, in each way, and aren't bound.
func badTokens() []api.Token {
	out := []api.Token{{ID: long(1025)}, {ID: long(1 << 17)}, minted(keyOf(1), 1, long(1025)), minted(keyOf(1), 1, strings.Repeat("\u00e9", 513), mixed(5)...)}
	for _, many := range []int{65, 66, 128, 129, 256, 320, 1000} {
		out = append(out, api.Token{Caveats: make([]api.Caveat, many)}, minted(keyOf(2), 2, "many", mixed(many)...))
	}
	for _, c := range badCaveats() {
		out = append(out, api.Token{Caveats: []api.Caveat{c}})
		for _, at := range []int{0, 31, 62} {
			l := mixed(63)
			l[at] = c
			out = append(out, api.Token{Key: 3, ID: "bad", Caveats: l, Tag: keyOf(3)})
		}
		out = append(out, api.Token{Caveats: append(mixed(63), c)})
	}
	return out
}

// bound: the same tokens, Bound.
func bound(l []api.Token) []api.Token {
	out := slices.Clone(l)
	for i := range out {
		out[i].Bound = true
	}
	return out
}

// predicates: texts of each kind.
func predicates() []string {
	return []string{
		"before 0", "before 90", "before 18446744073709551615", "since 0", "since 7", "since 18446744073709551615",
		"op a", "op list,read", "op " + strings.Repeat("z", 16), "path /", "path /a/b.c", "path " + strings.Repeat("/abc", 64),
		"net 0.0.0.0/0", "net 10.0.0.0/8", "net 10.1.2.3/32", "net ::/0", "net 2001:db8::/32", "net ::ffff:0:0/96",
		"cost 0", "cost -0", "cost 3p-1", "cost 1p0", "cost -1p3", "cost inf", "cost -inf", "cost 1p-1074", "cost 9007199254740991p971",
	}
}

// strange: texts that are no predicate's.
func strange() []string {
	out := []string{
		"", " ", "x", "true", "before", "since", "op", "path", "net", "cost", "before ", "op ", " op a", "op a ", "op  a", "op a\n", "op a\x00", "OP a", "op A", "op a,a", "op read,list", "op a, b", "op a b", "op ,", "op a,", "op " + strings.Repeat("z", 17),
		"before -1", "before 08", "before 18446744073709551616", "since 1.5", "since x", "path a", "path /a/", "path //", "path /..", "path /a/./b", "path " + strings.Repeat("/abc", 64) + "/a",
		"net 10.1.2.3/8", "net 10.0.0.0/33", "net 10.0.0.0", "net ::/129", "net 2001:db8:0::/32", "cost nan", "cost 2p0", "cost +1p0", "cost 1", "cost 1.5", "cost 1p1024",
		every(), "\xff", "\u00e9", "\x03\x04op a", strings.Repeat("op a", 128), "op a" + strings.Repeat(" ", 508),
	}
	for _, many := range []int{510, 511, 512, 513, 1024, 1025, 1 << 17} {
		out = append(out, long(many), "op "+long(many-3), "before "+strings.Repeat("1", many-7), strings.Repeat(" ", many))
	}
	return out
}

// same: is it the tag that is told?
func same(t *testing.T, what string, got, want api.Tag) {
	t.Helper()
	if got != want {
		t.Errorf("%s: %x, not %x", what, got, want)
	}
}

// is: is it the tag of these digits?
func is(t *testing.T, what string, got api.Tag, digits string) {
	t.Helper()
	if hex.EncodeToString(got[:]) != digits {
		t.Errorf("%s: %x, not %s", what, got, digits)
	}
}

// rising: the key whose bytes are 0 to 31.
func rising() api.Tag { return api.Tag([]byte(every()[:32])) }

// highest: the key of which all bits are set.
func highest() api.Tag { return api.Tag(bytes.Repeat([]byte{255}, 32)) }

// P19.1

// The digits were worked out by another program's HMAC.
func TestStartOfExamples(t *testing.T) {
	for _, c := range []struct {
		key    api.Tag
		number uint64
		id     string
		want   string
	}{
		{api.Tag{}, 0, "", "ea60615cc81df5bb3c1f3c4c074264c2f7dce22b77488596a6844d249414f8c4"},
		{rising(), 1, "", "ab9c6284d73a971c3d9c6771a1635d68914ff3291e37560ba21a11c6a0be1e19"},
		{rising(), math.MaxUint64, "a", "811f0344a9ffded0ec38b4647bbb7eea813b942269c1752e07eca81d12d747ff"},
		{rising(), 9, "alice", "ee37e26b4b9f10dfd8b1eeed9be2a029afd0566256039c2893cd0794f21fabda"},
		{highest(), 300, strings.Repeat("x", 1024), "7e057e2c602ab948b11ef40b179a43dd0979ff91d85ba52d86a8aeebd8190f23"},
		{highest(), 1 << 32, strings.Repeat("x", 1025), "5c95b8f94042295d72ab6eb8af4125f98fda5b73ed6524a1521cd5d54156a869"},
		{rising(), 258, every(), "255d7564b10722d7721691bbe66108ee14b2ab85e17d07f20c0d3c32e61c908b"},
	} {
		is(t, fmt.Sprintf("Start of %d and %.20q", c.number, c.id), Start(c.key, c.number, c.id), c.want)
	}
}

func TestNextOfExamples(t *testing.T) {
	for _, c := range []struct {
		tag  api.Tag
		c    api.Caveat
		want string
	}{
		{api.Tag{}, api.Caveat{}, "1757e7dd0788c7d0506ae9ab6e390dc5cd5a39d4995bf7497b93d21a86557fce"},
		{rising(), api.Caveat{}, "10f48187fbf36d44a1dd522a62aca14cc90397e1831a2bd0fd80e69473f8723c"},
		{rising(), api.Caveat{Text: "op read"}, "ff0492a7657d034f6b3e510f0f25b1057759b4bcd50c414b1439788493cacc21"},
		{rising(), api.Caveat{Text: long(512)}, "55269f3e23129ec52365b58de9c77ac1498d552e4b637b698d5540a5db6e6cc8"},
		{api.Tag{}, api.Caveat{Third: true}, "8a9a961fbc514442501c330e7557ec1bde6c1e08f83a5d491300323cc8fae556"},
		{rising(), api.Caveat{Third: true, Party: 3, ID: "c", Vault: "v"}, "8cd4c99c4e3f3da5e6119fead51f2e1cd9d639ba65ea2c9b9f2eb74d614d0efd"},
		{highest(), api.Caveat{Third: true, Party: math.MaxUint64, ID: strings.Repeat("i", 1024), Vault: strings.Repeat("v", 1024)}, "8b943f8165ea20619f5e5916787d7254c6a60f567f4c3ead21f06bd6d367d234"},
		{rising(), api.Caveat{Third: true, Party: 300, Vault: every()}, "8f8e54e5912b3cdcac7cfff8af8b68d7b88129eb51f901b739865e7b27c3afad"},
	} {
		is(t, "Next of "+briefly(c.c), Next(c.tag, c.c), c.want)
	}
}

func TestStart(t *testing.T) {
	for i, id := range ids() {
		for _, n := range []uint64{0, 1, 258, 1 << 32, math.MaxUint64} {
			same(t, fmt.Sprintf("id %d of number %d", i, n), Start(keyOf(uint64(i)), n, id), toldStart(keyOf(uint64(i)), n, id))
		}
	}
	for _, n := range numbers() {
		same(t, fmt.Sprint("number ", n), Start(keyOf(7), n, "me"), toldStart(keyOf(7), n, "me"))
		same(t, fmt.Sprint("number ", n, ", no id"), Start(api.Tag{}, n, ""), toldStart(api.Tag{}, n, ""))
	}
	for many := range 1100 {
		id := string(chance(uint64(many), many))
		same(t, fmt.Sprint("an id of ", many), Start(rising(), uint64(many), id), toldStart(rising(), uint64(many), id))
	}
}

func TestStartIsMadeOfTheLayersBelow(t *testing.T) {
	for i, id := range ids() {
		for _, n := range numbers() {
			same(t, fmt.Sprintf("id %d of number %d", i, n), Start(rising(), n, id[:min(len(id), 1025)]), derive.Key(rising(), "mint", string(tag.Number(n)), id[:min(len(id), 1025)]))
		}
	}
}

// No two numbers and ids have the same Start by one key.
func TestStartsAreUnlike(t *testing.T) {
	seen := map[api.Tag]string{}
	put := func(n uint64, id string) {
		t.Helper()
		what := fmt.Sprintf("number %d and id %.20q of %d bytes", n, id, len(id))
		s := Start(keyOf(8), n, id)
		if other, ok := seen[s]; ok {
			t.Errorf("%s, and %s: one Start", what, other)
		}
		seen[s] = what
	}
	for _, n := range []uint64{0, 1, 2, 97, 97 << 56, 256, 1 << 63, math.MaxUint64} {
		for _, id := range ids() {
			put(n, id)
		}
	}
	for bit := range 64 {
		put(5^1<<bit, "me")
	}
	b := []byte("a longer id than others, of more than sixty-four bytes, which is one block")
	for bit := range 8 * len(b) {
		b[bit/8] ^= 1 << (bit % 8)
		put(5, string(b))
		b[bit/8] ^= 1 << (bit % 8)
	}
	for i := range b {
		put(5, string(b[:i]))
	}
}

// Each bit of the key, and of the tag, is seen.
func TestEachBitOfTheKey(t *testing.T) {
	c := api.Caveat{Text: "op read"}
	for _, key := range []api.Tag{{}, rising(), highest(), keyOf(9)} {
		seen := map[api.Tag]bool{Start(key, 9, "alice"): true, Next(key, c): true, Next(key, api.Caveat{Third: true}): true}
		for bit := range 8 * api.Size {
			k := turned(key, bit)
			same(t, "Start", Start(k, 9, "alice"), toldStart(k, 9, "alice"))
			same(t, "Next", Next(k, c), toldNext(k, c))
			seen[Start(k, 9, "alice")] = true
			seen[Next(k, c)] = true
			seen[Next(k, api.Caveat{Third: true})] = true
		}
		if len(seen) != 3*(8*api.Size+1) {
			t.Errorf("%x: %d tags of %d", key, len(seen), 3*(8*api.Size+1))
		}
	}
}

func TestNext(t *testing.T) {
	for i, c := range caveats() {
		k := keyOf(uint64(i))
		same(t, briefly(c), Next(k, c), toldNext(k, c))
		same(t, briefly(c), Next(api.Tag{}, c), toldNext(api.Tag{}, c))
	}
	for _, n := range numbers() {
		c := api.Caveat{Third: true, Party: n, ID: "i"}
		same(t, briefly(c), Next(rising(), c), toldNext(rising(), c))
	}
}

// Of a caveat that can't be, too, Next is made of the bytes that layer 10 tells.
func TestNextIsMadeOfTheLayersBelow(t *testing.T) {
	for _, c := range append(caveats(), badCaveats()...) {
		same(t, briefly(c), Next(rising(), c), derive.Key(rising(), "caveat", string(packet.Caveat(c))))
	}
}

// No two caveats that can be have the same Next of one tag.
func TestNextsAreUnlike(t *testing.T) {
	seen := map[api.Tag]api.Caveat{}
	for _, c := range caveats() {
		n := Next(keyOf(10), c)
		if other, ok := seen[n]; ok {
			t.Errorf("%s, and %s: one Next", briefly(c), briefly(other))
		}
		seen[n] = c
		if n == keyOf(10) {
			t.Errorf("%s: the tag as it was", briefly(c))
		}
	}
}

// A Start isn't a Next, whatever it is made of: their uses are two.
func TestUsesAreTwo(t *testing.T) {
	seen := map[api.Tag]bool{}
	for _, c := range caveats() {
		seen[Next(rising(), c)] = true
	}
	for _, id := range append(ids(), string(packet.Caveat(api.Caveat{})), "caveat", "\x03\x00") {
		for _, n := range []uint64{0, 3, 3 << 56, 768, math.MaxUint64} {
			if seen[Start(rising(), n, id)] {
				t.Errorf("%d, %.20q: a Next", n, id)
			}
		}
	}
}

// P19.2

// tagged: are these its Tags, and its End the last of them?
func tagged(t *testing.T, key api.Tag, x api.Token) {
	t.Helper()
	want := toldTags(key, x)
	if got := Tags(key, x); !slices.Equal(got, want) {
		t.Errorf("Tags of %s: %d, not %d, or others", brief(x), len(got), len(want))
	}
	same(t, "End of "+brief(x), End(key, x), want[len(want)-1])
}

func TestTagsOfExamples(t *testing.T) {
	x := api.Token{Key: 9, ID: "alice", Caveats: []api.Caveat{{Text: "op read"}, {Third: true, Party: 3, ID: "c", Vault: "v"}, {}}}
	want := []string{
		"ee37e26b4b9f10dfd8b1eeed9be2a029afd0566256039c2893cd0794f21fabda",
		"018373bb7f72bb5107c9fc52bdf94302089e44b5280c099b2518dcffcee56cee",
		"d8af49377798beb059d3a814b66fe47140ac29fd035bb641edd0bb13d3b30d80",
		"b8224cce6bfa76590163a137de0264230d8be2921e854c15c8b66e24b10574bc",
	}
	for many := range 4 {
		y := x
		y.Caveats = x.Caveats[:many]
		l := Tags(rising(), y)
		if len(l) != many+1 {
			t.Fatalf("%d caveats: %d tags", many, len(l))
		}
		for i := range l {
			is(t, fmt.Sprintf("tag %d of %d", i, len(l)), l[i], want[i])
		}
		is(t, "End", End(rising(), y), want[many])
	}
}

func TestTags(t *testing.T) {
	for i, x := range append(tokens(), badTokens()...) {
		tagged(t, keyOf(uint64(i)), x)
		tagged(t, api.Tag{}, x)
	}
}

func TestTagsGoOneFromTheOther(t *testing.T) {
	x := api.Token{Key: 4, ID: "go", Caveats: mixed(64)}
	l := Tags(rising(), x)
	if len(l) != 65 {
		t.Fatalf("%d tags", len(l))
	}
	same(t, "the first one", l[0], Start(rising(), 4, "go"))
	for i, c := range x.Caveats {
		same(t, fmt.Sprint("tag ", i+1), l[i+1], Next(l[i], c))
		y := x
		y.Caveats = x.Caveats[:i]
		if got := Tags(rising(), y); !slices.Equal(got, l[:i+1]) {
			t.Errorf("of the first %d caveats: others", i)
		}
		same(t, "End", End(rising(), y), l[i])
	}
}

// Its own Tag, and whether it is bound, aren't asked for.
func TestTagsDoNotAskForTheTokensOwn(t *testing.T) {
	for _, many := range []int{0, 1, 2, 64} {
		x := minted(rising(), 5, "own", mixed(many)...)
		want := Tags(rising(), x)
		for bit := range 8 * api.Size {
			for _, b := range []bool{false, true} {
				y := x
				y.Tag, y.Bound = turned(x.Tag, bit), b
				if many < 64 || bit%50 == 0 {
					tagged(t, rising(), y)
				}
				if many < 64 && !slices.Equal(Tags(rising(), y), want) {
					t.Errorf("%d caveats, bit %d turned, bound %t: others", many, bit, b)
				}
			}
		}
		x.Bound = true
		if !slices.Equal(Tags(rising(), x), want) || End(rising(), x) != x.Tag {
			t.Errorf("%d caveats, bound: others", many)
		}
	}
}

// from: are the Tags those of the other token up to this one, and others from there on?
func from(t *testing.T, what string, x, y api.Token, first int) {
	t.Helper()
	a, b := Tags(rising(), x), Tags(rising(), y)
	if len(a) != len(x.Caveats)+1 || len(b) != len(y.Caveats)+1 {
		t.Fatalf("%s: %d and %d tags", what, len(a), len(b))
	}
	if !slices.Equal(a[:first], b[:first]) {
		t.Errorf("%s: the first %d aren't the same", what, first)
	}
	for _, g := range a[first:] {
		if slices.Contains(b, g) {
			t.Errorf("%s: behind the first %d there is one that is the same", what, first)
		}
	}
	if first < len(a) && End(rising(), x) == End(rising(), y) {
		t.Errorf("%s: one End", what)
	}
}

func TestTagsOfAnotherHead(t *testing.T) {
	for _, many := range []int{0, 1, 2, 10} {
		x := minted(rising(), 5, "head", mixed(many)...)
		for bit := range 64 {
			y := copied(x)
			y.Key ^= 1 << bit
			from(t, "another number", x, y, 0)
		}
		for _, id := range ids() {
			y := copied(x)
			y.ID = id
			from(t, "another id", x, y, 0)
		}
		for bit := range 8 * api.Size {
			for _, g := range Tags(turned(rising(), bit), x) {
				if slices.Contains(Tags(rising(), x), g) {
					t.Errorf("%d caveats, bit %d of the key turned: one of the tags", many, bit)
				}
			}
		}
	}
}

func TestTagsOfOtherCaveats(t *testing.T) {
	for _, many := range []int{1, 2, 3, 10, 64} {
		x := minted(rising(), 6, "more", mixed(many)...)
		for at := range many {
			turns(t, x, at)
			y := copied(x)
			y.Caveats = slices.Delete(y.Caveats, at, at+1)
			from(t, fmt.Sprintf("caveat %d of %d left out", at, many), x, y, at+1)
			z := copied(x)
			z.Caveats = slices.Insert(z.Caveats, at, api.Caveat{Text: "put in"})
			from(t, fmt.Sprintf("one put in ahead of caveat %d of %d", at, many), x, z, at+1)
			w := copied(x)
			w.Caveats = slices.Insert(w.Caveats, at, x.Caveats[at])
			from(t, fmt.Sprintf("caveat %d of %d twice", at, many), w, x, at+2)
			if !slices.Equal(Tags(rising(), x)[:at+2], Tags(rising(), w)[:at+2]) {
				t.Errorf("caveat %d of %d twice: the first ones aren't the same", at, many)
			}
			for other := range at {
				v := copied(x)
				v.Caveats[at], v.Caveats[other] = v.Caveats[other], v.Caveats[at]
				if many < 64 || (at+other)%16 == 0 {
					from(t, fmt.Sprintf("caveats %d and %d of %d exchanged", other, at, many), x, v, other+1)
				}
			}
		}
	}
}

// turns: with one of its fields turned, a caveat makes others of the tags from it on.
func turns(t *testing.T, x api.Token, at int) {
	t.Helper()
	for i, f := range []func(c *api.Caveat){
		func(c *api.Caveat) { c.Third = !c.Third },
		func(c *api.Caveat) { c.Text += "0" },
		func(c *api.Caveat) { c.Party ^= 1 },
		func(c *api.Caveat) { c.Party ^= 1 << 63 },
		func(c *api.Caveat) { c.ID += "\x00" },
		func(c *api.Caveat) { c.Vault = "w" },
	} {
		y := copied(x)
		f(&y.Caveats[at])
		// A field that isn't one of its kind's isn't among the caveat's bytes.
		if laid(y.Caveats[at]) != laid(x.Caveats[at]) {
			from(t, fmt.Sprintf("caveat %d of %d turned, way %d", at, len(x.Caveats), i), x, y, at+1)
		}
	}
}

// P19.3

func TestMint(t *testing.T) {
	for i, id := range ids() {
		for _, n := range numbers() {
			key := keyOf(uint64(i))
			want, e := api.Token{Key: n, ID: id, Tag: toldStart(key, n, id[:min(len(id), 1024)])}, api.Errno(0)
			if len(id) > 1024 {
				want, e = api.Token{}, 1
			}
			if got, f := Mint(key, n, id); f != e || !alike(got, want) {
				t.Errorf("id %d of number %d: %s, %d; not %s, %d", i, n, brief(got), f, brief(want), e)
			}
		}
	}
}

func TestMintAtTheEdge(t *testing.T) {
	for _, key := range []api.Tag{{}, rising(), highest()} {
		for _, n := range []uint64{0, 1, math.MaxUint64} {
			for many := 1000; many < 1050; many++ {
				got, e := Mint(key, n, long(many))
				switch {
				case many > 1024 && (e != api.ErrRange || !alike(got, api.Token{})):
					t.Errorf("an id of %d: %d, %s", many, e, brief(got))
				case many <= 1024 && (e != api.OK || !alike(got, minted(key, n, long(many))) || got.Tag != End(key, got)):
					t.Errorf("an id of %d: %d, %s", many, e, brief(got))
				}
			}
		}
	}
	// Bytes are counted, not signs.
	if _, e := Mint(rising(), 1, strings.Repeat("\u00e9", 512)); e != api.OK {
		t.Errorf("an id of 512 signs, 1024 bytes: %d", e)
	}
	for _, id := range []string{strings.Repeat("\u00e9", 513), strings.Repeat("\U0001f511", 257), long(2048), long(1 << 20)} {
		if x, e := Mint(rising(), 1, id); e != api.ErrRange || !alike(x, api.Token{}) {
			t.Errorf("an id of %d bytes: %d, %s", len(id), e, brief(x))
		}
	}
}

// The digits were worked out by another program's HMAC.
func TestMintOfExamples(t *testing.T) {
	x, e := Mint(rising(), 9, "alice")
	if e != api.OK || x.Key != 9 || x.ID != "alice" || len(x.Caveats) != 0 || x.Bound {
		t.Errorf("%d, %s", e, brief(x))
	}
	is(t, "its tag", x.Tag, "ee37e26b4b9f10dfd8b1eeed9be2a029afd0566256039c2893cd0794f21fabda")
	x, e = Mint(api.Tag{}, 0, "")
	if e != api.OK || x.Key != 0 || x.ID != "" || len(x.Caveats) != 0 || x.Bound {
		t.Errorf("%d, %s", e, brief(x))
	}
	is(t, "its tag", x.Tag, "ea60615cc81df5bb3c1f3c4c074264c2f7dce22b77488596a6844d249414f8c4")
}

// P19.4

// adds: does Add answer what P19.4 tells, and leave the token as it was?
func adds(t *testing.T, x api.Token, c api.Caveat) {
	t.Helper()
	was := copied(x)
	want, e := toldAdd(x, c)
	got, f := Add(x, c)
	if f != e || !alike(got, want) {
		t.Errorf("Add to %s of %s: %s, %d; not %s, %d", brief(x), briefly(c), brief(got), f, brief(want), e)
	}
	if !alike(x, was) {
		t.Errorf("Add to %s of %s changed it", brief(was), briefly(c))
	}
}

// attenuates: does Attenuate answer what P19.4 tells, and leave the token as it was? (Whether the text is a predicate's is told.)
func attenuates(t *testing.T, x api.Token, text string, ok bool) {
	t.Helper()
	was := copied(x)
	want, e := toldAdd(x, api.Caveat{Text: text})
	if !ok && !x.Bound {
		want, e = api.Token{}, 2
	}
	got, f := Attenuate(x, text)
	if f != e || !alike(got, want) {
		t.Errorf("Attenuate of %s by %.20q: %s, %d; not %s, %d", brief(x), text, brief(got), f, brief(want), e)
	}
	if !alike(x, was) {
		t.Errorf("Attenuate of %s by %.20q changed it", brief(was), text)
	}
}

// The digits were worked out by another program's HMAC.
func TestAddOfExamples(t *testing.T) {
	x, _ := Mint(rising(), 9, "alice")
	x, e1 := Attenuate(x, "op read")
	is(t, "the first one", x.Tag, "018373bb7f72bb5107c9fc52bdf94302089e44b5280c099b2518dcffcee56cee")
	x, e2 := Add(x, api.Caveat{Third: true, Party: 3, ID: "c", Vault: "v"})
	is(t, "the second one", x.Tag, "d8af49377798beb059d3a814b66fe47140ac29fd035bb641edd0bb13d3b30d80")
	x, e3 := Add(x, api.Caveat{})
	is(t, "the third one", x.Tag, "b8224cce6bfa76590163a137de0264230d8be2921e854c15c8b66e24b10574bc")
	l := []api.Caveat{{Text: "op read"}, {Third: true, Party: 3, ID: "c", Vault: "v"}, {}}
	if e1 != 0 || e2 != 0 || e3 != 0 || x.Key != 9 || x.ID != "alice" || !slices.Equal(x.Caveats, l) || x.Bound {
		t.Errorf("%d, %d, %d, %s", e1, e2, e3, brief(x))
	}
}

// The document's example: three tags, and the last one is its own.
func TestExample(t *testing.T) {
	x, e1 := Mint(keyOf(1), 1, "me")
	y, e2 := Attenuate(x, "op list,read")
	z, e3 := Attenuate(y, "before 90")
	l := Tags(keyOf(1), z)
	if e1 != 0 || e2 != 0 || e3 != 0 || len(l) != 3 || l[0] != x.Tag || l[1] != y.Tag || l[2] != z.Tag || End(keyOf(1), z) != z.Tag {
		t.Errorf("%d, %d, %d, %d tags", e1, e2, e3, len(l))
	}
}

func TestAdd(t *testing.T) {
	every := caveats()
	for i, x := range tokens() {
		for j := range 8 {
			adds(t, x, every[(i*8+j)%len(every)])
		}
		adds(t, x, api.Caveat{})
		adds(t, x, api.Caveat{Third: true})
	}
	for _, x := range []api.Token{{}, minted(rising(), 9, "alice"), minted(rising(), 1, "me", mixed(3)...), {Key: 2, ID: "no", Tag: keyOf(1)}} {
		for _, c := range append(every, badCaveats()...) {
			adds(t, x, c)
		}
	}
}

// A token's Tag is taken as it is, whether it is that of its caveats or not: no key is at hand to tell.
func TestAddGoesOnFromTheTag(t *testing.T) {
	x := minted(rising(), 3, "on", mixed(2)...)
	for bit := range 8 * api.Size {
		y := x
		y.Tag = turned(x.Tag, bit)
		adds(t, y, api.Caveat{Text: "op a"})
		attenuates(t, y, "op a", true)
		z, _ := Add(y, api.Caveat{Text: "op a"})
		same(t, "Add", z.Tag, Next(y.Tag, api.Caveat{Text: "op a"}))
		if End(rising(), z) == z.Tag {
			t.Errorf("bit %d turned: it is the End", bit)
		}
	}
}

func TestAddUpToTheLimits(t *testing.T) {
	check := func(what string, want api.Errno, x api.Token, c api.Caveat) {
		t.Helper()
		if y, e := Add(x, c); e != want || (want != api.OK && !alike(y, api.Token{})) {
			t.Errorf("%s: %d, not %d; %s", what, e, want, brief(y))
		}
		adds(t, x, c)
	}
	none := api.Token{}
	check("a Text of 512", 0, none, api.Caveat{Text: long(512)})
	check("a Text of 513", 1, none, api.Caveat{Text: long(513)})
	check("a Text of 512 bytes, 256 signs", 0, none, api.Caveat{Text: strings.Repeat("\u00e9", 256)})
	check("a Text of 514 bytes, 257 signs", 1, none, api.Caveat{Text: strings.Repeat("\u00e9", 257)})
	check("a third party's ID of 1024", 0, none, api.Caveat{Third: true, ID: long(1024)})
	check("a third party's ID of 1025", 1, none, api.Caveat{Third: true, ID: long(1025)})
	check("a Vault of 1024", 0, none, api.Caveat{Third: true, Vault: long(1024)})
	check("a Vault of 1025", 1, none, api.Caveat{Third: true, Vault: long(1025)})
	check("both of 1024", 0, none, api.Caveat{Third: true, Party: math.MaxUint64, ID: long(1024), Vault: long(1024)})
	check("a third party's Text", 1, none, api.Caveat{Third: true, Text: "a"})
	check("a Party alone", 1, none, api.Caveat{Party: 1})
	check("an ID alone", 1, none, api.Caveat{ID: "a"})
	check("a Vault alone", 1, none, api.Caveat{Vault: "a"})
	check("to an ID of 1024", 0, api.Token{ID: long(1024)}, api.Caveat{})
	check("to an ID of 1025", 1, api.Token{ID: long(1025)}, api.Caveat{})
	for _, c := range []api.Caveat{{}, {Third: true}, {Text: "op a"}, {Third: true, Party: 5, ID: "cid", Vault: "vid"}} {
		check("to none", 0, none, c)
		check("to 62", 0, api.Token{Caveats: make([]api.Caveat, 62)}, c)
		check("to 63", 0, api.Token{Caveats: mixed(63)}, c)
		check("to 64", 1, api.Token{Caveats: make([]api.Caveat, 64)}, c)
		check("to 64 of both kinds", 1, minted(rising(), 1, "a", mixed(64)...), c)
		check("to 65", 1, api.Token{Caveats: make([]api.Caveat, 65)}, c)
		check("to 64, with spare room", 1, api.Token{Caveats: make([]api.Caveat, 64, 100)}, c)
		check("to 63, with spare room", 0, api.Token{Caveats: make([]api.Caveat, 63, 100)}, c)
	}
	// Nothing says that a caveat's text has to be a predicate's.
	for _, s := range strange() {
		if len(s) <= 512 {
			check("a text that is no predicate's", 0, none, api.Caveat{Text: s})
		}
	}
}

// Bound comes first, whatever else is wrong; then what can't be, and the token is a zero one.
func TestWhichErrorOfAddComesFirst(t *testing.T) {
	good := []api.Caveat{{}, {Third: true}, {Text: "op a"}, {Third: true, Party: 5, ID: "cid", Vault: "vid"}}
	refused := func(x api.Token, c api.Caveat, want api.Errno) {
		t.Helper()
		if y, e := Add(x, c); e != want || !alike(y, api.Token{}) {
			t.Errorf("%s, %s: %d, not %d; %s", brief(x), briefly(c), e, want, brief(y))
		}
	}
	for _, x := range bound(append(tokens(), badTokens()...)) {
		for _, c := range append(good, badCaveats()...) {
			refused(x, c, api.ErrBound)
		}
	}
	for _, x := range badTokens() {
		for _, c := range append(good, badCaveats()...) {
			refused(x, c, api.ErrRange)
		}
	}
	for i, x := range tokens() {
		bad := badCaveats()
		refused(x, bad[i%len(bad)], api.ErrRange)
		refused(x, bad[(7*i+3)%len(bad)], api.ErrRange)
	}
}

func TestAttenuate(t *testing.T) {
	all := append(tokens(), badTokens()...)
	good, bad := predicates(), strange()
	for i, x := range append(all, bound(all)...) {
		for j := range 3 {
			attenuates(t, x, good[(i+j)%len(good)], true)
			attenuates(t, x, bad[(i+j)%len(bad)], false)
		}
	}
	most := api.Token{Key: 1, ID: "most", Caveats: mixed(63), Tag: keyOf(1)}
	full := api.Token{Key: 1, ID: "full", Caveats: mixed(64), Tag: keyOf(1)}
	wide := api.Token{ID: long(1025)}
	for _, x := range append([]api.Token{{}, minted(rising(), 9, "alice", mixed(2)...), most, full, wide}, bound([]api.Token{{}, most, full, wide})...) {
		for _, s := range good {
			attenuates(t, x, s, true)
		}
		for _, s := range bad {
			attenuates(t, x, s, false)
		}
	}
}

func TestAttenuateIsAdd(t *testing.T) {
	for i, x := range append(tokens(), badTokens()...) {
		s := predicates()[i%len(predicates())]
		y, e := Attenuate(x, s)
		z, f := Add(x, api.Caveat{Text: s})
		if e != f || !alike(y, z) {
			t.Errorf("%s by %s: %s, %d; not %s, %d", brief(x), s, brief(y), e, brief(z), f)
		}
	}
}

func TestWhichErrorOfAttenuateComesFirst(t *testing.T) {
	refused := func(x api.Token, text string, want api.Errno) {
		t.Helper()
		if y, e := Attenuate(x, text); e != want || !alike(y, api.Token{}) {
			t.Errorf("%s, %.20q: %d, not %d; %s", brief(x), text, e, want, brief(y))
		}
	}
	for _, x := range bound(append(tokens(), badTokens()...)) {
		refused(x, "op a", api.ErrBound)
		refused(x, "", api.ErrBound)
		refused(x, long(513), api.ErrBound)
	}
	for _, x := range append(badTokens(), api.Token{Caveats: mixed(64)}) {
		refused(x, "op a", api.ErrRange)
		refused(x, "op A", api.ErrForm)
		refused(x, "", api.ErrForm)
		refused(x, long(513), api.ErrForm)
	}
	for _, s := range strange() {
		refused(minted(rising(), 1, "a"), s, api.ErrForm)
		refused(api.Token{Caveats: mixed(64)}, s, api.ErrForm)
		refused(api.Token{ID: long(1025)}, s, api.ErrForm)
		refused(api.Token{ID: long(1025), Bound: true}, s, api.ErrBound)
	}
}

// A token that goes from hand to hand has the tags that its service makes of it.
func TestTokensThatGrow(t *testing.T) {
	all := caveats()
	for seed := range uint64(20) {
		key := keyOf(seed)
		x, e := Mint(key, seed, string(chance(seed, int(seed*50))))
		for i := range api.MaxCaveats {
			if e != api.OK || End(key, x) != x.Tag || len(x.Caveats) != i || End(turned(key, i), x) == x.Tag {
				t.Fatalf("seed %d, %d caveats: %d, %s", seed, i, e, brief(x))
			}
			if i%2 == 0 {
				x, e = Attenuate(x, predicates()[i%len(predicates())])
			} else {
				x, e = Add(x, all[(i*int(seed+1))%len(all)])
			}
		}
		tagged(t, key, x)
		for i := range x.Caveats {
			y := copied(x)
			y.Caveats = slices.Delete(y.Caveats, i, i+1)
			if End(key, y) == x.Tag {
				t.Errorf("seed %d: the tag is that without caveat %d, too", seed, i)
			}
		}
		if _, e := Attenuate(x, "op a"); e != api.ErrRange {
			t.Errorf("seed %d: one more than there may be: %d", seed, e)
		}
	}
}

// The rules that hold everywhere: what is handed in is neither changed nor kept, and an answer is new memory.

// roomy: the same token, with caveats in its spare room.
func roomy(x api.Token) api.Token {
	x.Caveats = append(slices.Clone(x.Caveats), api.Caveat{Text: "spare"}, api.Caveat{Third: true, Party: 7})[:len(x.Caveats)]
	return x
}

// spared: is the spare room of roomy as it was?
func spared(x api.Token) bool {
	l := x.Caveats[len(x.Caveats) : len(x.Caveats)+2]
	return l[0] == api.Caveat{Text: "spare"} && l[1] == api.Caveat{Third: true, Party: 7}
}

// spoil: all that a token's list has room for is written over.
func spoil(x api.Token) {
	l := x.Caveats[:cap(x.Caveats)]
	for i := range l {
		l[i] = api.Caveat{Third: true, Text: "over", Party: 9, ID: "o", Vault: "v"}
	}
}

// grows: the calls that make one token of another one.
func grows() map[string]func(x api.Token, i int) (api.Token, api.Errno) {
	return map[string]func(x api.Token, i int) (api.Token, api.Errno){
		"Add": func(x api.Token, i int) (api.Token, api.Errno) {
			return Add(x, api.Caveat{Text: fmt.Sprint("before ", i)})
		},
		"Add of a third party's": func(x api.Token, i int) (api.Token, api.Errno) {
			return Add(x, api.Caveat{Third: true, Party: uint64(i)})
		},
		"Attenuate":          func(x api.Token, i int) (api.Token, api.Errno) { return Attenuate(x, fmt.Sprint("before ", i)) },
		"Add, refused":       func(x api.Token, i int) (api.Token, api.Errno) { return Add(x, api.Caveat{Party: uint64(i + 1)}) },
		"Attenuate, refused": func(x api.Token, i int) (api.Token, api.Errno) { return Attenuate(x, fmt.Sprint("after ", i)) },
	}
}

// Two answers to one token, with spare room behind its caveats or without: neither is the other one's, nor the token's.
func TestAnswersHaveNewMemory(t *testing.T) {
	for what, f := range grows() {
		for many := range api.MaxCaveats + 2 {
			x := minted(rising(), 2, "room", mixed(many)...)
			y := roomy(x)
			one, e1 := f(y, 1)
			wasOne := copied(one)
			two, e2 := f(y, 2)
			wasTwo := copied(two)
			if !alike(one, wasOne) || !alike(y, x) || !spared(y) {
				t.Errorf("%s, %d caveats: what a second call does is seen", what, many)
			}
			if want, e := f(x, 1); e != e1 || !alike(one, want) {
				t.Errorf("%s, %d caveats: spare room makes another answer", what, many)
			}
			spoil(one)
			if !alike(two, wasTwo) || !alike(y, x) || !spared(y) {
				t.Errorf("%s, %d caveats: what is done to an answer is seen", what, many)
			}
			three, e3 := f(y, 2)
			spoil(y)
			if !alike(two, wasTwo) || !alike(three, wasTwo) || e2 != e3 {
				t.Errorf("%s, %d caveats: what is done to the token is seen", what, many)
			}
		}
	}
}

// A token's answers part ways, at each length: what goes on from one leaves the others as they were.
func TestBranches(t *testing.T) {
	x, _ := Mint(rising(), 3, "branch")
	for i := range api.MaxCaveats {
		was := copied(x)
		a, e1 := Attenuate(x, "op a")
		wasA := copied(a)
		b, e2 := Attenuate(x, "op b")
		wasB := copied(b)
		c, e3 := Add(x, api.Caveat{Third: true, Party: 4})
		if e1 != 0 || e2 != 0 || e3 != 0 {
			t.Fatalf("%d caveats: %d, %d, %d", i, e1, e2, e3)
		}
		if i+1 < api.MaxCaveats {
			Attenuate(a, "op c")
			Add(b, api.Caveat{})
		}
		if !alike(a, wasA) || !alike(b, wasB) || !alike(x, was) || c.Caveats[i].Party != 4 {
			t.Fatalf("%d caveats: one branch is seen in another", i)
		}
		for _, y := range []api.Token{a, b, c} {
			same(t, "a branch's tag", y.Tag, End(rising(), y))
		}
		x = c
	}
}

func TestMintHasNewMemory(t *testing.T) {
	one, _ := Mint(rising(), 1, "a")
	two, _ := Mint(rising(), 1, "a")
	one.Caveats = append(one.Caveats, api.Caveat{Text: "one"})
	two.Caveats = append(two.Caveats, api.Caveat{Text: "two"})
	spoil(one)
	three, _ := Mint(rising(), 1, "a")
	if two.Caveats[0].Text != "two" || len(three.Caveats) != 0 || slices.ContainsFunc(three.Caveats[:cap(three.Caveats)], func(c api.Caveat) bool { return c != api.Caveat{} }) {
		t.Error("two tokens share memory")
	}
}

func TestTagsHaveNewMemory(t *testing.T) {
	for _, many := range []int{0, 1, 2, 3, 7, 64, 100} {
		x := roomy(minted(rising(), 1, "a", mixed(many)...))
		was := copied(x)
		one, two := Tags(rising(), x), Tags(rising(), x)
		one = one[:cap(one)]
		for i := range one {
			one[i] = api.Tag{9}
		}
		if !slices.Equal(two, toldTags(rising(), was)) || !slices.Equal(Tags(rising(), x), two) || !alike(x, was) || !spared(x) {
			t.Errorf("%d caveats: what is done to an answer is seen", many)
		}
		End(rising(), x)
		spoil(x)
		if !slices.Equal(two, toldTags(rising(), was)) || x.Tag != two[many] {
			t.Errorf("%d caveats: what is done to the token is seen", many)
		}
	}
}

// A list is nil or empty: the two are one.
func TestNilAndEmpty(t *testing.T) {
	none := minted(rising(), 1, "a")
	for _, l := range [][]api.Caveat{nil, {}, make([]api.Caveat, 0, 9), mixed(4)[:0]} {
		x := none
		x.Caveats = l
		tagged(t, rising(), x)
		adds(t, x, api.Caveat{Text: "op a"})
		attenuates(t, x, "op a", true)
		attenuates(t, x, "op", false)
		same(t, "End", End(rising(), x), none.Tag)
	}
}

// P1 and P2: every call ends, and answers the same again, whatever was called between.

func TestGreatArguments(t *testing.T) {
	great := long(1 << 21)
	same(t, "Start of a great id", Start(rising(), 1, great), toldStart(rising(), 1, great))
	for _, c := range []api.Caveat{{Text: great}, {Third: true, Text: great, ID: great, Vault: great}} {
		same(t, "Next of great fields", Next(rising(), c), toldNext(rising(), c))
		adds(t, api.Token{}, c)
		adds(t, api.Token{ID: great, Caveats: []api.Caveat{c}}, c)
	}
	many := api.Token{ID: great, Caveats: make([]api.Caveat, 1<<15)}
	tagged(t, rising(), many)
	adds(t, many, api.Caveat{})
	attenuates(t, many, "op a", true)
	attenuates(t, many, great, false)
	if x, e := Mint(rising(), 1, great); e != api.ErrRange || !alike(x, api.Token{}) {
		t.Errorf("Mint of a great id: %d, %s", e, brief(x))
	}
}

func TestAnswersStayTheSame(t *testing.T) {
	type answer struct {
		mint, add, attenuate    api.Errno
		start, next, first, end api.Tag
		made, added, less       string
	}
	all := append(tokens(), badTokens()...)
	some := append(caveats(), badCaveats()...)
	texts := append(predicates(), strange()...)
	of := func(i int) (a answer) {
		x, c, s := all[i], some[i%len(some)], texts[i%len(texts)]
		var y api.Token
		a.start, a.next, a.first, a.end = Start(rising(), x.Key, x.ID), Next(x.Tag, c), Tags(rising(), x)[0], End(rising(), x)
		y, a.mint = Mint(rising(), x.Key, x.ID)
		a.made = fmt.Sprint(y)
		y, a.add = Add(x, c)
		a.added = fmt.Sprint(y)
		y, a.attenuate = Attenuate(x, s)
		a.less = fmt.Sprint(y)
		return a
	}
	var was []answer
	for i := range all {
		was = append(was, of(i))
	}
	for i := len(all) - 1; i >= 0; i-- {
		if of(i) != was[i] {
			t.Errorf("%s: other answers than ahead of it", brief(all[i]))
		}
	}
}
