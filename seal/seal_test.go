package seal

import (
	"bytes"
	stdhmac "crypto/hmac"
	"crypto/sha256"
	"encoding/binary"
	"encoding/hex"
	"math"
	"strings"
	"testing"

	"chitty/api"
	"chitty/derive"
	"chitty/tag"
)

// full is how many bytes a Stream, and a plain, have at most.
const full = 1 << 20

// chance: many bytes that no rule of the program makes, others for each seed.
func chance(seed uint64, many int) string {
	out := make([]byte, many)
	for i := range out {
		seed = seed*6364136223846793005 + 1442695040888963407
		out[i] = byte(seed >> 40)
	}
	return string(out)
}

// tagOf: a key, or a nonce, that looks like chance, another one for each seed.
func tagOf(seed uint64) api.Tag {
	return api.Tag([]byte(chance(seed, api.Size)))
}

// from: the tag of that byte, and of the others that step leads to.
func from(first, step byte) api.Tag {
	var t api.Tag
	for i := range t {
		t[i] = first + byte(i)*step
	}
	return t
}

// every: a text of all 256 bytes, most of which are no text of UTF-8.
func every() string {
	var out [256]byte
	for i := range out {
		out[i] = byte(i)
	}
	return string(out[:])
}

// mac: layer 6's Key, by Go's own HMAC and order of bytes.
func mac(key api.Tag, row ...string) string {
	h := stdhmac.New(sha256.New, key[:])
	for _, p := range row {
		h.Write(binary.BigEndian.AppendUint64(nil, uint64(len(p))))
		h.Write([]byte(p))
	}
	return string(h.Sum(nil))
}

// toldStream: the Stream that P7.1 tells.
func toldStream(key, nonce api.Tag, many int) string {
	var out strings.Builder
	for i := uint64(0); out.Len() < many; i++ {
		out.WriteString(mac(key, "stream", string(nonce[:]), string(binary.BigEndian.AppendUint64(nil, i))))
	}
	return out.String()[:max(many, 0)]
}

// xor: the bytes of a, each with the bits turned that b's has there.
func xor(a, b string) string {
	out := []byte(a)
	for i := range out {
		out[i] ^= b[i]
	}
	return string(out)
}

// made: a seal of these turned bytes, whatever plain they are of.
func made(key, nonce api.Tag, hidden string) string {
	return string(nonce[:]) + hidden + mac(key, "seal", string(nonce[:]), hidden)
}

// toldSeal: the Seal that P7.2 tells.
func toldSeal(key, nonce api.Tag, plain string) string {
	return made(key, nonce, xor(plain, toldStream(key, nonce, len(plain))))
}

// flipped: the text with one bit turned.
func flipped(s string, bit int) string {
	b := []byte(s)
	b[bit/8] ^= 1 << (bit % 8)
	return string(b)
}

// streams: is it what P7.1 tells?
func streams(t *testing.T, key, nonce api.Tag, many int) {
	t.Helper()
	got, want := Stream(key, nonce, many), toldStream(key, nonce, many)
	if string(got) != want {
		t.Errorf("Stream of %d by %x, %x: %d bytes, not %d, or others", many, key[:4], nonce[:4], len(got), len(want))
	}
}

// seals: is it what P7.2 tells, and does it come back, as P7.3 tells?
func seals(t *testing.T, key, nonce api.Tag, plain string) string {
	t.Helper()
	got, want := Seal(key, nonce, plain), toldSeal(key, nonce, plain)
	if got != want {
		t.Errorf("Seal of %d bytes by %x, %x: %d bytes, not %d, or others", len(plain), key[:4], nonce[:4], len(got), len(want))
	}
	opens(t, key, want, plain)
	return got
}

// opens: does it open, as this plain?
func opens(t *testing.T, key api.Tag, sealed, want string) {
	t.Helper()
	if got, ok := Open(key, sealed); !ok || got != want {
		t.Errorf("Open of %d bytes by %x: %v, and %d bytes, not %d, or others", len(sealed), key[:4], ok, len(got), len(want))
	}
}

// shut: does it stay shut, and is nothing told beside?
func shut(t *testing.T, key api.Tag, sealed, why string) {
	t.Helper()
	if got, ok := Open(key, sealed); ok || got != "" {
		t.Errorf("%s: Open of %d bytes by %x: %v, and %d bytes", why, len(sealed), key[:4], ok, len(got))
	}
}

// P7.1

// The numbers were worked out by another program's HMAC.
func TestStreamOfExamples(t *testing.T) {
	for _, c := range []struct {
		key, nonce api.Tag
		want       string
	}{
		{api.Tag{}, api.Tag{}, "1e14c436bc41a117bf9e53f40d5667642e61a37d95b0f034aa5dc62ef7571af082"},
		{from(0, 1), from(255, 0), "892416315a3a2cfed14d12defebe8dc85e5a193f964c8e0b2054ff22e75a7b3e307b4d7d7ec4b5d2d107981f7c606bf336af0639684134fd5c11ed830200cdd6c85b42fdd2f0"},
		{from(255, 0), from(0, 1), "84466d6f5028f824b1aa28e4debb2012d413a546eb87538fb1a7ef76052ea063"},
	} {
		if got := hex.EncodeToString(Stream(c.key, c.nonce, len(c.want)/2)); got != c.want {
			t.Errorf("%x, %x: %s, not %s", c.key, c.nonce, got, c.want)
		}
	}
}

func TestStreamOfNone(t *testing.T) {
	for _, many := range []int{0, -1, -2, -31, -32, -33, -64, -full, -full - 1, math.MinInt32, math.MinInt + 1, math.MinInt} {
		if got := Stream(tagOf(1), tagOf(2), many); len(got) != 0 {
			t.Errorf("Stream of %d: %d bytes", many, len(got))
		}
	}
}

func TestStreamOfEachLength(t *testing.T) {
	key, nonce := tagOf(3), tagOf(4)
	for many := range 300 {
		streams(t, key, nonce, many)
		streams(t, tagOf(uint64(many)), tagOf(uint64(many)+1000), many)
	}
	for _, many := range []int{1, 31, 32, 33, 63, 64, 65, 8191, 8192, 8193, 65535, 65536, 65537, full - 33, full - 32, full - 1, full} {
		streams(t, key, nonce, many)
	}
}

// Each tag of the Stream is by the number of its place, in eight bytes, by layer 6 and layer 5.
func TestStreamIsMadeOfTheLayersBelow(t *testing.T) {
	key, nonce := tagOf(5), tagOf(6)
	s := Stream(key, nonce, full)
	for _, i := range []int{0, 1, 2, 9, 10, 127, 128, 255, 256, 257, 511, 512, 4095, 32766, 32767} {
		want := derive.Key(key, "stream", string(nonce[:]), string(tag.Number(uint64(i))))
		if !bytes.Equal(s[32*i:32*i+32], want[:]) {
			t.Errorf("tag %d: %x, not %x", i, s[32*i:32*i+32], want)
		}
	}
}

// The numbers were worked out by another program's HMAC.
func TestStreamOfTheMost(t *testing.T) {
	s := Stream(from(0, 1), from(255, 255), full)
	sum := sha256.Sum256(s)
	if len(s) != full || hex.EncodeToString(sum[:]) != "a61978a7ffe76d7f7ce5890442323c039d685490bfd7d8d7770d767832c64ee4" {
		t.Errorf("%d bytes, whose sum is %x", len(s), sum)
	}
}

// More than the most that a Stream may have ends, too, and has no more.
func TestStreamOfMoreThanTheMost(t *testing.T) {
	key, nonce := tagOf(7), tagOf(8)
	want := Stream(key, nonce, full)
	for _, many := range []int{full + 1, full + 32, math.MaxInt32, math.MaxInt} {
		if got := Stream(key, nonce, many); !bytes.Equal(got, want) {
			t.Errorf("Stream of %d: %d bytes, or others", many, len(got))
		}
	}
}

func TestAShorterStreamBeginsALongerOne(t *testing.T) {
	key, nonce := tagOf(9), tagOf(10)
	whole := Stream(key, nonce, full)
	for many := range 200 {
		if got := Stream(key, nonce, many); len(got) != many || !bytes.HasPrefix(whole, got) {
			t.Errorf("that of %d has %d bytes, or doesn't begin the longest one", many, len(got))
		}
	}
	for _, many := range []int{8192, 65536, full - 1} {
		if got := Stream(key, nonce, many); len(got) != many || !bytes.HasPrefix(whole, got) {
			t.Errorf("that of %d has %d bytes, or doesn't begin the longest one", many, len(got))
		}
	}
}

// Each bit of the key, and of the nonce, is seen, and they can't change places.
func TestStreamsAreUnlike(t *testing.T) {
	key, nonce := tagOf(11), tagOf(12)
	seen := map[string]bool{}
	many := 0
	add := func(k, n api.Tag) {
		// Each half by itself: not the first tag alone is another one.
		s := string(Stream(k, n, 64))
		seen[s[:32]], seen[s[32:]] = true, true
		many += 2
	}
	add(key, nonce)
	add(nonce, key)
	for bit := range 8 * api.Size {
		add(api.Tag([]byte(flipped(string(key[:]), bit))), nonce)
		add(key, api.Tag([]byte(flipped(string(nonce[:]), bit))))
	}
	if len(seen) != many {
		t.Errorf("%d tags, but %d unlike ones", many, len(seen))
	}
}

// No tag of a Stream comes again in it.
func TestTagsOfAStreamAreUnlike(t *testing.T) {
	s := Stream(tagOf(13), tagOf(14), full)
	seen := map[api.Tag]int{}
	for i := range full / api.Size {
		k := api.Tag(s[api.Size*i:])
		if j, ok := seen[k]; ok {
			t.Fatalf("tags %d and %d are the same", j, i)
		}
		seen[k] = i
	}
}

// P7.2

// The numbers were worked out by another program's HMAC.
func TestSealOfExamples(t *testing.T) {
	for _, c := range []struct {
		key, nonce  api.Tag
		plain, want string
	}{
		{api.Tag{}, api.Tag{}, "", strings.Repeat("00", 32) + "5346af938f150535073ca53ea420282b062e7dc753722c038f0dfe8cca3488c7"},
		{api.Tag{}, api.Tag{}, "abc", strings.Repeat("00", 32) + "7f76a7" + "8f26319f2389717ce0828a593ef9b18cd64f7bbcc466607f93b775014252b907"},
		{from(0, 1), from(255, 255), "", "fffefdfcfbfaf9f8f7f6f5f4f3f2f1f0efeeedecebeae9e8e7e6e5e4e3e2e1e0" + "07283e0b5ecf05dcff1116f19feafd54c60af8591407d1b1bea7b93930c1124f"},
		{from(0, 1), from(255, 255), "\x00", "fffefdfcfbfaf9f8f7f6f5f4f3f2f1f0efeeedecebeae9e8e7e6e5e4e3e2e1e0" + "a6" + "12c7a13c6be77e8877ca0a5a4b9d7072c58aee25a81df3aa8a11cd75817cf097"},
		{from(0, 1), from(255, 255), "The quick brown fox jumps over the lazy dog", "fffefdfcfbfaf9f8f7f6f5f4f3f2f1f0efeeedecebeae9e8e7e6e5e4e3e2e1e0" +
			"f2ce1d30b17071521f47c66e3584ca9933a3467afa16e2ed555f316cacc8714cf26923370d789e24776cf4" + "11cb9fcce15a4e1789bc12a409fa8e54d535be34247f7874ca82227694a42888"},
	} {
		if got := hex.EncodeToString([]byte(Seal(c.key, c.nonce, c.plain))); got != c.want {
			t.Errorf("%q: %s, not %s", c.plain, got, c.want)
		}
	}
	for _, c := range []struct {
		key, nonce  api.Tag
		plain, want string
	}{
		{from(255, 0), from(0, 1), every(), "e1ecfe1cdb7d66cbfee2794c276ac6d0a5478442ae70a2a4fb237ea123a560fe"},
		{from(255, 255), from(0, 1), strings.Repeat("z", full), "ee45e0f5a3980f7badf50b4e57935de188089f1ee8974ad90a5c29b677114db8"},
	} {
		s := Seal(c.key, c.nonce, c.plain)
		if sum := sha256.Sum256([]byte(s)); len(s) != len(c.plain)+64 || hex.EncodeToString(sum[:]) != c.want {
			t.Errorf("%d bytes: a seal of %d, whose sum is %x", len(c.plain), len(s), sum)
		}
	}
}

func TestOverIsWhatASealAdds(t *testing.T) {
	if Over != 64 {
		t.Errorf("Over is %d", Over)
	}
	for n := range 100 {
		if s := Seal(tagOf(15), tagOf(16), chance(17, n)); len(s) != n+Over {
			t.Errorf("a seal of %d bytes has %d", n, len(s))
		}
	}
	if s := Seal(api.Tag{}, api.Tag{}, "abc"); len(s) != 67 {
		t.Errorf("the document's example has %d bytes", len(s))
	}
}

func TestSealOfEachLength(t *testing.T) {
	key, nonce := tagOf(18), tagOf(19)
	for n := range 300 {
		seals(t, key, nonce, chance(uint64(n), n))
		seals(t, tagOf(uint64(n)), tagOf(uint64(n)+1000), strings.Repeat("z", n))
	}
	for _, n := range []int{1, 31, 32, 33, 63, 64, 65, 8191, 8192, 8193, 65535, 65536, 65537, full - 1, full} {
		seals(t, key, nonce, chance(uint64(n), n))
	}
}

func TestSealOfEachByte(t *testing.T) {
	key, nonce, all := tagOf(20), tagOf(21), every()
	seals(t, key, nonce, all)
	seals(t, key, nonce, all+all)
	for i := range all {
		seals(t, key, nonce, all[i:i+1])
		seals(t, key, nonce, strings.Repeat(all[i:i+1], 33))
		seals(t, key, nonce, all[i:]+all[:i])
	}
}

// Bytes are turned, not signs, and what is no text of UTF-8 is taken as it is.
func TestSealOfOtherTexts(t *testing.T) {
	for _, p := range []string{"\u00e9", "\u65e5\u672c", "\U0001f511", "\ufffd", "\xc3", "\xed\xa0\x80", "\xff\xfe", "a\x00b", "\x00", " ", "\r\n", "\ufeff"} {
		seals(t, tagOf(22), tagOf(23), p)
		seals(t, tagOf(22), tagOf(23), strings.Repeat(p, 40))
	}
}

// Keys and nonces of like bytes, and one as the other, are no others than any.
func TestSealOfOtherTags(t *testing.T) {
	tags := []api.Tag{{}, from(255, 0), from(0, 1), {31: 1}, {1}, {0: 128}, tagOf(24)}
	for _, key := range tags {
		for _, nonce := range tags {
			seals(t, key, nonce, "")
			seals(t, key, nonce, chance(25, 70))
		}
	}
}

// The turned bytes of bytes 0 are the Stream, and those of the Stream are 0.
func TestSealOfTheStream(t *testing.T) {
	key, nonce := tagOf(26), tagOf(27)
	for _, n := range []int{1, 31, 32, 33, 100} {
		s, noughts := string(Stream(key, nonce, n)), strings.Repeat("\x00", n)
		if got := Seal(key, nonce, noughts); got[32:32+n] != s {
			t.Errorf("%d bytes 0: %x", n, got[32:32+n])
		}
		if got := Seal(key, nonce, s); got[32:32+n] != noughts {
			t.Errorf("a Stream of %d: %x", n, got[32:32+n])
		}
	}
}

// Each bit of the key, the nonce and the plain is seen.
func TestSealsAreUnlike(t *testing.T) {
	key, nonce, plain := tagOf(28), tagOf(29), chance(30, 40)
	bodies, marks := map[string]bool{}, map[string]bool{}
	many := 0
	add := func(k, n api.Tag, p string) {
		s := Seal(k, n, p)
		bodies[s[32:32+len(p)]], marks[s[32+len(p):]] = true, true
		many++
	}
	add(key, nonce, plain)
	add(nonce, key, plain)
	for bit := range 8 * api.Size {
		add(api.Tag([]byte(flipped(string(key[:]), bit))), nonce, plain)
		add(key, api.Tag([]byte(flipped(string(nonce[:]), bit))), plain)
	}
	for bit := range 8 * len(plain) {
		add(key, nonce, flipped(plain, bit))
	}
	if len(bodies) != many || len(marks) != many {
		t.Errorf("%d seals, but %d rows of turned bytes, and %d marks", many, len(bodies), len(marks))
	}
}

// P7.3

func TestOpenOfTooFewBytes(t *testing.T) {
	key := tagOf(31)
	for n := range Over {
		shut(t, key, strings.Repeat("\x00", n), "bytes 0")
		shut(t, key, chance(uint64(n), n), "any bytes")
		s := Seal(key, tagOf(32), "")
		shut(t, key, s[:n], "a seal's first bytes")
		shut(t, key, s[len(s)-n:], "a seal's last bytes")
		// A mark of what there is, as if the nonce might be shorter.
		if n >= 32 {
			shut(t, key, s[:n-32]+mac(key, "seal", s[:n-32], ""), "a short nonce, marked")
		}
	}
	shut(t, key, mac(key, "seal", "", ""), "a mark of nothing")
}

func TestOpenOfWhatNobodySealed(t *testing.T) {
	for n := Over; n < 3*Over; n++ {
		shut(t, tagOf(33), strings.Repeat("\x00", n), "bytes 0")
		shut(t, tagOf(33), strings.Repeat("x", n), "letters")
		shut(t, tagOf(33), chance(uint64(n), n), "any bytes")
		shut(t, api.Tag{}, strings.Repeat("\x00", n), "bytes 0, a zero key")
	}
	for _, n := range []int{full + Over - 1, full + Over, full + Over + 1, 3 * full} {
		shut(t, tagOf(33), strings.Repeat("x", n), "many letters")
	}
}

// Any nonce and turned bytes with their mark are the Seal of some plain, whoever made them.
func TestOpenOfWhatWasMadeByHand(t *testing.T) {
	for n := range 130 {
		key, nonce, hidden := tagOf(uint64(n)+34), tagOf(uint64(n)+200), chance(uint64(n)+400, n)
		want := xor(hidden, toldStream(key, nonce, n))
		opens(t, key, made(key, nonce, hidden), want)
		if s := Seal(key, nonce, want); s != made(key, nonce, hidden) {
			t.Errorf("%d bytes: what comes back is another plain", n)
		}
	}
}

// One bit turned, wherever it is: in the nonce, in the middle, in the last 32.
func TestOpenOfATurnedBit(t *testing.T) {
	key, nonce := tagOf(35), tagOf(36)
	for _, n := range []int{0, 1, 2, 31, 32, 33, 64, 65} {
		s := Seal(key, nonce, chance(37, n))
		for bit := range 8 * len(s) {
			shut(t, key, flipped(s, bit), "a turned bit")
		}
	}
	s := Seal(key, nonce, chance(38, full))
	for _, at := range []int{0, 31, 32, full / 2, full + 31, full + 32, full + 63} {
		shut(t, key, flipped(s, 8*at+at%8), "a turned bit of many")
	}
	opens(t, key, s, chance(38, full))
}

// One byte less at either end, or in between, and one more.
func TestOpenOfAByteLessOrMore(t *testing.T) {
	key, nonce := tagOf(39), tagOf(40)
	for _, n := range []int{0, 1, 31, 32, 33, 65} {
		s := Seal(key, nonce, chance(41, n))
		for i := range s {
			shut(t, key, s[:i]+s[i+1:], "a byte less")
			shut(t, key, s[:i], "no bytes behind")
			shut(t, key, s[len(s)-i:], "no bytes ahead")
		}
		for i := range len(s) + 1 {
			for _, x := range []string{"\x00", "\xff", "x"} {
				shut(t, key, s[:i]+x+s[i:], "a byte more")
			}
		}
		shut(t, key, s+s, "a seal, twice")
		shut(t, key, s+s[32:], "a seal, and its end once more")
		shut(t, key, s[:32]+s, "a nonce, and a seal")
	}
	s := Seal(key, nonce, chance(42, full))
	for _, other := range []string{s[1:], s[:len(s)-1], s + "\x00", "\x00" + s} {
		shut(t, key, other, "a byte less, or more, of many")
	}
}

// Another key, be it by one bit, opens nothing.
func TestOpenByAnotherKey(t *testing.T) {
	key, nonce := tagOf(43), tagOf(44)
	for _, n := range []int{0, 1, 32, 33, 100} {
		s := Seal(key, nonce, chance(45, n))
		for bit := range 8 * api.Size {
			shut(t, api.Tag([]byte(flipped(string(key[:]), bit))), s, "a key's turned bit")
		}
		for _, other := range []api.Tag{{}, nonce, from(255, 0), tagOf(46), api.Tag([]byte(s[len(s)-32:]))} {
			shut(t, other, s, "another key")
		}
		opens(t, key, s, chance(45, n))
	}
}

// What is put together of two seals by one key is none.
func TestOpenOfPiecesOfTwo(t *testing.T) {
	key := tagOf(47)
	for _, n := range []int{1, 32, 50} {
		a, b := Seal(key, tagOf(48), chance(49, n)), Seal(key, tagOf(50), chance(51, n))
		for _, cut := range []int{32, 32 + n} {
			shut(t, key, a[:cut]+b[cut:], "the end of another seal")
			shut(t, key, b[:cut]+a[cut:], "the end of another seal")
		}
		shut(t, key, a[:32]+b[32:32+n]+a[32+n:], "the middle of another seal")
		// The same nonce, and another plain.
		c := Seal(key, tagOf(48), chance(52, n))
		shut(t, key, a[:32+n]+c[32+n:], "the mark of another plain")
	}
}

// A mark of another use, key or row, or cut otherwise, is none.
func TestOpenOfOtherMarks(t *testing.T) {
	key, nonce := tagOf(53), tagOf(54)
	n := string(nonce[:])
	for _, many := range []int{0, 1, 32, 40} {
		hidden := chance(55, many)
		plain := xor(hidden, toldStream(key, nonce, many))
		for _, m := range []string{
			mac(key, "stream", n, hidden), mac(key, "Seal", n, hidden), mac(key, "", n, hidden), mac(key, "seal", n+hidden),
			mac(key, "seal", hidden, n), mac(key, "seal", n), mac(key, "seal", n, hidden, ""), mac(key, "seal", n, hidden+"\x00"),
			mac(key, "seal", n, string(tag.Number(0)), hidden), mac(nonce, "seal", n, hidden), mac(api.Tag{}, "seal", n, hidden),
			mac(key, "seal", n, n+hidden), strings.Repeat("\x00", 32), n,
		} {
			shut(t, key, n+hidden+m, "another mark")
		}
		if many > 0 {
			shut(t, key, n+hidden+mac(key, "seal", n, plain), "a mark of the plain")
		}
		opens(t, key, made(key, nonce, hidden), plain)
	}
}

// What was sealed may be sealed again, and comes back step by step.
func TestOpenOfASealInASeal(t *testing.T) {
	s := "plain"
	for i := range 20 {
		s = seals(t, tagOf(uint64(i)+56), tagOf(uint64(i)+80), s)
	}
	for i := 19; i >= 0; i-- {
		got, ok := Open(tagOf(uint64(i)+56), s)
		if !ok {
			t.Fatalf("seal %d stays shut", i)
		}
		s = got
	}
	if s != "plain" {
		t.Errorf("%q", s)
	}
}

// A plain of more bytes than is asked for is nowhere left as it is, and comes back.
func TestSealOfMoreThanTheMost(t *testing.T) {
	for _, n := range []int{full + 1, full + 100} {
		seals(t, tagOf(57), tagOf(58), strings.Repeat("z", n))
	}
}

// The rules that hold everywhere: an answer is new memory, and nothing is kept.

func TestStreamHasNewMemory(t *testing.T) {
	key, nonce := tagOf(59), tagOf(60)
	for _, many := range []int{0, 1, 31, 32, 33, 64, 65, 1000, full} {
		one, two := Stream(key, nonce, many), Stream(key, nonce, many)
		over := one[:cap(one)]
		for i := range over {
			over[i] ^= 255
		}
		want := toldStream(key, nonce, many)
		if string(two) != want || string(Stream(key, nonce, many)) != want || key != tagOf(59) || nonce != tagOf(60) {
			t.Errorf("%d bytes: two answers share memory", many)
		}
	}
}

// What is behind a text, or ahead of it, in the memory it is cut from, is of no matter, and isn't changed.
func TestTextsAreCutFromLongerOnes(t *testing.T) {
	key, nonce, long := tagOf(61), tagOf(62), chance(63, 200)
	for _, n := range []int{0, 1, 32, 100} {
		seals(t, key, nonce, long[50:50+n])
		around := "ahead" + toldSeal(key, nonce, long[50:50+n]) + "behind"
		opens(t, key, around[5:len(around)-6], long[50:50+n])
		if long != chance(63, 200) || around != "ahead"+toldSeal(key, nonce, long[50:50+n])+"behind" {
			t.Fatalf("%d bytes: what was handed in is changed", n)
		}
	}
}

// P1 and P2: every call ends, and answers the same again, whatever was called between.
func TestAnswersStayTheSame(t *testing.T) {
	var streamed, sealed []string
	for i := range 200 {
		key, nonce := tagOf(uint64(i)), tagOf(uint64(i)+300)
		streamed = append(streamed, string(Stream(key, nonce, i)))
		sealed = append(sealed, Seal(key, nonce, chance(64, i)))
		shut(t, nonce, sealed[i], "another key")
	}
	for i := 199; i >= 0; i-- {
		key, nonce := tagOf(uint64(i)), tagOf(uint64(i)+300)
		if string(Stream(key, nonce, i)) != streamed[i] || Seal(key, nonce, chance(64, i)) != sealed[i] {
			t.Errorf("%d: another answer", i)
		}
		opens(t, key, sealed[i], chance(64, i))
	}
}
