package tag

import (
	"bytes"
	"encoding/binary"
	"encoding/hex"
	"math"
	"strings"
	"testing"
	"time"

	"chitty/api"
)

// chance: many bytes that no rule of the program makes, others for each seed.
func chance(seed uint64, many int) []byte {
	out := make([]byte, many)
	for i := range out {
		seed = seed*6364136223846793005 + 1442695040888963407
		out[i] = byte(seed >> 40)
	}
	return out
}

// tags: even ones, each with one bit alone, and such as look like chance.
func tags() []api.Tag {
	var out []api.Tag
	for x := range 256 {
		out = append(out, api.Tag(bytes.Repeat([]byte{byte(x)}, api.Size)))
	}
	for i := range 8 * api.Size {
		var t api.Tag
		t[i/8] = 1 << (i % 8)
		out = append(out, t)
	}
	for i := range 100 {
		out = append(out, api.Tag(chance(uint64(i), api.Size)))
	}
	return out
}

// holds: is it the answer, whichever way round they are handed in?
func holds(t *testing.T, what string, a, b []byte, want bool) {
	t.Helper()
	if Equal(a, b) != want || Equal(b, a) != want {
		t.Errorf("%s, %d and %d bytes: not %v", what, len(a), len(b), want)
	}
}

// P5.1

func TestEqualOfNoByte(t *testing.T) {
	none := [][]byte{nil, {}, make([]byte, 0, 32), chance(1, 32)[:0], chance(2, 32)[32:]}
	for _, a := range none {
		for _, b := range none {
			holds(t, "no byte", a, b, true)
		}
		for n := 1; n < 70; n++ {
			holds(t, "no byte, and bytes 0", a, make([]byte, n), false)
			holds(t, "no byte, and some", a, chance(3, n), false)
		}
	}
}

func TestEqualOfTheSameBytes(t *testing.T) {
	for n := range 100 {
		for _, a := range [][]byte{make([]byte, n), bytes.Repeat([]byte{255}, n), chance(uint64(n), n)} {
			holds(t, "the same memory", a, a, true)
			holds(t, "a copy", a, bytes.Clone(a), true)
			holds(t, "a copy with spare room", a, append(bytes.Clone(a), 1, 2, 3)[:n], true)
		}
	}
	long := chance(4, 1<<17)
	holds(t, "long ones", long, bytes.Clone(long), true)
}

// Each bit alone makes a difference, those of the first and of the last byte, too.
func TestEqualOfOneBit(t *testing.T) {
	for n := range 70 {
		a := chance(uint64(n), n)
		b := bytes.Clone(a)
		for i := range 8 * n {
			b[i/8] ^= 1 << (i % 8)
			holds(t, "a bit turned", a, b, false)
			holds(t, "a bit turned, without the rest", a[:i/8], b[:i/8], true)
			holds(t, "a bit turned, without what is ahead", a[i/8:], b[i/8:], false)
			holds(t, "a bit turned, what is behind", a[i/8+1:], b[i/8+1:], true)
			b[i/8] ^= 1 << (i % 8)
		}
	}
	long := chance(5, 1<<17)
	for _, i := range []int{0, 1, 255, 256, 65535, 65536, len(long) - 2, len(long) - 1} {
		other := bytes.Clone(long)
		other[i] ^= 128
		holds(t, "a bit of a long one", long, other, false)
	}
}

// What differs in several bytes isn't taken for the same because the differences make up for each other.
func TestEqualOfSeveralBytes(t *testing.T) {
	for i := range api.Size {
		for j := range i {
			a := chance(uint64(i), api.Size)
			turned, moved, changed := bytes.Clone(a), bytes.Clone(a), bytes.Clone(a)
			turned[i] ^= 64
			turned[j] ^= 64
			moved[i]++
			moved[j]--
			changed[i], changed[j] = changed[j], changed[i]
			holds(t, "a bit of two bytes", a, turned, false)
			holds(t, "one byte more, one less", a, moved, false)
			holds(t, "changed over", a, changed, a[i] == a[j])
		}
	}
	holds(t, "256 bytes, each 1 more", make([]byte, 256), bytes.Repeat([]byte{1}, 256), false)
	holds(t, "the other way round", []byte{1, 2, 3}, []byte{3, 2, 1}, false)
}

func TestEqualOfOtherLengths(t *testing.T) {
	for n := range 70 {
		for _, a := range [][]byte{make([]byte, n), chance(uint64(n), n)} {
			for _, more := range []int{1, 2, 8, 31, 32, 255, 256, 257, 512, 65535, 65536, 65537, 1 << 17} {
				holds(t, "bytes 0 behind", a, append(bytes.Clone(a), make([]byte, more)...), false)
				holds(t, "bytes behind", a, append(bytes.Clone(a), chance(9, more)...), false)
			}
			for i := range a {
				holds(t, "the first ones", a, a[:i], false)
				holds(t, "the last ones", a, a[i+1:], false)
			}
		}
	}
	// Both are pieces of one memory, so that what is behind the shorter one is the same.
	all := chance(6, 64)
	for n := range all {
		holds(t, "pieces of one memory", all, all[:n], false)
	}
}

func TestEqualChangesNothing(t *testing.T) {
	a, b := chance(7, 100), chance(8, 100)
	wasA, wasB := bytes.Clone(a), bytes.Clone(b)
	for n := range 100 {
		Equal(a[:n], b[:n])
		Equal(a[:n], b[:n/2])
	}
	if !bytes.Equal(a, wasA) || !bytes.Equal(b, wasB) {
		t.Error("what was handed in was changed")
	}
}

// least: of many tries the least time that Equal takes, of each pair.
func least(pairs [][2][]byte) []time.Duration {
	out := make([]time.Duration, len(pairs))
	for try := range 15 {
		for i, p := range pairs {
			start := time.Now()
			Equal(p[0], p[1])
			if took := time.Since(start); try == 0 || took < out[i] {
				out[i] = took
			}
		}
	}
	return out
}

// Each byte is looked at: a way out at the first one would take not a tenth, but a millionth of the time.
func TestEqualLooksAtEachByte(t *testing.T) {
	same := chance(10, 1<<20)
	first, last, none := bytes.Clone(same), bytes.Clone(same), bytes.Clone(same)
	first[0] ^= 1
	last[len(last)-1] ^= 1
	for i := range none {
		none[i] ^= 255
	}
	pairs := [][2][]byte{{same, bytes.Clone(same)}, {same, last}, {same, first}, {same, none}, {same, same[:len(same)-1]}, {same, same[:1]}, {nil, same}}
	times := least(pairs)
	for i, took := range times {
		if took < times[0]/10 {
			t.Errorf("pair %d: %v, and %v of the same bytes", i, took, times[0])
		}
	}
}

// P5.2

func TestOf(t *testing.T) {
	for n := range 700 {
		b := chance(uint64(n), n)
		x, ok := Of(b)
		if n == api.Size {
			if !ok || !bytes.Equal(x[:], b) {
				t.Errorf("%d bytes: %x, %v", n, x, ok)
			}
		} else if ok || x != (api.Tag{}) {
			t.Errorf("%d bytes: %x, %v", n, x, ok)
		}
	}
	if x, ok := Of(nil); ok || x != (api.Tag{}) {
		t.Errorf("nil: %x, %v", x, ok)
	}
	for _, n := range []int{256, 256 + api.Size, 65536, 65536 + api.Size} {
		if x, ok := Of(make([]byte, n)); ok || x != (api.Tag{}) {
			t.Errorf("%d bytes 0: %x, %v", n, x, ok)
		}
	}
}

func TestOfEachTag(t *testing.T) {
	for _, want := range tags() {
		if x, ok := Of(want[:]); !ok || x != want {
			t.Errorf("%x: %x, %v", want, x, ok)
		}
	}
}

// It is how many bytes there are that counts, not how many there is room for.
func TestOfSpareRoom(t *testing.T) {
	all := chance(11, 100)
	for n := range len(all) - api.Size {
		if x, ok := Of(all[n : n+api.Size]); !ok || !bytes.Equal(x[:], all[n:n+api.Size]) {
			t.Errorf("32 bytes from %d: %x, %v", n, x, ok)
		}
		if x, ok := Of(all[n : n+api.Size-1]); ok || x != (api.Tag{}) {
			t.Errorf("31 bytes from %d: %x, %v", n, x, ok)
		}
	}
}

func TestOfKeepsAndChangesNothing(t *testing.T) {
	b := chance(12, api.Size)
	was := bytes.Clone(b)
	x, _ := Of(b)
	clear(b)
	if !bytes.Equal(x[:], was) {
		t.Error("what was handed in was kept")
	}
	copy(b, was)
	y, _ := Of(b)
	clear(y[:])
	if !bytes.Equal(b, was) {
		t.Error("what was handed in was changed")
	}
}

// P5.3

func TestText(t *testing.T) {
	for _, x := range tags() {
		s := Text(x)
		if s != hex.EncodeToString(x[:]) {
			t.Errorf("%x: %q", x, s)
		}
		if y, ok := Parse(s); !ok || y != x {
			t.Errorf("%x isn't parsed back: %x, %v", x, y, ok)
		}
	}
	if s := Text(api.Tag(bytes.Repeat([]byte{171}, api.Size))); s != strings.Repeat("ab", 32) {
		t.Errorf("bytes 171: %q", s)
	}
	if s := Text(api.Tag{}); s != strings.Repeat("0", 64) {
		t.Errorf("bytes 0: %q", s)
	}
	if s := Text(api.Tag{0: 0x1f, 1: 0x0a, 31: 0xf0}); s != "1f0a"+strings.Repeat("0", 58)+"f0" {
		t.Errorf("the higher digit first: %q", s)
	}
}

// Each byte has its two digits wherever it stands.
func TestTextOfEachByte(t *testing.T) {
	for i := range api.Size {
		for x := range 256 {
			y := api.Tag(bytes.Repeat([]byte{0x5a}, api.Size))
			y[i] = byte(x)
			want := strings.Repeat("5a", i) + hex.EncodeToString([]byte{byte(x)}) + strings.Repeat("5a", api.Size-1-i)
			if s := Text(y); s != want {
				t.Fatalf("byte %d is %d: %q", i, x, s)
			}
			if z, ok := Parse(want); !ok || z != y {
				t.Fatalf("byte %d is %d: %x, %v", i, x, z, ok)
			}
		}
	}
}

// refused: no tag's Text is s.
func refused(t *testing.T, s string) {
	t.Helper()
	if x, ok := Parse(s); ok || x != (api.Tag{}) {
		t.Errorf("%q: %x, %v", s, x, ok)
	}
}

func TestParseOfOtherLengths(t *testing.T) {
	refused(t, "")
	for n := range 700 {
		if n != 64 {
			refused(t, strings.Repeat("0", n))
			refused(t, strings.Repeat("f", n))
			refused(t, hex.EncodeToString(chance(uint64(n), n))[:n])
		}
	}
	refused(t, strings.Repeat("0", 65536+64))
	if x, ok := Parse(strings.Repeat("0", 64)); !ok || x != (api.Tag{}) {
		t.Errorf("64 digits 0: %x, %v", x, ok)
	}
	if x, ok := Parse(strings.Repeat("f", 64)); !ok || x != api.Tag(bytes.Repeat([]byte{255}, api.Size)) {
		t.Errorf("64 digits f: %x, %v", x, ok)
	}
}

// Each of the 256 bytes, at each place: the 16 digits alone are taken.
func TestParseOfEachSign(t *testing.T) {
	s := Text(api.Tag(chance(13, api.Size)))
	for i := range s {
		for c := range 256 {
			other := s[:i] + string([]byte{byte(c)}) + s[i+1:]
			digit := c >= '0' && c <= '9' || c >= 'a' && c <= 'f'
			if !digit {
				refused(t, other)
			} else if x, ok := Parse(other); !ok || Text(x) != other {
				t.Errorf("%q: %x, %v", other, x, ok)
			}
		}
	}
}

func TestParseOfOtherSigns(t *testing.T) {
	s := Text(api.Tag(chance(14, api.Size)))
	refused(t, strings.ToUpper(s))
	refused(t, strings.Repeat("A", 64))
	refused(t, strings.Repeat("F", 64))
	for _, sign := range []string{"\u00e9", "\u0663", "\uff10", "\uff41", "\U0001d7ce", "\u0130", "\xff", "\xc3", "\x00", " ", "\n", "0x", "0X", "+", "-", "_", "/", ":", "`", "g", "@", "G"} {
		n := len(sign)
		for i := 0; i+n <= len(s); i++ {
			// As many bytes as digits should be, and as many signs.
			refused(t, s[:i]+sign+s[i+n:])
			if n > 1 {
				refused(t, s[:i]+sign+s[i+1:])
			}
		}
		refused(t, sign+s)
		refused(t, s+sign)
		refused(t, strings.Repeat(sign, 64))
		refused(t, strings.Repeat(sign, 64)[:64])
	}
}

// P5.4

func TestNumber(t *testing.T) {
	check := func(n uint64) {
		t.Helper()
		want := binary.BigEndian.AppendUint64(nil, n)
		if b := Number(n); !bytes.Equal(b, want) {
			t.Errorf("%d: %v, not %v", n, b, want)
		}
	}
	check(0)
	check(math.MaxUint64)
	check(math.MaxUint64 - 1)
	for i := range 64 {
		check(1 << i)
		check(1<<i - 1)
		check(1<<i + 1)
		check(-(1 << i))
		check(255 << i)
	}
	for i := range uint64(70000) {
		check(i)
		check(i * 0x0001000100010001)
	}
	for i := range 200 {
		check(binary.LittleEndian.Uint64(chance(uint64(i), 8)))
	}
}

func TestNumberOfExamples(t *testing.T) {
	for n, want := range map[uint64]string{
		0:                  "\x00\x00\x00\x00\x00\x00\x00\x00",
		1:                  "\x00\x00\x00\x00\x00\x00\x00\x01",
		255:                "\x00\x00\x00\x00\x00\x00\x00\xff",
		256:                "\x00\x00\x00\x00\x00\x00\x01\x00",
		1 << 16:            "\x00\x00\x00\x00\x00\x01\x00\x00",
		1 << 24:            "\x00\x00\x00\x00\x01\x00\x00\x00",
		1 << 32:            "\x00\x00\x00\x01\x00\x00\x00\x00",
		1 << 40:            "\x00\x00\x01\x00\x00\x00\x00\x00",
		1 << 48:            "\x00\x01\x00\x00\x00\x00\x00\x00",
		1 << 56:            "\x01\x00\x00\x00\x00\x00\x00\x00",
		0x0102030405060708: "\x01\x02\x03\x04\x05\x06\x07\x08",
		math.MaxUint64:     "\xff\xff\xff\xff\xff\xff\xff\xff",
	} {
		if b := Number(n); string(b) != want {
			t.Errorf("%d: %v", n, b)
		}
	}
}

func TestNumberHasNewMemory(t *testing.T) {
	one, two := Number(1), Number(1)
	whole := one[:cap(one)]
	for i := range whole {
		whole[i] = 99
	}
	for _, b := range [][]byte{two, Number(1)} {
		if !bytes.Equal(b, []byte{0, 0, 0, 0, 0, 0, 0, 1}) {
			t.Errorf("two answers share memory: %v", b)
		}
	}
}

// P1 and P2: every call answers the same again, whatever was called between.

func TestAnswersStayTheSame(t *testing.T) {
	type answer struct {
		equal, whole, parsed bool
		of, back             api.Tag
		text, number         string
	}
	of := func(n int) answer {
		b, s := chance(uint64(n), n), hex.EncodeToString(chance(uint64(n), 40))[:n]
		var a answer
		a.equal = Equal(b, bytes.Repeat([]byte{byte(n)}, n))
		a.of, a.whole = Of(b)
		a.back, a.parsed = Parse(s)
		a.text, a.number = Text(a.of), string(Number(uint64(n)<<32|uint64(n)))
		return a
	}
	var was []answer
	for n := range 80 {
		was = append(was, of(n))
	}
	for n := 79; n >= 0; n-- {
		if got := of(n); got != was[n] {
			t.Errorf("%d: %v, and %v ahead of it", n, got, was[n])
		}
	}
}
