package field

import (
	"bytes"
	"encoding/binary"
	"math"
	"slices"
	"strings"
	"testing"
)

// chance: many bytes that no rule of the program makes, others for each seed.
func chance(seed uint64, many int) []byte {
	out := make([]byte, many)
	for i := range out {
		seed = seed*6364136223846793005 + 1442695040888963407
		out[i] = byte(seed >> 40)
	}
	return out
}

// each: a text of all the 256 bytes, in order.
func each() string {
	var out []byte
	for i := range 256 {
		out = append(out, byte(i))
	}
	return string(out)
}

// row: as many bytes, and others behind them.
func row(x byte, many int, behind ...byte) []byte {
	return append(bytes.Repeat([]byte{x}, many), behind...)
}

// numbered: a kind, a number's bytes, and others behind them.
func numbered(kind byte, n uint64, behind ...byte) []byte {
	return append(binary.AppendUvarint([]byte{kind}, n), behind...)
}

// short: the first of the bytes, to tell them by.
func short(b []byte) []byte { return b[:min(len(b), 20)] }

// told: the field's bytes, as P9.1 tells them.
func told(f Field) []byte {
	return numbered(f.Kind, uint64(len(f.Value)), []byte(f.Value)...)
}

// toldAll: the bytes of all fields.
func toldAll(l ...Field) []byte {
	var out []byte
	for _, f := range l {
		out = append(out, told(f)...)
	}
	return out
}

// samples: fields with which each call is tried.
func samples() []Field {
	var out []Field
	for kind := range 256 {
		out = append(out, Field{Kind: byte(kind)}, Field{Kind: byte(kind), Value: string(rune(kind / 2))})
	}
	for _, many := range []int{0, 1, 2, 3, 126, 127, 128, 129, 255, 256, 257, 300, 1024, 16383, 16384, 16385, 70000} {
		for _, kind := range []byte{0, 1, 7, 127, 128, 255} {
			out = append(out, Field{kind, string(chance(uint64(many), many))}, Field{kind, string(make([]byte, many))})
		}
	}
	for i := range 256 {
		out = append(out, Field{9, string([]byte{byte(i)})})
	}
	// Values that look like fields, or like a number's bytes.
	out = append(out, Field{7, "ab"}, Field{255, each()}, Field{2, "\x07\x02ab"}, Field{128, "\x80\x01"}, Field{0, "\xff\xff\xff\xff"}, Field{3, "ä€😀\xc3"})
	for seed := range uint64(100) {
		out = append(out, Field{byte(seed * 77), string(chance(seed, int(seed*7)))})
	}
	return out
}

// gets: does Get tell this field, of so many bytes, whatever else is in b?
func gets(t *testing.T, b []byte, f Field, size int) {
	t.Helper()
	was := bytes.Clone(b)
	if g, s, ok := Get(b); g != f || s != size || !ok {
		t.Errorf("Get of %d bytes %v: kind %d, %d bytes of Value, %d in all, %t; not kind %d, %d, %d", len(b), short(b), g.Kind, len(g.Value), s, ok, f.Kind, len(f.Value), size)
	}
	if !bytes.Equal(b, was) {
		t.Errorf("Get changed %v", short(was))
	}
}

// none: does Get tell that no field's bytes are there, and All, that not all bytes are fields'?
func none(t *testing.T, b ...byte) {
	t.Helper()
	was := bytes.Clone(b)
	if f, size, ok := Get(b); f != (Field{}) || size != 0 || ok {
		t.Errorf("Get of %d bytes %v: kind %d, %d bytes of Value, %d in all, %t; there is none", len(b), short(b), f.Kind, len(f.Value), size, ok)
	}
	if !bytes.Equal(b, was) {
		t.Errorf("Get changed %v", short(was))
	}
	if len(b) > 0 {
		notAll(t, b...)
	}
}

// all: does All tell these fields?
func all(t *testing.T, b []byte, l ...Field) {
	t.Helper()
	was := bytes.Clone(b)
	if m, ok := All(b); !ok || !slices.Equal(m, l) {
		t.Errorf("All of %d bytes %v: %d fields, %t; not %d, or others", len(b), short(b), len(m), ok, len(l))
	}
	if !bytes.Equal(b, was) {
		t.Errorf("All changed %v", short(was))
	}
}

// notAll: does All tell that not all bytes are fields'?
func notAll(t *testing.T, b ...byte) {
	t.Helper()
	was := bytes.Clone(b)
	if m, ok := All(b); ok || len(m) != 0 {
		t.Errorf("All of %d bytes %v: %d fields, %t", len(b), short(b), len(m), ok)
	}
	if !bytes.Equal(b, was) {
		t.Errorf("All changed %v", short(was))
	}
}

// P9.1

func TestExample(t *testing.T) {
	f, want := Field{7, "ab"}, []byte{7, 2, 97, 98}
	if b := Put(nil, f); !bytes.Equal(b, want) {
		t.Errorf("Put: %v", b)
	}
	if b := Join(f); !bytes.Equal(b, want) {
		t.Errorf("Join: %v", b)
	}
	gets(t, want, f, 4)
	all(t, want, f)
}

func TestPutAtTheEdges(t *testing.T) {
	check := func(f Field, want ...byte) {
		t.Helper()
		if b := Put(nil, f); !bytes.Equal(b, want) {
			t.Errorf("kind %d, %d bytes of Value: %v", f.Kind, len(f.Value), short(b))
		}
		if b := Put([]byte{}, f); !bytes.Equal(b, want) {
			t.Errorf("kind %d, %d bytes of Value, behind an empty row: %v", f.Kind, len(f.Value), short(b))
		}
		gets(t, want, f, len(want))
	}
	check(Field{}, 0, 0)
	check(Field{Kind: 1}, 1, 0)
	check(Field{Kind: 128}, 128, 0)
	check(Field{Kind: 255}, 255, 0)
	check(Field{0, "\x00"}, 0, 1, 0)
	check(Field{255, "\xff"}, 255, 1, 255)
	check(Field{2, "ä"}, 2, 2, 0xc3, 0xa4)
	check(Field{5, strings.Repeat("x", 127)}, append([]byte{5, 127}, row('x', 127)...)...)
	check(Field{5, strings.Repeat("x", 128)}, append([]byte{5, 128, 1}, row('x', 128)...)...)
	check(Field{5, each()}, append([]byte{5, 128, 2}, each()...)...)
	check(Field{5, strings.Repeat("x", 300)}, append([]byte{5, 172, 2}, row('x', 300)...)...)
	check(Field{5, strings.Repeat("x", 1<<14-1)}, append([]byte{5, 255, 127}, row('x', 1<<14-1)...)...)
	check(Field{5, strings.Repeat("x", 1<<14)}, append([]byte{5, 128, 128, 1}, row('x', 1<<14)...)...)
	check(Field{5, strings.Repeat("x", 1<<21)}, append([]byte{5, 128, 128, 128, 1}, row('x', 1<<21)...)...)
}

func TestPutBehindOtherBytes(t *testing.T) {
	for _, ahead := range [][]byte{nil, {}, {0}, {128}, {255}, {7, 2}, {1, 2, 3, 4}, chance(1, 100), row(128, 20), row(0, 20)} {
		for _, f := range samples() {
			want := append(bytes.Clone(ahead), told(f)...)
			if b := Put(ahead, f); !bytes.Equal(b, want) {
				t.Fatalf("kind %d, %d bytes of Value, behind %v: %v", f.Kind, len(f.Value), short(ahead), short(b))
			}
		}
	}
	// What is there is taken as it is, however much it is.
	ahead := chance(2, 1<<18)
	for _, f := range []Field{{}, {7, "ab"}, {255, each()}} {
		if b := Put(ahead, f); !bytes.Equal(b, append(bytes.Clone(ahead), told(f)...)) {
			t.Errorf("kind %d behind 2^18 bytes: %d bytes, or others", f.Kind, len(b))
		}
	}
}

// spoil: all bytes that a row has room for are written over.
func spoil(b []byte) {
	for i := range b[:cap(b)] {
		b[:cap(b)][i] ^= 255
	}
}

func TestPutHasNewMemory(t *testing.T) {
	for _, f := range []Field{{}, {255, ""}, {7, "ab"}, {1, strings.Repeat("y", 127)}, {1, strings.Repeat("z", 128)}, {3, each()}} {
		other := Field{^f.Kind, f.Value + "more"}
		for _, many := range []int{0, 1, 3, 500, 1000} {
			room := chance(3, 1000)
			was := bytes.Clone(room)
			one, two := Put(room[:many], f), Put(room[:many], other)
			if !bytes.Equal(room, was) {
				t.Errorf("kind %d behind %d bytes: what was handed in was changed, or its spare room", f.Kind, many)
			}
			spoil(one)
			want := slices.Concat(was[:many], told(other))
			if !bytes.Equal(room, was) || !bytes.Equal(two, want) {
				t.Errorf("kind %d behind %d bytes: the answer shares memory", f.Kind, many)
			}
			clear(room)
			if !bytes.Equal(two, want) {
				t.Errorf("kind %d behind %d bytes: what was handed in was kept", f.Kind, many)
			}
		}
		// Without bytes ahead, too, each answer has memory of its own.
		one, two := Put(nil, f), Put(nil, f)
		spoil(one)
		if !bytes.Equal(two, told(f)) || !bytes.Equal(Put(nil, f), told(f)) {
			t.Errorf("kind %d behind none: two answers share memory", f.Kind)
		}
	}
}

func TestJoin(t *testing.T) {
	if b := Join(); len(b) != 0 {
		t.Errorf("of no field: %v", b)
	}
	if b := Join([]Field{}...); len(b) != 0 {
		t.Errorf("of an empty list: %v", b)
	}
	check := func(l ...Field) {
		t.Helper()
		was := slices.Clone(l)
		if b := Join(l...); !bytes.Equal(b, toldAll(l...)) {
			t.Errorf("of %d fields: %v", len(l), short(b))
		}
		if !slices.Equal(l, was) {
			t.Errorf("the list of %d fields was changed", len(l))
		}
	}
	check(Field{})
	check(Field{}, Field{})
	check(Field{1, "a"}, Field{1, "a"}, Field{1, "a"})
	// In order, not by kinds.
	check(Field{9, "z"}, Field{1, "b"}, Field{255, ""}, Field{0, "a"}, Field{1, "a"})
	for _, f := range samples() {
		check(f)
	}
	check(samples()...)
	if b := Join(Field{0, ""}, Field{255, "x"}, Field{7, "ab"}); !bytes.Equal(b, []byte{0, 0, 255, 1, 120, 7, 2, 97, 98}) {
		t.Errorf("of three: %v", b)
	}
}

// Join is Put, field by field.
func TestJoinIsPuts(t *testing.T) {
	l := samples()
	for many := range 20 {
		var b []byte
		for _, f := range l[len(l)-many:] {
			b = Put(b, f)
		}
		if got := Join(l[len(l)-many:]...); !bytes.Equal(got, b) {
			t.Errorf("of %d fields: %v", many, short(got))
		}
	}
}

func TestJoinHasNewMemory(t *testing.T) {
	for _, l := range [][]Field{{{}}, {{7, "ab"}}, {{7, "ab"}, {8, each()}}, samples()} {
		room := append(slices.Clone(l), Field{1, "spare"})
		one, two := Join(room[:len(l)]...), Join(room[:len(l)]...)
		spoil(one)
		if !bytes.Equal(two, toldAll(l...)) || !bytes.Equal(Join(l...), toldAll(l...)) {
			t.Errorf("of %d fields: two answers share memory", len(l))
		}
		if !slices.Equal(room[:len(l)], l) || room[len(l)] != (Field{1, "spare"}) {
			t.Errorf("of %d fields: what was handed in was changed, or its spare room", len(l))
		}
		clear(room)
		if !bytes.Equal(two, toldAll(l...)) {
			t.Errorf("of %d fields: what was handed in was kept", len(l))
		}
	}
}

// P9.2

func TestGet(t *testing.T) {
	behinds := [][]byte{{0}, {1}, {127}, {128}, {255}, {0, 0}, {7, 2, 97, 98}, {7, 2, 97}, chance(5, 300), row(255, 30)}
	for _, f := range samples() {
		b := told(f)
		gets(t, b, f, len(b))
		// Neither what is behind it nor what there is room for is looked at.
		for _, behind := range behinds {
			whole := slices.Concat(b, behind)
			gets(t, whole, f, len(b))
			gets(t, whole[:len(b)], f, len(b))
		}
	}
}

func TestGetOfWhatIsNone(t *testing.T) {
	none(t)
	if f, size, ok := Get([]byte{7, 2, 97, 98}[:0]); f != (Field{}) || size != 0 || ok {
		t.Errorf("of no bytes, with room: %v, %d, %t", f, size, ok)
	}
	for kind := range 256 {
		k := byte(kind)
		// A kind alone; a number that is none, or has a 0 as the last of several; a Value that ends early.
		none(t, k)
		none(t, k, 128)
		none(t, k, 255)
		none(t, k, 128, 0)
		none(t, k, 128, 0, 97, 98)
		none(t, k, 129, 0)
		none(t, k, 129, 0, 97)
		none(t, k, 129, 128, 0, 97)
		none(t, k, 130, 0, 97, 98)
		none(t, k, 1)
		none(t, k, 2)
		none(t, k, 2, 97)
		none(t, k, 127)
		none(t, k, 128, 1)
	}
	// Bytes beyond the 64 bits, or more of them than a number has.
	for many := range 40 {
		none(t, append([]byte{1}, row(128, many)...)...)
		none(t, append([]byte{1}, row(255, many)...)...)
		if many > 0 {
			none(t, append([]byte{1}, row(128, many, 0)...)...)
			none(t, append([]byte{1}, row(129, many, 0, 1, 2, 3)...)...)
		}
		if many > 9 {
			none(t, append([]byte{1}, row(128, many, 1, 2, 3)...)...)
		}
	}
	for last := 2; last < 256; last++ {
		none(t, append([]byte{1}, row(128, 9, byte(last), 97, 98)...)...)
		none(t, append([]byte{1}, append(row(129, 1), row(128, 8, byte(last), 97)...)...)...)
		none(t, append([]byte{1}, row(255, 9, byte(last))...)...)
	}
}

// What ends early is no field, be all of it missing or one byte, or others in the spare room.
func TestGetOfBytesThatEndEarly(t *testing.T) {
	for _, f := range samples() {
		b := told(f)
		step := 1 + len(b)/50
		for i := 0; i < len(b); i += step {
			none(t, bytes.Clone(b[:i])...)
			none(t, b[:i]...)
		}
		none(t, b[:len(b)-1]...)
		none(t, b[:1]...)
	}
}

// However great the number is, there are no more bytes than there are: none of these fit, though sums of them may.
func TestGetOfGreatNumbers(t *testing.T) {
	behinds := [][]byte{nil, {0}, {97, 98}, row(1, 12), row(0, 40), chance(6, 300)}
	check := func(n uint64) {
		t.Helper()
		for _, behind := range behinds {
			none(t, numbered(1, n, behind...)...)
			none(t, append([]byte{0}, numbered(255, n, behind...)...)[1:]...)
		}
	}
	for d := range uint64(50) {
		check(math.MaxUint64 - d)
		check(1<<63 - 1 - d)
		check(1<<63 + d)
		check(1<<32 + d)
		check(1<<32 - 1 - d)
		check(1<<31 + d)
		check(1<<31 - 1 - d)
		check(1<<48 + d)
		check(1<<16 + d)
		check(512 + d)
	}
	for bits := 10; bits < 64; bits++ {
		check(1 << bits)
		check(-(1 << bits))
	}
	// Those of the document's own edges, written out.
	none(t, 1, 128, 128, 128, 128, 128, 128, 128, 128, 128, 1)
	none(t, 1, 128, 128, 128, 128, 128, 128, 128, 128, 128, 1, 97)
	none(t, 1, 255, 255, 255, 255, 255, 255, 255, 255, 255, 1)
	none(t, 1, 255, 255, 255, 255, 255, 255, 255, 255, 255, 1, 97)
	none(t, 1, 255, 255, 255, 255, 255, 255, 255, 255, 127, 97)
}

// A number that holds one byte more than there are is too great; that of what there are isn't.
func TestGetAtTheLastByte(t *testing.T) {
	for many := range 400 {
		behind := chance(7, many)
		gets(t, numbered(4, uint64(many), behind...), Field{4, string(behind)}, many+len(numbered(4, uint64(many))))
		none(t, numbered(4, uint64(many)+1, behind...)...)
		if many > 0 {
			gets(t, numbered(4, uint64(many)-1, behind...), Field{4, string(behind[:many-1])}, many-1+len(numbered(4, uint64(many)-1)))
		}
	}
}

func TestAll(t *testing.T) {
	all(t, nil)
	all(t, []byte{})
	all(t, []byte{7, 2, 97, 98}[:0])
	all(t, []byte{0, 0}, Field{})
	all(t, []byte{0, 0, 0, 0}, Field{}, Field{})
	all(t, []byte{0, 0, 255, 1, 120, 7, 2, 97, 98}, Field{}, Field{255, "x"}, Field{7, "ab"})
	for _, f := range samples() {
		all(t, told(f), f)
		all(t, toldAll(f, f), f, f)
		all(t, toldAll(Field{1, "a"}, f, Field{}), Field{1, "a"}, f, Field{})
	}
	l := samples()
	for many := range 30 {
		all(t, toldAll(l[:many]...), l[:many]...)
	}
	all(t, toldAll(l...), l...)
}

// Fields with a byte more behind them, and with the last byte cut, aren't all there.
func TestAllOfWhatIsNone(t *testing.T) {
	lists := [][]Field{{{}}, {{7, "ab"}}, {{}, {}}, {{1, "a"}, {7, "ab"}, {255, each()}}, samples()}
	for _, l := range lists {
		b := toldAll(l...)
		for x := range 256 {
			notAll(t, append(bytes.Clone(b), byte(x))...)
		}
		notAll(t, bytes.Clone(b[:len(b)-1])...)
		notAll(t, b[:len(b)-1]...)
		notAll(t, append(bytes.Clone(b), 1, 128, 0)...)
		notAll(t, append(bytes.Clone(b), 1, 2, 3)...)
		notAll(t, append(bytes.Clone(b), numbered(1, math.MaxUint64)...)...)
		notAll(t, append(bytes.Clone(b), numbered(1, 1<<63)...)...)
		// What is wrong at the front isn't made good by what is behind it.
		notAll(t, append([]byte{1, 128, 0}, b...)...)
		notAll(t, append(numbered(1, math.MaxUint64), b...)...)
	}
}

// A row that is cut within a field isn't all there; one that is cut between two is.
func TestAllOfRowsThatAreCut(t *testing.T) {
	l := []Field{{}, {7, "ab"}, {0, "\x00"}, {255, strings.Repeat("x", 130)}, {3, "\x01\x00"}, {}}
	b := toldAll(l...)
	ends := map[int]int{}
	for i := range len(l) + 1 {
		ends[len(toldAll(l[:i]...))] = i
	}
	for i := range len(b) + 1 {
		if many, ok := ends[i]; ok {
			all(t, b[:i], l[:many]...)
		} else {
			notAll(t, b[:i]...)
		}
	}
}

// rows: all rows of at most so many bytes from 0 to 2.
func rows(most int) [][]byte {
	out := [][]byte{nil}
	for i := 0; i < len(out); i++ {
		if len(out[i]) == most {
			break
		}
		for x := range byte(3) {
			out = append(out, append(bytes.Clone(out[i]), x))
		}
	}
	return out
}

// Each row of few bytes is the bytes of the fields that make it, or of none, where no fields do.
func TestAllOfEachRow(t *testing.T) {
	const most = 7
	made := map[string][]Field{}
	var lists func(l []Field, size int)
	lists = func(l []Field, size int) {
		if size > most {
			return
		}
		made[string(toldAll(l...))] = slices.Clone(l)
		for kind := range byte(3) {
			for _, v := range rows(2) {
				lists(append(slices.Clone(l), Field{kind, string(v)}), size+2+len(v))
			}
		}
	}
	lists(nil, 0)
	for _, b := range rows(most) {
		if l, ok := made[string(b)]; ok {
			all(t, b, l...)
		} else {
			notAll(t, b...)
		}
	}
}

// begins: the field that Get should tell of b: of all that there are, the one with whose bytes b begins.
func begins(b []byte) (Field, int, bool) {
	for many := range len(b) {
		for ahead := 2; ahead+many <= len(b); ahead++ {
			f := Field{b[0], string(b[ahead : ahead+many])}
			if bytes.HasPrefix(b, told(f)) {
				return f, ahead + many, true
			}
		}
	}
	return Field{}, 0, false
}

func TestGetOfEachRow(t *testing.T) {
	edges := []byte{0, 1, 2, 127, 128, 129, 255}
	var check func(b []byte, more int)
	check = func(b []byte, more int) {
		if f, size, ok := begins(b); ok {
			gets(t, b, f, size)
		} else {
			none(t, b...)
		}
		if more == 0 {
			return
		}
		for _, x := range edges {
			check(append(b, x), more-1)
		}
	}
	check(nil, 5)
	// With so many bytes behind them, numbers of two bytes fit, too.
	for seed := range uint64(300) {
		check(append([]byte{byte(seed), 128 + byte(seed%9), 1}, chance(seed, 120+int(seed%20))...), 0)
	}
}

// Whatever the bytes are, what Get and All tell makes them again.
func TestWhatIsToldMakesTheBytes(t *testing.T) {
	found := 0
	for seed := range uint64(5000) {
		b := chance(seed, int(seed%40))
		for i := range b {
			// Most of them are small, so that there are fields.
			if b[i] < 240 {
				b[i] %= 6
			}
		}
		f, size, ok := Get(b)
		if ok && (!bytes.HasPrefix(b, told(f)) || size != len(told(f))) || !ok && (f != (Field{}) || size != 0) {
			t.Errorf("Get of %v: %v, %d, %t", b, f, size, ok)
		}
		l, ok := All(b)
		if ok && !bytes.Equal(Join(l...), b) || !ok && len(l) != 0 {
			t.Errorf("All of %v: %v, %t", b, l, ok)
		}
		if ok {
			found++
		}
	}
	if found < 100 {
		t.Errorf("%d rows of fields alone: too few to tell", found)
	}
}

// Fields come back from their Join, one by one, and all.
func TestFieldsComeBack(t *testing.T) {
	l := samples()
	b := Join(l...)
	all(t, b, l...)
	for _, f := range l {
		g, size, ok := Get(b)
		if g != f || size != len(Put(nil, f)) || !ok {
			t.Fatalf("kind %d, %d bytes of Value: kind %d, %d bytes, %d in all, %t", f.Kind, len(f.Value), g.Kind, len(g.Value), size, ok)
		}
		b = b[size:]
	}
	none(t, b...)
	for seed := range uint64(300) {
		var l []Field
		for i := range seed % 9 {
			l = append(l, Field{byte(seed + i), string(chance(seed+i, int(seed*i%400)))})
		}
		all(t, Join(l...), l...)
	}
}

// As many as there are, be they more than a number of two bytes tells.
func TestManyFields(t *testing.T) {
	l := make([]Field, 1<<15)
	for i := range l {
		l[i] = Field{byte(i), strings.Repeat("v", i%4)}
	}
	b := Join(l...)
	if !bytes.Equal(b, toldAll(l...)) {
		t.Errorf("Join of %d fields: %d bytes, or others", len(l), len(b))
	}
	if m, ok := All(b); !ok || !slices.Equal(m, l) {
		t.Errorf("All of %d bytes: %d fields, %t", len(b), len(m), ok)
	}
	if m, ok := All(b[:len(b)-1]); ok || len(m) != 0 {
		t.Errorf("All of %d bytes, one cut: %d fields, %t", len(b), len(m), ok)
	}
}

// What was told stays, whatever becomes of the bytes, or of another answer.
func TestAnswersShareNoMemory(t *testing.T) {
	l := []Field{{7, "ab"}, {255, each()}, {}, {1, "x"}}
	b := toldAll(l...)
	f, _, _ := Get(b)
	one, _ := All(b)
	two, _ := All(b)
	spoil(b)
	if f != l[0] || !slices.Equal(one, l) || !slices.Equal(two, l) {
		t.Error("what was handed in was kept")
	}
	one = one[:cap(one)]
	for i := range one {
		one[i] = Field{99, "over"}
	}
	three, _ := All(toldAll(l...))
	if !slices.Equal(two, l) || !slices.Equal(three, l) {
		t.Error("two answers share memory")
	}
}

// Neither Get nor All touches what is handed in, spare room included.
func TestReadingChangesNothing(t *testing.T) {
	for _, l := range [][]Field{{}, {{}}, {{7, "ab"}}, {{7, "ab"}, {8, each()}}} {
		b := append(toldAll(l...), chance(8, 50)...)
		was := bytes.Clone(b)
		for cut := range 51 {
			Get(b[:len(b)-cut])
			All(b[:len(b)-cut])
		}
		if !bytes.Equal(b, was) {
			t.Errorf("of %d fields: changed", len(l))
		}
	}
}

// P1 and P2: every call answers the same again, whatever was called between.

func TestAnswersStayTheSame(t *testing.T) {
	type answer struct {
		put, join string
		f         Field
		size      int
		ok        bool
		many      int
		all       bool
	}
	of := func(i int, f Field) answer {
		b := chance(uint64(i), i%12)
		got, size, ok := Get(b)
		l, whole := All(b)
		return answer{string(Put(b, f)), string(Join(f, Field{}, f)), got, size, ok, len(l), whole}
	}
	l := samples()
	var was []answer
	for i, f := range l {
		was = append(was, of(i, f))
	}
	for i := len(l) - 1; i >= 0; i-- {
		if got := of(i, l[i]); got != was[i] {
			t.Errorf("sample %d: another answer than ahead of it", i)
		}
	}
}
