package varint

import (
	"bytes"
	"encoding/binary"
	"math"
	"math/big"
	"slices"
	"testing"
)

// chance: many bytes that no rule of the program makes, others for each seed.
func chance(seed uint64, many int) []byte {
	out := make([]byte, many)
	for i := range out {
		seed = seed*6364136223846793005 + 1442695040888963407
		out[i] = byte(seed >> 40)
	}
	return out
}

// samples: numbers with which each call is tried; those at each power of two, of 128 too, among them.
func samples() []uint64 {
	out := []uint64{300, math.MaxUint64, math.MaxUint64 - 1, 0x0123456789abcdef, 0xaaaaaaaaaaaaaaaa, 0x5555555555555555, 0x8080808080808080, 0x7f7f7f7f7f7f7f7f}
	for i := range 64 {
		for d := range uint64(5) {
			out = append(out, 1<<i-2+d, 127<<i, 129<<i, -(1 << i))
		}
	}
	for n := range uint64(1000) {
		out = append(out, n)
	}
	for seed := range uint64(500) {
		// Shifted, so that there are numbers of each length.
		out = append(out, binary.LittleEndian.Uint64(chance(seed, 8))>>(seed%64))
	}
	return out
}

// told: the number's bytes, as P8.1 tells them, in sums of whole numbers.
func told(n uint64) []byte {
	rest, hundred28 := new(big.Int).SetUint64(n), big.NewInt(128)
	var out []byte
	for {
		low := new(big.Int)
		rest.DivMod(rest, hundred28, low)
		if rest.Sign() == 0 {
			return append(out, byte(low.Int64()))
		}
		out = append(out, byte(low.Int64())+128)
	}
}

// begins: the number that Get should tell of b: of all the rows of bytes that there are, the one with which b begins.
func begins(b []byte) (uint64, int) {
	sum, scale := new(big.Int), big.NewInt(1)
	for i, x := range b {
		sum.Add(sum, new(big.Int).Mul(scale, big.NewInt(int64(x%128))))
		scale.Mul(scale, big.NewInt(128))
		if x >= 128 {
			continue
		}
		if !sum.IsUint64() || !bytes.Equal(told(sum.Uint64()), b[:i+1]) {
			return 0, 0
		}
		return sum.Uint64(), i + 1
	}
	return 0, 0
}

// gets: does Get tell this number, of so many bytes?
func gets(t *testing.T, b []byte, n uint64, size int) {
	t.Helper()
	was := bytes.Clone(b)
	if x, s := Get(b); x != n || s != size {
		t.Errorf("Get of %v: %d of %d bytes, not %d of %d", b, x, s, n, size)
	}
	if !bytes.Equal(b, was) {
		t.Errorf("Get changed %v to %v", was, b)
	}
}

// none: does Get tell that no number's bytes are there?
func none(t *testing.T, b ...byte) {
	t.Helper()
	gets(t, b, 0, 0)
}

// row: as many bytes, and others behind them.
func row(x byte, many int, behind ...byte) []byte {
	return append(bytes.Repeat([]byte{x}, many), behind...)
}

// P8.1

// examples: numbers with their bytes, written out.
func examples() map[uint64][]byte {
	return map[uint64][]byte{
		0:                  {0},
		1:                  {1},
		127:                {127},
		128:                {128, 1},
		129:                {129, 1},
		255:                {255, 1},
		256:                {128, 2},
		300:                {172, 2},
		1<<14 - 1:          {255, 127},
		1 << 14:            {128, 128, 1},
		1<<21 - 1:          {255, 255, 127},
		1 << 21:            {128, 128, 128, 1},
		1<<28 - 1:          {255, 255, 255, 127},
		1 << 28:            {128, 128, 128, 128, 1},
		1<<31 - 1:          {255, 255, 255, 255, 7},
		1 << 31:            {128, 128, 128, 128, 8},
		1<<32 - 1:          {255, 255, 255, 255, 15},
		1 << 32:            {128, 128, 128, 128, 16},
		1<<35 - 1:          {255, 255, 255, 255, 127},
		1 << 35:            {128, 128, 128, 128, 128, 1},
		1<<42 - 1:          {255, 255, 255, 255, 255, 127},
		1 << 42:            {128, 128, 128, 128, 128, 128, 1},
		1<<49 - 1:          {255, 255, 255, 255, 255, 255, 127},
		1 << 49:            {128, 128, 128, 128, 128, 128, 128, 1},
		1<<56 - 1:          {255, 255, 255, 255, 255, 255, 255, 127},
		1 << 56:            {128, 128, 128, 128, 128, 128, 128, 128, 1},
		1<<63 - 1:          {255, 255, 255, 255, 255, 255, 255, 255, 127},
		1 << 63:            {128, 128, 128, 128, 128, 128, 128, 128, 128, 1},
		1<<63 + 1:          {129, 128, 128, 128, 128, 128, 128, 128, 128, 1},
		math.MaxUint64 - 1: {254, 255, 255, 255, 255, 255, 255, 255, 255, 1},
		math.MaxUint64:     {255, 255, 255, 255, 255, 255, 255, 255, 255, 1},
	}
}

func TestExamples(t *testing.T) {
	for n, want := range examples() {
		if b := Put(nil, n); !bytes.Equal(b, want) {
			t.Errorf("Put of %d: %v, not %v", n, b, want)
		}
		if s := Size(n); s != len(want) {
			t.Errorf("Size of %d: %d, not %d", n, s, len(want))
		}
		gets(t, want, n, len(want))
	}
}

func TestPut(t *testing.T) {
	for _, n := range samples() {
		want := told(n)
		if goes := binary.AppendUvarint(nil, n); !bytes.Equal(goes, want) {
			t.Fatalf("%d: the test's own sums are wrong: %v, not %v", n, want, goes)
		}
		if b := Put(nil, n); !bytes.Equal(b, want) {
			t.Errorf("%d: %v, not %v", n, b, want)
		}
	}
}

// All bytes but the last one have the 128, and it hasn't.
func TestPutTellsWhereItEnds(t *testing.T) {
	for _, n := range samples() {
		b := Put(nil, n)
		last := len(b) - 1
		if slices.IndexFunc(b, func(x byte) bool { return x < 128 }) != last {
			t.Errorf("%d: %v", n, b)
		}
		if last > 0 && b[last] == 0 {
			t.Errorf("%d ends with a 0: %v", n, b)
		}
	}
}

func TestPutBehindOtherBytes(t *testing.T) {
	for _, ahead := range [][]byte{nil, {}, {0}, {128}, {255}, {172, 2}, {1, 2, 3, 4}, chance(1, 100), row(128, 20), row(0, 20)} {
		for _, n := range samples() {
			want := append(bytes.Clone(ahead), told(n)...)
			if b := Put(ahead, n); !bytes.Equal(b, want) {
				t.Fatalf("%d behind %v: %v", n, ahead, b)
			}
		}
	}
	// What is there is taken as it is, however much it is.
	ahead := chance(2, 1<<16)
	for n := range examples() {
		if b := Put(ahead, n); !bytes.Equal(b, append(bytes.Clone(ahead), told(n)...)) {
			t.Errorf("%d behind 2^16 bytes: %d bytes, or others", n, len(b))
		}
	}
}

func TestPutHasNewMemory(t *testing.T) {
	for n := range examples() {
		for _, many := range []int{0, 1, 3, 32} {
			room := chance(3, 64)
			was := bytes.Clone(room)
			one, two := Put(room[:many], n), Put(room[:many], n^1)
			if !bytes.Equal(room, was) {
				t.Errorf("%d behind %d bytes: what was handed in was changed, or its spare room", n, many)
			}
			whole := one[:cap(one)]
			for i := range whole {
				whole[i] ^= 255
			}
			if !bytes.Equal(room, was) || !bytes.Equal(two, append(was[:many:many], told(n^1)...)) {
				t.Errorf("%d behind %d bytes: the answer shares memory", n, many)
			}
			clear(room)
			if !bytes.Equal(two, append(was[:many:many], told(n^1)...)) {
				t.Errorf("%d behind %d bytes: what was handed in was kept", n, many)
			}
		}
	}
}

// Without bytes ahead, too, each answer has memory of its own.
func TestPutBehindNoneHasNewMemory(t *testing.T) {
	for n := range examples() {
		one, two := Put(nil, n), Put(nil, n)
		whole := one[:cap(one)]
		for i := range whole {
			whole[i] ^= 255
		}
		if want := told(n); !bytes.Equal(two, want) || !bytes.Equal(Put(nil, n), want) {
			t.Errorf("%d: two answers share memory", n)
		}
	}
}

func TestSize(t *testing.T) {
	for _, n := range samples() {
		s := Size(n)
		if s != len(told(n)) || s != len(Put(nil, n)) || s != len(Put([]byte("ahead"), n))-5 {
			t.Errorf("%d: %d bytes, not %d", n, s, len(told(n)))
		}
		if s < 1 || s > 10 {
			t.Errorf("%d: %d bytes", n, s)
		}
	}
}

// Each power of 128 needs a byte more than the number ahead of it.
func TestSizeAtPowers(t *testing.T) {
	for i := 1; i < 10; i++ {
		n := uint64(1) << (7 * i)
		if Size(n-1) != i || Size(n) != i+1 || Size(n+1) != i+1 {
			t.Errorf("128 to the %d: %d, %d, %d", i, Size(n-1), Size(n), Size(n+1))
		}
	}
	if Size(0) != 1 || Size(1) != 1 || Size(1<<63) != 10 || Size(math.MaxUint64) != 10 {
		t.Errorf("the edges: %d, %d, %d, %d", Size(0), Size(1), Size(1<<63), Size(math.MaxUint64))
	}
}

// P8.2

func TestGet(t *testing.T) {
	for _, n := range samples() {
		b := told(n)
		gets(t, b, n, len(b))
		// Neither what is behind it nor what there is room for is looked at.
		for _, behind := range [][]byte{{0}, {1}, {127}, {128}, {255}, {0, 0, 0}, {128, 128, 1}, b, chance(n, 30), row(255, 30)} {
			all := slices.Concat(b, behind)
			gets(t, all, n, len(b))
			gets(t, all[:len(b)], n, len(b))
		}
	}
}

// What ends early is no number, be there none of its bytes or all but one, or others in the spare room.
func TestGetOfBytesThatEndEarly(t *testing.T) {
	none(t)
	gets(t, []byte{}, 0, 0)
	gets(t, []byte{1}[:0], 0, 0)
	for _, n := range samples() {
		b := told(n)
		for i := range b {
			none(t, b[:i]...)
			gets(t, b[:i], 0, 0)
		}
	}
	for many := range 300 {
		none(t, row(128, many)...)
		none(t, row(255, many)...)
		none(t, row(129, many)...)
	}
}

func TestGetOfANoughtAsTheLast(t *testing.T) {
	gets(t, []byte{0}, 0, 1)
	gets(t, []byte{0, 0}, 0, 1)
	gets(t, []byte{0, 128}, 0, 1)
	for many := 1; many < 20; many++ {
		for x := 128; x < 256; x++ {
			none(t, row(byte(x), many, 0)...)
			none(t, row(byte(x), many, 0, 0)...)
			none(t, row(byte(x), many, 0, 1)...)
			none(t, row(byte(x), many, 0, 255)...)
		}
	}
	for _, n := range samples() {
		b := told(n)
		b[len(b)-1] |= 128
		none(t, append(b, 0)...)
		none(t, append(b, 128, 0)...)
	}
	// A byte that has the 128 alone, and others behind it, is no such nought.
	gets(t, []byte{128, 128, 1}, 1<<14, 3)
	gets(t, []byte{129, 128, 1}, 1<<14+1, 3)
}

// Ten bytes have 70 bits: only one of those of the last is within 64.
func TestGetOfTenBytes(t *testing.T) {
	for x := 128; x < 256; x++ {
		b := row(byte(x), 9, 1)
		n, _ := begins(b)
		gets(t, b, n, 10)
		gets(t, append(b, 255), n, 10)
		none(t, row(byte(x), 9, 0)...)
		for last := 2; last < 256; last++ {
			none(t, row(byte(x), 9, byte(last))...)
			none(t, row(byte(x), 9, byte(last), 0)...)
			none(t, row(byte(x), 9, byte(last), 1)...)
		}
	}
	gets(t, row(255, 9, 1), math.MaxUint64, 10)
	gets(t, row(128, 9, 1), 1<<63, 10)
	gets(t, row(255, 8, 127), 1<<63-1, 9)
}

func TestGetOfMoreThanTenBytes(t *testing.T) {
	for many := 10; many < 80; many++ {
		for x := range 128 {
			none(t, row(128, many, byte(x))...)
			none(t, row(255, many, byte(x))...)
		}
		for x := 129; x < 256; x++ {
			none(t, row(128, many, byte(x), 1)...)
		}
		// Within 64 bits, if the bits were counted round about.
		none(t, slices.Concat([]byte{129}, row(128, many, 1))...)
	}
	none(t, row(255, 11)...)
	none(t, row(128, 11)...)
	none(t, row(128, 1<<20, 1)...)
	none(t, row(255, 1<<20)...)
}

// All rows of two bytes, and all that are made of a few bytes at the edges.
func TestGetOfEachRow(t *testing.T) {
	check := func(b []byte) {
		t.Helper()
		n, size := begins(b)
		gets(t, b, n, size)
	}
	for x := range 256 {
		check([]byte{byte(x)})
		for y := range 256 {
			check([]byte{byte(x), byte(y)})
		}
	}
	edges := []byte{0, 1, 2, 127, 128, 129, 255}
	var rows func(b []byte, more int)
	rows = func(b []byte, more int) {
		check(b)
		if more == 0 {
			return
		}
		for _, x := range edges {
			rows(append(b, x), more-1)
		}
	}
	rows(nil, 5)
	for many := range 10 {
		rows(row(128, many), 3)
		rows(row(255, many), 3)
	}
}

func TestGetOfChance(t *testing.T) {
	for seed := range uint64(3000) {
		b := chance(seed, int(seed%24))
		for i := range b {
			// Most of them go on, so that there are long ones.
			if byte(seed)+byte(i)*37 > 20 {
				b[i] |= 128
			}
		}
		n, size := begins(b)
		gets(t, b, n, size)
	}
}

// No number has two rows of bytes, and what Get tells is what Put makes.
func TestGetTellsWhatPutMakes(t *testing.T) {
	for seed := range uint64(3000) {
		b := chance(seed, 12)
		n, size := Get(b)
		if size == 0 {
			if n != 0 {
				t.Errorf("%v: no number, but %d", b, n)
			}
			continue
		}
		if !bytes.Equal(Put(nil, n), b[:size]) || Size(n) != size {
			t.Errorf("%v: %d of %d bytes, whose bytes are %v", b, n, size, Put(nil, n))
		}
	}
}

// Numbers that were put one behind the other come back one by one.
func TestARowOfNumbers(t *testing.T) {
	var b []byte
	l := samples()[:200]
	for _, n := range l {
		b = Put(b, n)
	}
	for i, want := range l {
		n, size := Get(b)
		if n != want || size != Size(want) {
			t.Fatalf("number %d: %d of %d bytes, not %d", i, n, size, want)
		}
		b = b[size:]
	}
	if len(b) != 0 {
		t.Errorf("%d bytes are left", len(b))
	}
}

// P1 and P2: every call answers the same again, whatever was called between.

func TestAnswersStayTheSame(t *testing.T) {
	type answer struct {
		bytes string
		n     uint64
		size  [2]int
	}
	of := func(i int, n uint64) answer {
		b := Put(chance(uint64(i), i%5), n)
		x, size := Get(chance(n, i%12))
		return answer{string(b), x, [2]int{size, Size(n)}}
	}
	l := samples()
	var was []answer
	for i, n := range l {
		was = append(was, of(i, n))
	}
	for i := len(l) - 1; i >= 0; i-- {
		if got := of(i, l[i]); got != was[i] {
			t.Errorf("%d: %v, and %v ahead of it", l[i], got, was[i])
		}
	}
}
