package block

import (
	"bytes"
	"crypto/sha256"
	"encoding"
	"encoding/binary"
	"math"
	"math/big"
	"testing"

	"chitty/word"
)

// row: a row of bytes that no rule of the program makes, another one for each seed.
type row struct{ x uint64 }

func (r *row) next() uint64 {
	r.x = r.x*6364136223846793005 + 1442695040888963407
	return r.x >> 31
}

func (r *row) block() [Size]byte {
	var b [Size]byte
	for i := range b {
		b[i] = byte(r.next())
	}
	return b
}

func (r *row) words() [8]uint32 {
	var h [8]uint32
	for i := range h {
		h[i] = uint32(r.next())
	}
	return h
}

// blocks: even ones, each with one bit alone, and such as look like chance.
func blocks() [][Size]byte {
	var out [][Size]byte
	for _, x := range []byte{0, 1, 127, 128, 255} {
		out = append(out, [Size]byte(bytes.Repeat([]byte{x}, Size)))
	}
	for i := range 8 * Size {
		var b [Size]byte
		b[i/8] = 1 << (i % 8)
		out = append(out, b)
	}
	r := row{x: 2}
	for range 200 {
		out = append(out, r.block())
	}
	return out
}

// starts: eight words each, with which Compress is tried.
func starts() [][8]uint32 {
	most := [8]uint32{}
	for i := range most {
		most[i] = math.MaxUint32
	}
	out := [][8]uint32{{}, most, {1, 2, 3, 4, 5, 6, 7, 8}, word.Start()}
	for i := range 8 {
		var h [8]uint32
		h[i] = 1 << 31
		out = append(out, h)
	}
	r := row{x: 3}
	for range 20 {
		out = append(out, r.words())
	}
	return out
}

// P2.1

// padded: what stands behind a message of many bytes, in sums without a bound.
func padded(many uint64) []byte {
	whole := new(big.Int).SetUint64(many)
	out := []byte{128}
	for {
		all := new(big.Int).Add(whole, big.NewInt(int64(len(out)+8)))
		if new(big.Int).Mod(all, big.NewInt(64)).Sign() == 0 {
			break
		}
		out = append(out, 0)
	}
	bits := new(big.Int).Mul(whole, big.NewInt(8))
	bits.Mod(bits, new(big.Int).Lsh(big.NewInt(1), 64))
	return append(out, bits.FillBytes(make([]byte, 8))...)
}

// manies: how many bytes a message may have, at the edges and between.
func manies() []uint64 {
	var out []uint64
	for i := range uint64(400) {
		out = append(out, i, math.MaxUint64-i)
	}
	for i := range 64 {
		for d := range uint64(80) {
			out = append(out, 1<<i+d, 1<<i-d)
		}
	}
	r := row{x: 5}
	for range 500 {
		out = append(out, r.next()<<33|r.next())
	}
	return out
}

func TestPad(t *testing.T) {
	for _, many := range manies() {
		if got, want := Pad(many), padded(many); !bytes.Equal(got, want) {
			t.Fatalf("%d: %v, not %v", many, got, want)
		}
	}
}

func TestPadEdges(t *testing.T) {
	for _, c := range []struct {
		many    uint64
		noughts int
		bits    uint64
	}{
		{0, 55, 0},
		{1, 54, 8},
		{3, 52, 24},
		{54, 1, 432},
		{55, 0, 440},
		{56, 63, 448},
		{57, 62, 456},
		{63, 56, 504},
		{64, 55, 512},
		{119, 0, 952},
		{120, 63, 960},
		{1<<61 - 1, 56, math.MaxUint64 - 7},
		{1 << 61, 55, 0},
		{1<<61 + 1, 54, 8},
		{1<<62 + 56, 63, 448},
		{1<<63 + 55, 0, 440},
		{math.MaxUint64 - 8, 0, math.MaxUint64 - 71},
		{math.MaxUint64 - 7, 63, math.MaxUint64 - 63},
		{math.MaxUint64, 56, math.MaxUint64 - 7},
	} {
		got := Pad(c.many)
		if len(got) != 1+c.noughts+8 {
			t.Errorf("%d: %d bytes, not %d", c.many, len(got), 1+c.noughts+8)
			continue
		}
		noughts := got[1 : 1+c.noughts]
		if got[0] != 128 || bytes.Count(noughts, []byte{0}) != c.noughts || binary.BigEndian.Uint64(got[1+c.noughts:]) != c.bits {
			t.Errorf("%d: %v", c.many, got)
		}
	}
}

func TestPadHasNewMemory(t *testing.T) {
	for _, many := range []uint64{0, 3, 55, 56, 64, math.MaxUint64} {
		one, two := Pad(many), Pad(many)
		whole := one[:cap(one)]
		for i := range whole {
			whole[i] = 99
		}
		if !bytes.Equal(two, padded(many)) || !bytes.Equal(Pad(many), padded(many)) {
			t.Errorf("%d: two answers share memory", many)
		}
	}
}

// P2.2

// sum: what stands in the lowest 32 bits of all of them together.
func sum(all ...uint32) uint32 {
	var out uint64
	for _, x := range all {
		out += uint64(x)
	}
	return uint32(out % (1 << 32))
}

// low: the bits of x, n places lower, round about.
func low(x uint32, n int) uint32 { return x>>n | x<<(32-n) }

func TestSchedule(t *testing.T) {
	for _, b := range blocks() {
		w := Schedule(b)
		for i, got := range w {
			var want uint32
			if i < 16 {
				want = binary.BigEndian.Uint32(b[4*i:])
			} else {
				x, y := w[i-2], w[i-15]
				want = sum(low(x, 17)^low(x, 19)^x>>10, w[i-7], low(y, 7)^low(y, 18)^y>>3, w[i-16])
			}
			if got != want {
				t.Fatalf("%v: word %d is %08x, not %08x", b, i, got, want)
			}
		}
	}
}

// The words of "abc", as FIPS 180-4's example has them.
func TestScheduleOfAbc(t *testing.T) {
	w := Schedule([Size]byte(append([]byte("abc"), Pad(3)...)))
	for i, want := range map[int]uint32{0: 0x61626380, 1: 0, 14: 0, 15: 0x18, 16: 0x61626380, 17: 0x000f0000, 18: 0x7da86405, 63: 0x12b1edeb} {
		if w[i] != want {
			t.Errorf("word %d is %08x, not %08x", i, w[i], want)
		}
	}
}

// P2.3

// compressed: what Go's own SHA-256 makes of h by b.
func compressed(t *testing.T, h [8]uint32, b [Size]byte) [8]uint32 {
	t.Helper()
	const magic = 4
	d := sha256.New()
	kept, err := d.(encoding.BinaryMarshaler).MarshalBinary()
	if err != nil {
		t.Fatal(err)
	}
	for i, x := range h {
		binary.BigEndian.PutUint32(kept[magic+4*i:], x)
	}
	if err := d.(encoding.BinaryUnmarshaler).UnmarshalBinary(kept); err != nil {
		t.Fatal(err)
	}
	d.Write(b[:])
	if kept, err = d.(encoding.BinaryMarshaler).MarshalBinary(); err != nil {
		t.Fatal(err)
	}
	for i := range h {
		h[i] = binary.BigEndian.Uint32(kept[magic+4*i:])
	}
	return h
}

func TestCompress(t *testing.T) {
	for _, h := range starts() {
		for _, b := range blocks() {
			if got, want := Compress(h, b), compressed(t, h, b); got != want {
				t.Fatalf("%08x by %v: %08x, not %08x", h, b, got, want)
			}
		}
	}
}

// digested: a message, and what Pad puts behind it, block by block.
func digested(t *testing.T, m []byte) []byte {
	t.Helper()
	m = append(bytes.Clone(m), Pad(uint64(len(m)))...)
	if len(m)%Size != 0 {
		t.Fatalf("%d bytes aren't blocks", len(m))
	}
	h := word.Start()
	for ; len(m) > 0; m = m[Size:] {
		h = Compress(h, [Size]byte(m))
	}
	var out []byte
	for _, x := range h {
		out = word.Put(out, x)
	}
	return out
}

func TestMessages(t *testing.T) {
	r := row{x: 7}
	m := make([]byte, 300)
	for i := range m {
		m[i] = byte(r.next())
	}
	for n := range m {
		want := sha256.Sum256(m[:n])
		if got := digested(t, m[:n]); !bytes.Equal(got, want[:]) {
			t.Fatalf("%d bytes: %x, not %x", n, got, want)
		}
	}
	long := bytes.Repeat([]byte("a"), 1000000)
	want := sha256.Sum256(long)
	if got := digested(t, long); !bytes.Equal(got, want[:]) {
		t.Errorf("a million bytes: %x, not %x", got, want)
	}
}

// P1 and P2: every call ends, answers the same again, and leaves what it is handed as it was.

func TestAnswersStayTheSame(t *testing.T) {
	type answer struct {
		w [64]uint32
		h [8]uint32
	}
	var was []answer
	bs, hs := blocks(), starts()
	for i, b := range bs {
		was = append(was, answer{Schedule(b), Compress(hs[i%len(hs)], b)})
	}
	for i := len(bs) - 1; i >= 0; i-- {
		b, h := bs[i], hs[i%len(hs)]
		if Schedule(b) != was[i].w || Compress(h, b) != was[i].h {
			t.Errorf("%d: another answer", i)
		}
		if b != bs[i] || h != hs[i%len(hs)] {
			t.Errorf("%d: what was handed in was changed", i)
		}
	}
}

func TestSize(t *testing.T) {
	if Size != 64 {
		t.Error(Size)
	}
}
