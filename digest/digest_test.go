package digest

import (
	"bytes"
	"crypto/sha256"
	"encoding"
	"encoding/binary"
	"encoding/hex"
	"math"
	"testing"

	"chitty/api"
	"chitty/block"
	"chitty/word"
)

// chance: many bytes that no rule of the program makes, others for each seed.
func chance(seed uint64, many int) []byte {
	out := make([]byte, many)
	for i := range out {
		seed = seed*6364136223846793005 + 1442695040888963407
		out[i] = byte(seed >> 40)
	}
	return out
}

// fresh: the bytes in memory of their own, without spare room.
func fresh(b []byte) []byte {
	out := make([]byte, len(b))
	copy(out, b)
	return out
}

// ends: how many bytes a message has: all up to three blocks, and around the ends of later ones.
func ends() []int {
	var out []int
	for n := range 3*block.Size + 1 {
		out = append(out, n)
	}
	for _, blocks := range []int{4, 5, 16, 33} {
		for d := -9; d <= 9; d++ {
			out = append(out, blocks*block.Size+d)
		}
	}
	return out
}

// parted: b in pieces, as long as sizes has them over and over.
func parted(b []byte, sizes ...int) [][]byte {
	var out [][]byte
	for i := 0; len(b) > 0; i++ {
		n := min(sizes[i%len(sizes)], len(b))
		out = append(out, b[:n])
		b = b[n:]
	}
	return out
}

// waysOfParting: rows of sizes, none of which is without a byte in the end.
func waysOfParting() [][]int {
	return [][]int{
		{1}, {2}, {3}, {7}, {31}, {32}, {55}, {56}, {63}, {64}, {65}, {127}, {128}, {129}, {1000}, {1 << 20},
		{0, 1}, {0, 0, 64}, {64, 0}, {1, 63}, {63, 1}, {63, 2, 63}, {1, 64}, {64, 1}, {65, 63}, {1, 2, 3, 5, 8, 13, 21, 34, 55, 89},
	}
}

// sum: what Go's own SHA-256 answers.
func sum(b []byte) api.Tag { return sha256.Sum256(b) }

func tag(t *testing.T, digits string) api.Tag {
	t.Helper()
	b, err := hex.DecodeString(digits)
	if err != nil || len(b) != api.Size {
		t.Fatal(digits)
	}
	return api.Tag(b)
}

// check: is d as if just these bytes were written?
func check(t *testing.T, d *Digest, written []byte) {
	t.Helper()
	if got, want := d.Sum(), sum(written); got != want {
		t.Errorf("%d bytes: the sum is %x, not %x", len(written), got, want)
	}
	if got := d.Len(); got != uint64(len(written)) {
		t.Errorf("%d bytes: the length is %d", len(written), got)
	}
}

// P3.1

// The sums that FIPS 180-4's examples have, and that of no byte.
func TestOfTheStandardsExamples(t *testing.T) {
	for text, want := range map[string]string{
		"":    "e3b0c44298fc1c149afbf4c8996fb92427ae41e4649b934ca495991b7852b855",
		"abc": "ba7816bf8f01cfea414140de5dae2223b00361a396177a9cb410ff61f20015ad",
		"abcdbcdecdefdefgefghfghighijhijkijkljklmklmnlmnomnopnopq":                                                         "248d6a61d20638b8e5c026930c3e6039a33ce45964ff2167f6ecedd419db06c1",
		"abcdefghbcdefghicdefghijdefghijkefghijklfghijklmghijklmnhijklmnoijklmnopjklmnopqklmnopqrlmnopqrsmnopqrstnopqrstu": "cf5b16a778af8380036ce59e7b0492370b249b11e8f07a51afac45037afee9d1",
		string(bytes.Repeat([]byte("a"), 1000000)):                                                                         "cdc76e5c9914fb9281a1c7e284d73e67f1809a48a497200e046d39ccc7112cd0",
	} {
		if got := Of([]byte(text)); got != tag(t, want) {
			t.Errorf("%d bytes: %x, not %s", len(text), got, want)
		}
	}
}

func TestOf(t *testing.T) {
	for _, n := range ends() {
		b := chance(uint64(n), n)
		if got, want := Of(b), sum(b); got != want {
			t.Fatalf("%d bytes: %x, not %x", n, got, want)
		}
	}
	for _, x := range []byte{0, 1, 127, 128, 255} {
		for n := range 2*block.Size + 2 {
			b := bytes.Repeat([]byte{x}, n)
			if got, want := Of(b), sum(b); got != want {
				t.Fatalf("%d bytes %d: %x, not %x", n, x, got, want)
			}
		}
	}
}

// compressed: the message and its Pad, 64 by 64, as the promise says it.
func compressed(m []byte) api.Tag {
	h := word.Start()
	for m = append(bytes.Clone(m), block.Pad(uint64(len(m)))...); len(m) > 0; m = m[block.Size:] {
		h = block.Compress(h, [block.Size]byte(m))
	}
	var out []byte
	for _, x := range h {
		out = word.Put(out, x)
	}
	return api.Tag(out)
}

func TestOfIsMadeOfTheLayersBelow(t *testing.T) {
	for _, n := range ends() {
		b := chance(uint64(n)+1, n)
		if got, want := Of(b), compressed(b); got != want {
			t.Fatalf("%d bytes: %x, not %x", n, got, want)
		}
	}
}

func TestOfNothing(t *testing.T) {
	want := sum(nil)
	if Of() != want || Of([][]byte{}...) != want || Of(nil...) != want {
		t.Error("no part")
	}
	for _, parts := range [][][]byte{{nil}, {{}}, {nil, nil}, {{}, nil, {}}, make([][]byte, 1000), {make([]byte, 0, 64)}} {
		if got := Of(parts...); got != want {
			t.Errorf("%d parts without bytes: %x", len(parts), got)
		}
	}
}

func TestOfParts(t *testing.T) {
	for _, n := range ends() {
		b := chance(uint64(n)+2, n)
		want := sum(b)
		for _, sizes := range waysOfParting() {
			if got := Of(parted(b, sizes...)...); got != want {
				t.Fatalf("%d bytes, parted by %v: %x, not %x", n, sizes, got, want)
			}
		}
	}
	b := chance(3, 3*block.Size)
	for i := range b {
		for j := i; j <= len(b); j++ {
			if Of(b[:i], b[i:j], b[j:]) != sum(b) || Of(nil, b[:i], []byte{}, b[i:j], nil, b[j:], nil) != sum(b) {
				t.Fatalf("parted at %d and %d", i, j)
			}
		}
	}
}

func TestOfPartsInTheirOrder(t *testing.T) {
	one, two := chance(4, 40), chance(5, 40)
	if Of(one, two) != sum(append(fresh(one), two...)) || Of(two, one) != sum(append(fresh(two), one...)) || Of(one, two) == Of(two, one) {
		t.Error("another order")
	}
	if Of(one, one, one) != sum(bytes.Repeat(one, 3)) {
		t.Error("one part, three times")
	}
	// Pieces of one memory, the later one written ahead.
	all := append(fresh(one), two...)
	if Of(all[40:], all[:40], all[20:60]) != sum(append(append(fresh(two), one...), all[20:60]...)) {
		t.Error("parts that share memory")
	}
}

// A bit turned, a byte more or less, anywhere: another sum.
func TestOfOtherBytes(t *testing.T) {
	b := chance(6, 2*block.Size)
	seen := map[api.Tag]bool{Of(b): true}
	note := func(what string, at int, s api.Tag) {
		if seen[s] {
			t.Errorf("%s %d: a sum that there was", what, at)
		}
		seen[s] = true
	}
	for i := range 8 * len(b) {
		c := fresh(b)
		c[i/8] ^= 1 << (i % 8)
		note("bit", i, Of(c))
	}
	for n := range b {
		note("without those from", n, Of(b[:n]))
	}
	for n := range block.Size {
		note("more bytes 0:", n+1, Of(b, make([]byte, n+1)))
	}
}

// P3.2

func TestNothingWritten(t *testing.T) {
	check(t, New(), nil)
	d := New()
	d.Write()
	d.Write(nil...)
	d.Write([]byte{}...)
	d.Write(make([]byte, 0, 64)...)
	check(t, d, nil)
	if New() == New() {
		t.Error("two digests are one")
	}
}

func TestWriteByteByByte(t *testing.T) {
	b := chance(7, 5*block.Size+3)
	d := New()
	for n := range b {
		check(t, d, b[:n])
		d.Write(b[n])
		d.Write()
	}
	check(t, d, b)
}

func TestWriteSeveralBytes(t *testing.T) {
	d := New()
	d.Write('a', 'b', 'c')
	check(t, d, []byte("abc"))
	d.Write(0, 255)
	check(t, d, []byte("abc\x00\xff"))
}

func TestWrite(t *testing.T) {
	for _, n := range ends() {
		b := chance(uint64(n)+8, n)
		for _, sizes := range waysOfParting() {
			// quiet is asked at the end alone, asked after each piece.
			quiet, asked, h := New(), New(), sha256.New()
			var many uint64
			for _, p := range parted(b, sizes...) {
				quiet.Write(p...)
				asked.Write(p...)
				h.Write(p)
				many += uint64(len(p))
				if asked.Len() != many || asked.Sum() != api.Tag(h.Sum(nil)) {
					t.Fatalf("%d bytes, parted by %v: the sum behind %d bytes", n, sizes, many)
				}
			}
			check(t, quiet, b)
			check(t, asked, b)
			if t.Failed() {
				t.Fatalf("%d bytes, parted by %v", n, sizes)
			}
		}
	}
}

// At each place in a block, pieces that end just ahead of, at and just behind the end of it and of the next one.
func TestWriteAcrossTheEndOfABlock(t *testing.T) {
	b := chance(9, 4*block.Size)
	for at := range block.Size + 1 {
		for n := range 2*block.Size + 2 {
			d := New()
			d.Write(b[:at]...)
			d.Write(b[at : at+n]...)
			check(t, d, b[:at+n])
			d.Write(b[at+n:]...)
			check(t, d, b)
			if t.Failed() {
				t.Fatalf("%d bytes, and %d", at, n)
			}
		}
	}
}

func TestSumMayBeAskedAgain(t *testing.T) {
	for _, n := range ends() {
		b := chance(uint64(n)+10, n)
		d := New()
		d.Write(b...)
		for range 3 {
			check(t, d, b)
		}
		d.Write('x')
		check(t, d, append(fresh(b), 'x'))
	}
}

// What is written behind a Sum goes on behind the bytes; the pad isn't among them.
func TestWriteBehindSum(t *testing.T) {
	b := chance(11, 3*block.Size)
	for at := range b {
		d := New()
		d.Write(b[:at]...)
		d.Sum()
		d.Write(b[at:]...)
		check(t, d, b)
		padded := append(fresh(b[:at]), block.Pad(uint64(at))...)
		e := New()
		e.Write(b[:at]...)
		e.Sum()
		e.Write(block.Pad(uint64(at))...)
		check(t, e, padded)
	}
}

func TestSumIsOfOfAll(t *testing.T) {
	parts := [][]byte{chance(12, 10), nil, chance(13, 54), chance(14, 1), {}, chance(15, 200)}
	d := New()
	for i, p := range parts {
		d.Write(p...)
		if d.Sum() != Of(parts[:i+1]...) {
			t.Errorf("%d parts", i+1)
		}
	}
}

func TestClone(t *testing.T) {
	b := chance(16, 2*block.Size+5)
	for at := range b {
		d := New()
		d.Write(b[:at]...)
		c := d.Clone()
		if c == d {
			t.Fatal("the clone is the digest itself")
		}
		check(t, c, b[:at])
		c.Write('c')
		check(t, d, b[:at])
		d.Write(b[at:]...)
		check(t, d, b)
		check(t, c, append(fresh(b[:at]), 'c'))
		c.Write(b...)
		check(t, d, b)
		check(t, c, append(append(fresh(b[:at]), 'c'), b...))
		if t.Failed() {
			t.Fatalf("at %d", at)
		}
	}
}

func TestCloneIsFilledApart(t *testing.T) {
	// Two that are at one place of a block: each has to fill a block of its own.
	for at := range block.Size {
		ahead, one, two := chance(17, at), bytes.Repeat([]byte{1}, 70), bytes.Repeat([]byte{2}, 70)
		d := New()
		d.Write(ahead...)
		c := d.Clone()
		for i := range one {
			d.Write(one[i])
			c.Write(two[i])
		}
		check(t, d, append(fresh(ahead), one...))
		check(t, c, append(fresh(ahead), two...))
	}
}

func TestCloneOfAClone(t *testing.T) {
	var all []*Digest
	var written [][]byte
	d, so := New(), []byte{}
	for i := range 100 {
		all, written = append(all, d), append(written, fresh(so))
		d = d.Clone()
		piece := chance(uint64(i), i)
		d.Write(piece...)
		so = append(so, piece...)
	}
	for i, d := range all {
		check(t, d, written[i])
	}
	// Of nothing: the clone begins anew, too.
	c := New().Clone()
	check(t, c, nil)
	c.Write('x')
	check(t, c, []byte("x"))
}

func TestDigestsApart(t *testing.T) {
	one, two := New(), New()
	a, b := chance(18, 150), chance(19, 150)
	for i := range a {
		one.Write(a[i])
		two.Write(b[i], b[i])
		check(t, one, a[:i+1])
	}
	check(t, two, doubled(b))
}

// doubled: each byte twice.
func doubled(b []byte) []byte {
	var out []byte
	for _, x := range b {
		out = append(out, x, x)
	}
	return out
}

// kept: Go's own SHA-256, as if many bytes were written that made the words so.
func kept(t *testing.T, d *Digest) interface {
	Write([]byte) (int, error)
	Sum([]byte) []byte
} {
	t.Helper()
	const magic = 4
	h := sha256.New()
	b, err := h.(encoding.BinaryMarshaler).MarshalBinary()
	if err != nil {
		t.Fatal(err)
	}
	for i, x := range d.words {
		binary.BigEndian.PutUint32(b[magic+4*i:], x)
	}
	copy(b[magic+32:], d.open[:d.many%block.Size])
	binary.BigEndian.PutUint64(b[len(b)-8:], d.many)
	if err := h.(encoding.BinaryUnmarshaler).UnmarshalBinary(b); err != nil {
		t.Fatal(err)
	}
	return h
}

// As many bytes as nobody can write: as if they had been, around where the bits, and where the bytes, go beyond 64 bits.
func TestLenBeyond64Bits(t *testing.T) {
	starts := []uint64{1<<32 - 70, 1<<61 - 70, 1 << 61, 1<<61 + 56, 1<<63 - 1, math.MaxUint64 - 200, math.MaxUint64 - 63, math.MaxUint64 - 8, math.MaxUint64}
	for _, many := range starts {
		d := New()
		d.Write(chance(many, block.Size+int(many%block.Size))...)
		d.many = many
		h := kept(t, d)
		for i := range uint64(300) {
			if d.Len() != many+i {
				t.Fatalf("%d and %d: the length is %d", many, i, d.Len())
			}
			if got := d.Sum(); !bytes.Equal(got[:], h.Sum(nil)) {
				t.Fatalf("%d and %d: the sum is %x, not %x", many, i, got, h.Sum(nil))
			}
			d.Write(byte(i))
			h.Write([]byte{byte(i)})
		}
	}
}

// The rules that hold everywhere: what is handed in is neither changed nor kept.

func TestWhatIsHandedInIsNotKept(t *testing.T) {
	for _, n := range ends() {
		b := chance(uint64(n)+20, n)
		was := fresh(b)
		d := New()
		d.Write(b...)
		c := d.Clone()
		for i := range b {
			b[i] ^= 255
		}
		check(t, d, was)
		check(t, c, was)
		d.Write(was...)
		check(t, d, append(fresh(was), was...))
	}
}

// Each part has spare room, in which other bytes stand than those of the next part; the list of them has it, too.
func TestWhatIsHandedInIsNotChanged(t *testing.T) {
	for _, n := range ends() {
		one, two := chance(uint64(n)+21, n+3*block.Size), chance(uint64(n)+22, n+3*block.Size)
		wasOne, wasTwo := fresh(one), fresh(two)
		parts := [][]byte{one[:n/2], two[:n], nil}
		if Of(parts[:2]...) != sum(append(fresh(one[:n/2]), two[:n]...)) {
			t.Fatalf("%d bytes: the sum", n)
		}
		d := New()
		d.Write(parts[0]...)
		d.Write(parts[1]...)
		d.Sum()
		d.Clone().Write(parts[0]...)
		if !bytes.Equal(one, wasOne) || !bytes.Equal(two, wasTwo) {
			t.Fatalf("%d bytes: what was handed in was changed", n)
		}
		if len(parts[0]) != n/2 || len(parts[1]) != n || parts[2] != nil {
			t.Fatalf("%d bytes: the parts were changed", n)
		}
	}
}

// P1 and P2: every call ends, and answers the same again, whatever was called between.

func TestAnswersStayTheSame(t *testing.T) {
	var was []api.Tag
	for _, n := range ends() {
		was = append(was, Of(chance(uint64(n), n)))
	}
	other := New()
	for i, n := range ends() {
		b := chance(uint64(n), n)
		other.Write(b...)
		other.Sum()
		s := Of(b)
		if s != was[i] {
			t.Fatalf("%d bytes: another answer", n)
		}
		clear(s[:])
		if Of(b) != was[i] {
			t.Fatalf("%d bytes: the answer hangs on what was done to one ahead", n)
		}
	}
}
