package hmac

import (
	"bytes"
	stdhmac "crypto/hmac"
	"crypto/sha256"
	"encoding/hex"
	"testing"

	"chitty/api"
	"chitty/block"
	"chitty/digest"
)

// chance: many bytes that no rule of the program makes, others for each seed.
func chance(seed uint64, many int) []byte {
	out := make([]byte, many)
	for i := range out {
		seed = seed*6364136223846793005 + 1442695040888963407
		out[i] = byte(seed >> 40)
	}
	return out
}

// fresh: the bytes in memory of their own, without spare room.
func fresh(b []byte) []byte {
	out := make([]byte, len(b))
	copy(out, b)
	return out
}

// joined: the bytes of all parts, in memory of their own.
func joined(parts ...[]byte) []byte {
	return bytes.Join(parts, nil)
}

// lengths: how many bytes a key, or a message, has: all up to two blocks and a bit, and around the ends of later ones.
func lengths() []int {
	var out []int
	for n := range 2*block.Size + 3 {
		out = append(out, n)
	}
	return append(out, 191, 192, 193, 255, 256, 257, 1000, 4096)
}

// mac: what Go's own HMAC answers.
func mac(key, b []byte) api.Tag {
	h := stdhmac.New(sha256.New, key)
	h.Write(b)
	return api.Tag(h.Sum(nil))
}

// told: what P4.1 says, word by word.
func told(key []byte, parts ...[]byte) api.Tag {
	k := fresh(key)
	if len(k) > 64 {
		sum := digest.Of(k)
		k = sum[:]
	}
	for len(k) < 64 {
		k = append(k, 0)
	}
	in, out := fresh(k), fresh(k)
	for i := range k {
		in[i] ^= 0x36
		out[i] ^= 0x5c
	}
	inner := digest.Of(append([][]byte{in}, parts...)...)
	return digest.Of(out, inner[:])
}

// digits: the bytes that hexadecimal digits stand for.
func digits(t *testing.T, s string) []byte {
	t.Helper()
	b, err := hex.DecodeString(s)
	if err != nil {
		t.Fatal(s)
	}
	return b
}

// check: is m as if just these bytes were written, by that key?
func check(t *testing.T, m *Mac, key, written []byte) {
	t.Helper()
	if got, want := m.Sum(), mac(key, written); got != want {
		t.Errorf("a key of %d bytes, %d bytes: %x, not %x", len(key), len(written), got, want)
	}
}

// P4.1

// The macs that RFC 4231 has for SHA-256.
func TestOfTheStandardsExamples(t *testing.T) {
	for i, c := range []struct {
		key, bytes []byte
		want       string
	}{
		{bytes.Repeat([]byte{0x0b}, 20), []byte("Hi There"), "b0344c61d8db38535ca8afceaf0bf12b881dc200c9833da726e9376c2e32cff7"},
		{[]byte("Jefe"), []byte("what do ya want for nothing?"), "5bdcc146bf60754e6a042426089575c75a003f089d2739839dec58b964ec3843"},
		{bytes.Repeat([]byte{0xaa}, 20), bytes.Repeat([]byte{0xdd}, 50), "773ea91e36800e46854db8ebd09181a72959098b3ef8c122d9635514ced565fe"},
		{digits(t, "0102030405060708090a0b0c0d0e0f10111213141516171819"), bytes.Repeat([]byte{0xcd}, 50), "82558a389a443c0ea4cc819899f2083a85f0faa3e578f8077a2e3ff46729665b"},
		{bytes.Repeat([]byte{0xaa}, 131), []byte("Test Using Larger Than Block-Size Key - Hash Key First"), "60e431591ee0b67f0d8a26aacbf5b77f8e0bc6213728c5140546040f0ee37f54"},
		{bytes.Repeat([]byte{0xaa}, 131), []byte("This is a test using a larger than block-size key and a larger than block-size data. The key needs to be hashed before being used by the HMAC algorithm."), "9b09ffa71b942fcb27635fbcd5b0e944bfdc63644f0713938a7f51535c3a35e2"},
	} {
		if got := Of(c.key, c.bytes); !bytes.Equal(got[:], digits(t, c.want)) {
			t.Errorf("example %d: %x, not %s", i, got, c.want)
		}
	}
}

func TestOf(t *testing.T) {
	for _, k := range lengths() {
		key := chance(uint64(k), k)
		for _, n := range []int{0, 1, 31, 32, 55, 56, 63, 64, 65, 119, 120, 128, 200} {
			b := chance(uint64(1000+n), n)
			if got, want := Of(key, b), mac(key, b); got != want {
				t.Fatalf("a key of %d bytes, %d bytes: %x, not %x", k, n, got, want)
			}
		}
	}
	for _, n := range lengths() {
		b := chance(uint64(2000+n), n)
		for _, k := range []int{0, 1, 32, 63, 64, 65, 100} {
			key := chance(uint64(3000+k), k)
			if got, want := Of(key, b), mac(key, b); got != want {
				t.Fatalf("a key of %d bytes, %d bytes: %x, not %x", k, n, got, want)
			}
		}
	}
}

// Keys of one byte's value alone: turned, some of them are those that turn.
func TestOfEvenKeys(t *testing.T) {
	for _, x := range []byte{0, 1, 0x36, 0x5c, 0x36 ^ 0x5c, 127, 128, 255} {
		for k := range 2*block.Size + 2 {
			key := bytes.Repeat([]byte{x}, k)
			if got, want := Of(key, []byte("even")), mac(key, []byte("even")); got != want {
				t.Fatalf("%d bytes %d: %x, not %x", k, x, got, want)
			}
		}
	}
}

func TestOfIsMadeOfTheLayerBelow(t *testing.T) {
	for _, k := range lengths() {
		key, one, two := chance(uint64(k)+1, k), chance(uint64(k)+2, k/2), chance(uint64(k)+3, 70)
		if got, want := Of(key, one, two), told(key, one, two); got != want {
			t.Fatalf("a key of %d bytes: %x, not %x", k, got, want)
		}
		if got, want := Of(key), told(key); got != want {
			t.Fatalf("a key of %d bytes, no part: %x, not %x", k, got, want)
		}
	}
}

func TestOfAKeyOfNoByte(t *testing.T) {
	b := []byte("bytes")
	want := mac(nil, b)
	for _, key := range [][]byte{nil, {}, make([]byte, 0, 100), fresh(b)[:0], make([]byte, 1), make([]byte, block.Size)} {
		if got := Of(key, b); got != want {
			t.Errorf("a key of %d bytes 0: %x, not %x", len(key), got, want)
		}
	}
	if got := Of(nil); got != mac(nil, nil) || hex.EncodeToString(got[:4]) != "b613679a" {
		t.Errorf("no byte by no byte: %x", got)
	}
	// A key of one byte 0 more than a block isn't filled up: it is long.
	if Of(make([]byte, block.Size+1), b) == want {
		t.Error("a long key of bytes 0 is as none")
	}
}

// A key that is longer than a block is as its sum, one that isn't isn't.
func TestOfALongKeyAgainstItsSum(t *testing.T) {
	b := []byte("bytes")
	for _, k := range lengths() {
		key := chance(uint64(k)+4, k)
		sum := digest.Of(key)
		if long := k > block.Size; (Of(key, b) == Of(sum[:], b)) != long {
			t.Errorf("a key of %d bytes: is it as its sum? %v", k, !long)
		}
	}
}

// Bytes 0 behind a key, up to a block, change nothing; one more does, and so do bytes 0 ahead, and behind a long key.
func TestOfBytes0BehindAKey(t *testing.T) {
	b := []byte("bytes")
	for k := 1; k <= block.Size; k++ {
		key := chance(uint64(k)+5, k)
		key[0], key[k-1] = 1, 1
		want := Of(key, b)
		for n := range block.Size - k + 1 {
			if got := Of(append(fresh(key), make([]byte, n)...), b); got != want {
				t.Fatalf("a key of %d bytes, %d bytes 0 behind: %x, not %x", k, n, got, want)
			}
		}
		if Of(append(fresh(key), make([]byte, block.Size-k+1)...), b) == want {
			t.Fatalf("a key of %d bytes, bytes 0 beyond a block: no other mac", k)
		}
		if Of(append([]byte{0}, key...), b) == want {
			t.Fatalf("a key of %d bytes, a byte 0 ahead: no other mac", k)
		}
	}
	long := chance(6, block.Size+1)
	if Of(long, b) == Of(append(fresh(long), 0), b) {
		t.Error("a long key, a byte 0 behind: no other mac")
	}
}

// A bit of the key turned, or a byte of it away: another mac.
func TestOfOtherKeys(t *testing.T) {
	for _, k := range []int{1, 32, 63, 64, 65, 130} {
		key := chance(uint64(k)+7, k)
		key[k-1] |= 1
		seen := map[api.Tag]bool{Of(key, []byte("b")): true}
		note := func(what string, at int, m api.Tag) {
			if seen[m] {
				t.Errorf("a key of %d bytes, %s %d: a mac that there was", k, what, at)
			}
			seen[m] = true
		}
		for i := range 8 * k {
			c := fresh(key)
			c[i/8] ^= 1 << (i % 8)
			if !bytes.Equal(bytes.TrimRight(c, "\x00"), bytes.TrimRight(key[:k-1], "\x00")) {
				note("bit", i, Of(c, []byte("b")))
			}
		}
		note("without the byte", k-1, Of(key[:k-1], []byte("b")))
	}
}

// A bit of the bytes turned, a byte more or less: another mac.
func TestOfOtherBytes(t *testing.T) {
	key, b := chance(8, 32), chance(9, 80)
	seen := map[api.Tag]bool{Of(key, b): true}
	note := func(what string, at int, m api.Tag) {
		if seen[m] {
			t.Errorf("%s %d: a mac that there was", what, at)
		}
		seen[m] = true
	}
	for i := range 8 * len(b) {
		c := fresh(b)
		c[i/8] ^= 1 << (i % 8)
		note("bit", i, Of(key, c))
	}
	for n := range b {
		note("without those from", n, Of(key, b[:n]))
	}
	note("more bytes 0:", 1, Of(key, b, []byte{0}))
	note("key and bytes changed over", 0, Of(b, key))
	note("a byte of the bytes in the key", 0, Of(append(fresh(key), b[0]), b[1:]))
}

func TestOfNoPart(t *testing.T) {
	for _, k := range []int{0, 1, 32, 63, 64, 65, 200} {
		key := chance(uint64(k)+10, k)
		want := mac(key, nil)
		if Of(key) != want || Of(key, [][]byte{}...) != want || Of(key, nil...) != want {
			t.Errorf("a key of %d bytes, no part", k)
		}
		for _, parts := range [][][]byte{{nil}, {{}}, {nil, nil}, {{}, nil, {}}, make([][]byte, 1000), {make([]byte, 0, 64)}} {
			if got := Of(key, parts...); got != want {
				t.Errorf("a key of %d bytes, %d parts without bytes: %x", k, len(parts), got)
			}
		}
	}
}

func TestOfParts(t *testing.T) {
	key, b := chance(11, 70), chance(12, 2*block.Size+5)
	want := mac(key, b)
	for i := range b {
		for j := i; j <= len(b); j += 3 {
			if Of(key, b[:i], b[i:j], b[j:]) != want || Of(key, nil, b[:i], []byte{}, b[i:j], b[j:], nil) != want {
				t.Fatalf("parted at %d and %d", i, j)
			}
		}
	}
	var single [][]byte
	for i := range b {
		single = append(single, b[i:i+1])
	}
	if Of(key, single...) != want {
		t.Error("byte by byte")
	}
}

func TestOfPartsInTheirOrder(t *testing.T) {
	key, one, two := chance(13, 20), chance(14, 40), chance(15, 40)
	if Of(key, one, two) != mac(key, joined(one, two)) || Of(key, two, one) != mac(key, joined(two, one)) || Of(key, one, two) == Of(key, two, one) {
		t.Error("another order")
	}
	// Pieces of one memory, the key among them, the later one written ahead.
	all := joined(one, two)
	if Of(all[10:50], all[40:], all[:40], all[20:60]) != mac(all[10:50], joined(two, one, all[20:60])) {
		t.Error("parts that share memory")
	}
}

// P4.2

func TestNothingWritten(t *testing.T) {
	for _, k := range []int{0, 1, 63, 64, 65, 200} {
		key := chance(uint64(k)+16, k)
		check(t, New(key), key, nil)
		m := New(key)
		m.Write()
		m.Write(nil...)
		m.Write([]byte{}...)
		m.Write(make([]byte, 0, 64)...)
		check(t, m, key, nil)
		if m.Sum() != Of(key) {
			t.Error("nothing written isn't as no part")
		}
		if New(key) == New(key) {
			t.Error("two macs are one")
		}
	}
}

func TestWrite(t *testing.T) {
	for _, k := range lengths() {
		key := chance(uint64(k)+17, k)
		// quiet is asked at the end alone, asked after each piece.
		quiet, asked := New(key), New(key)
		var written []byte
		for i := range 9 {
			piece := chance(uint64(k+i), i*29+k%3)
			quiet.Write(piece...)
			asked.Write(piece...)
			written = append(written, piece...)
			check(t, asked, key, written)
			if asked.Sum() != Of(key, written) {
				t.Fatalf("a key of %d bytes, %d pieces: Sum isn't Of", k, i+1)
			}
		}
		check(t, quiet, key, written)
		if t.Failed() {
			t.FailNow()
		}
	}
}

func TestWriteByteByByte(t *testing.T) {
	key, b := chance(18, 33), chance(19, 3*block.Size)
	m := New(key)
	for n := range b {
		check(t, m, key, b[:n])
		m.Write(b[n])
		m.Write()
	}
	check(t, m, key, b)
}

func TestWriteSeveralBytes(t *testing.T) {
	m := New([]byte("Jefe"))
	m.Write('w', 'h', 'a', 't')
	check(t, m, []byte("Jefe"), []byte("what"))
	m.Write([]byte(" do ya want for nothing?")...)
	if got := m.Sum(); hex.EncodeToString(got[:4]) != "5bdcc146" {
		t.Errorf("%x", got)
	}
	m.Write(0, 255)
	check(t, m, []byte("Jefe"), []byte("what do ya want for nothing?\x00\xff"))
}

func TestSumMayBeAskedAgain(t *testing.T) {
	for _, n := range lengths() {
		key, b := chance(uint64(n)+20, n), chance(uint64(n)+21, n)
		m := New(key)
		m.Write(b...)
		for range 3 {
			check(t, m, key, b)
		}
		m.Write('x')
		check(t, m, key, append(fresh(b), 'x'))
	}
}

func TestWriteBehindSum(t *testing.T) {
	key, b := chance(22, 64), chance(23, 3*block.Size)
	for at := range b {
		m := New(key)
		m.Write(b[:at]...)
		sum := m.Sum()
		m.Write(b[at:]...)
		check(t, m, key, b)
		// The sum may be among what is written, too.
		m.Write(sum[:]...)
		check(t, m, key, joined(b, sum[:]))
	}
}

func TestMacsApart(t *testing.T) {
	for _, k := range []int{0, 64, 65} {
		key, other := chance(uint64(k)+24, k), chance(uint64(k)+25, k+1)
		one, two, three := New(key), New(key), New(other)
		a, b := chance(26, 150), chance(27, 150)
		for i := range a {
			one.Write(a[i])
			two.Write(b[i], b[i])
			three.Write(b[i])
			check(t, one, key, a[:i+1])
			check(t, three, other, b[:i+1])
		}
		var doubled []byte
		for _, x := range b {
			doubled = append(doubled, x, x)
		}
		check(t, two, key, doubled)
	}
}

// The rules that hold everywhere: what is handed in is neither changed nor kept.

func TestWhatIsHandedInIsNotKept(t *testing.T) {
	for _, n := range lengths() {
		key, b := chance(uint64(n)+28, n), chance(uint64(n)+29, n)
		wasKey, was := fresh(key), fresh(b)
		m := New(key)
		for i := range key {
			key[i] ^= 255
		}
		check(t, m, wasKey, nil)
		m.Write(b...)
		for i := range b {
			b[i] ^= 255
		}
		check(t, m, wasKey, was)
		m.Write(was...)
		check(t, m, wasKey, joined(was, was))
		if t.Failed() {
			t.Fatalf("%d bytes", n)
		}
	}
}

// The key and each part have spare room, in which other bytes stand than those that come next.
func TestWhatIsHandedInIsNotChanged(t *testing.T) {
	for _, n := range lengths() {
		key, one, two := chance(uint64(n)+30, n+200), chance(uint64(n)+31, n+200), chance(uint64(n)+32, n+200)
		wasKey, wasOne, wasTwo := fresh(key), fresh(one), fresh(two)
		parts := [][]byte{one[:n/2], two[:n], nil}
		if Of(key[:n], parts[:2]...) != mac(wasKey[:n], joined(wasOne[:n/2], wasTwo[:n])) {
			t.Fatalf("%d bytes: the mac", n)
		}
		m := New(key[:n])
		m.Write(parts[0]...)
		m.Sum()
		m.Write(parts[1]...)
		check(t, m, wasKey[:n], joined(wasOne[:n/2], wasTwo[:n]))
		if !bytes.Equal(key, wasKey) || !bytes.Equal(one, wasOne) || !bytes.Equal(two, wasTwo) {
			t.Fatalf("%d bytes: what was handed in was changed", n)
		}
		if len(parts[0]) != n/2 || len(parts[1]) != n || parts[2] != nil {
			t.Fatalf("%d bytes: the parts were changed", n)
		}
	}
}

// P1 and P2: every call ends, and answers the same again, whatever was called between.

func TestAnswersStayTheSame(t *testing.T) {
	var was []api.Tag
	for _, n := range lengths() {
		was = append(was, Of(chance(uint64(n), n), chance(1, n)))
	}
	other := New([]byte("other"))
	for i, n := range lengths() {
		key, b := chance(uint64(n), n), chance(1, n)
		other.Write(b...)
		other.Sum()
		s := Of(key, b)
		if s != was[i] {
			t.Fatalf("%d bytes: another answer", n)
		}
		clear(s[:])
		if Of(key, b) != was[i] {
			t.Fatalf("%d bytes: the answer hangs on what was done to one ahead", n)
		}
	}
}
