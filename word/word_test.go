package word

import (
	"bytes"
	"math"
	"math/big"
	"testing"
)

// samples: words with which each call is tried.
func samples() []uint32 {
	out := []uint32{0, 1, 1 << 31, math.MaxUint32, 0x12345678, 0x9abcdef0, 0xff00ff00, 0xf0f0f0f0, 0xaaaaaaaa, 0x55555555}
	for i := range 32 {
		out = append(out, 1<<i)
	}
	x := uint32(1)
	for range 40 {
		x = x*1664525 + 1013904223
		out = append(out, x)
	}
	return out
}

// noIndexes: numbers of no sum and of no prime.
func noIndexes() []int {
	return []int{-1, -2, -64, 64, 65, 128, 1 << 32, 1<<32 + 1, math.MinInt, math.MinInt + 1, math.MaxInt}
}

func bit(x uint32, i int) uint32 { return x >> i & 1 }

// turned: bit by bit, as Turn should have it.
func turned(x uint32, n int) uint32 {
	by := (n%32 + 32) % 32
	var out uint32
	for i := range 32 {
		out |= bit(x, (i+by)%32) << i
	}
	return out
}

// lowered: the bits of x that stay, if the lowest n go.
func lowered(x uint32, n int) uint32 {
	for range n {
		x /= 2
	}
	return x
}

// P1.1

func TestGet(t *testing.T) {
	all := []byte{0xa1, 0xb2, 0xc3, 0xd4, 0xe5, 0xf6}
	wants := []uint32{0, 0xa1000000, 0xa1b20000, 0xa1b2c300, 0xa1b2c3d4, 0xa1b2c3d4, 0xa1b2c3d4}
	for n, want := range wants {
		if got := Get(all[:n]); got != want {
			t.Errorf("%d bytes: %08x, not %08x", n, got, want)
		}
		if got := Get(append([]byte{}, all[:n]...)); got != want {
			t.Errorf("%d bytes without spare room: %08x, not %08x", n, got, want)
		}
	}
	if Get(nil) != 0 {
		t.Error("nil isn't 0")
	}
	if got := Get([]byte{0, 0, 0, 0, 9}); got != 0 {
		t.Errorf("a fifth byte is looked at: %08x", got)
	}
	if got := Get(bytes.Repeat([]byte{255}, 64)); got != math.MaxUint32 {
		t.Errorf("64 bytes 255: %08x", got)
	}
	if !bytes.Equal(all, []byte{0xa1, 0xb2, 0xc3, 0xd4, 0xe5, 0xf6}) {
		t.Error("what was handed in was changed")
	}
}

func TestPut(t *testing.T) {
	for _, ahead := range [][]byte{nil, {}, {7}, {1, 2, 3, 4}, {9, 8, 7, 6, 5}} {
		for _, x := range samples() {
			want := append([]byte{}, ahead...)
			want = append(want, byte(x/(1<<24)), byte(x/(1<<16)%256), byte(x/256%256), byte(x%256))
			got := Put(ahead, x)
			if !bytes.Equal(got, want) {
				t.Errorf("%v and %08x: %v", ahead, x, got)
			}
			if Get(got[len(ahead):]) != x {
				t.Errorf("%08x isn't got back", x)
			}
		}
	}
}

func TestPutHasNewMemory(t *testing.T) {
	room := bytes.Repeat([]byte{17}, 32)
	got := Put(room[:3], 0xa1b2c3d4)
	if !bytes.Equal(room, bytes.Repeat([]byte{17}, 32)) {
		t.Errorf("what was handed in was changed: %v", room)
	}
	whole := got[:cap(got)]
	for i := range whole {
		whole[i] = 99
	}
	if !bytes.Equal(room, bytes.Repeat([]byte{17}, 32)) {
		t.Error("the answer and the argument share memory")
	}
	one, two := Put(room[:3], 1), Put(room[:3], 2)
	if Get(one[3:]) != 1 || Get(two[3:]) != 2 {
		t.Error("two answers share memory")
	}
	room[0] = 1
	if one[0] != 17 {
		t.Error("what was handed in was kept")
	}
}

// P1.2

func TestTurn(t *testing.T) {
	for _, x := range samples() {
		for n := -200; n <= 200; n++ {
			if got := Turn(x, n); got != turned(x, n) {
				t.Fatalf("%08x by %d: %08x, not %08x", x, n, got, turned(x, n))
			}
		}
		for _, n := range []int{math.MinInt, math.MinInt + 1, math.MinInt + 31, math.MaxInt, math.MaxInt - 1, 1 << 31, 1<<31 + 3, -1 << 31, -1<<31 - 3, 1<<32 + 5, -1<<32 - 5, 256, 260, -260} {
			if got := Turn(x, n); got != turned(x, n) {
				t.Errorf("%08x by %d: %08x, not %08x", x, n, got, turned(x, n))
			}
		}
	}
	if Turn(0x12345678, 4) != 0x81234567 || Turn(0x12345678, -4) != 0x23456781 {
		t.Error("the wrong way round")
	}
}

func TestChooseAndMost(t *testing.T) {
	l := samples()
	for i, x := range l {
		for j := range l {
			y, z := l[j], l[(i+3*j+1)%len(l)]
			var choose, most uint32
			for k := range 32 {
				a, b, c := bit(x, k), bit(y, k), bit(z, k)
				if a == 1 {
					choose |= b << k
				} else {
					choose |= c << k
				}
				if a+b+c >= 2 {
					most |= 1 << k
				}
			}
			if got := Choose(x, y, z); got != choose {
				t.Fatalf("Choose of %08x, %08x, %08x: %08x, not %08x", x, y, z, got, choose)
			}
			if got := Most(x, y, z); got != most {
				t.Fatalf("Most of %08x, %08x, %08x: %08x, not %08x", x, y, z, got, most)
			}
		}
	}
	// Each of the eight ways that three bits can be stands in one bit of these.
	if Choose(0b11110000, 0b11001100, 0b10101010) != 0b11001010 || Most(0b11110000, 0b11001100, 0b10101010) != 0b11101000 {
		t.Error("the eight ways")
	}
}

func TestGreat(t *testing.T) {
	for _, x := range samples() {
		if got, want := Great(0, x), turned(x, 2)^turned(x, 13)^turned(x, 22); got != want {
			t.Errorf("0 of %08x: %08x, not %08x", x, got, want)
		}
		if got, want := Great(1, x), turned(x, 6)^turned(x, 11)^turned(x, 25); got != want {
			t.Errorf("1 of %08x: %08x, not %08x", x, got, want)
		}
		for _, i := range append(noIndexes(), 2, 3) {
			if Great(i, x) != 0 {
				t.Errorf("%d of %08x isn't 0", i, x)
			}
		}
	}
}

func TestSmall(t *testing.T) {
	for _, x := range samples() {
		if got, want := Small(0, x), turned(x, 7)^turned(x, 18)^lowered(x, 3); got != want {
			t.Errorf("0 of %08x: %08x, not %08x", x, got, want)
		}
		if got, want := Small(1, x), turned(x, 17)^turned(x, 19)^lowered(x, 10); got != want {
			t.Errorf("1 of %08x: %08x, not %08x", x, got, want)
		}
		for _, i := range append(noIndexes(), 2, 3) {
			if Small(i, x) != 0 {
				t.Errorf("%d of %08x isn't 0", i, x)
			}
		}
	}
}

// P1.3

// primes: the first many primes.
func primes(many int) []int64 {
	var out []int64
	for n := int64(2); len(out) < many; n++ {
		prime := true
		for _, p := range out {
			prime = prime && n%p != 0
		}
		if prime {
			out = append(out, n)
		}
	}
	return out
}

// power: x multiplied by itself, so that it stands there n times.
func power(x *big.Int, n int) *big.Int {
	return new(big.Int).Exp(x, big.NewInt(int64(n)), nil)
}

// behindPoint: is r what stands in the first 32 bits behind the point of the nth root of p?
func behindPoint(p int64, n int, r uint32) bool {
	whole := int64(0)
	for power(big.NewInt(whole+1), n).Cmp(big.NewInt(p)) <= 0 {
		whole++
	}
	low := big.NewInt(whole<<32 | int64(r))
	high := new(big.Int).Add(low, big.NewInt(1))
	scaled := new(big.Int).Lsh(big.NewInt(p), uint(32*n))
	return power(low, n).Cmp(scaled) <= 0 && power(high, n).Cmp(scaled) > 0
}

func TestPrime(t *testing.T) {
	for i, p := range primes(64) {
		if got := Prime(i); !behindPoint(p, 3, got) {
			t.Errorf("%d: %08x isn't of the cube root of %d", i, got, p)
		}
	}
	if Prime(0) != 0x428a2f98 {
		t.Errorf("the first one is %08x", Prime(0))
	}
	for _, i := range noIndexes() {
		if Prime(i) != 0 {
			t.Errorf("%d isn't 0", i)
		}
	}
}

func TestStart(t *testing.T) {
	h := Start()
	for i, p := range primes(8) {
		if !behindPoint(p, 2, h[i]) {
			t.Errorf("%d: %08x isn't of the square root of %d", i, h[i], p)
		}
	}
	if h[0] != 0x6a09e667 {
		t.Errorf("the first one is %08x", h[0])
	}
}

// P1 and P2: every call ends, and answers the same again, whatever was called between.

// answers: what every call answers of x and i.
func answers(x uint32, i int) [10]uint32 {
	y, z := x*3+1, ^x
	return [10]uint32{Get([]byte{byte(x), byte(i)}), Get(Put(nil, x)), Turn(x, i), Choose(x, y, z), Most(x, y, z), Great(i, x), Small(i, x), Prime(i), Start()[0], Start()[7]}
}

func TestAnswersStayTheSame(t *testing.T) {
	numbers := append(noIndexes(), 0, 1, 2, 3, 31, 32, 33, 63)
	was := map[uint32]map[int][10]uint32{}
	for _, x := range samples() {
		was[x] = map[int][10]uint32{}
		for _, i := range numbers {
			was[x][i] = answers(x, i)
		}
	}
	for x, row := range was {
		for i, want := range row {
			if got := answers(x, i); got != want {
				t.Errorf("%08x and %d: %x, and %x ahead of it", x, i, got, want)
			}
		}
	}
}

func TestStartIsNotChangedByItsAnswer(t *testing.T) {
	h := Start()
	was := h
	clear(h[:])
	if Start() != was {
		t.Error("Start hangs on what was done to its answer")
	}
}
