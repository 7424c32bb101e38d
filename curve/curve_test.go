package curve

import (
	"math/big"
	"testing"
)

// clampedBit tells what Clamp makes of bit i, and whether it turns it at all.
func clampedBit(i int) (want byte, fixed bool) {
	switch i {
	case 0, 1, 2, 255:
		return 0, true
	case 254:
		return 1, true
	}
	return 0, false
}

func bitOf(k [32]byte, i int) byte {
	return k[i/8] >> (i % 8) & 1
}

func withBitTurned(k [32]byte, i int) [32]byte {
	k[i/8] ^= 1 << (i % 8)
	return k
}

func holdClamp(t *testing.T, k [32]byte) {
	t.Helper()
	got := Clamp(k)
	for i := range 256 {
		want, fixed := clampedBit(i)
		if !fixed {
			want = bitOf(k, i)
		}
		if bitOf(got, i) != want {
			t.Errorf("3.1: Clamp(%x): bit %d is %d", k, i, bitOf(got, i))
		}
	}
	if again := Clamp(got); again != got {
		t.Errorf("3.1: Clamp(Clamp(%x)): %x", k, again)
	}
	if n := asNumber(got); n.Cmp(plainScalar(k)) != 0 {
		t.Errorf("3.1: Clamp(%x) is %x", k, n)
	}
}

// Each bit alone set, and each bit alone not set.
func TestClampOfEachBit(t *testing.T) {
	for i := range 256 {
		holdClamp(t, withBitTurned([32]byte{}, i))
		holdClamp(t, withBitTurned(ones(), i))
	}
}

func TestClamp(t *testing.T) {
	for _, k := range append(scalars(), drawn(500, 1)...) {
		holdClamp(t, k)
	}
	if got := Clamp([32]byte{}); got != [32]byte{31: 64} {
		t.Errorf("3.1: Clamp of all 0: %x", got)
	}
	want := ones()
	want[0], want[31] = 0xf8, 0x7f
	if got := Clamp(ones()); got != want {
		t.Errorf("3.1: Clamp of all 1: %x", got)
	}
}

func holdX(t *testing.T, k, u [32]byte) {
	t.Helper()
	if got, want := X(k, u), plainX(k, u); got != want {
		t.Errorf("3.1: X(%x, %x): %x, not %x", k, u, got, want)
	}
}

func TestXAtTheEdges(t *testing.T) {
	for _, k := range scalars() {
		for _, u := range numbers() {
			holdX(t, k, u)
		}
	}
}

func TestXOfDrawn(t *testing.T) {
	us := drawn(200, 6)
	for i, k := range drawn(200, 5) {
		holdX(t, k, us[i])
	}
}

func TestXPassesOverTheHighestBitOfU(t *testing.T) {
	for _, k := range scalars() {
		for _, u := range numbers() {
			if X(k, withHighest(u)) != X(k, u) {
				t.Errorf("3.1: X(%x, %x) and the highest bit", k, u)
			}
		}
	}
}

func TestXTakesPAndMore(t *testing.T) {
	for _, k := range scalars() {
		for n := range int64(19) {
			u, beyond := asBytes(big.NewInt(n)), asBytes(more(prime(), n))
			want := X(k, u)
			if X(k, beyond) != want || X(k, withHighest(beyond)) != want {
				t.Errorf("3.1: X(%x, p + %d): %x, not %x", k, n, X(k, beyond), want)
			}
		}
	}
}

// X is below p, whatever it is given: one number has one form.
func TestXIsTheLeastForm(t *testing.T) {
	for _, k := range scalars() {
		for _, u := range numbers() {
			if got := X(k, u); asNumber(got).Cmp(prime()) >= 0 {
				t.Errorf("3.1: X(%x, %x): %x is p or more", k, u, got)
			}
		}
	}
}

// Of a scalar just the bits count that Clamp leaves as they are.
func TestXClampsItsScalar(t *testing.T) {
	u := [32]byte{9}
	for _, k := range append(scalars(), drawn(3, 7)...) {
		want := X(k, u)
		if X(Clamp(k), u) != want {
			t.Errorf("3.1: X of %x, and of it clamped", k)
		}
		for i := range 256 {
			_, fixed := clampedBit(i)
			if same := X(withBitTurned(k, i), u) == want; same != fixed {
				t.Errorf("3.1: X(%x) with bit %d turned: the same: %v", k, i, same)
			}
		}
	}
}

// X(any, 0) is all 0, and so is X of the others of small order.
func TestXOfSmallOrder(t *testing.T) {
	for _, k := range append(scalars(), drawn(20, 8)...) {
		for _, u := range smallOrder() {
			if got := X(k, u); got != [32]byte{} {
				t.Errorf("3.1: X(%x, %x): %x", k, u, got)
			}
		}
	}
}

func TestPublic(t *testing.T) {
	for _, k := range append(scalars(), drawn(100, 9)...) {
		want := X(k, [32]byte{9})
		if got := Public(k); got != want {
			t.Errorf("3.1: Public(%x): %x, not %x", k, got, want)
		}
		if Public(Clamp(k)) != want {
			t.Errorf("3.1: Public of %x, and of it clamped", k)
		}
		if want == [32]byte{} {
			t.Errorf("3.1: Public(%x) is 0", k)
		}
	}
}

// TestBothSides: 3.2.
func TestBothSides(t *testing.T) {
	l := append(scalars(), drawn(60, 10)...)
	publics := make([][32]byte, len(l))
	for i, k := range l {
		publics[i] = Public(k)
	}
	for i, a := range l {
		for j, b := range l[:i+1] {
			one, other := X(a, publics[j]), X(b, publics[i])
			if one != other {
				t.Errorf("3.2: %x and %x: %x and %x", a, b, one, other)
			}
			if one == [32]byte{} {
				t.Errorf("3.2: %x and %x share 0", a, b)
			}
		}
	}
}

// What two share, no third one has: 3.2 would hold of an X that is always the same.
func TestBothSidesAlone(t *testing.T) {
	seen := map[[32]byte]int{}
	l := drawn(30, 11)
	for i, a := range l {
		for _, b := range l[:i+1] {
			seen[X(a, Public(b))]++
		}
	}
	if want := len(l) * (len(l) + 1) / 2; len(seen) != want {
		t.Errorf("3.2: %d pairs share %d numbers", want, len(seen))
	}
}

// The same is answered again, and what is handed in stays.
func TestCallsKeepNothing(t *testing.T) {
	k, u := drawn(1, 12)[0], drawn(1, 13)[0]
	keptK, keptU := k, u
	first := X(k, u)
	Clamp(k)
	Public(k)
	Shared(k, [32]byte{})
	X(u, k)
	if again, e := Shared(k, u); X(k, u) != first || again != first || e != 0 {
		t.Errorf("R4: X(%x, %x) has changed", k, u)
	}
	if k != keptK || u != keptU {
		t.Error("R2: what was handed in has changed")
	}
}
