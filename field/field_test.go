package field

import (
	"math"
	"math/big"
	"math/rand"
	"testing"
)

// prime is 2^255 - 19, by the library's numbers: all of these tests hold the
// package against them.
func prime() *big.Int {
	return less(power(255), 19)
}

func power(n uint) *big.Int {
	return new(big.Int).Lsh(big.NewInt(1), n)
}

func less(n *big.Int, by int64) *big.Int {
	return new(big.Int).Sub(n, big.NewInt(by))
}

func more(n *big.Int, by int64) *big.Int {
	return new(big.Int).Add(n, big.NewInt(by))
}

func modulo(n *big.Int) *big.Int {
	return new(big.Int).Mod(n, prime())
}

// asBytes is n, which lies below 2^256, the lowest byte first.
func asBytes(n *big.Int) [32]byte {
	var b [32]byte
	n.FillBytes(b[:])
	for i := range 16 {
		b[i], b[31-i] = b[31-i], b[i]
	}
	return b
}

// asNumber is the number of all 256 bits of b.
func asNumber(b [32]byte) *big.Int {
	for i := range 16 {
		b[i], b[31-i] = b[31-i], b[i]
	}
	return new(big.Int).SetBytes(b[:])
}

func element(n *big.Int) Element {
	return From(asBytes(n))
}

// is holds a number against what it must be modulo p.
func is(t *testing.T, what string, got Element, want *big.Int) {
	t.Helper()
	if n := asNumber(got.Bytes()); n.Cmp(modulo(want)) != 0 {
		t.Errorf("2.1: %s: %x, not %x", what, n, modulo(want))
	}
}

// edges are numbers below 2^255 at which limbs, carries and p turn over.
func edges() []*big.Int {
	p := prime()
	l := []*big.Int{
		p, more(p, 1), more(p, 2), more(p, 17), more(p, 18), // the last one is 2^255 - 1
		less(p, 1), less(p, 2), less(p, 18), less(p, 19), less(p, 20), less(p, 38),
		new(big.Int).Rsh(p, 1), more(new(big.Int).Rsh(p, 1), 1), // halves of p
		less(power(255), 1<<32), less(power(255), 1<<40),
	}
	for n := range int64(40) {
		l = append(l, big.NewInt(n))
	}
	for _, n := range []uint{31, 32, 51, 63, 64, 102, 127, 128, 153, 191, 192, 204, 250, 254} {
		l = append(l, power(n), less(power(n), 1), less(power(n), 19), more(power(n), 1))
		l = append(l, new(big.Int).Sub(p, power(n)), new(big.Int).Sub(less(power(255), 1), power(n)))
	}
	return l
}

// drawn are numbers below 2^255, the same ones at every run.
func drawn(count int) []*big.Int {
	r := rand.New(rand.NewSource(25519))
	l := make([]*big.Int, 0, count)
	for range count {
		l = append(l, new(big.Int).Rand(r, power(255)))
	}
	return l
}

func TestZeroAndOne(t *testing.T) {
	is(t, "Zero", Zero(), big.NewInt(0))
	is(t, "One", One(), big.NewInt(1))
	if Equal(Zero(), One()) {
		t.Error("2.1: 0 and 1 are the same")
	}
	if !Equal(Element{}, Zero()) {
		t.Error("2.1: an element that nobody made is not 0")
	}
}

func TestFromAndBytes(t *testing.T) {
	for _, n := range append(edges(), drawn(300)...) {
		b := asBytes(n)
		is(t, "From", From(b), n)
		b[31] |= 0x80
		is(t, "From with the highest bit", From(b), n)
		if got := From(b).Bytes(); got[31]&0x80 != 0 {
			t.Errorf("2.1: Bytes: %x: the highest bit is set", got)
		}
	}
}

func TestFromOfExamples(t *testing.T) {
	p := prime()
	for _, x := range []struct {
		n    *big.Int
		want int64
	}{
		{p, 0}, {more(p, 1), 1}, {more(p, 18), 18}, {less(power(255), 1), 18},
		{power(255), 0}, {more(power(255), 1), 1}, {less(power(256), 1), 18},
		{new(big.Int).Add(power(255), p), 0}, {new(big.Int).Add(power(255), more(p, 1)), 1},
	} {
		is(t, "From", element(x.n), big.NewInt(x.want))
	}
	is(t, "Sub(0, 1)", Sub(Zero(), One()), less(p, 1))
}

func TestFromOfSingleBits(t *testing.T) {
	for i := range 256 {
		var b, want [32]byte
		b[i/8] = 1 << (i % 8)
		if i < 255 {
			want = b
		}
		if got := From(b).Bytes(); got != want {
			t.Errorf("2.1: bit %d: %x", i, got)
		}
	}
}

func TestAddSubMul(t *testing.T) {
	l := append(edges(), drawn(40)...)
	for _, x := range l {
		for _, y := range l {
			a, b := element(x), element(y)
			is(t, "Add", Add(a, b), new(big.Int).Add(x, y))
			is(t, "Sub", Sub(a, b), new(big.Int).Sub(x, y))
			is(t, "Mul", Mul(a, b), new(big.Int).Mul(x, y))
		}
	}
}

func TestAddSubMulOfDrawn(t *testing.T) {
	l := drawn(20000)
	for i := 0; i < len(l); i += 2 {
		x, y := l[i], l[i+1]
		a, b := element(x), element(y)
		is(t, "Add", Add(a, b), new(big.Int).Add(x, y))
		is(t, "Sub", Sub(a, b), new(big.Int).Sub(x, y))
		is(t, "Mul", Mul(a, b), new(big.Int).Mul(x, y))
	}
}

func TestSumsThatPass(t *testing.T) {
	p := prime()
	top := element(less(p, 1))
	is(t, "p - 1 + 1", Add(top, One()), big.NewInt(0))
	is(t, "p - 1 + 2", Add(top, element(big.NewInt(2))), big.NewInt(1))
	is(t, "p - 1 + p - 1", Add(top, top), less(p, 2))
	is(t, "p - 2 + 1", Add(element(less(p, 2)), One()), less(p, 1))
	is(t, "0 + 0", Add(Zero(), Zero()), big.NewInt(0))
	is(t, "0 - (p - 1)", Sub(Zero(), top), big.NewInt(1))
	is(t, "p - 1 - (p - 1)", Sub(top, top), big.NewInt(0))
	is(t, "1 - 2", Sub(One(), element(big.NewInt(2))), less(p, 1))
	is(t, "0 - 0", Sub(Zero(), Zero()), big.NewInt(0))
}

func TestProductsOfTheGreatest(t *testing.T) {
	p := prime()
	for i := range int64(40) {
		for j := range int64(40) {
			x, y := less(p, i), less(p, j)
			is(t, "Mul", Mul(element(x), element(y)), new(big.Int).Mul(x, y))
		}
	}
	is(t, "(p - 1)^2", Mul(element(less(p, 1)), element(less(p, 1))), big.NewInt(1))
}

// The products that lie just at a multiple of p are those at which a carry is
// lost most easily: x times the inverse of x, and what is near it.
func TestProductsNearAMultiple(t *testing.T) {
	for _, x := range append(edges(), drawn(100)...) {
		if modulo(x).Sign() == 0 {
			continue
		}
		inverse := new(big.Int).ModInverse(x, prime())
		for i := int64(-40); i <= 40; i++ {
			y := modulo(new(big.Int).Mul(inverse, big.NewInt(i)))
			is(t, "Mul", Mul(element(x), element(y)), big.NewInt(i))
		}
	}
}

func TestInvert(t *testing.T) {
	p := prime()
	is(t, "Invert(0)", Invert(Zero()), big.NewInt(0))
	is(t, "Invert(p)", Invert(element(p)), big.NewInt(0))
	is(t, "Invert(1)", Invert(One()), big.NewInt(1))
	is(t, "Invert(p - 1)", Invert(element(less(p, 1))), less(p, 1))
	is(t, "Invert(2)", Invert(element(big.NewInt(2))), more(new(big.Int).Rsh(p, 1), 1))
	for _, x := range append(edges(), drawn(200)...) {
		if modulo(x).Sign() != 0 {
			is(t, "Invert", Invert(element(x)), new(big.Int).ModInverse(x, p))
		}
	}
}

func TestSmall(t *testing.T) {
	counts := []uint32{0, 1, 2, 9, 18, 19, 20, 38, 255, 256, 65535, 65536, 121665, 121666,
		1<<31 - 1, 1 << 31, math.MaxUint32 - 1, math.MaxUint32}
	for _, x := range append(edges(), drawn(200)...) {
		for _, n := range counts {
			want := new(big.Int).Mul(x, big.NewInt(int64(n)))
			is(t, "Small", Small(element(x), n), want)
		}
		if !Equal(Small(element(x), 1), element(x)) || !Equal(Small(element(x), 0), Zero()) {
			t.Errorf("2.1: Small(%x) by 1 or by 0", x)
		}
	}
}

func TestSwap(t *testing.T) {
	bits := []uint64{0, 1, 2, 3, 4, 5, 254, 255, 256, 1<<32 - 1, 1 << 32, 1<<32 + 1,
		1 << 63, 1<<63 + 1, math.MaxUint64 - 1, math.MaxUint64}
	l := append(edges(), drawn(10)...)
	for _, x := range l {
		for _, y := range l {
			for _, bit := range bits {
				first, second := Swap(element(x), element(y), bit)
				if bit%2 == 1 {
					first, second = second, first
				}
				is(t, "Swap", first, x)
				is(t, "Swap", second, y)
			}
		}
	}
}

func TestEqual(t *testing.T) {
	l := append(edges(), drawn(10)...)
	for _, x := range l {
		for _, y := range l {
			want := modulo(x).Cmp(modulo(y)) == 0
			if got := Equal(element(x), element(y)); got != want {
				t.Errorf("2.1: Equal(%x, %x): %v", x, y, got)
			}
		}
	}
	for i := range uint(255) {
		if Equal(element(power(i)), Zero()) || Equal(Zero(), element(power(i))) {
			t.Errorf("2.1: Equal passes over bit %d", i)
		}
	}
}

// madeAlike are ways to come to x that must all be the same number.
func madeAlike(x *big.Int) []Element {
	p := prime()
	a := element(x)
	high := asBytes(x)
	high[31] |= 0x80
	l := []Element{
		a, From(high), From(a.Bytes()), element(modulo(x)),
		Add(a, Zero()), Add(Sub(a, One()), One()), Sub(Add(a, One()), One()),
		Sub(a, Zero()), Sub(Zero(), Sub(Zero(), a)),
		Mul(a, One()), Mul(Mul(a, element(less(p, 1))), element(less(p, 1))),
		Small(a, 1), Invert(Invert(a)),
		Mul(Small(a, math.MaxUint32), Invert(element(big.NewInt(math.MaxUint32)))),
	}
	if x.Cmp(big.NewInt(18)) <= 0 {
		l = append(l, element(new(big.Int).Add(x, p)))
	}
	first, second := Swap(a, One(), 1)
	kept, _ := Swap(a, One(), 0)
	return append(l, second, kept, Sub(Add(second, first), One()))
}

func TestEqualThoughMadeUnlike(t *testing.T) {
	for _, x := range append(edges(), drawn(20)...) {
		l := madeAlike(x)
		for i, a := range l {
			for j, b := range l {
				if !Equal(a, b) || a.Bytes() != b.Bytes() {
					t.Errorf("2.1: %x: made as %d and as %d it is unlike", x, i, j)
				}
			}
		}
	}
}
