package curve

import (
	"math/big"
	"testing"

	"porthole/api"
)

// number of decimal digits.
func number(digits string) *big.Int {
	n, _ := new(big.Int).SetString(digits, 10)
	return n
}

// smallOrder are all u whose points come to nothing eight times over: 0, 1,
// p - 1, the two of order eight, and each of those again in its other forms.
func smallOrder() [][32]byte {
	p := prime()
	l := [][32]byte{
		{}, {1}, asBytes(less(p, 1)), asBytes(p), asBytes(more(p, 1)),
		asBytes(number("325606250916557431795983626356110631294008115727848805560023387167927233504")),
		asBytes(number("39382357235489614581723060781553021112529911719440698176882885853963445705823")),
	}
	for _, u := range l {
		l = append(l, withHighest(u))
	}
	return l
}

func holdZero(t *testing.T, k, u [32]byte) {
	t.Helper()
	if x, e := Shared(k, u); e != api.ErrZero || x != [32]byte{} {
		t.Errorf("3.1: Shared(%x, %x): %x %d", k, u, x, e)
	}
}

func holdShared(t *testing.T, k, u, want [32]byte) {
	t.Helper()
	if x, e := Shared(k, u); e != api.OK || x != want {
		t.Errorf("3.1: Shared(%x, %x): %x %d, not %x", k, u, x, e, want)
	}
}

func TestSharedOfSmallOrder(t *testing.T) {
	for _, k := range append(scalars(), drawn(20, 20)...) {
		for _, u := range smallOrder() {
			holdZero(t, k, u)
		}
	}
}

func TestShared(t *testing.T) {
	for _, k := range scalars() {
		for _, u := range numbers() {
			want := X(k, u)
			if want == [32]byte{} {
				holdZero(t, k, u)
				continue
			}
			holdShared(t, k, u, want)
			holdShared(t, k, withHighest(u), want)
		}
	}
}

func TestSharedOfTwo(t *testing.T) {
	l := drawn(40, 21)
	for i, a := range l {
		b := l[(i+1)%len(l)]
		want := X(a, Public(b))
		holdShared(t, a, Public(b), want)
		holdShared(t, b, Public(a), want)
	}
}

// curveOrder and twistOrder are the two primes of which there are points, on
// the curve and on its twist: every u belongs to one of them.
func curveOrder() *big.Int {
	return new(big.Int).Add(power(252), number("27742317777372353535851937790883648493"))
}

func twistOrder() *big.Int {
	return new(big.Int).Sub(power(253), number("55484635554744707071703875581767296995"))
}

// before is the u of which X of k is x, and whether there is one.
func before(k, x [32]byte) ([32]byte, bool) {
	c, p := through(asNumber(x))
	for _, order := range []*big.Int{curveOrder(), twistOrder()} {
		if p == nil || c.multiple(order, p) != nil {
			continue
		}
		back := new(big.Int).ModInverse(plainScalar(k), order)
		return asBytes(c.multiple(back, p).x), true
	}
	return [32]byte{}, false
}

// An answer of which one byte alone is not 0 is no error, whichever byte it is.
func TestSharedOfOneByte(t *testing.T) {
	k := drawn(1, 22)[0]
	for i := range 32 {
		found := false
		for value := byte(1); value < 128 && !found; value++ {
			want := [32]byte{}
			want[i] = value
			var u [32]byte
			if u, found = before(k, want); found {
				holdShared(t, k, u, want)
			}
		}
		if !found {
			t.Errorf("byte %d is never alone", i)
		}
	}
}
