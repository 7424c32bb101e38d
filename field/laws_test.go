package field

import (
	"math/big"
	"testing"
)

// someNumbers are those at which the laws are tried, three at a time.
func someNumbers() []Element {
	p := prime()
	l := []Element{
		Zero(), One(), element(big.NewInt(2)), element(big.NewInt(19)), element(big.NewInt(38)),
		element(less(p, 1)), element(less(p, 2)), element(more(p, 18)),
		element(power(64)), element(less(power(128), 1)), element(power(254)),
		element(new(big.Int).Rsh(p, 1)),
	}
	for _, n := range drawn(16) {
		l = append(l, element(n))
	}
	return l
}

func hold(t *testing.T, law string, a, b Element) {
	t.Helper()
	if !Equal(a, b) {
		t.Errorf("2.2: %s: %x and %x", law, a.Bytes(), b.Bytes())
	}
}

func TestLawsOfOne(t *testing.T) {
	minus := Sub(Zero(), One())
	for _, a := range someNumbers() {
		hold(t, "a + 0 = a", Add(a, Zero()), a)
		hold(t, "a - a = 0", Sub(a, a), Zero())
		hold(t, "a + (0 - a) = 0", Add(a, Sub(Zero(), a)), Zero())
		hold(t, "1 a = a", Mul(One(), a), a)
		hold(t, "0 a = 0", Mul(Zero(), a), Zero())
		hold(t, "-1 a = 0 - a", Mul(minus, a), Sub(Zero(), a))
		hold(t, "a + a = 2 a", Add(a, a), Small(a, 2))
		hold(t, "the inverse of the inverse", Invert(Invert(a)), a)
		if Equal(a, Zero()) {
			hold(t, "the inverse of 0", Invert(a), Zero())
			continue
		}
		hold(t, "a / a = 1", Mul(a, Invert(a)), One())
		hold(t, "1 / -a = -(1 / a)", Invert(Sub(Zero(), a)), Sub(Zero(), Invert(a)))
	}
}

func TestLawsOfTwo(t *testing.T) {
	l := someNumbers()
	for _, a := range l {
		for _, b := range l {
			hold(t, "a + b = b + a", Add(a, b), Add(b, a))
			hold(t, "a b = b a", Mul(a, b), Mul(b, a))
			hold(t, "a - b = a + (0 - b)", Sub(a, b), Add(a, Sub(Zero(), b)))
			hold(t, "(a - b) + b = a", Add(Sub(a, b), b), a)
			hold(t, "(a + b)(a - b) = a a - b b", Mul(Add(a, b), Sub(a, b)), Sub(Mul(a, a), Mul(b, b)))
			hold(t, "1 / (a b) = 1 / a 1 / b", Invert(Mul(a, b)), Mul(Invert(a), Invert(b)))
			product := Equal(Mul(a, b), Zero())
			if product != (Equal(a, Zero()) || Equal(b, Zero())) {
				t.Errorf("2.2: %x times %x and 0", a.Bytes(), b.Bytes())
			}
		}
	}
}

func TestLawsOfThree(t *testing.T) {
	l := someNumbers()
	for _, a := range l {
		for _, b := range l {
			for _, c := range l {
				hold(t, "(a + b) + c = a + (b + c)", Add(Add(a, b), c), Add(a, Add(b, c)))
				hold(t, "(a b) c = a (b c)", Mul(Mul(a, b), c), Mul(a, Mul(b, c)))
				hold(t, "a (b + c) = a b + a c", Mul(a, Add(b, c)), Add(Mul(a, b), Mul(a, c)))
				hold(t, "a (b - c) = a b - a c", Mul(a, Sub(b, c)), Sub(Mul(a, b), Mul(a, c)))
			}
		}
	}
}

// Multiples are sums.
func TestSmallIsSums(t *testing.T) {
	for _, a := range someNumbers() {
		sum := Zero()
		for n := range uint32(64) {
			hold(t, "n a is a, n times", Small(a, n), sum)
			sum = Add(sum, a)
		}
		hold(t, "(m n) a = m (n a)", Small(Small(a, 1<<16), 1<<15), Small(a, 1<<31))
	}
}

// Nothing of what a call is handed changes, and what it answered stays.
func TestElementsAreValues(t *testing.T) {
	for _, a := range someNumbers() {
		for _, b := range someNumbers() {
			beforeA, beforeB := a.Bytes(), b.Bytes()
			sum := Add(a, b)
			told := sum.Bytes()
			Sub(a, b)
			Mul(a, b)
			Mul(sum, sum)
			Small(a, 7)
			Invert(sum)
			Swap(a, sum, 1)
			Equal(a, b)
			if a.Bytes() != beforeA || b.Bytes() != beforeB || sum.Bytes() != told {
				t.Errorf("R2: %x and %x have changed", beforeA, beforeB)
			}
		}
	}
}
