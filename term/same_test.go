package term

import (
	"math/rand"
	"testing"
)

// 12.1: a term of each kind is the same as itself, and as none of the others;
// nil is so, too.
func TestSameOfKinds(t *testing.T) {
	for i, x := range kinds() {
		for k, y := range kinds() {
			holdSame(t, x, y, i == k)
		}
	}
	holdSame(t, nil, Digest{}, false)
	holdSame(t, nil, Box{}, false)
	holdSame(t, Digest{}, Digest{nil, Empty{}}, false)
}

// 12.1: of terms that differ in one thing alone.
func TestSameButOne(t *testing.T) {
	a, b, c := Atom{1}, Atom{2}, Atom{3}
	for _, of := range [][]Term{
		{Atom{1}, Atom{-1}, Atom{11}, Atom{0}},
		{Public{1}, Public{-1}, Public{11}, Public{0}},
		{Shared{1, 2}, Shared{2, 1}, Shared{1, 1}, Shared{2, 2}, Shared{1, -2}, Shared{-1, 2}, Shared{12, 2}},
		{Chain{1, a, b}, Chain{2, a, b}, Chain{-1, a, b}, Chain{1, b, b}, Chain{1, a, a}, Chain{1, b, a}, Chain{1, nil, b}, Chain{1, a, nil}},
		{Digest{a, b}, Digest{b, a}, Digest{a, a}, Digest{b, b}, Digest{nil, b}, Digest{a, nil}},
		{Box{a, 1, b, c}, Box{a, 2, b, c}, Box{a, -1, b, c}, Box{b, 1, b, c}, Box{a, 1, c, c}, Box{a, 1, b, b}, Box{c, 1, b, a}, Box{a, 1, c, b}, Box{b, 1, a, c}, Box{nil, 1, b, c}, Box{a, 1, nil, c}, Box{a, 1, b, nil}},
		{Chain{1, a, b}, Digest{a, b}, Box{a, 1, b, nil}, Box{nil, 1, a, b}, Shared{1, 2}},
		{Digest{Digest{a, b}, c}, Digest{a, Digest{b, c}}, Digest{Digest{a, c}, b}, Digest{Digest{b, a}, c}},
	} {
		for i, x := range of {
			for k, y := range of {
				holdSame(t, x, y, i == k)
				holdSame(t, Digest{x, a}, Digest{y, a}, i == k)
				holdSame(t, Box{a, 1, b, Chain{2, x, c}}, Box{a, 1, b, Chain{2, y, c}}, i == k)
			}
		}
	}
}

// 12.1: by their Names: a term that was made apart, or by who made a kind of
// its own, is the same if its Name is.
func TestSameIsOfNames(t *testing.T) {
	for _, x := range unlike() {
		holdSame(t, x, made(x.Name()), true)
		holdSame(t, x, other(x.Name()), true)
		holdSame(t, x, other(x.Name()+" "), false)
	}
	holdSame(t, other("x"), other("x"), true)
	holdSame(t, other("x"), other("y"), false)
	holdSame(t, other("x"), nil, false)
	holdSame(t, Digest{other("a1"), nil}, Digest{Atom{1}, nil}, true)
	holdSame(t, Digest{other("a1"), nil}, Digest{Atom{2}, nil}, false)
}

// 12.1: of drawn terms, one of which has a term turned somewhere inside.
func TestSameOfDrawnTerms(t *testing.T) {
	d := rand.New(rand.NewSource(21))
	for range 20000 {
		x, y := drawn(d, d.Intn(5)), drawn(d, d.Intn(5))
		holdSame(t, x, y, x == y)
		if x != nil {
			holdSame(t, x, made(x.Name()), true)
		}
		at := d.Intn(len(standing(x)))
		z := turnedAt(x, &at, y)
		holdSame(t, x, z, x == z)
	}
}

// turnedAt is x with y in the place of the at-th of all that stand in it.
func turnedAt(x Term, at *int, y Term) Term {
	here := *at == 0
	*at--
	if here {
		return y
	}
	of := parts(x)
	for i := range of {
		of[i] = turnedAt(of[i], at, y)
	}
	switch x := x.(type) {
	case Chain:
		return Chain{x.I, of[0], of[1]}
	case Digest:
		return Digest{of[0], of[1]}
	case Box:
		return Box{of[0], x.N, of[1], of[2]}
	}
	return x
}
