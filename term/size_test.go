package term

import (
	"fmt"
	"math/rand"
	"testing"
)

// 12.1: of each kind; nil is 1, as a part too; a number is none.
func TestSizes(t *testing.T) {
	a := Atom{1 << 40}
	for _, c := range []struct {
		x    Term
		want int
	}{
		{nil, 1}, {Empty{}, 1}, {a, 1}, {Atom{}, 1}, {Public{-5}, 1}, {Shared{3, 5}, 1}, {Shared{100, 200}, 1},
		{Chain{}, 3}, {Chain{3, a, a}, 3}, {Chain{30, nil, a}, 3}, {Chain{-1, a, nil}, 3},
		{Digest{}, 3}, {Digest{a, Empty{}}, 3}, {Digest{nil, a}, 3}, {Digest{a, nil}, 3},
		{Box{}, 4}, {Box{a, 1, a, a}, 4}, {Box{nil, 100, a, a}, 4}, {Box{a, 1, nil, a}, 4}, {Box{a, -1, a, nil}, 4},
		{other("h(?,?)"), 1}, {Digest{other("x"), nil}, 3},
	} {
		holdSize(t, shown(c.x), c.x, c.want)
	}
}

// 12.1: itself too, and what stands in each part, however deep.
func TestSizeOfParts(t *testing.T) {
	for _, x := range kinds() {
		n := plainSize(x)
		for _, y := range []Term{Chain{1, x, nil}, Chain{1, nil, x}, Digest{x, nil}, Digest{nil, x}} {
			holdSize(t, shown(y), y, 2+n)
			holdSize(t, shown(Digest{y, y}), Digest{y, y}, 5+2*n)
		}
		for _, y := range []Term{Box{x, 9, nil, nil}, Box{nil, 9, x, nil}, Box{nil, 9, nil, x}} {
			holdSize(t, shown(y), y, 3+n)
			holdSize(t, shown(Box{y, 0, y, y}), Box{y, 0, y, y}, 10+3*n)
		}
	}
}

// 12.1: each as often as it stands.
func TestSizeOfWhatStandsTwice(t *testing.T) {
	x := Chain{1, Atom{1}, Box{}}
	for _, c := range []struct {
		x    Term
		want int
	}{
		{x, 6}, {Digest{x, nil}, 8}, {Digest{x, x}, 13}, {Chain{1, x, x}, 13}, {Box{x, 1, x, x}, 19}, {Digest{Digest{x, x}, x}, 20},
	} {
		holdSize(t, shown(c.x), c.x, c.want)
	}
	for deep := range 13 {
		holdSize(t, fmt.Sprintf("2^%d times nil", deep), doubled(nil, deep), 2<<deep-1)
		holdSize(t, fmt.Sprintf("2^%d times a Box", deep), doubled(Box{}, deep), min(5<<deep-1, 10000))
	}
}

// 12.1: at most 10000 are counted.
func TestSizeAtTheEdge(t *testing.T) {
	for n := 4900; n < 5100; n++ {
		for _, c := range []struct {
			x    Term
			more int
		}{{Empty{}, 1}, {nil, 1}, {Box{}, 4}, {Box{Digest{}, 1, nil, nil}, 6}, {Digest{Box{}, Chain{}}, 8}} {
			want := min(2*n+c.more, 10000)
			holdSize(t, fmt.Sprintf("%d Digests about %s", n, shown(c.x)), row(c.x, n), want)
			holdSize(t, fmt.Sprintf("two Digests, %d in all, about %s", n, shown(c.x)), Digest{row(nil, n-900), row(c.x, 898)}, min(2*n-2+c.more, 10000))
		}
	}
	for _, c := range []struct {
		x    Term
		want int
	}{
		{row(Empty{}, 4999), 9999}, {row(Box{}, 4998), 10000}, {row(Empty{}, 5000), 10000}, {row(Box{}, 4999), 10000},
		{Digest{row(nil, 2499), row(nil, 2499)}, 9999}, {Box{row(nil, 2499), 0, row(nil, 2499), nil}, 10000},
		{Box{row(nil, 2499), 0, row(nil, 2499), Digest{}}, 10000}, {Digest{row(nil, 2500), row(nil, 2499)}, 10000},
		{Box{row(nil, 2498), 0, row(nil, 2499), nil}, 9998}, {Box{nil, 0, row(nil, 9998), nil}, 10000},
	} {
		holdSize(t, fmt.Sprintf("%d and more", c.want), c.x, c.want)
		if got := plainSize(c.x); got != c.want {
			t.Errorf("12.1: counted: %d, not %d", got, c.want)
		}
	}
}

// 12.1: far more than are counted, R1: and it ends, though they cannot be gone
// through.
func TestSizeOfFarMore(t *testing.T) {
	for _, deep := range []int{13, 14, 20, 30, 40, 60, 64, 100, 1000, 9998, 9999, 10000, 20000, 1<<16 - 1} {
		for _, x := range []Term{nil, Empty{}, Box{}} {
			holdSize(t, fmt.Sprintf("%s, doubled %d times", shown(x), deep), doubled(x, deep), 10000)
		}
		x := Term(Empty{})
		for range deep {
			x = Box{Chain{1, x, x}, 2, x, Digest{x, x}}
		}
		holdSize(t, fmt.Sprintf("Boxes, %d deep", deep), x, 10000)
		holdSize(t, "a Digest of nil and of many Boxes", Digest{nil, x}, 10000)
		holdSize(t, fmt.Sprintf("a row of %d", deep), row(nil, deep), min(2*deep+1, 10000))
	}
}

// 12.1: of drawn terms, by counting; four times in one another they are of more
// than are counted, now and then.
func TestSizeOfDrawnTerms(t *testing.T) {
	d := rand.New(rand.NewSource(31))
	over, under := 0, 0
	for range 3000 {
		x := drawn(d, 4+d.Intn(6))
		x = Box{x, 1, Digest{x, x}, Chain{2, x, doubled(x, d.Intn(8))}}
		want := plainSize(x)
		holdSize(t, fmt.Sprintf("a drawn term of %d", want), x, want)
		if want == 10000 {
			over++
		} else if want > 1000 {
			under++
		}
	}
	if over < 50 || under < 50 {
		t.Errorf("only %d drawn terms are of 10000, and %d of less", over, under)
	}
}
