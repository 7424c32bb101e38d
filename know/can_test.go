package know

import (
	"math"
	"testing"

	"porthole/term"
)

// The examples of the chapter.
func TestExamples(t *testing.T) {
	seen := list{public(3), box(shared(3, 5), 0, empty(), atom(-7))}
	holdCan(t, New([]int{5}, seen), atom(-7), true)
	holdCan(t, New(nil, seen), atom(-7), false)
}

// 13.1: of nothing at all: Empty, and every Atom from 0 on.
func TestCanOfNothing(t *testing.T) {
	k := New(nil, nil)
	for _, c := range []struct {
		x    term.Term
		want bool
	}{
		{nil, false}, {empty(), true},
		{atom(0), true}, {atom(1), true}, {atom(2), true}, {atom(99), true}, {atom(1000), true}, {atom(math.MaxInt64), true},
		{atom(-1), false}, {atom(-2), false}, {atom(-999), false}, {atom(math.MinInt64), false},
		{term.Public{}, false}, {public(1), false}, {public(50), false}, {public(-1), false},
		{term.Shared{}, false}, {shared(1, 2), false}, {shared(50, 50), false}, {shared(-1, 0), false},
		{term.Chain{}, false}, {term.Digest{}, false}, {term.Box{}, false},
		{chain(-1, empty(), atom(0)), true}, {digest(atom(5), empty()), true}, {box(empty(), -9, atom(1), atom(2)), true},
		{other("x"), false}, {other("?"), false}, {other("_"), false}, {other("a1"), false}, {other(""), false},
	} {
		holdCan(t, k, c.x, c.want)
	}
}

// 13.1: what was seen, of each kind; and nothing more of it.
func TestCanOfWhatWasSeen(t *testing.T) {
	a, b, c := atom(-1), atom(-2), atom(-3)
	all := list{
		empty(), atom(-1), atom(5), public(3), shared(3, 4), chain(1, a, b), digest(a, b), box(a, 1, empty(), c),
		term.Chain{I: 1}, term.Digest{}, term.Box{}, digest(nil, a), chain(2, a, nil), box(nil, 0, nil, a), term.Box{N: 1, Ad: a},
		row(atom(-9), 900), other("x"),
	}
	for _, x := range all {
		k := New(nil, list{x})
		for _, y := range all {
			want := y == x || y == empty() || y == atom(5) || x == all[14] && y == a
			holdCan(t, k, y, want)
			holdCan(t, k, digest(y, x), want)
			holdCan(t, k, box(x, 3, y, empty()), want)
		}
	}
	k := New(nil, list{chain(1, a, b), digest(c, a), box(a, 1, empty(), b)})
	for _, x := range (list{
		a, b, c, chain(2, a, b), chain(0, a, b), chain(1, b, a), chain(1, a, c), digest(a, c), digest(a, b), digest(c, b),
		box(a, 0, empty(), b), box(b, 1, empty(), b), box(a, 1, atom(0), b), box(a, 1, empty(), c), box(a, -1, empty(), b),
	}) {
		holdCan(t, k, x, false)
	}
}

// 13.1: a Public of a secret that it has.
func TestCanOfPublics(t *testing.T) {
	k := New([]int{5, 0, -3, 50, math.MaxInt64}, list{public(7)})
	for _, n := range []int{5, 0, -3, 50, math.MaxInt64, 7} {
		holdCan(t, k, public(n), true)
		holdCan(t, k, box(public(n), 1, public(n), public(n)), true)
	}
	for _, n := range []int{-5, 1, 3, 4, 6, 8, 49, 51, 500, -7, math.MinInt64} {
		holdCan(t, k, public(n), false)
		holdCan(t, k, digest(empty(), public(n)), false)
	}
}

// 13.1: a Shared of which it has the one secret, the other, both, none, though
// both Publics were seen; and in whichever order they stand.
func TestCanOfShareds(t *testing.T) {
	k := New([]int{5, 0, -3}, list{public(1), public(2), public(9), shared(6, 7)})
	for _, c := range []struct {
		a, b int
		want bool
	}{
		{5, 9, true}, {9, 5, true}, {1, 5, true}, {5, 1, true}, {5, 5, true}, {0, 5, true}, {5, -3, true}, {0, 0, true},
		{5, 1000, true}, {1000, 5, true}, {-3, -4, true}, {-4, -3, true}, {0, -1, true}, {-1, 0, true},
		{1, 2, false}, {2, 1, false}, {1, 1, false}, {9, 9, false}, {1, 9, false}, {-5, 3, false}, {3, -5, false}, {-1, 1, false},
		{6, 7, true}, {7, 6, false}, {6, 6, false}, {7, 7, false}, {6, 8, false},
	} {
		holdCan(t, k, shared(c.a, c.b), c.want)
		holdCan(t, k, chain(1, empty(), shared(c.a, c.b)), c.want)
	}
}

// 13.1: a Chain, a Digest, a Box, if all parts can be: of which one cannot, for
// each; the numbers are anybody's.
func TestCanOfParts(t *testing.T) {
	k := New([]int{5}, list{atom(-1), public(3), digest(atom(-2), atom(-3))})
	good := list{empty(), atom(4), atom(-1), public(3), public(5), shared(5, 6), digest(atom(-2), atom(-3)), chain(9, atom(-1), atom(0)), digest(atom(0), atom(0)), box(atom(-1), 1, atom(1), atom(2))}
	bad := list{nil, atom(-2), atom(-3), public(4), shared(3, 4), digest(atom(-3), atom(-2)), chain(1, atom(-2), atom(1)), box(atom(1), 1, atom(1), nil), other("x")}
	for _, n := range []int{0, 1, 2, 3, 77, -1} {
		for _, x := range good {
			for _, y := range good {
				holdCan(t, k, chain(n, x, y), true)
				holdCan(t, k, digest(x, y), true)
				holdCan(t, k, box(x, n, y, x), true)
				holdCan(t, k, box(y, n, y, x), true)
			}
			for _, y := range bad {
				for _, z := range (list{
					chain(n, x, y), chain(n, y, x), chain(n, y, y), digest(x, y), digest(y, x), digest(y, y),
					box(y, n, x, x), box(x, n, y, x), box(x, n, x, y), box(x, n, y, y), box(y, n, x, y), box(y, n, y, x), box(y, n, y, y),
				}) {
					holdCan(t, k, z, false)
					holdCan(t, k, digest(box(x, 2, z, x), x), false)
				}
			}
		}
	}
}

// 13.1: nil cannot be made, nor what it is a part of, though Boxes were seen of
// which it is the Ad or the Text; but what was seen so can be.
func TestNil(t *testing.T) {
	k := New([]int{5}, list{term.Box{Key: atom(1)}, term.Box{Key: atom(1), N: 1, Ad: atom(-1)}, digest(nil, atom(-2))})
	holdCan(t, k, nil, false)
	for _, x := range (list{
		term.Chain{}, term.Digest{}, term.Box{}, term.Box{N: 1}, digest(atom(0), nil), digest(nil, atom(0)), chain(1, nil, atom(0)), chain(1, atom(0), nil),
		box(nil, 0, atom(0), atom(0)), box(atom(0), 0, nil, atom(0)), box(atom(0), 0, atom(0), nil), atom(-2), digest(nil, atom(-1)),
	}) {
		holdCan(t, k, x, false)
	}
	for _, x := range (list{term.Box{Key: atom(1)}, term.Box{Key: atom(1), N: 1, Ad: atom(-1)}, digest(nil, atom(-2)), digest(digest(nil, atom(-2)), atom(0)), atom(-1)}) {
		holdCan(t, k, x, true)
	}
	holdTerms(t, k, "a-1", "b0(a1,?,?)", "b1(a1,a-1,?)", "h(?,a-2)")
	if k.See(nil) {
		t.Error("13.1: nil was seen")
	}
	holdTerms(t, k, "a-1", "b0(a1,?,?)", "b1(a1,a-1,?)", "h(?,a-2)")
}

// 13.1: terms that are larger than any that are seen, and very deep ones.
func TestCanOfLargeTerms(t *testing.T) {
	k := New([]int{5}, list{row(atom(-1), 999), row(atom(-2), 998), box(atom(-3), 0, row(atom(-4), 900), empty())})
	for _, c := range []struct {
		x    term.Term
		want bool
	}{
		{row(atom(-1), 999), true}, {row(atom(-1), 998), false}, {row(atom(-1), 1000), true}, {row(atom(-1), 60000), true},
		{row(atom(-2), 998), true}, {row(atom(-2), 997), false}, {row(atom(-2), 60000), true},
		{row(atom(-3), 60000), false}, {row(atom(-4), 899), false}, {row(atom(-4), 900), true}, {row(atom(-4), 5000), true},
		{row(shared(5, 7), 60000), true}, {row(shared(6, 7), 60000), false}, {row(nil, 60000), false}, {row(nil, 1), false},
		{digest(row(atom(-1), 1200), row(atom(-2), 1200)), true}, {digest(row(atom(-1), 1200), row(atom(-3), 1200)), false},
		{digest(row(atom(-3), 1200), row(atom(-1), 1200)), false}, {box(row(atom(0), 800), 0, row(atom(-3), 800), row(atom(0), 800)), false},
		{box(row(atom(0), 800), 0, row(atom(0), 800), row(atom(-3), 800)), false}, {box(row(atom(-3), 800), 0, row(atom(0), 800), row(atom(0), 800)), false},
		{box(row(atom(0), 800), 0, row(atom(0), 800), row(public(5), 800)), true},
	} {
		holdCan(t, k, c.x, c.want)
	}
	twice := func(x term.Term, deep int) term.Term {
		for range deep {
			x = digest(x, x)
		}
		return x
	}
	holdCan(t, k, twice(atom(0), 18), true)
	holdCan(t, k, twice(atom(-1), 40), false)
}
