package know

import (
	"fmt"
	"slices"
	"testing"

	"porthole/term"
)

// many are n terms that cannot be made, each of its own.
func many(n int) list {
	var all list
	for i := range n {
		all = append(all, term.Digest{From: atom(-1000 - i), With: empty()})
	}
	return all
}

// holdSee holds what See answers of x.
func holdSee(t *testing.T, k *Base, x term.Term, want bool) {
	t.Helper()
	if got := k.See(x); got != want {
		t.Errorf("13.1: See of %.100s: %v", shown(x), got)
	}
}

// 13.1: what is seen can be made from then on; again it is true, and one term.
func TestSee(t *testing.T) {
	k := New(nil, nil)
	for _, x := range (list{atom(-1), public(3), shared(3, 4), chain(1, atom(-2), nil), term.Digest{}, box(atom(-1), 0, atom(-3), atom(-4)), term.Box{}, other("x")}) {
		holdCan(t, k, x, false)
		holdSee(t, k, x, true)
		holdCan(t, k, x, true)
		terms := k.Terms()
		holdSee(t, k, x, true)
		holdTerms(t, k, terms...)
	}
	for _, x := range (list{empty(), atom(1)}) {
		holdSee(t, k, x, true)
	}
	holdTerms(t, k, "_", "a-1", "a-3", "a-4", "a1", "b0(?,?,?)", "b0(a-1,a-3,a-4)", "c1(a-2,?)", "h(?,?)", "p3", "s3.4", "x")
}

// 13.1: at most 400; one that is there is true though 400 are.
func TestSeeOfOneMore(t *testing.T) {
	k := New([]int{5}, nil)
	all := many(402)
	for i, x := range all {
		holdSee(t, k, x, i < 400)
		holdCan(t, k, x, i < 400)
	}
	terms := k.Terms()
	if len(terms) != 400 {
		t.Errorf("13.1: %d Terms", len(terms))
	}
	for i, x := range all {
		holdSee(t, k, term.Digest{From: atom(-1000 - i), With: empty()}, i < 400)
		holdSee(t, k, x, i < 400)
	}
	for _, x := range (list{empty(), atom(1), atom(-1), public(5), box(empty(), 0, atom(-1), atom(-2)), nil, row(empty(), 1000)}) {
		holdSee(t, k, x, false)
	}
	holdTerms(t, k, terms...)
	for _, x := range (list{atom(-1), atom(-2), box(empty(), 0, atom(-1), atom(-2)), all[400], all[401]}) {
		holdCan(t, k, x, false)
	}
	k.Learn(6)
	holdCan(t, k, public(6), true)
	holdCan(t, k, digest(all[0], all[399]), true)
}

// 13.1: 400 that were seen: what comes out of Boxes is not counted, and is seen
// only when it is.
func TestWhatCameOutIsNotCounted(t *testing.T) {
	k := New(nil, nil)
	for i := range 400 {
		holdSee(t, k, box(empty(), i, atom(-1-i), atom(-1001-i)), true)
	}
	if got := len(k.Terms()); got != 1200 {
		t.Errorf("13.1: %d Terms", got)
	}
	holdCan(t, k, atom(-1400), true)
	holdSee(t, k, atom(-1400), false)
	holdCan(t, k, atom(-1400), true)
	k = New(nil, many(398))
	holdSee(t, k, box(empty(), 0, atom(-1), atom(-2)), true)
	holdSee(t, k, atom(-1), true)
	holdSee(t, k, atom(-2), false)
	holdSee(t, k, atom(-1), true)
	if got := len(k.Terms()); got != 401 {
		t.Errorf("13.1: %d Terms", got)
	}
}

// 13.1: a Size of 2000, of 2001, and far above.
func TestSeeOfSizes(t *testing.T) {
	for size := 1900; size < 2100; size++ {
		x := row(atom(-1), (size-1)/2)
		if size%2 == 0 {
			x = row(box(atom(-1), 0, empty(), nil), (size-4)/2)
		}
		if term.Size(x) != size {
			t.Fatalf("the test's own term is of a Size of %d", term.Size(x))
		}
		k := New(nil, nil)
		holdSee(t, k, x, size <= 2000)
		holdCan(t, k, x, size <= 2000)
		holdSee(t, k, x, size <= 2000)
	}
	k := New([]int{5}, nil)
	for _, n := range []int{1000, 2000, 4999, 5000, 6000, 60000} {
		holdSee(t, k, row(atom(-1), n), false)
		holdSee(t, k, box(empty(), 0, atom(-1), row(empty(), n)), false)
		holdSee(t, k, box(empty(), 0, row(empty(), n), atom(-1)), false)
		holdSee(t, k, box(row(empty(), n), 0, atom(-1), empty()), false)
	}
	var x term.Term = empty()
	for range 60 {
		x = digest(x, x)
	}
	holdSee(t, k, digest(x, x), false)
	holdSee(t, k, box(empty(), 0, atom(-1), x), false)
	holdTerms(t, k)
	holdCan(t, k, atom(-1), false)
}

// 13.1: behind a See that was false nothing can be told to have changed.
func TestSeeThatIsFalse(t *testing.T) {
	seen := append(many(399), box(atom(-1), 0, atom(-2), atom(-3)))
	asked := list{nil, empty(), atom(-1), atom(-2), atom(-3), atom(-4), digest(atom(-1), atom(-2)), public(5), public(6), box(atom(-2), 0, empty(), atom(-5))}
	told := func(k *Base) string {
		text := fmt.Sprint(k.Terms(), k.Has(5), k.Has(6), k.Has(0))
		for _, x := range asked {
			text += fmt.Sprint(k.Can(x))
		}
		return text
	}
	k := New([]int{5}, seen)
	want := told(k)
	for _, x := range (list{nil, atom(-1), atom(-3), box(atom(-2), 0, empty(), atom(-5)), box(empty(), 0, atom(-1), atom(-1)), row(atom(-1), 1000), box(empty(), 0, atom(-1), row(atom(0), 1000)), public(6), shared(6, 6)}) {
		holdSee(t, k, x, false)
		if got := told(k); got != want {
			t.Errorf("13.1: See of %.60s was false, and changed %s to %s", shown(x), want, got)
		}
		holdSee(t, k, x, false)
	}
	k.Learn(6)
	fresh := New([]int{5, 6}, seen)
	if told(k) != told(fresh) {
		t.Error("13.1: See that was false is told later")
	}
}

// 13.1: by Name: a term that was made apart, or by who made a kind of its own,
// is there if its Name is.
func TestSeeIsOfNames(t *testing.T) {
	k := New(nil, many(399))
	holdSee(t, k, other("p3"), true)
	holdSee(t, k, public(3), true)
	holdSee(t, k, other("p4"), false)
	holdCan(t, k, public(3), true)
	holdCan(t, k, public(4), false)
	holdCan(t, k, digest(other("p3"), public(3)), true)
}

// 13.1: Learn and Has.
func TestLearn(t *testing.T) {
	seen := list{box(shared(3, 5), 0, empty(), atom(-7)), box(public(6), 0, empty(), atom(-8)), box(digest(atom(-7), atom(-8)), 0, empty(), atom(-9))}
	for _, secret := range []int{3, 5} {
		k := New(nil, seen)
		for _, n := range []int{0, 3, 5, 6, -1} {
			if k.Has(n) {
				t.Errorf("13.1: it has %d", n)
			}
		}
		holdCan(t, k, atom(-7), false)
		holdCan(t, k, public(secret), false)
		k.Learn(secret)
		k.Learn(secret)
		if !k.Has(secret) || k.Has(8-secret) || k.Has(0) || k.Has(6) {
			t.Errorf("13.1: it has not just %d", secret)
		}
		holdCan(t, k, atom(-7), true)
		holdCan(t, k, public(secret), true)
		holdCan(t, k, public(8-secret), false)
		holdCan(t, k, atom(-8), false)
		holdCan(t, k, atom(-9), false)
		if !slices.Contains(k.Terms(), "a-7") || slices.Contains(k.Terms(), "a-8") {
			t.Errorf("13.1: Terms are %q", k.Terms())
		}
		k.Learn(6)
		holdCan(t, k, atom(-8), true)
		holdCan(t, k, atom(-9), true)
		holdTerms(t, k, names(append(list{empty(), atom(-7), atom(-8), atom(-9)}, seen...)...)...)
	}
}

// 13.1: any number is a secret; it has what it was given and learned alone.
func TestHas(t *testing.T) {
	given := []int{5, 0, -1, 1 << 62, -1 << 63, 5}
	k := New(given, list{public(7), shared(8, 9), atom(10)})
	for _, n := range given {
		if !k.Has(n) {
			t.Errorf("13.1: it has no %d", n)
		}
	}
	for _, n := range []int{1, -5, 7, 8, 9, 10, 1 << 61, -1 << 62, 3} {
		if k.Has(n) {
			t.Errorf("13.1: it has %d", n)
		}
		k.Learn(n)
		if !k.Has(n) {
			t.Errorf("13.1: it has no %d", n)
		}
	}
	if k.Has(11) || !k.Has(5) {
		t.Error("13.1: Has, behind Learn")
	}
}

// 13.1: See and Learn when Can and Terms were asked, in turn.
func TestAskedInBetween(t *testing.T) {
	k, p := New(nil, nil), plainNew(nil, nil)
	steps := []term.Term{box(atom(-1), 0, atom(-2), atom(-3)), box(digest(atom(-3), public(4)), 0, empty(), atom(-5)), nil, atom(-1), box(atom(-5), 9, atom(-6), box(shared(4, 5), 0, empty(), atom(-8))), nil, box(atom(-8), 0, nil, public(6))}
	for i, x := range steps {
		holdAll(t, k, p, steps...)
		if x == nil {
			k.Learn(3 + i/2)
			p.learn(3 + i/2)
		} else if k.See(x) != p.see(x) {
			t.Errorf("13.1: See of %s", shown(x))
		}
		holdAll(t, k, p, steps...)
	}
	holdCan(t, k, public(6), true)
}
