package know

import (
	"math/rand"
	"slices"
	"testing"

	"porthole/term"
)

// 13.1: Terms are what was seen and what came out, and none of what can only be
// put together.
func TestTerms(t *testing.T) {
	holdTerms(t, New(nil, nil))
	holdTerms(t, New([]int{5, 6}, nil))
	k := New([]int{5}, list{digest(atom(-1), atom(-2)), box(public(5), 0, atom(3), chain(1, atom(-3), public(6))), box(public(6), 1, public(5), atom(-4)), shared(5, 6)})
	want := []string{"a3", "b0(p5,a3,c1(a-3,p6))", "b1(p6,p5,a-4)", "c1(a-3,p6)", "h(a-1,a-2)", "p5", "s5.6"}
	holdTerms(t, k, want...)
	for _, x := range (list{atom(1), empty(), public(5), shared(5, 7), digest(atom(1), public(5)), box(empty(), 0, empty(), atom(9))}) {
		holdCan(t, k, x, true)
		holdTerms(t, k, want...)
	}
}

// 13.1: rising, each once, whatever the order in which they were seen; of Names
// of which one begins another the shorter one is ahead.
func TestTermsRise(t *testing.T) {
	seen := list{
		atom(1), atom(10), atom(100), atom(11), atom(2), atom(-1), atom(-10), atom(0), public(1), public(10), public(-1), shared(1, 2), shared(1, 20), shared(12, 0),
		empty(), term.Digest{}, digest(nil, empty()), chain(1, nil, nil), chain(10, nil, nil), term.Box{N: 1}, term.Box{N: 10}, term.Box{N: -1}, box(empty(), 0, atom(1), atom(10)),
	}
	want := []string{
		"_", "a-1", "a-10", "a0", "a1", "a10", "a100", "a11", "a2", "b-1(?,?,?)", "b0(_,a1,a10)", "b1(?,?,?)", "b10(?,?,?)",
		"c1(?,?)", "c10(?,?)", "h(?,?)", "h(?,_)", "p-1", "p1", "p10", "s1.2", "s1.20", "s12.0",
	}
	d := rand.New(rand.NewSource(2))
	for range 200 {
		k := New(nil, seen)
		holdTerms(t, k, want...)
		for _, x := range seen {
			k.See(x)
		}
		holdTerms(t, k, want...)
		d.Shuffle(len(seen), func(i, j int) { seen[i], seen[j] = seen[j], seen[i] })
	}
}

// 13.1: New of terms and of secrets of which some come twice, of nil and of
// large ones, and of none.
func TestNew(t *testing.T) {
	k := New([]int{5, 5, 6, 5}, list{public(3), nil, atom(-1), public(3), row(empty(), 1000), atom(-1), digest(nil, nil), nil, term.Digest{}})
	holdTerms(t, k, "a-1", "h(?,?)", "p3")
	if !k.Has(5) || !k.Has(6) || k.Has(4) {
		t.Error("13.1: the secrets of New")
	}
	for _, x := range (list{public(3), atom(-1), public(5), public(6), term.Digest{}}) {
		holdCan(t, k, x, true)
	}
	holdCan(t, k, nil, false)
	for _, none := range []*Base{New(nil, nil), New([]int{}, list{}), New(nil, list{nil, nil})} {
		holdTerms(t, none)
		holdCan(t, none, atom(-1), false)
		holdCan(t, none, public(0), false)
		holdCan(t, none, empty(), true)
		if none.Has(0) {
			t.Error("13.1: it has a secret")
		}
		holdSee(t, none, atom(-1), true)
		none.Learn(0)
		holdCan(t, none, digest(public(0), atom(-1)), true)
		holdTerms(t, none, "a-1")
	}
}

// 13.1: New of 400 terms, and of more, of which the first 400 are seen; those
// that come twice, nil and large ones are not counted.
func TestNewOfMany(t *testing.T) {
	for _, n := range []int{399, 400, 401, 500, 1000} {
		all := many(n)
		k := New(nil, all)
		for i, x := range all {
			holdCan(t, k, x, i < 400)
		}
		if got := len(k.Terms()); got != min(n, 400) {
			t.Errorf("13.1: New of %d terms has %d", n, got)
		}
		holdSee(t, k, atom(-1), n < 400)
		var each list
		for _, x := range all {
			each = append(each, x, nil, x, all[0], row(atom(-1), 1000))
		}
		again := New(nil, each)
		holdTerms(t, again, New(nil, all).Terms()...)
		holdSee(t, again, atom(-1), n < 400)
	}
	secrets := make([]int, 5000)
	for i := range secrets {
		secrets[i] = i - 2500
	}
	k := New(secrets, many(400))
	for _, n := range secrets {
		if !k.Has(n) {
			t.Errorf("13.1: it has no %d", n)
		}
	}
	k.Learn(9000)
	if !k.Has(9000) {
		t.Error("13.1: Learn of many")
	}
}

// 13.1: New is as See of each and Learn of each, in whichever order.
func TestNewIsSeeOfEach(t *testing.T) {
	d := rand.New(rand.NewSource(3))
	for range 400 {
		var seen list
		for range d.Intn(12) {
			seen = append(seen, drawn(d, 3))
		}
		secrets := []int{d.Intn(6), d.Intn(6)}
		want := New(secrets, seen).Terms()
		ahead, behind := New(secrets, nil), New(nil, nil)
		turned := slices.Clone(seen)
		slices.Reverse(turned)
		for i, x := range seen {
			if ahead.See(x) != (x != nil) || behind.See(turned[i]) != (turned[i] != nil) {
				t.Error("13.1: See of a small term")
			}
		}
		behind.Learn(secrets[1])
		behind.Learn(secrets[0])
		holdTerms(t, ahead, want...)
		holdTerms(t, behind, want...)
		var x term.Term = drawn(d, 4)
		if ahead.Can(x) != behind.Can(x) {
			t.Errorf("13.1: Can of %s hangs on the order", shown(x))
		}
	}
}
