package know

import (
	"math/rand"
	"slices"
	"testing"

	"porthole/term"
)

// 13.1: the Ad of a Box that was seen always; its Text if its Key can be.
func TestBoxes(t *testing.T) {
	k := New([]int{5}, list{
		box(atom(-1), 0, atom(-2), atom(-3)),
		box(public(5), 7, atom(-4), atom(-5)),
		box(empty(), -7, digest(atom(-6), atom(-7)), chain(1, atom(-8), atom(-9))),
		box(nil, 0, atom(-10), atom(-11)),
	})
	for _, x := range (list{atom(-2), atom(-4), atom(-5), digest(atom(-6), atom(-7)), chain(1, atom(-8), atom(-9)), atom(-10)}) {
		holdCan(t, k, x, true)
	}
	for _, x := range (list{atom(-1), atom(-3), atom(-6), atom(-7), atom(-8), atom(-9), atom(-11)}) {
		holdCan(t, k, x, false)
	}
	holdTerms(t, k, "a-10", "a-2", "a-4", "a-5", "b-7(_,h(a-6,a-7),c1(a-8,a-9))", "b0(?,a-10,a-11)", "b0(a-1,a-2,a-3)", "b7(p5,a-4,a-5)", "c1(a-8,a-9)", "h(a-6,a-7)")
}

// 13.1: a Box is opened by its own Key alone, whatever its number.
func TestKeys(t *testing.T) {
	for _, n := range []int{0, 1, 99, -1} {
		for _, key := range (list{atom(0), atom(-1), public(3), shared(3, 4), chain(1, empty(), atom(-1)), digest(atom(-1), empty()), box(atom(-1), 0, empty(), empty())}) {
			sealed := box(key, n, empty(), atom(-5))
			holdCan(t, New(nil, list{sealed}), atom(-5), key == atom(0))
			holdCan(t, New(nil, list{sealed, key}), atom(-5), true)
			holdCan(t, New(nil, list{key, sealed}), atom(-5), true)
			holdCan(t, New(nil, list{sealed, digest(key, atom(-2)), chain(2, empty(), atom(-2)), shared(4, 3), public(4)}), atom(-5), key == atom(0))
		}
	}
}

// 13.1: the Key of a Box that is opened need not be out: it may be put together
// of secrets and of what came out, in a Chain, a Digest, a Shared, a Box.
func TestKeysThatArePutTogether(t *testing.T) {
	out := box(empty(), 0, atom(-1), atom(-2))
	for _, c := range []struct {
		key  term.Term
		want bool
	}{
		{atom(-1), true}, {atom(-2), true}, {atom(-3), false},
		{chain(2, atom(-1), atom(-2)), true}, {chain(2, atom(-3), atom(-2)), false}, {chain(2, atom(-2), atom(-3)), false},
		{digest(atom(-2), atom(-1)), true}, {digest(atom(-1), atom(-3)), false}, {digest(atom(-3), atom(-1)), false},
		{shared(3, 5), true}, {shared(5, 8), true}, {shared(3, 8), false}, {public(5), true}, {public(8), false},
		{chain(2, chain(1, empty(), shared(5, 7)), digest(atom(-1), public(5))), true},
		{chain(2, chain(1, empty(), shared(6, 7)), digest(atom(-1), public(5))), false},
		{box(atom(-1), 3, atom(-2), atom(4)), true}, {box(atom(-1), 3, atom(-3), atom(4)), false}, {nil, false}, {digest(nil, nil), false},
	} {
		sealed := box(c.key, 2, empty(), atom(-9))
		for _, seen := range orders(list{out, sealed}) {
			k := New([]int{5}, seen)
			holdCan(t, k, atom(-9), c.want)
			if got := slices.Contains(k.Terms(), "a-9"); got != c.want {
				t.Errorf("13.1: the Text came out with the Key %s: %v", shown(c.key), got)
			}
			if c.key != nil && slices.Contains(k.Terms(), c.key.Name()) != (c.key == atom(-1) || c.key == atom(-2)) {
				t.Errorf("13.1: the Key %s is told to be out", shown(c.key))
			}
		}
	}
}

// 13.1: Boxes that come out of Boxes, as Ad and as Text, several deep.
func TestBoxesInBoxes(t *testing.T) {
	for deep := range 12 {
		for ways := range 1 << deep {
			var x term.Term = atom(-1)
			needed := map[int]bool{}
			for i := range deep {
				if ways>>i&1 == 0 {
					x = box(atom(-10-i), i, x, empty())
				} else {
					x = box(atom(-10-i), i, empty(), x)
					needed[-10-i] = true
				}
			}
			holdCan(t, New(nil, list{x}), atom(-1), len(needed) == 0)
			k := New(nil, list{x})
			for key := range needed {
				holdCan(t, k, atom(-1), false)
				k.See(atom(key))
			}
			holdCan(t, k, atom(-1), true)
		}
	}
}

// 13.1: very deep ones, and all that comes out of them.
func TestManyBoxesInOneAnother(t *testing.T) {
	for _, asText := range []bool{false, true} {
		var x term.Term = atom(-1)
		for range 666 {
			if asText {
				x = box(public(5), 0, empty(), x)
			} else {
				x = box(public(5), 0, x, empty())
			}
		}
		k := New(nil, nil)
		if term.Size(x) != 1999 || !k.See(x) {
			t.Fatal("13.1: See of 666 Boxes in one another")
		}
		holdCan(t, k, atom(-1), !asText)
		want := 668 - 1 // the Texts are shut
		if asText {
			want = 2
		}
		if got := len(k.Terms()); got != want {
			t.Errorf("13.1: %d Terms, not %d", got, want)
		}
		k.Learn(5)
		holdCan(t, k, atom(-1), true)
		if got := len(k.Terms()); got != 668 {
			t.Errorf("13.1: %d Terms, not 668", got)
		}
	}
}

// 13.1: Keys that come out of other Boxes in a later round alone, whatever the
// order in which they were seen.
func TestLaterRounds(t *testing.T) {
	seen := list{
		box(atom(-1), 0, empty(), box(atom(-2), 1, atom(-3), atom(-4))),
		box(digest(atom(-3), atom(-3)), 0, empty(), atom(-2)),
		box(chain(1, atom(-4), shared(5, 6)), 0, empty(), atom(-5)),
		box(atom(-5), 2, empty(), atom(-6)),
		box(box(atom(-6), 0, atom(0), atom(0)), 0, empty(), atom(-7)),
	}
	for _, order := range orders(seen) {
		k := New([]int{5}, order)
		for n := 1; n <= 7; n++ {
			holdCan(t, k, atom(-n), false)
		}
		k.See(atom(-1))
		for n := 1; n <= 7; n++ {
			holdCan(t, k, atom(-n), true)
		}
		holdCan(t, k, atom(-8), false)
		k = New([]int{5}, append(order, atom(-1)))
		holdCan(t, k, atom(-7), true)
		k = New([]int{6}, append(list{atom(-1)}, order...))
		holdCan(t, k, atom(-7), true)
		k = New([]int{7}, append(list{atom(-1)}, order...))
		holdCan(t, k, atom(-4), true)
		holdCan(t, k, atom(-5), false)
	}
}

// 13.1: a row of 399 Boxes each of which has the next one's Key, from one end,
// from the other, and in drawn orders.
func TestManyRounds(t *testing.T) {
	var row list
	for n := range 399 {
		row = append(row, box(atom(-n-1), n, empty(), atom(-n-2)))
	}
	d := rand.New(rand.NewSource(1))
	for i := range 6 {
		switch {
		case i == 1:
			slices.Reverse(row)
		case i > 1:
			d.Shuffle(len(row), func(i, j int) { row[i], row[j] = row[j], row[i] })
		}
		k := New(nil, row)
		holdTerms(t, k, names(append(list{empty()}, row...)...)...)
		holdCan(t, k, atom(-400), false)
		if !k.See(atom(-201)) {
			t.Error("13.1: See of the 400th")
		}
		holdCan(t, k, atom(-200), false)
		holdCan(t, k, atom(-400), true)
		holdCan(t, k, atom(-401), false)
		if got := len(k.Terms()); got != 400+200 {
			t.Errorf("13.1: %d Terms", got)
		}
	}
}

// names are Names, rising, each once.
func names(of ...term.Term) []string {
	var all []string
	for _, t := range of {
		all = append(all, t.Name())
	}
	slices.Sort(all)
	return slices.Compact(all)
}

// 13.1: a Box that can only be put together, or stands in another term, is not
// one that is opened.
func TestBoxesThatAreNotOut(t *testing.T) {
	inner := box(empty(), 0, atom(-1), atom(-2))
	for _, x := range (list{chain(1, inner, empty()), digest(empty(), inner), box(inner, 0, empty(), empty()), box(atom(-3), 0, empty(), inner), digest(digest(inner, inner), inner)}) {
		k := New([]int{5}, list{x})
		holdCan(t, k, inner, false)
		holdCan(t, k, atom(-1), false)
		holdCan(t, k, atom(-2), false)
	}
	k := New([]int{5}, nil)
	mine := box(public(5), 0, atom(1), shared(5, 6))
	holdCan(t, k, mine, true)
	holdCan(t, k, shared(5, 6), true)
	holdTerms(t, k)
	k = New(nil, list{box(public(5), 1, atom(1), atom(-1))})
	for _, x := range (list{box(public(5), 1, atom(1), atom(1)), box(public(5), 0, atom(1), atom(-1)), atom(-1)}) {
		holdCan(t, k, x, false)
	}
	k.Learn(5)
	holdCan(t, k, box(public(5), 1, atom(1), atom(1)), true)
	holdCan(t, k, box(public(5), 0, atom(1), atom(-1)), true)
	holdTerms(t, k, "a-1", "a1", "b1(p5,a1,a-1)")
}

// 13.1: a Box whose Text is what its own Key is made of is shut; two that have
// one another's Keys are, too.
func TestCircles(t *testing.T) {
	k := New(nil, list{box(atom(-1), 0, empty(), atom(-1)), box(atom(-2), 0, empty(), atom(-3)), box(digest(empty(), atom(-3)), 0, empty(), atom(-2))})
	for n := 1; n <= 3; n++ {
		holdCan(t, k, atom(-n), false)
	}
	k.See(atom(-3))
	holdCan(t, k, atom(-2), true)
	holdCan(t, k, atom(-1), false)
	k = New(nil, list{box(box(atom(-1), 0, empty(), atom(-2)), 1, box(atom(-1), 0, empty(), atom(-2)), atom(-1))})
	holdCan(t, k, atom(-1), true)
	holdCan(t, k, atom(-2), true)
}
