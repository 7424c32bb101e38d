package term

import (
	"fmt"
	"math/rand"
	"sync"
	"testing"
)

// answers is all that is answered of two terms.
type answers struct {
	name     string
	same     bool
	size     int
	shared   Term
	ok       bool
	box      Box
	panicked bool
}

func asked(secret int, a, b Term) answers {
	var all answers
	if a != nil {
		all.name = a.Name()
	}
	all.same, all.size = Same(a, b), Size(a)
	all.shared, all.ok = Dh(secret, a)
	all.box, all.panicked = mustBox(a)
	return all
}

// plainly is the same by the sentence.
func plainly(secret int, a, b Term) answers {
	var all answers
	if a != nil {
		all.name = plainName(a)
	}
	all.same, all.size = plainName(a) == plainName(b), plainSize(a)
	all.shared, all.ok = plainDh(secret, a)
	box, ok := a.(Box)
	all.box, all.panicked = box, !ok
	return all
}

// R2, R4: what is handed in is as it was, and the same is answered again.
func TestSameAgain(t *testing.T) {
	d := rand.New(rand.NewSource(41))
	for i := range 4000 {
		a, b := drawn(d, d.Intn(5)), drawn(d, d.Intn(5))
		if i%3 == 0 {
			b = made(plainName(a))
		}
		first, second := made(plainName(a)), made(plainName(b))
		want := plainly(i%7-1, a, b)
		for range 2 {
			if got := asked(i%7-1, a, b); got != want {
				t.Errorf("R4: of %s and %s: %+v, not %+v", shown(a), shown(b), got, want)
			}
		}
		if a != first || b != second {
			t.Errorf("R2: %s or %s was turned", shown(first), shown(second))
		}
	}
}

// R4: they may be asked beside one another, of one term too.
func TestAskedBesideOneAnother(t *testing.T) {
	const n = 60
	d := rand.New(rand.NewSource(42))
	of := drawn(d, 6)
	var want, got [n]answers
	for i := range n {
		want[i] = asked(i, of, kinds()[i%8])
	}
	var all sync.WaitGroup
	for i := range n {
		all.Go(func() { got[i] = asked(i, of, kinds()[i%8]) })
	}
	all.Wait()
	for i := range n {
		if got[i] != want[i] {
			t.Errorf("R4: %+v, not %+v", got[i], want[i])
		}
	}
}

// counting is a Term that counts how often it is asked.
type counting struct{ asked *int }

func (c counting) Name() string {
	*c.asked++
	return fmt.Sprint("x", *c.asked)
}

// R4: nothing is kept from call to call: a part that tells another Name is
// heard again.
func TestNothingIsKept(t *testing.T) {
	n := 0
	x := Chain{1, Atom{1}, counting{&n}}
	for i := range 5 {
		holdName(t, x, fmt.Sprintf("c1(a1,x%d)", i+1))
	}
}
