package term

import (
	"fmt"
	"math"
	"math/rand"
	"strconv"
	"strings"
	"testing"
)

// plainName is a Name by the sentence of 12.1, word by word.
func plainName(t Term) string {
	switch t := t.(type) {
	case nil:
		return "?"
	case Empty:
		return "_"
	case Atom:
		return fmt.Sprintf("a%d", t.N)
	case Public:
		return fmt.Sprintf("p%d", t.Of)
	case Shared:
		return fmt.Sprintf("s%d.%d", t.A, t.B)
	case Chain:
		return fmt.Sprintf("c%d(%s,%s)", t.I, plainName(t.From), plainName(t.With))
	case Digest:
		return fmt.Sprintf("h(%s,%s)", plainName(t.From), plainName(t.With))
	case Box:
		return fmt.Sprintf("b%d(%s,%s,%s)", t.N, plainName(t.Key), plainName(t.Ad), plainName(t.Text))
	}
	panic("no kind of the chapter's")
}

// parts are the terms that a term was made of.
func parts(t Term) []Term {
	switch t := t.(type) {
	case Chain:
		return []Term{t.From, t.With}
	case Digest:
		return []Term{t.From, t.With}
	case Box:
		return []Term{t.Key, t.Ad, t.Text}
	}
	return nil
}

// standing is all the terms that stand in t, itself too, each as often as it
// stands.
func standing(t Term) []Term {
	all := []Term{t}
	for i := 0; i < len(all); i++ {
		all = append(all, parts(all[i])...)
	}
	return all
}

// plainSize is a Size by counting all of them.
func plainSize(t Term) int {
	return min(len(standing(t)), 10000)
}

// plainDh is what two secrets make.
func plainDh(secret int, t Term) (Term, bool) {
	public, ok := t.(Public)
	switch {
	case !ok:
		return nil, false
	case secret < public.Of:
		return Shared{secret, public.Of}, true
	default:
		return Shared{public.Of, secret}, true
	}
}

// reader makes terms of Names again.
type reader struct {
	left string
}

// skip passes over a text that must come.
func (r *reader) skip(text string) {
	if !strings.HasPrefix(r.left, text) {
		panic("a Name with no " + text + " at " + r.left)
	}
	r.left = r.left[len(text):]
}

func (r *reader) number() int {
	n := 0
	for n < len(r.left) && strings.ContainsRune("-0123456789", rune(r.left[n])) {
		n++
	}
	number, err := strconv.Atoi(r.left[:n])
	if err != nil {
		panic(err)
	}
	r.left = r.left[n:]
	return number
}

// parts are n terms in brackets.
func (r *reader) parts(n int) []Term {
	all := make([]Term, n)
	for i := range all {
		r.skip("(,"[min(i, 1):][:1])
		all[i] = r.term()
	}
	r.skip(")")
	return all
}

func (r *reader) term() Term {
	kind := r.left[:1]
	r.skip(kind)
	switch kind {
	case "?":
		return nil
	case "_":
		return Empty{}
	case "a":
		return Atom{r.number()}
	case "p":
		return Public{r.number()}
	case "s":
		a := r.number()
		r.skip(".")
		return Shared{a, r.number()}
	case "c":
		i := r.number()
		of := r.parts(2)
		return Chain{i, of[0], of[1]}
	case "h":
		of := r.parts(2)
		return Digest{of[0], of[1]}
	case "b":
		n := r.number()
		of := r.parts(3)
		return Box{of[0], n, of[1], of[2]}
	}
	panic("a Name of no kind: " + kind)
}

// made is the term of a Name, made apart from all others.
func made(name string) Term {
	r := reader{name}
	t := r.term()
	if r.left != "" {
		panic("a Name with more behind it: " + r.left)
	}
	return t
}

// edgeNumbers are 0, of one digit and of more, below 0, the least, the greatest.
func edgeNumbers() []int {
	all := []int{0, math.MinInt, math.MaxInt, math.MinInt + 1, math.MaxInt - 1}
	for _, n := range []int{1, 2, 5, 9, 10, 11, 19, 99, 100, 101, 999, 1000, 12345, 1<<31 - 1, 1 << 31, 1<<32 - 1, 1 << 32, 1000000007} {
		all = append(all, n, -n)
	}
	return all
}

// kinds are a term of each kind, and nil.
func kinds() []Term {
	return []Term{
		nil, Empty{}, Atom{3}, Public{3}, Shared{3, 5},
		Chain{3, Atom{3}, Public{5}}, Digest{Atom{3}, Public{5}}, Box{Atom{3}, 3, Public{5}, Empty{}},
	}
}

// drawn is any term with at most that many in one another above the last, or
// nil; most numbers are small, so that some terms come twice.
func drawn(d *rand.Rand, deep int) Term {
	numbers := edgeNumbers()
	number := func() int {
		if d.Intn(3) > 0 {
			return d.Intn(4) - 1
		}
		return numbers[d.Intn(len(numbers))]
	}
	kind := d.Intn(12)
	if deep == 0 {
		kind = d.Intn(5)
	}
	switch kind {
	case 0:
		return nil
	case 1:
		return Empty{}
	case 2:
		return Atom{number()}
	case 3:
		return Public{number()}
	case 4:
		return Shared{number(), number()}
	case 5, 6, 7:
		return Chain{number(), drawn(d, deep-1), drawn(d, deep-1)}
	case 8, 9:
		return Digest{drawn(d, deep-1), drawn(d, deep-1)}
	default:
		return Box{drawn(d, deep-1), number(), drawn(d, deep-1), drawn(d, deep-1)}
	}
}

// doubled is a Digest of Digests: of 2^deep times t, and all that stand above.
func doubled(t Term, deep int) Term {
	for range deep {
		t = Digest{t, t}
	}
	return t
}

// row is n Digests in one another about t: 2n more terms.
func row(t Term, n int) Term {
	for range n {
		t = Digest{t, nil}
	}
	return t
}

// shown is a term for a message, nil too.
func shown(t Term) string {
	return fmt.Sprintf("%#v", t)
}

func holdName(t *testing.T, x Term, want string) {
	t.Helper()
	if got := x.Name(); got != want {
		t.Errorf("12.1: the Name of %s: %q, not %q", shown(x), got, want)
	}
}

func holdSame(t *testing.T, a, b Term, want bool) {
	t.Helper()
	if Same(a, b) != want || Same(b, a) != want {
		t.Errorf("12.1: Same of %s and %s: %v and, the other way round, %v; not %v", shown(a), shown(b), Same(a, b), Same(b, a), want)
	}
}

func holdSize(t *testing.T, name string, x Term, want int) {
	t.Helper()
	if got := Size(x); got != want {
		t.Errorf("12.1: the Size of %s: %d, not %d", name, got, want)
	}
}

func holdDh(t *testing.T, secret int, x Term, want Term, wantOK bool) {
	t.Helper()
	if got, ok := Dh(secret, x); got != want || ok != wantOK {
		t.Errorf("12.1: Dh(%d, %s): %s and %v, not %s and %v", secret, shown(x), shown(got), ok, shown(want), wantOK)
	}
}

// mustBox is MustBox, and whether it panics.
func mustBox(t Term) (b Box, panics bool) {
	defer func() { panics = recover() != nil }()
	return MustBox(t), false
}
