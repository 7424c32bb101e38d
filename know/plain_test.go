package know

import (
	"math/rand"
	"slices"
	"sort"
	"testing"

	"porthole/term"
)

// list is what a base is given.
type list = []term.Term

func empty() term.Term                            { return term.Empty{} }
func atom(n int) term.Term                        { return term.Atom{N: n} }
func public(of int) term.Term                     { return term.Public{Of: of} }
func shared(a, b int) term.Term                   { return term.Shared{A: a, B: b} }
func chain(i int, from, with term.Term) term.Term { return term.Chain{I: i, From: from, With: with} }
func digest(from, with term.Term) term.Term       { return term.Digest{From: from, With: with} }
func box(key term.Term, n int, ad, text term.Term) term.Term {
	return term.Box{Key: key, N: n, Ad: ad, Text: text}
}

// plain is a base by the sentence of 13.1, word by word: what was told it, and
// nothing that was made of it.
type plain struct {
	secrets []int
	seen    list
}

func plainNew(secrets []int, seen list) *plain {
	p := &plain{secrets: slices.Clone(secrets)}
	for _, t := range seen {
		p.see(t)
	}
	return p
}

func (p *plain) see(t term.Term) bool {
	if t == nil || term.Size(t) > 2000 {
		return false
	}
	if slices.ContainsFunc(p.seen, func(u term.Term) bool { return u.Name() == t.Name() }) {
		return true
	}
	if len(p.seen) >= 400 {
		return false
	}
	p.seen = append(p.seen, t)
	return true
}

func (p *plain) learn(secret int)    { p.secrets = append(p.secrets, secret) }
func (p *plain) has(secret int) bool { return slices.Contains(p.secrets, secret) }

// parts are the terms that a term was made of.
func parts(t term.Term) list {
	switch t := t.(type) {
	case term.Chain:
		return list{t.From, t.With}
	case term.Digest:
		return list{t.From, t.With}
	case term.Box:
		return list{t.Key, t.Ad, t.Text}
	}
	return nil
}

// standing is all that stands in terms, themselves too, nil apart.
func standing(of ...term.Term) map[string]term.Term {
	all := map[string]term.Term{}
	for left := slices.Clone(of); len(left) > 0; {
		t := left[0]
		left = left[1:]
		if t != nil && all[t.Name()] == nil {
			all[t.Name()] = t
			left = append(left, parts(t)...)
		}
	}
	return all
}

// least are the Names of what can be made of all that stands in what was seen,
// and in t, and of what is out. What is made with the help of another term can
// be made without.
func (p *plain) least(t term.Term) (in, out map[string]bool) {
	in, out = map[string]bool{}, map[string]bool{}
	for _, u := range p.seen {
		out[u.Name()] = true
	}
	all := standing(append(slices.Clone(p.seen), t)...)
	for before := -1; before != len(in)+len(out); {
		before = len(in) + len(out)
		for name, u := range all {
			if out[name] || p.follows(u, in) {
				in[name] = true
			}
			if b, ok := u.(term.Box); ok && out[name] {
				comesOut(b.Ad, out)
				if b.Key != nil && in[b.Key.Name()] {
					comesOut(b.Text, out)
				}
			}
		}
	}
	return in, out
}

func comesOut(t term.Term, out map[string]bool) {
	if t != nil {
		out[t.Name()] = true
	}
}

// follows tells whether t can be put together of what is in.
func (p *plain) follows(t term.Term, in map[string]bool) bool {
	switch t := t.(type) {
	case term.Empty:
		return true
	case term.Atom:
		return t.N >= 0
	case term.Public:
		return p.has(t.Of)
	case term.Shared:
		return p.has(t.A) || p.has(t.B)
	case term.Chain, term.Digest, term.Box:
		return !slices.ContainsFunc(parts(t), func(u term.Term) bool { return u == nil || !in[u.Name()] })
	}
	return false
}

func (p *plain) can(t term.Term) bool {
	in, _ := p.least(t)
	return t != nil && in[t.Name()]
}

func (p *plain) terms() []string {
	_, out := p.least(nil)
	var names []string
	for name := range out {
		names = append(names, name)
	}
	sort.Strings(names)
	return names
}

// other is a Term of nobody's kind.
type other string

func (o other) Name() string { return string(o) }

// shown is a Name, of nil too.
func shown(t term.Term) string {
	if t == nil {
		return "?"
	}
	return t.Name()
}

// holdCan holds what is answered of t.
func holdCan(t *testing.T, k *Base, x term.Term, want bool) {
	t.Helper()
	if got := k.Can(x); got != want {
		t.Errorf("13.1: Can of %.200s: %v", shown(x), got)
	}
}

// holdTerms holds the Names of all that is out.
func holdTerms(t *testing.T, k *Base, want ...string) {
	t.Helper()
	if got := k.Terms(); !slices.Equal(got, want) {
		t.Errorf("13.1: Terms are %.400q, not %.400q", got, want)
	}
}

// holdAll holds a base against the plain one, of terms too, and of all that
// stands in what was seen.
func holdAll(t *testing.T, k *Base, p *plain, of ...term.Term) {
	t.Helper()
	holdTerms(t, k, p.terms()...)
	for secret := -1; secret < 8; secret++ {
		if k.Has(secret) != p.has(secret) {
			t.Errorf("13.1: Has of %d: %v", secret, k.Has(secret))
		}
	}
	in, _ := p.least(term.Digest{From: nil, With: heap(of)})
	for name, x := range standing(append(slices.Clone(p.seen), of...)...) {
		holdCan(t, k, x, in[name])
	}
	holdCan(t, k, nil, false)
}

// heap is one term in which all of them stand.
func heap(of list) term.Term {
	var all term.Term = empty()
	for _, t := range of {
		all = digest(all, t)
	}
	return all
}

// drawn is a term of at most so many in one another; few numbers, so that terms
// meet one another often.
func drawn(d *rand.Rand, deep int) term.Term {
	kind := d.Intn(12)
	if deep == 0 {
		kind = d.Intn(6)
	}
	part := func() term.Term { return drawn(d, deep-1) }
	switch kind {
	case 0:
		return empty()
	case 1, 2:
		return term.Atom{N: d.Intn(9) - 7}
	case 3:
		return term.Public{Of: d.Intn(6)}
	case 4:
		return term.Shared{A: d.Intn(6), B: d.Intn(6)}
	case 5:
		if d.Intn(6) == 0 {
			return nil
		}
		return term.Atom{N: -1 - d.Intn(3)}
	case 6:
		return term.Chain{I: d.Intn(2), From: part(), With: part()}
	case 7:
		return term.Digest{From: part(), With: part()}
	}
	return term.Box{Key: part(), N: d.Intn(2), Ad: part(), Text: part()}
}

// row is n Digests in one another about t: of a Size of 2n more.
func row(t term.Term, n int) term.Term {
	for range n {
		t = term.Digest{From: t, With: empty()}
	}
	return t
}

// orders are all orders of terms.
func orders(of list) []list {
	if len(of) == 0 {
		return []list{nil}
	}
	var all []list
	for i := range of {
		rest := slices.Delete(slices.Clone(of), i, i+1)
		for _, o := range orders(rest) {
			all = append(all, append(list{of[i]}, o...))
		}
	}
	return all
}
