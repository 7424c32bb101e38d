package know

import (
	"math/rand"
	"testing"

	"porthole/term"
)

// 13.1: drawn bases against the sentence.
func TestDrawnBases(t *testing.T) {
	d := rand.New(rand.NewSource(11))
	could := [2]int{}
	for range 3000 {
		secrets := d.Perm(6)[:d.Intn(3)]
		var seen, asked list
		for range d.Intn(10) {
			seen = append(seen, drawn(d, d.Intn(4)))
		}
		for range 6 {
			asked = append(asked, drawn(d, d.Intn(4)))
		}
		k, p := New(secrets, seen), plainNew(secrets, seen)
		holdAll(t, k, p, asked...)
		for _, x := range asked {
			if k.Can(x) {
				could[1]++
			} else {
				could[0]++
			}
		}
	}
	if min(could[0], could[1]) < 3000 {
		t.Errorf("the terms are drawn badly: %v", could)
	}
}

// 13.1: drawn runs of See and Learn, held at each step.
func TestDrawnRuns(t *testing.T) {
	d := rand.New(rand.NewSource(12))
	for range 250 {
		k, p := New(nil, nil), plainNew(nil, nil)
		for range 24 {
			if d.Intn(6) == 0 {
				secret := d.Intn(6)
				k.Learn(secret)
				p.learn(secret)
			} else {
				x := drawn(d, d.Intn(4))
				holdSee(t, k, x, p.see(x))
			}
			holdAll(t, k, p, drawn(d, 3), drawn(d, 4))
		}
	}
}

// 13.1: drawn Boxes whose Keys are what comes out of others, in one another; a
// secret that is learned opens the first ones.
func TestDrawnKeys(t *testing.T) {
	d := rand.New(rand.NewSource(13))
	opened := 0
	for range 600 {
		k, p := New(nil, nil), plainNew(nil, nil)
		for range 16 {
			x := box(drawnKey(d), d.Intn(2), drawnAd(d), drawnKey(d))
			holdSee(t, k, x, p.see(x))
		}
		holdAll(t, k, p)
		before := len(k.Terms())
		secret := d.Intn(4)
		k.Learn(secret)
		p.learn(secret)
		holdAll(t, k, p)
		if len(k.Terms()) > before+1 {
			opened++
		}
	}
	if opened < 100 {
		t.Errorf("the Boxes are drawn badly: in %d runs the secret opened more than one", opened)
	}
}

func drawnKey(d *rand.Rand) term.Term {
	a, b := atom(-d.Intn(12)), atom(-d.Intn(12))
	return list{a, b, digest(a, b), chain(1, b, a), shared(d.Intn(4), 9), shared(9, d.Intn(4)), box(a, 0, b, atom(-d.Intn(12)))}[d.Intn(7)]
}

func drawnAd(d *rand.Rand) term.Term {
	if d.Intn(4) == 0 {
		return box(drawnKey(d), 0, empty(), atom(-d.Intn(12)))
	}
	return atom(-d.Intn(12))
}
