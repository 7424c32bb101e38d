package know

import (
	"fmt"
	"math/rand"
	"slices"
	"sync"
	"testing"
)

// told is all that a base tells of the terms.
func told(k *Base, of list) string {
	text := fmt.Sprint(k.Terms())
	for n := -1; n < 8; n++ {
		text += fmt.Sprint(k.Has(n))
	}
	for _, x := range of {
		text += fmt.Sprint(k.Can(x))
	}
	return text
}

// drawnList is a list with spare room, in which something stands.
func drawnList(d *rand.Rand, n int) (used, whole list) {
	for range n + 3 {
		whole = append(whole, drawn(d, 3))
	}
	return whole[:n], whole
}

// R2: what New is given is as it was, its spare room too, and may be turned
// behind it.
func TestListsOfNew(t *testing.T) {
	d := rand.New(rand.NewSource(21))
	for range 300 {
		seen, whole := drawnList(d, d.Intn(9))
		asked, _ := drawnList(d, 12)
		allSecrets := []int{d.Intn(6), d.Intn(6), 6, 7}
		secrets := allSecrets[:2]
		wholeThen, secretsThen := slices.Clone(whole), slices.Clone(allSecrets)
		k := New(secrets, seen)
		want := told(k, asked)
		if !slices.Equal(whole, wholeThen) || !slices.Equal(allSecrets, secretsThen) {
			t.Fatal("R2: New turned what it was given")
		}
		for i := range whole {
			whole[i] = atom(-50 - i)
		}
		for i := range allSecrets {
			allSecrets[i] = i + 2
		}
		if got := told(k, asked); got != want {
			t.Fatal("R2: a list that New was given is kept")
		}
		k.See(box(empty(), 0, empty(), empty()))
		if k.Can(atom(-50)) || whole[0] != (atom(-50)) || !slices.Equal(allSecrets, []int{2, 3, 4, 5}) {
			t.Fatal("R2: a list that New was given is kept, or turned")
		}
	}
}

// R2: a list that Terms answered may be written into, and grown.
func TestListsOfTerms(t *testing.T) {
	d := rand.New(rand.NewSource(22))
	for range 300 {
		seen, _ := drawnList(d, 1+d.Intn(9))
		k := New([]int{d.Intn(6)}, seen)
		first, second := k.Terms(), k.Terms()
		want := slices.Clone(second)
		for i := range first[:cap(first)] {
			first[:cap(first)][i] = "spoilt"
		}
		if !slices.Equal(second, want) {
			t.Fatal("R2: two lists of Terms share memory")
		}
		holdTerms(t, k, want...)
		for i := range second[:cap(second)] {
			second[:cap(second)][i] = "spoilt"
		}
		holdTerms(t, k, want...)
		k.See(atom(-60))
		if slices.Contains(k.Terms(), "spoilt") {
			t.Fatal("R2: a list of Terms is kept")
		}
	}
}

// R4: what is asked turns nothing, and the same is answered again, of a base
// that was told the same, too.
func TestSameAgain(t *testing.T) {
	d := rand.New(rand.NewSource(23))
	for range 300 {
		seen, _ := drawnList(d, d.Intn(12))
		asked, _ := drawnList(d, 12)
		secrets := []int{d.Intn(6)}
		k := New(secrets, seen)
		want := told(k, asked)
		for range 3 {
			if told(k, asked) != want {
				t.Fatal("R4: another answer of the same base")
			}
			if told(New(secrets, seen), asked) != want {
				t.Fatal("R4: another answer of a base that was told the same")
			}
		}
	}
}

// R7: two bases of the same lists know nothing of one another.
func TestBasesApart(t *testing.T) {
	d := rand.New(rand.NewSource(24))
	for range 200 {
		seen, _ := drawnList(d, 6)
		secrets := []int{1}
		a, b := New(secrets, seen), New(secrets, seen)
		asked, _ := drawnList(d, 12)
		asked = append(asked, atom(-70), atom(-71), public(7))
		want := told(b, asked)
		for range 12 {
			a.See(drawn(d, 3))
		}
		a.See(box(atom(1), 0, atom(-70), atom(-71)))
		a.Learn(7)
		a.Learn(0)
		if told(b, asked) != want {
			t.Fatal("R7: a base knows what another one was told")
		}
		if !a.Can(atom(-70)) || !a.Can(atom(-71)) || !a.Has(7) || b.Has(7) || b.Can(public(7)) {
			t.Fatal("R7: a base was told what another one was")
		}
	}
}

// R4, R7: bases that are told and asked beside one another, of the same terms;
// and one base that is asked beside itself.
func TestBesideOneAnother(t *testing.T) {
	const n = 24
	d := rand.New(rand.NewSource(25))
	seen, _ := drawnList(d, 30)
	asked, _ := drawnList(d, 30)
	run := func(i int) string {
		k := New([]int{i % 6}, seen[:i])
		for _, x := range seen[i:] {
			k.See(x)
		}
		k.Learn((i + 1) % 6)
		return told(k, asked)
	}
	one := New([]int{2}, seen)
	oneWant := told(one, asked)
	var want, got, ones [n]string
	for i := range n {
		want[i] = run(i)
	}
	var all sync.WaitGroup
	for i := range n {
		all.Go(func() {
			got[i] = run(i)
			ones[i] = told(one, asked)
		})
	}
	all.Wait()
	for i := range n {
		if got[i] != want[i] || ones[i] != oneWant {
			t.Errorf("R4: base %d told something else beside others", i)
		}
	}
}
