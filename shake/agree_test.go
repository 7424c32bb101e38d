package shake

import (
	"fmt"
	"math/rand"
	"testing"

	"porthole/api"
	"porthole/cipher"
	"porthole/curve"
)

// ways are the ciphers of two that have said all, in both directions.
type ways struct {
	sends, receives [2]*cipher.State
}

func waysOf(t *testing.T, w two) ways {
	t.Helper()
	var all ways
	for side, one := range w {
		send, receive, ok := one.s.Split()
		if !ok {
			t.Fatalf("11.4: side %d has no Split", side)
		}
		all.sends[side], all.receives[side] = send, receive
	}
	return all
}

// goes has one side seal a text that the other opens.
func (v ways) goes(t *testing.T, name string, side int, ad, text []byte) {
	t.Helper()
	box, e := v.sends[side].Seal(ad, text)
	if e != api.OK {
		t.Errorf("%s: Seal: %d", name, e)
	}
	if _, e := v.receives[side].Copy().Open(ad, box); e != api.ErrTag {
		t.Errorf("%s: who sealed opens its own: %d", name, e)
	}
	got, e := v.receives[1-side].Open(ad, box)
	holdAnswer(t, fmt.Sprintf("%s: what side %d seals", name, side), got, e, text, api.OK)
}

// Two of any secrets agree, and what one seals the other opens, both ways, in
// order, in turn and many at once, behind new keys, too.
func TestTwoAgree(t *testing.T) {
	d := rand.New(rand.NewSource(50))
	for seed := range int64(30) {
		name := fmt.Sprintf("11.4: secrets %d", seed)
		w := pair(string(drawnText(d.Intn(100), seed)), seed)
		for step := range 3 {
			w.say(t, name, step, drawnText(d.Intn(300), seed))
		}
		w.holdEnd(t, name)
		v := waysOf(t, w)
		for i := range 40 {
			v.goes(t, name, d.Intn(2), drawnText(d.Intn(20), seed), drawnText(d.Intn(200), int64(i)))
			if i%16 == 15 {
				for side := range 2 {
					v.sends[side].Rekey()
					v.receives[side].Rekey()
				}
			}
		}
	}
}

// A box is good once, in order, and for the other side alone.
func TestBoxesInOrder(t *testing.T) {
	v := waysOf(t, ended(t))
	var boxes [][]byte
	for i := range 5 {
		box, _ := v.sends[0].Seal(nil, drawnText(i, 51))
		boxes = append(boxes, box)
	}
	if _, e := v.receives[1].Open(nil, boxes[1]); e != api.ErrTag {
		t.Errorf("11.4: the second box ahead of the first: %d", e)
	}
	for i, box := range boxes {
		got, e := v.receives[1].Open(nil, box)
		holdAnswer(t, fmt.Sprintf("11.4: box %d", i), got, e, drawnText(i, 51), api.OK)
		if _, e := v.receives[1].Open(nil, box); e != api.ErrTag {
			t.Errorf("11.4: box %d once more: %d", i, e)
		}
	}
}

// Sides with one secret for both uses, with the other's own, or that are one and
// the same: they agree as others do.
func TestSecretsInCommon(t *testing.T) {
	k := secrets(52)
	for i, l := range [][4][32]byte{
		{k[0], k[0], k[2], k[3]}, {k[0], k[1], k[2], k[2]}, {k[0], k[1], k[0], k[3]}, {k[0], k[1], k[2], k[1]},
		{k[0], k[1], k[1], k[0]}, {k[0], k[1], k[0], k[1]}, {k[0], k[0], k[0], k[0]},
	} {
		name := fmt.Sprintf("11.4: secrets in common, %d", i)
		w := two{begun(true, []byte("common"), l[0], l[1]), begun(false, []byte("common"), l[2], l[3])}
		w.goOn(t, name, 0)
		v := waysOf(t, w)
		for side := range 2 {
			v.goes(t, name, side, nil, payloadOf(side))
		}
		if peer, ok := w[0].s.Peer(); !ok || peer != curve.Public(l[2]) {
			t.Errorf("%s: Peer %x %t", name, peer, ok)
		}
	}
}

// One with two others: what it has with the one is not what it has with the
// other, though both have the same prologue.
func TestOneWithTwo(t *testing.T) {
	k, l := secrets(53), secrets(54)
	w := two{begun(true, nil, k[0], k[1]), begun(false, nil, k[2], k[3])}
	v := two{begun(true, nil, k[0], k[1]), begun(false, nil, l[2], l[3])}
	w.goOn(t, "11.4: with one", 0)
	v.goOn(t, "11.4: with another", 0)
	here, there := asTold(w[0].s), asTold(v[0].s)
	if here.hash == there.hash || here.send == there.send || here.receive == there.receive || here.peer == there.peer {
		t.Errorf("11.4: one with two: %s, and %s", words(here), words(there))
	}
}

// Somebody between two who speaks to each of them as if it were the other: both
// know it, not one another.
func TestSomebodyBetween(t *testing.T) {
	k, l := secrets(55), secrets(56)
	near := two{begun(true, nil, k[0], k[1]), begun(false, nil, l[0], l[1])}
	far := two{begun(true, nil, l[0], l[1]), begun(false, nil, k[2], k[3])}
	near.goOn(t, "11.4: near", 0)
	far.goOn(t, "11.4: far", 0)
	if peer, _ := near[0].s.Peer(); peer != curve.Public(l[0]) {
		t.Errorf("11.4: who is first knows %x", peer)
	}
	if peer, _ := far[1].s.Peer(); peer != curve.Public(l[0]) {
		t.Errorf("11.4: the other knows %x", peer)
	}
	if near[0].s.Hash() == far[1].s.Hash() {
		t.Error("11.4: the two that are apart have one hash")
	}
}
