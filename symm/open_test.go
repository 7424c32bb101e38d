package symm

import (
	"fmt"
	"testing"

	"porthole/aead"
	"porthole/api"
)

// onItsWay is a state that has a key, and has sealed and opened with it.
func onItsWay(t *testing.T) both {
	t.Helper()
	b := keyed("on its way", "k")
	for n := range 3 {
		b.seal(t, "10.1: on its way", drawnText(n, 1))
		b.open(t, "10.1: on its way", b.p.box(drawnText(n, 2)))
		b.mixHash(drawnText(n, 3))
	}
	return b
}

// holdRefused holds that a state refuses a box with an error, however often it
// comes, is as it was, and takes the right one next.
func holdRefused(t *testing.T, name string, box []byte, want api.Errno) {
	t.Helper()
	b := onItsWay(t)
	was := asTold(b.s)
	for range 2 {
		got, e := b.s.Open(box)
		holdAnswer(t, name, got, e, nil, want)
		holdState(t, name, b.s, was)
	}
	b.open(t, name+", and then the right one", b.p.box(drawnText(12, 4)))
	b.seal(t, name+", and then its own", drawnText(5, 5))
	b.split(t, name)
}

// due is the box that a state on its way takes next.
func due(t *testing.T, text []byte) []byte {
	t.Helper()
	return onItsWay(t).p.box(text)
}

// A bit turned, in any byte of the text, of the tag; a byte more.
func TestOpenOfTurnedBytes(t *testing.T) {
	for _, n := range []int{0, 1, 16, 70} {
		box := due(t, drawnText(n, 6))
		for at := range box {
			holdRefused(t, fmt.Sprintf("10.1: Open of %d bytes, byte %d turned", n, at), turnedAt(box, at), api.ErrTag)
		}
		holdRefused(t, "10.1: Open of one byte more", append(box, 0), api.ErrTag)
	}
}

// Less than a tag is ErrShort; from 16 bytes on it is ErrTag.
func TestOpenOfCutBoxes(t *testing.T) {
	box := due(t, drawnText(40, 7))
	for n := range len(box) {
		want := api.ErrTag
		if n < aead.Overhead {
			want = api.ErrShort
		}
		holdRefused(t, fmt.Sprintf("10.1: Open of %d bytes of a box", n), box[:n], want)
		holdRefused(t, fmt.Sprintf("10.1: Open of %d bytes 0", n), make([]byte, n), want)
	}
}

// A box of another hash, key or nonce: h is the ad, and nothing else is.
func TestOpenOfOtherBoxes(t *testing.T) {
	text := drawnText(30, 8)
	p := *onItsWay(t).p
	for name, turn := range map[string]func(p *plain){
		"h of one more of no bytes": func(p *plain) { p.mixHash(nil) },
		"h with a bit turned":       func(p *plain) { p.hash[31] ^= 0x80 },
		"h of 0s":                   func(p *plain) { p.hash = [32]byte{} },
		"the chain key as h":        func(p *plain) { p.hash = p.chain },
		"the chain key as key":      func(p *plain) { p.key = p.chain },
		"a key with a bit turned":   func(p *plain) { p.key[0] ^= 1 },
		"the nonce ahead":           func(p *plain) { p.nonce-- },
		"the next nonce":            func(p *plain) { p.nonce++ },
		"nonce 0":                   func(p *plain) { p.nonce = 0 },
		"the next key":              func(p *plain) { p.mixKey(nil) },
	} {
		other := p
		turn(&other)
		holdRefused(t, "10.1: Open of a box of "+name, other.box(text), api.ErrTag)
	}
	for name, ad := range map[string][]byte{
		"no ad": nil, "less of h": p.hash[:31], "more than h": append(p.hash[:], 0),
	} {
		box := aead.Seal(p.key, aead.Nonce(p.nonce), ad, text)
		holdRefused(t, "10.1: Open of a box with "+name+" as ad", box, api.ErrTag)
	}
}

// Boxes that come twice, in the wrong order, with one left out: each is taken
// at its own place alone.
func TestOpenOutOfOrder(t *testing.T) {
	const count = 10
	s, r := keyed("order", "k"), keyed("order", "k")
	var boxes [][]byte
	for i := range count {
		boxes = append(boxes, s.seal(t, "10.1: in order", drawnText(i, 9)))
	}
	for i := range count {
		was := asTold(r.s)
		for k := count - 1; k >= 0; k-- {
			if k != i {
				got, e := r.s.Open(boxes[k])
				holdAnswer(t, fmt.Sprintf("10.1: box %d at the place of %d", k, i), got, e, nil, api.ErrTag)
				holdState(t, "10.1: out of order", r.s, was)
			}
		}
		got, e := r.s.Open(boxes[i])
		holdAnswer(t, fmt.Sprintf("10.1: box %d at its place", i), got, e, drawnText(i, 9), api.OK)
	}
	holdState(t, "10.1: behind all", r.s, asTold(s.s))
}

// A state does not open what it has sealed itself: the box is said already.
func TestOpenOfItsOwn(t *testing.T) {
	b := keyed("own", "k")
	box := b.seal(t, "10.1: its own", drawnText(20, 10))
	was := asTold(b.s)
	got, e := b.s.Open(box)
	holdAnswer(t, "10.1: Open of its own", got, e, nil, api.ErrTag)
	holdState(t, "10.1: Open of its own", b.s, was)
}

// toldAs is a state that is told a thing for each step: h and what is mixed in
// as known, k and what is mixed in as key, c and what is said in the clear.
func toldAs(name string, steps ...string) *State {
	s := New(name)
	for _, step := range steps {
		b := []byte(step[1:])
		switch step[0] {
		case 'h':
			s.MixHash(b)
		case 'k':
			s.MixKey(b)
		case 'c':
			s.Seal(b)
		}
	}
	return s
}

// Whoever was told one thing otherwise opens nothing.
func TestOfAnotherPast(t *testing.T) {
	for name, r := range map[string]*State{
		"another name":           toldAs("Past", "hb", "kk"),
		"a name with one more":   toldAs("past ", "hb", "kk"),
		"another hash":           toldAs("past", "hB", "kk"),
		"nothing mixed in":       toldAs("past", "kk"),
		"another key":            toldAs("past", "hb", "kK"),
		"another key ahead":      toldAs("past", "k", "hb", "kk"),
		"another key behind":     toldAs("past", "hb", "kk", "k"),
		"one more thing":         toldAs("past", "hb", "h", "kk"),
		"one more in the clear":  toldAs("past", "hb", "c", "kk"),
		"one more behind":        toldAs("past", "hb", "kk", "h"),
		"a box of its own ahead": toldAs("past", "hb", "kk", "c"),
	} {
		box, _ := toldAs("past", "hb", "kk").Seal([]byte("text"))
		was := asTold(r)
		got, e := r.Open(box)
		holdAnswer(t, "10.1: Open of one with "+name, got, e, nil, api.ErrTag)
		holdState(t, "10.1: Open of one with "+name, r, was)
	}
	// What is mixed in as key may come ahead or behind: h knows nothing of it.
	box, _ := toldAs("past", "hb", "kk").Seal([]byte("text"))
	got, e := toldAs("past", "kk", "hb").Open(box)
	holdAnswer(t, "10.1: MixKey ahead of MixHash", got, e, []byte("text"), api.OK)
}
