package cipher

import (
	"bytes"
	"fmt"
	"math/rand"
	"testing"

	"porthole/aead"
	"porthole/api"
)

// plain is a state by the sentence of 9.1, word by word, over aead alone. All
// tests that need to know an answer may hold it against that.
type plain struct {
	has   bool
	key   [32]byte
	nonce uint64
}

func (p *plain) seal(ad, text []byte) ([]byte, api.Errno) {
	switch {
	case !p.has:
		return bytes.Clone(text), api.OK
	case p.nonce == 1<<64-1:
		return nil, api.ErrSpent
	}
	p.nonce++
	return aead.Seal(p.key, aead.Nonce(p.nonce-1), ad, text), api.OK
}

func (p *plain) open(ad, box []byte) ([]byte, api.Errno) {
	switch {
	case !p.has:
		return bytes.Clone(box), api.OK
	case p.nonce == 1<<64-1:
		return nil, api.ErrSpent
	}
	text, e := aead.Open(p.key, aead.Nonce(p.nonce), ad, box)
	if e == api.OK {
		p.nonce++
	}
	return text, e
}

func (p *plain) rekey() api.Errno {
	if !p.has {
		return api.ErrState
	}
	p.key = nextKey(p.key)
	return api.OK
}

// nextKey is what Rekey makes of a key.
func nextKey(key [32]byte) [32]byte {
	return [32]byte(aead.Seal(key, aead.Nonce(1<<64-1), nil, make([]byte, 32)))
}

// begun is a state with that key.
func begun(key [32]byte) *State {
	s := New()
	s.Init(key)
	return s
}

// begunAt is one whose next box is of that nonce.
func begunAt(key [32]byte, nonce uint64) *State {
	s := begun(key)
	s.SetNonce(nonce)
	return s
}

// holdState holds all that a state tells of itself.
func holdState(t *testing.T, name string, s *State, want plain) {
	t.Helper()
	if got := (plain{s.Has(), s.Key(), s.Nonce()}); got != want {
		t.Errorf("%s: it has a key: %t; %x, nonce %d; not %t; %x, nonce %d",
			name, got.has, got.key, got.nonce, want.has, want.key, want.nonce)
	}
}

// holdAnswer holds what Seal or Open answered against an answer.
func holdAnswer(t *testing.T, name string, got []byte, e api.Errno, want []byte, wantE api.Errno) {
	t.Helper()
	if e != wantE || !bytes.Equal(got, want) {
		t.Errorf("%s: %x %d, not %x %d", name, got, e, want, wantE)
	}
}

// edgeNonces is those at which a count may trip.
func edgeNonces() []uint64 {
	return []uint64{
		0, 1, 2, 255, 256, 1<<16 - 1, 1 << 16,
		1<<31 - 1, 1 << 31, 1<<32 - 2, 1<<32 - 1, 1 << 32, 1<<32 + 1,
		1<<53 - 1, 1 << 53, 1<<63 - 2, 1<<63 - 1, 1 << 63, 1<<63 + 1,
		Last - 3, Last - 2, Last - 1,
	}
}

// edgeLengths is those about the ends of blocks.
func edgeLengths() []int {
	return []int{0, 1, 2, 15, 16, 17, 31, 32, 33, 63, 64, 65, 127, 128, 129, 200}
}

// edgeKeys is some of 0s, of 1s, of one bit, and some drawn ones.
func edgeKeys() [][32]byte {
	var zeros, low, high [32]byte
	low[0], high[31] = 1, 0x80
	ones := [32]byte(bytes.Repeat([]byte{0xff}, 32))
	return [][32]byte{zeros, ones, low, high, drawnKey(1), drawnKey(2)}
}

// drawnText is n bytes, the same for the same seed.
func drawnText(n int, seed int64) []byte {
	b := make([]byte, n)
	rand.New(rand.NewSource(seed)).Read(b)
	return b
}

// drawnKey is a key, the same for the same seed.
func drawnKey(seed int64) [32]byte {
	return [32]byte(drawnText(32, seed))
}

// turnedAt is b with a bit of one byte turned.
func turnedAt(b []byte, at int) []byte {
	b = bytes.Clone(b)
	b[at] ^= 1 << (at % 8)
	return b
}

// run is a state and the plain one that is told the same.
type run struct {
	s *State
	p *plain
}

// drawnBox is the box that is due, one that is turned, cut or of another
// nonce, or bytes that are none.
func (r run) drawnBox(d *rand.Rand, ad, text []byte) []byte {
	box := aead.Seal(r.p.key, aead.Nonce(r.p.nonce), ad, text)
	switch d.Intn(8) {
	case 0:
		return turnedAt(box, d.Intn(len(box)))
	case 1:
		return box[:d.Intn(len(box))]
	case 2:
		return aead.Seal(r.p.key, aead.Nonce(r.p.nonce+1), ad, text)
	case 3:
		return aead.Seal(nextKey(r.p.key), aead.Nonce(r.p.nonce), ad, text)
	}
	return box
}

// drawnNonce is any, or one that stands at an end.
func drawnNonce(d *rand.Rand) uint64 {
	edges := append(edgeNonces(), Last, Last, Last)
	if i := d.Intn(len(edges) + 5); i < len(edges) {
		return edges[i]
	}
	return d.Uint64()
}

// step tells a run one thing that is drawn.
func (r run) step(t *testing.T, name string, d *rand.Rand) {
	t.Helper()
	ad, text := drawnText(d.Intn(40), d.Int63()), drawnText(d.Intn(150), d.Int63())
	switch d.Intn(20) {
	case 0, 1, 2, 3, 4, 5:
		got, e := r.s.Seal(ad, text)
		want, wantE := r.p.seal(ad, text)
		holdAnswer(t, name+": Seal", got, e, want, wantE)
	case 6, 7, 8, 9, 10, 11, 12:
		box := r.drawnBox(d, ad, text)
		got, e := r.s.Open(ad, box)
		want, wantE := r.p.open(ad, box)
		holdAnswer(t, name+": Open", got, e, want, wantE)
	case 13, 14, 15:
		if e, want := r.s.Rekey(), r.p.rekey(); e != want {
			t.Errorf("%s: Rekey: %d, not %d", name, e, want)
		}
	case 16, 17:
		n := drawnNonce(d)
		r.s.SetNonce(n)
		r.p.nonce = n
	case 18:
		key := edgeKeys()[d.Intn(6)]
		r.s.Init(key)
		*r.p = plain{true, key, 0}
	}
	holdState(t, name, r.s, *r.p)
}

// 9.1: whatever a state and its copies are told, they are as the plain ones.
func TestAnyRunIsThePlainOne(t *testing.T) {
	for seed := range int64(200) {
		d := rand.New(rand.NewSource(seed))
		runs := []run{{New(), &plain{}}, {begun(drawnKey(seed)), &plain{true, drawnKey(seed), 0}}}
		for i := range 100 {
			at := d.Intn(len(runs))
			runs[at].step(t, fmt.Sprintf("9.1: run %d, step %d", seed, i), d)
			if d.Intn(20) == 0 {
				p := *runs[at].p
				runs = append(runs, run{runs[at].s.Copy(), &p})
			}
		}
		for i, r := range runs {
			holdState(t, fmt.Sprintf("R7: run %d, state %d, at the end", seed, i), r.s, *r.p)
		}
	}
}
