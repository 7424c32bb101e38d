package cipher

import (
	"bytes"
	"fmt"
	"testing"

	"porthole/aead"
	"porthole/api"
)

const (
	spare = 0xa5
	room  = 80
)

// lent is text with spare room behind it that holds known bytes.
func lent(text []byte) []byte {
	return withRoom(text)[:len(text)]
}

// withRoom is what lies at a lent list, its spare room included.
func withRoom(text []byte) []byte {
	return append(bytes.Clone(text), bytes.Repeat([]byte{spare}, room)...)
}

// untouched tells whether a lent list and its spare room are as they were.
func untouched(b, text []byte) bool {
	return bytes.Equal(b[:len(text)+room], withRoom(text))
}

// overwrite turns every byte of b, its spare room included.
func overwrite(b []byte) {
	b = b[:cap(b)]
	for i := range b {
		b[i] ^= 0xff
	}
}

// calls is Seal and Open, each as it may go.
func calls() map[string]func(ad, b []byte) ([]byte, api.Errno) {
	key := drawnKey(1)
	return map[string]func(ad, b []byte) ([]byte, api.Errno){
		"Seal":               func(ad, b []byte) ([]byte, api.Errno) { return begun(key).Seal(ad, b) },
		"Open":               func(ad, b []byte) ([]byte, api.Errno) { return begun(key).Open(ad, b) },
		"Open at another":    func(ad, b []byte) ([]byte, api.Errno) { return begunAt(key, 1).Open(ad, b) },
		"Seal at Last":       func(ad, b []byte) ([]byte, api.Errno) { return begunAt(key, Last).Seal(ad, b) },
		"Open at Last":       func(ad, b []byte) ([]byte, api.Errno) { return begunAt(key, Last).Open(ad, b) },
		"Seal without a key": func(ad, b []byte) ([]byte, api.Errno) { return New().Seal(ad, b) },
		"Open without a key": func(ad, b []byte) ([]byte, api.Errno) { return New().Open(ad, b) },
	}
}

// R2: what is handed in stays as it was, with the room behind it, and what
// lies there is not seen; what is answered shares no memory with it, nor with
// another answer.
func TestWhatIsHandedInStays(t *testing.T) {
	for _, ads := range edgeLengths() {
		for _, n := range edgeLengths() {
			ad := drawnText(ads, 2)
			box := aead.Seal(drawnKey(1), aead.Nonce(0), ad, drawnText(n, 3))
			for name, call := range calls() {
				for _, b := range [][]byte{box, box[:n]} {
					holdMemory(t, fmt.Sprintf("R2: %s of %d and %d bytes", name, ads, len(b)), ad, b, call)
				}
			}
		}
	}
}

func holdMemory(t *testing.T, name string, ad, b []byte, call func(ad, b []byte) ([]byte, api.Errno)) {
	t.Helper()
	lentAd, lentB := lent(ad), lent(b)
	want, wantE := call(ad, b)
	first, e := call(lentAd, lentB)
	holdAnswer(t, name+", lent", first, e, want, wantE)
	second, _ := call(lentAd, lentB)
	overwrite(second)
	if !untouched(lentAd, ad) || !untouched(lentB, b) {
		t.Errorf("%s has turned what was handed in, or the room behind it, or answered it", name)
	}
	overwrite(lentAd)
	overwrite(lentB)
	holdAnswer(t, name+", later", first, e, want, wantE)
}

// R2: one list may be the ad and the text, or lie in the midst of it.
func TestOneListAsBoth(t *testing.T) {
	for n := range 100 {
		both := drawnText(n, int64(n))
		for name, call := range calls() {
			given := lent(both)
			part := given[n/3:]
			want, wantE := call(bytes.Clone(both[n/3:]), both)
			got, e := call(part, given)
			holdAnswer(t, "R2: "+name+" of an ad that lies in the other", got, e, want, wantE)
			want, wantE = call(both, bytes.Clone(both[n/3:]))
			got, e = call(given, part)
			holdAnswer(t, "R2: "+name+" of one that lies in its ad", got, e, want, wantE)
			if !untouched(given, both) {
				t.Errorf("R2: %s of one list of %d bytes as both has turned it", name, n)
			}
		}
	}
}

// R2: a state keeps nothing of what it was handed: when that is turned, the
// state goes on as it would have.
func TestNothingIsKept(t *testing.T) {
	s, r, p := begun(drawnKey(4)), begun(drawnKey(4)), plain{true, drawnKey(4), 0}
	ad, text := make([]byte, 20), make([]byte, 50)
	for i := range 100 {
		copy(ad, drawnText(20, int64(i)))
		copy(text, drawnText(50, int64(-i)))
		want, _ := p.seal(ad, text)
		box, e := s.Seal(ad, text)
		overwrite(text)
		holdAnswer(t, fmt.Sprintf("R2: box %d, of one piece of memory", i), box, e, want, api.OK)
		got, e := r.Open(ad, box)
		overwrite(box)
		holdAnswer(t, fmt.Sprintf("R2: text %d, of one piece of memory", i), got, e, drawnText(50, int64(-i)), api.OK)
		overwrite(got)
		overwrite(ad)
	}
	holdState(t, "R2: behind all", r, plain{true, drawnKey(4), 100})
}

// R2: the key that was handed in, and the one that was answered, are their
// owner's.
func TestAKeyIsItsOwners(t *testing.T) {
	key := drawnKey(5)
	s := New()
	s.Init(key)
	overwrite(key[:])
	holdState(t, "R2: Init with a key that is turned behind it", s, plain{true, drawnKey(5), 0})
	got := s.Key()
	overwrite(got[:])
	holdState(t, "R2: a Key that is turned", s, plain{true, drawnKey(5), 0})
	got = s.Key()
	s.Rekey()
	if got != drawnKey(5) {
		t.Errorf("R2: a Key, behind Rekey: %x", got)
	}
}

// R2: boxes and texts that were answered stay, whatever the state is told.
func TestAnswersStay(t *testing.T) {
	s, r := begun(drawnKey(6)), begun(drawnKey(6))
	first, _ := s.Seal(nil, drawnText(40, 7))
	text, _ := r.Open(nil, first)
	kept := bytes.Clone(first)
	for range 20 {
		box, _ := s.Seal(nil, drawnText(40, 8))
		r.Open(nil, box)
		s.Rekey()
		r.Rekey()
	}
	s.Init(drawnKey(9))
	r.Init(drawnKey(9))
	holdAnswer(t, "R2: a box, later", first, api.OK, kept, api.OK)
	holdAnswer(t, "R2: a text, later", text, api.OK, drawnText(40, 7), api.OK)
}
