package symm

import (
	"bytes"
	"fmt"
	"math/rand"
	"testing"

	"porthole/aead"
	"porthole/api"
	"porthole/blake"
	"porthole/kdf"
)

// plain is a state by the sentence of 10.1, word by word, over aead, blake and
// kdf. All tests that need to know an answer may hold it against that.
type plain struct {
	hash, chain [32]byte
	has         bool
	key         [32]byte
	nonce       uint64
}

func plainNew(name string) *plain {
	h := make([]byte, 32)
	for i := range h {
		if i < len(name) {
			h[i] = name[i]
		}
	}
	if len(name) >= 33 {
		sum := blake.Sum([]byte(name))
		h = sum[:]
	}
	return &plain{hash: [32]byte(h), chain: [32]byte(h)}
}

func (p *plain) mixKey(input []byte) {
	two := kdf.Derive(p.chain, input, 2)
	p.chain, p.key, p.has, p.nonce = two[0], two[1], true, 0
}

func (p *plain) mixHash(b []byte) {
	p.hash = blake.Sum(append(bytes.Clone(p.hash[:]), b...))
}

// box is the one that is due for a text.
func (p *plain) box(text []byte) []byte {
	if !p.has {
		return bytes.Clone(text)
	}
	return aead.Seal(p.key, aead.Nonce(p.nonce), p.hash[:], text)
}

func (p *plain) seal(text []byte) ([]byte, api.Errno) {
	if p.has && p.nonce == 1<<64-1 {
		return nil, api.ErrSpent
	}
	box := p.box(text)
	p.took(box)
	return box, api.OK
}

func (p *plain) open(box []byte) ([]byte, api.Errno) {
	if !p.has {
		p.took(box)
		return bytes.Clone(box), api.OK
	}
	if p.nonce == 1<<64-1 {
		return nil, api.ErrSpent
	}
	text, e := aead.Open(p.key, aead.Nonce(p.nonce), p.hash[:], box)
	if e != api.OK {
		return nil, e
	}
	p.took(box)
	return text, api.OK
}

// took is what a box changes, on both sides.
func (p *plain) took(box []byte) {
	p.mixHash(box)
	if p.has {
		p.nonce++
	}
}

func (p *plain) split() [2][32]byte {
	return [2][32]byte(kdf.Derive(p.chain, nil, 2))
}

// asTold is all that a state is.
func asTold(s *State) plain {
	return plain{s.Hash(), s.Chain(), s.HasKey(), s.Key(), s.Nonce()}
}

// holdState holds all that a state is.
func holdState(t *testing.T, name string, s *State, want plain) {
	t.Helper()
	if got := asTold(s); got != want {
		t.Errorf("%s: %s, not %s", name, words(got), words(want))
	}
}

func words(p plain) string {
	return fmt.Sprintf("hash %x, chain key %x, a key: %t, %x, nonce %d", p.hash, p.chain, p.has, p.key, p.nonce)
}

// holdAnswer holds what Seal or Open answered against an answer.
func holdAnswer(t *testing.T, name string, got []byte, e api.Errno, want []byte, wantE api.Errno) {
	t.Helper()
	if e != wantE || !bytes.Equal(got, want) {
		t.Errorf("%s: %x %d, not %x %d", name, got, e, want, wantE)
	}
	if e != api.OK && cap(got) != 0 {
		t.Errorf("R3: %s: beside the error stands room for %d bytes", name, cap(got))
	}
}

// holdSum holds 32 bytes.
func holdSum(t *testing.T, name string, got, want [32]byte) {
	t.Helper()
	if got != want {
		t.Errorf("%s: %x, not %x", name, got, want)
	}
}

// both is a state and the plain one that is told the same.
type both struct {
	s *State
	p *plain
}

// begun is one of a name, with nothing said.
func begun(name string) both {
	return both{New(name), plainNew(name)}
}

// keyed is one with a key.
func keyed(name, input string) both {
	b := begun(name)
	b.mixKey([]byte(input))
	return b
}

func (b both) mixKey(input []byte) {
	b.s.MixKey(input)
	b.p.mixKey(input)
}

func (b both) mixHash(said []byte) {
	b.s.MixHash(said)
	b.p.mixHash(said)
}

// seal tells both, holds the one against the other, and is the box.
func (b both) seal(t *testing.T, name string, text []byte) []byte {
	t.Helper()
	want, wantE := b.p.seal(text)
	got, e := b.s.Seal(text)
	holdAnswer(t, name+": Seal", got, e, want, wantE)
	b.hold(t, name+": behind Seal")
	return got
}

// open tells both, and holds the one against the other.
func (b both) open(t *testing.T, name string, box []byte) {
	t.Helper()
	want, wantE := b.p.open(box)
	got, e := b.s.Open(box)
	holdAnswer(t, name+": Open", got, e, want, wantE)
	b.hold(t, name+": behind Open")
}

func (b both) hold(t *testing.T, name string) {
	t.Helper()
	holdState(t, name, b.s, *b.p)
}

// split holds what Split answers.
func (b both) split(t *testing.T, name string) {
	t.Helper()
	one, two := b.s.Split()
	want := b.p.split()
	if one.Key() != want[0] || !one.Has() || one.Nonce() != 0 {
		t.Errorf("%s: Split: the first has %x (%t), nonce %d, not %x", name, one.Key(), one.Has(), one.Nonce(), want[0])
	}
	if two.Key() != want[1] || !two.Has() || two.Nonce() != 0 {
		t.Errorf("%s: Split: the second has %x (%t), nonce %d, not %x", name, two.Key(), two.Has(), two.Nonce(), want[1])
	}
	b.hold(t, name+": behind Split")
}

// edgeLengths is those about the ends of blocks.
func edgeLengths() []int {
	return []int{0, 1, 2, 15, 16, 17, 31, 32, 33, 63, 64, 65, 95, 96, 97, 127, 128, 129, 200}
}

// edgeNames is names of the lengths that the chapter names, and about them,
// with 0s within and at the end, and bytes that are no text.
func edgeNames() []string {
	return []string{
		"", "a", "ab", "Noise_XX_25519_ChaChaPoly_BLAKE2s", "Noise_NN_448_ChaChaPoly_BLAKE2s",
		drawnName(31), drawnName(32), drawnName(33), drawnName(63), drawnName(64), drawnName(65), drawnName(1000),
		"\x00", "a\x00", "\x00a", "a\x00b\x00\x00", zeros(31), zeros(32), zeros(33), zeros(64),
		"\xff", "\xff\xfe\xfd", "\xc3\x28", "\xed\xa0\x80", "h\u00f6rt zu", "\u4e16\u754c", "\U0001f512",
		drawnName(31) + "\x00", drawnName(31) + "\xff", drawnName(32) + "\x00", drawnName(20) + zeros(12),
		drawnName(20) + zeros(13),
	}
}

func zeros(n int) string {
	return string(make([]byte, n))
}

// drawnText is n bytes, the same for the same seed.
func drawnText(n int, seed int64) []byte {
	b := make([]byte, n)
	rand.New(rand.NewSource(seed)).Read(b)
	return b
}

// drawnName is n bytes, none of them 0.
func drawnName(n int) string {
	b := drawnText(n, int64(n)+100)
	for i := range b {
		b[i] = max(b[i], 1)
	}
	return string(b)
}

// turnedAt is b with a bit of one byte turned.
func turnedAt(b []byte, at int) []byte {
	b = bytes.Clone(b)
	b[at] ^= 1 << (at % 8)
	return b
}

// drawnBox is the box that is due, one that is turned, cut or of another hash
// or nonce, or bytes that are none.
func (b both) drawnBox(d *rand.Rand, text []byte) []byte {
	box := b.p.box(text)
	other := *b.p
	switch d.Intn(10) {
	case 0:
		if len(box) > 0 {
			return turnedAt(box, d.Intn(len(box)))
		}
	case 1:
		return box[:d.Intn(len(box)+1)]
	case 2:
		other.nonce++
		return other.box(text)
	case 3:
		other.mixHash(nil)
		return other.box(text)
	case 4:
		return text
	}
	return box
}

// step tells a state one thing that is drawn.
func (b both) step(t *testing.T, name string, d *rand.Rand) {
	t.Helper()
	text := drawnText(d.Intn(150), d.Int63())
	switch d.Intn(12) {
	case 0, 1, 2:
		b.seal(t, name, text)
	case 3, 4, 5, 6:
		b.open(t, name, b.drawnBox(d, text))
	case 7, 8:
		b.mixHash(text)
	case 9:
		b.mixKey(text)
	case 10:
		b.split(t, name)
	case 11:
		if b.p.has && d.Intn(4) == 0 {
			n := 1<<64 - 1 - d.Uint64()%3
			b.s.SetNonce(n)
			b.p.nonce = n
		}
	}
	b.hold(t, name)
}

// 10.1: whatever states are told, in turn, they are as the plain ones.
func TestAnyRunIsThePlainOne(t *testing.T) {
	names := edgeNames()
	for seed := range int64(300) {
		d := rand.New(rand.NewSource(seed))
		var all []both
		for range 3 {
			all = append(all, begun(names[d.Intn(len(names))]))
		}
		for i := range 60 {
			all[d.Intn(len(all))].step(t, fmt.Sprintf("10.1: run %d, step %d", seed, i), d)
		}
		for i, b := range all {
			b.hold(t, fmt.Sprintf("R7: run %d, state %d, at the end", seed, i))
		}
	}
}
