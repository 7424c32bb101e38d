package shake

import (
	"bytes"
	"crypto/ecdh"
	"fmt"
	"math/rand"
	"testing"

	"porthole/api"
	"porthole/symm"
)

// plain is one side of a handshake by the sentences of 11.1 to 11.3, word by
// word: each message by itself, with the library's X25519 and package symm.
type plain struct {
	said                      *symm.State
	first                     bool
	static, fresh             [32]byte
	publicStatic, publicFresh [32]byte // a test may turn them, to forge a message
	otherStatic, otherFresh   [32]byte
	met, wrong                bool
	step                      int
	most                      int // bytes of a payload; a test may turn it
}

func plainNew(first bool, prologue []byte, static, fresh [32]byte) *plain {
	said := symm.New("Noise_XX_25519_ChaChaPoly_BLAKE2s")
	said.MixHash(prologue)
	return &plain{
		said: said, first: first, static: static, fresh: fresh, most: 3900,
		publicStatic: publicOf(static), publicFresh: publicOf(fresh),
	}
}

// publicOf is the library's public key of a secret.
func publicOf(secret [32]byte) [32]byte {
	k, err := ecdh.X25519().NewPrivateKey(secret[:])
	if err != nil {
		panic(err)
	}
	return [32]byte(k.PublicKey().Bytes())
}

// mix is MixKey of what two have in common; it tells whether that is not 0.
func (p *plain) mix(secret, public [32]byte) bool {
	k, err := ecdh.X25519().NewPrivateKey(secret[:])
	if err != nil {
		panic(err)
	}
	u, err := ecdh.X25519().NewPublicKey(public[:])
	if err != nil {
		panic(err)
	}
	both, err := k.ECDH(u)
	if err != nil {
		return false
	}
	p.said.MixKey(both)
	return true
}

func (p *plain) writes() bool {
	switch p.step {
	case 0, 2:
		return p.first && !p.wrong
	case 1:
		return !p.first && !p.wrong
	}
	return false
}

func (p *plain) reads() bool {
	return p.step < 3 && !p.wrong && !p.writes()
}

func (p *plain) write(payload []byte) ([]byte, api.Errno) {
	if !p.writes() {
		return nil, api.ErrState
	}
	if len(payload) > p.most {
		return nil, api.ErrLong
	}
	switch p.step {
	case 0:
		return p.ended(p.write0(payload))
	case 1:
		return p.ended(p.write1(payload))
	default:
		return p.ended(p.write2(payload))
	}
}

func (p *plain) read(msg []byte) ([]byte, api.Errno) {
	if !p.reads() {
		return nil, api.ErrState
	}
	if len(msg) > 4096 {
		return p.ended(nil, api.ErrLong)
	}
	switch p.step {
	case 0:
		return p.ended(p.read0(msg))
	case 1:
		return p.ended(p.read1(msg))
	default:
		return p.ended(p.read2(msg))
	}
}

// ended is what a message was, and what comes of it.
func (p *plain) ended(b []byte, e api.Errno) ([]byte, api.Errno) {
	p.wrong = e != api.OK
	if !p.wrong {
		p.step++
	}
	return b, e
}

func (p *plain) write0(payload []byte) ([]byte, api.Errno) {
	p.said.MixHash(p.publicFresh[:])
	text, e := p.said.Seal(payload)
	return append(bytes.Clone(p.publicFresh[:]), text...), e
}

func (p *plain) write1(payload []byte) ([]byte, api.Errno) {
	p.said.MixHash(p.publicFresh[:])
	if !p.mix(p.fresh, p.otherFresh) {
		return nil, api.ErrZero
	}
	static, _ := p.said.Seal(p.publicStatic[:])
	if !p.mix(p.static, p.otherFresh) {
		return nil, api.ErrZero
	}
	text, e := p.said.Seal(payload)
	return append(append(bytes.Clone(p.publicFresh[:]), static...), text...), e
}

func (p *plain) write2(payload []byte) ([]byte, api.Errno) {
	static, _ := p.said.Seal(p.publicStatic[:])
	if !p.mix(p.static, p.otherFresh) {
		return nil, api.ErrZero
	}
	text, e := p.said.Seal(payload)
	return append(static, text...), e
}

func (p *plain) read0(msg []byte) ([]byte, api.Errno) {
	if len(msg) < 32 {
		return nil, api.ErrShort
	}
	p.otherFresh = [32]byte(msg[:32])
	p.said.MixHash(msg[:32])
	return p.said.Open(msg[32:])
}

func (p *plain) read1(msg []byte) ([]byte, api.Errno) {
	if len(msg) < 32 {
		return nil, api.ErrShort
	}
	p.otherFresh = [32]byte(msg[:32])
	p.said.MixHash(msg[:32])
	if !p.mix(p.fresh, p.otherFresh) {
		return nil, api.ErrZero
	}
	if e := p.meet(msg[32:]); e != api.OK {
		return nil, e
	}
	if !p.mix(p.fresh, p.otherStatic) {
		return nil, api.ErrZero
	}
	return p.said.Open(msg[80:])
}

func (p *plain) read2(msg []byte) ([]byte, api.Errno) {
	if e := p.meet(msg); e != api.OK {
		return nil, e
	}
	if !p.mix(p.fresh, p.otherStatic) {
		return nil, api.ErrZero
	}
	return p.said.Open(msg[48:])
}

// meet reads a static key, which is in a box from the second message on.
func (p *plain) meet(msg []byte) api.Errno {
	if len(msg) < 48 {
		return api.ErrShort
	}
	public, e := p.said.Open(msg[:48])
	if e == api.OK {
		p.otherStatic, p.met = [32]byte(public), true
	}
	return e
}

// told is all that one side answers of itself.
type told struct {
	writes        bool
	step          int
	done          bool
	peer          [32]byte
	met           bool
	hash          [32]byte
	split         bool
	send, receive [32]byte
}

func asTold(s *State) told {
	var a told
	a.writes, a.step = s.Turn()
	a.done = s.Done()
	a.peer, a.met = s.Peer()
	a.hash = s.Hash()
	send, receive, ok := s.Split()
	if ok {
		a.split, a.send, a.receive = true, send.Key(), receive.Key()
	}
	return a
}

func (p *plain) told() told {
	a := told{p.writes(), p.step, p.step == 3, p.otherStatic, p.met, p.said.Hash(), p.step == 3, [32]byte{}, [32]byte{}}
	if a.done {
		one, two := p.said.Split()
		a.send, a.receive = one.Key(), two.Key()
		if !p.first {
			a.send, a.receive = a.receive, a.send
		}
	}
	return a
}

func words(a told) string {
	return fmt.Sprintf("Turn %t %d, Done %t, Peer %x %t, Hash %x, Split %t %x %x", a.writes, a.step, a.done, a.peer, a.met, a.hash, a.split, a.send, a.receive)
}

// holdState holds all that a side answers of itself.
func holdState(t *testing.T, name string, s *State, want told) {
	t.Helper()
	if got := asTold(s); got != want {
		t.Errorf("%s: %s, not %s", name, words(got), words(want))
	}
}

// holdAnswer holds what Write or Read answered.
func holdAnswer(t *testing.T, name string, got []byte, e api.Errno, want []byte, wantE api.Errno) {
	t.Helper()
	if e != wantE || !bytes.Equal(got, want) {
		t.Errorf("%s: %x %d, not %x %d", name, got, e, want, wantE)
	}
	if e != api.OK && cap(got) != 0 {
		t.Errorf("R3: %s: beside the error stands room for %d bytes", name, cap(got))
	}
}

// both is one side and the plain one that is told the same.
type both struct {
	s *State
	p *plain
}

func begun(first bool, prologue []byte, static, fresh [32]byte) both {
	return both{New(first, prologue, static, fresh), plainNew(first, prologue, static, fresh)}
}

// write tells both, holds the one against the other, and is the message.
func (b both) write(t *testing.T, name string, payload []byte) ([]byte, api.Errno) {
	t.Helper()
	want, wantE := b.p.write(payload)
	got, e := b.s.Write(payload)
	holdAnswer(t, name+": Write", got, e, want, wantE)
	b.hold(t, name+": behind Write")
	return got, e
}

// read tells both, and holds the one against the other.
func (b both) read(t *testing.T, name string, msg []byte) ([]byte, api.Errno) {
	t.Helper()
	want, wantE := b.p.read(msg)
	got, e := b.s.Read(msg)
	holdAnswer(t, name+": Read", got, e, want, wantE)
	b.hold(t, name+": behind Read")
	return got, e
}

func (b both) hold(t *testing.T, name string) {
	t.Helper()
	holdState(t, name, b.s, b.p.told())
}

// two is who speaks first, and the other.
type two [2]both

// pair is two sides with secrets of their own, alike for the same seed.
func pair(prologue string, seed int64) two {
	k := secrets(seed)
	return two{begun(true, []byte(prologue), k[0], k[1]), begun(false, []byte(prologue), k[2], k[3])}
}

// writer is who writes the message of a step, reader the other.
func (w two) writer(step int) both { return w[step%2] }
func (w two) reader(step int) both { return w[1-step%2] }

// say has one write and the other read, and is the message.
func (w two) say(t *testing.T, name string, step int, payload []byte) []byte {
	t.Helper()
	msg, e := w.writer(step).write(t, name, payload)
	if e != api.OK {
		t.Errorf("%s: message %d: Write: %d", name, step, e)
	}
	got, e := w.reader(step).read(t, name, msg)
	holdAnswer(t, fmt.Sprintf("%s: message %d: Read", name, step), got, e, payload, api.OK)
	return msg
}

// goOn says the messages from one step on, and holds that both are at the end.
func (w two) goOn(t *testing.T, name string, from int) {
	t.Helper()
	for step := from; step < 3; step++ {
		w.say(t, name, step, payloadOf(step))
	}
	w.holdEnd(t, name)
}

// holdEnd holds what 11.4 says of two that have said all.
func (w two) holdEnd(t *testing.T, name string) {
	t.Helper()
	a, b := asTold(w[0].s), asTold(w[1].s)
	if !a.done || !b.done || a.hash != b.hash {
		t.Errorf("%s: at the end (11.4): Done %t %t, Hash %x %x", name, a.done, b.done, a.hash, b.hash)
	}
	if !a.met || !b.met || a.peer != w[1].p.publicStatic || b.peer != w[0].p.publicStatic {
		t.Errorf("%s: at the end (11.4): Peer %x %x, not %x %x", name, a.peer, b.peer, w[1].p.publicStatic, w[0].p.publicStatic)
	}
	if a.send != b.receive || a.receive != b.send || a.send == a.receive || !a.split || !b.split {
		t.Errorf("%s: at the end (11.4): Split %x %x, and %x %x", name, a.send, a.receive, b.send, b.receive)
	}
}

// reached is a pair ahead of the message of that step.
func reached(t *testing.T, step int) two {
	t.Helper()
	w := pair("porthole", 7)
	for k := range step {
		w.say(t, "11.2: on the way", k, payloadOf(k))
	}
	return w
}

// due is a pair ahead of a step, and the message of that step, which was written
// and not yet read.
func due(t *testing.T, step int, payload []byte) (two, []byte) {
	t.Helper()
	w := reached(t, step)
	msg, _ := w.writer(step).write(t, "11.2: the one that is due", payload)
	return w, msg
}

// holdWrong holds that a side is wrong and stays so, whatever it is told.
func holdWrong(t *testing.T, name string, b both, right []byte) {
	t.Helper()
	was := asTold(b.s)
	if was.writes || was.done || was.split || was.step != b.p.step {
		t.Errorf("%s: it is wrong, and tells %s", name, words(was))
	}
	for range 2 {
		for _, n := range []int{0, 1, api.MaxPayload, api.MaxPayload + 1} {
			got, e := b.s.Write(make([]byte, n))
			holdAnswer(t, fmt.Sprintf("%s: Write of %d bytes of what is wrong", name, n), got, e, nil, api.ErrState)
		}
		for _, msg := range [][]byte{nil, right, make([]byte, 40), make([]byte, api.MaxRecord+1)} {
			got, e := b.s.Read(msg)
			holdAnswer(t, fmt.Sprintf("%s: Read of %d bytes of what is wrong", name, len(msg)), got, e, nil, api.ErrState)
		}
		holdState(t, name+": wrong, and told more", b.s, was)
	}
}

// payloadOf is some payload for a step.
func payloadOf(step int) []byte {
	return []byte(fmt.Sprintf("payload of step %d", step))
}

// secrets are four, the same for the same seed.
func secrets(seed int64) [4][32]byte {
	var k [4][32]byte
	for i := range k {
		k[i] = [32]byte(drawnText(32, 4*seed+int64(i)))
	}
	return k
}

// drawnText is n bytes, the same for the same seed.
func drawnText(n int, seed int64) []byte {
	b := make([]byte, n)
	rand.New(rand.NewSource(seed)).Read(b)
	return b
}

// turnedAt is b with a bit of one byte turned.
func turnedAt(b []byte, at, bit int) []byte {
	b = bytes.Clone(b)
	b[at] ^= 1 << bit
	return b
}
