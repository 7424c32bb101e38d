package shake

import (
	"bytes"
	"fmt"
	"testing"

	"porthole/api"
	"porthole/curve"
	"porthole/symm"
)

// The second example of the chapter.
func TestNoPayloads(t *testing.T) {
	w := pair("sizes", 20)
	for step, size := range []int{32, 96, 64} {
		if msg := w.say(t, "11.2: no payloads", step, nil); len(msg) != size {
			t.Errorf("11.2: message %d without a payload has %d bytes, not %d", step, len(msg), size)
		}
	}
	w.holdEnd(t, "11.2: no payloads")
}

// lengths are those of payloads about the ends of blocks, and about the most.
func lengths() []int {
	return []int{0, 1, 2, 15, 16, 17, 31, 32, 33, 47, 48, 49, 63, 64, 65, 127, 128, 129, 1000, api.MaxPayload - 1, api.MaxPayload}
}

// A payload of each length goes, in each message, and the handshake to its end.
func TestPayloads(t *testing.T) {
	for step, size := range []int{32, 96, 64} {
		for _, n := range lengths() {
			name := fmt.Sprintf("11.2: a payload of %d bytes in message %d", n, step)
			w := reached(t, step)
			msg := w.say(t, name, step, drawnText(n, int64(n)))
			if len(msg) != size+n || len(msg) > api.MaxRecord {
				t.Errorf("%s: the message has %d bytes", name, len(msg))
			}
			w.goOn(t, name, step+1)
		}
	}
}

// Payloads of 0s and of 0xff are payloads as others are; nil is an empty one.
func TestPlainPayloads(t *testing.T) {
	for _, payload := range [][]byte{nil, {}, {0}, {0xff}, make([]byte, 100), bytes.Repeat([]byte{0xff}, 100)} {
		for step := range 3 {
			w := reached(t, step)
			name := fmt.Sprintf("11.2: payload %x in message %d", payload, step)
			w.say(t, name, step, payload)
			w.goOn(t, name, step+1)
		}
	}
}

// A payload that is too long: nothing is done, and the same side writes then.
func TestTooLongPayloads(t *testing.T) {
	for step := range 3 {
		w := reached(t, step)
		writer := w.writer(step)
		was := asTold(writer.s)
		for _, n := range []int{api.MaxPayload + 1, api.MaxPayload + 2, api.MaxRecord, api.MaxRecord + 1, 1 << 17} {
			name := fmt.Sprintf("11.2: a payload of %d bytes in message %d", n, step)
			for range 2 {
				got, e := writer.write(t, name, make([]byte, n))
				holdAnswer(t, name, got, e, nil, api.ErrLong)
				holdState(t, name, writer.s, was)
			}
		}
		name := fmt.Sprintf("11.2: behind payloads that were too long for message %d", step)
		want, _ := reached(t, step).writer(step).p.write(payloadOf(step))
		if msg := w.say(t, name, step, payloadOf(step)); !bytes.Equal(msg, want) {
			t.Errorf("%s: %x, not %x", name, msg, want)
		}
		w.goOn(t, name, step+1)
	}
}

// Where more than one error applies it is the first that the chapter names.
func TestTooLongAndOutOfTurn(t *testing.T) {
	for step := range 4 {
		for side, one := range reached(t, step) {
			if writes, _ := one.s.Turn(); writes {
				continue
			}
			got, e := one.write(t, "R3: too long", make([]byte, api.MaxPayload+1))
			holdAnswer(t, fmt.Sprintf("R3: too long, and not the turn of side %d at step %d", side, step), got, e, nil, api.ErrState)
		}
	}
}

// parts holds a message against its parts, which are reckoned one by one: what
// goes out in the clear, and boxes of symm.
type parts struct {
	said *symm.State
	msg  []byte
}

func (p *parts) clear(public [32]byte) {
	p.said.MixHash(public[:])
	p.msg = append(p.msg, public[:]...)
}

func (p *parts) sealed(text []byte) {
	box, _ := p.said.Seal(text)
	p.msg = append(p.msg, box...)
}

func (p *parts) agree(mine, others [32]byte) {
	both, _ := curve.Shared(mine, curve.Public(others))
	p.said.MixKey(both[:])
}

// cut is the message so far, and a new one.
func (p *parts) cut() []byte {
	msg := p.msg
	p.msg = nil
	return msg
}

// Each message is its tokens, one behind the other, and the payload at last.
func TestMessagesByTokens(t *testing.T) {
	for seed := range int64(20) {
		k := secrets(seed)
		p := parts{said: symm.New(Name)}
		p.said.MixHash([]byte("tokens"))

		p.clear(curve.Public(k[1])) // e
		p.sealed(payloadOf(0))
		want := [3][]byte{p.cut()}

		p.clear(curve.Public(k[3])) // e
		p.agree(k[3], k[1])         // ee
		public := curve.Public(k[2])
		p.sealed(public[:]) // s
		p.agree(k[2], k[1]) // es
		p.sealed(payloadOf(1))
		want[1] = p.cut()

		public = curve.Public(k[0])
		p.sealed(public[:]) // s
		p.agree(k[0], k[3]) // se
		p.sealed(payloadOf(2))
		want[2] = p.cut()

		w := pair("tokens", seed)
		for step := range 3 {
			msg := w.say(t, "11.2: by tokens", step, payloadOf(step))
			holdAnswer(t, fmt.Sprintf("11.2: secrets %d, message %d", seed, step), msg, api.OK, want[step], api.OK)
		}
	}
}

// What goes out in the clear, and what does not.
func TestWhatIsInTheClear(t *testing.T) {
	w := pair("clear", 21)
	payload := []byte("a payload that anybody may see")
	first := w.say(t, "11.2: in the clear", 0, payload)
	if want := append(bytes.Clone(w[0].p.publicFresh[:]), payload...); !bytes.Equal(first, want) {
		t.Errorf("11.2: the first message is %x, not %x", first, want)
	}
	second := w.say(t, "11.2: in boxes", 1, payload)
	if !bytes.HasPrefix(second, w[1].p.publicFresh[:]) {
		t.Errorf("11.2: the second message is %x, and begins not with %x", second, w[1].p.publicFresh)
	}
	third := w.say(t, "11.2: in boxes", 2, payload)
	for step, msg := range [][]byte{first[32:], second, third} {
		for side, one := range w {
			if bytes.Contains(msg, one.p.publicStatic[:]) || bytes.Contains(msg, one.p.static[:]) || bytes.Contains(msg, one.p.fresh[:]) {
				t.Errorf("11.2: message %d shows a secret, or a static key, of side %d", step, side)
			}
		}
		if step > 0 && bytes.Contains(msg, payload) {
			t.Errorf("11.2: message %d shows its payload", step)
		}
	}
}

// Each of the four secrets counts: whichever is another one, some message is
// another one, too, and so is the hash behind it.
func TestEachSecretCounts(t *testing.T) {
	// which message is the first that shows it, and who is known by it.
	for at, shown := range []int{2, 0, 1, 1} {
		k := secrets(22)
		w := two{begun(true, nil, k[0], k[1]), begun(false, nil, k[2], k[3])}
		k[at][9] ^= 4
		v := two{begun(true, nil, k[0], k[1]), begun(false, nil, k[2], k[3])}
		for step := range 3 {
			here := w.say(t, "11.2: secrets", step, nil)
			there := v.say(t, "11.2: other secrets", step, nil)
			if bytes.Equal(here, there) != (step < shown) {
				t.Errorf("11.2: another secret %d: message %d is %x, and %x", at, step, here, there)
			}
			if (w[0].s.Hash() == v[0].s.Hash()) != (step < shown) {
				t.Errorf("11.3: another secret %d: Hash behind message %d is %x, and %x", at, step, w[0].s.Hash(), v[0].s.Hash())
			}
		}
	}
}
