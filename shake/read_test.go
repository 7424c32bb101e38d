package shake

import (
	"bytes"
	"fmt"
	"slices"
	"testing"

	"porthole/api"
)

// refused is that a message in place of that of a step is wrong, with an error,
// and stays so; whether the other's static key was read from it; and that the
// other side knows nothing of it.
func refused(t *testing.T, name string, step int, msg []byte, want api.Errno, met bool) {
	t.Helper()
	w, right := due(t, step, payloadOf(step))
	reader := w.reader(step)
	got, e := reader.read(t, name, msg)
	holdAnswer(t, name, got, e, nil, want)
	if writes, at := reader.s.Turn(); writes || at != step || reader.s.Done() {
		t.Errorf("11.1: %s: Turn %t %d, Done %t", name, writes, at, reader.s.Done())
	}
	if _, ok := reader.s.Peer(); ok != (met || step == 2 && reader == w[0]) {
		t.Errorf("11.3: %s: Peer %t", name, ok)
	}
	holdWrong(t, name, reader, right)
	w.writer(step).hold(t, name+": the other side")
}

// rightOne is the message that refused puts another one in place of.
func rightOne(t *testing.T, step int) []byte {
	t.Helper()
	_, msg := due(t, step, payloadOf(step))
	return msg
}

// A byte turned in the second and third message: it is not opened, and the
// static key is known if that was read ahead of it.
func TestTurnedBytes(t *testing.T) {
	for step, payloadAt := range map[int]int{1: 80, 2: 48} {
		msg := rightOne(t, step)
		for at := range msg {
			for _, bit := range []int{0, 1 + at%6, 7} {
				name := fmt.Sprintf("11.2: message %d, bit %d of byte %d turned", step, bit, at)
				refused(t, name, step, turnedAt(msg, at, bit), api.ErrTag, at >= payloadAt)
			}
		}
	}
}

// A byte turned in the first message is not seen, since there is no key yet: the
// payload is what it says, and the second message is not opened.
func TestTurnedBytesOfTheFirst(t *testing.T) {
	msg := rightOne(t, 0)
	for at := range msg {
		for _, bit := range []int{0, 1 + at%6, 7} {
			name := fmt.Sprintf("11.2: the first message, bit %d of byte %d turned", bit, at)
			passed(t, name, turnedAt(msg, at, bit))
		}
	}
}

// passed is that another message in place of the first is read, and that who
// wrote the right one does not open the second.
func passed(t *testing.T, name string, msg []byte) {
	t.Helper()
	w, _ := due(t, 0, payloadOf(0))
	got, e := w[1].read(t, name, msg)
	holdAnswer(t, name, got, e, msg[32:], api.OK)
	answer, e := w[1].write(t, name, nil)
	if e != api.OK {
		t.Errorf("%s: Write: %d", name, e)
	}
	got, e = w[0].read(t, name+": the second message", answer)
	holdAnswer(t, name+": the second message", got, e, nil, api.ErrTag)
	holdWrong(t, name, w[0], answer)
}

// Cut at each byte.
func TestCutMessages(t *testing.T) {
	for step, ends := range map[int][3]int{0: {32, 32, 32}, 1: {80, 96, 80}, 2: {48, 64, 48}} {
		msg := rightOne(t, step)
		for n := range msg {
			name := fmt.Sprintf("11.2: %d bytes of message %d", n, step)
			switch {
			case n < ends[1]:
				refused(t, name, step, msg[:n], api.ErrShort, n >= ends[2])
			case step == 0:
				passed(t, name, msg[:n])
			default:
				refused(t, name, step, msg[:n], api.ErrTag, true)
			}
		}
	}
}

// Messages without payloads, cut at the ends of their tokens and about them.
func TestCutTokens(t *testing.T) {
	for _, c := range []struct {
		step, n int
		met     bool
	}{
		{0, 0, false}, {0, 1, false}, {0, 31, false},
		{1, 0, false}, {1, 1, false}, {1, 31, false}, {1, 32, false}, {1, 33, false}, {1, 63, false}, {1, 64, false}, {1, 79, false},
		{1, 80, true}, {1, 81, true}, {1, 95, true},
		{2, 0, false}, {2, 1, false}, {2, 31, false}, {2, 32, false}, {2, 47, false}, {2, 48, true}, {2, 49, true}, {2, 63, true},
	} {
		w, msg := due(t, c.step, nil)
		reader, name := w.reader(c.step), fmt.Sprintf("11.2: %d bytes of message %d, without a payload", c.n, c.step)
		got, e := reader.read(t, name, msg[:c.n])
		holdAnswer(t, name, got, e, nil, api.ErrShort)
		if _, ok := reader.s.Peer(); ok != (c.met || c.step == 2 && reader == w[0]) {
			t.Errorf("11.3: %s: Peer %t", name, ok)
		}
		holdWrong(t, name, reader, msg)
	}
}

// Bytes that are none of a handshake's.
func TestStrangeMessages(t *testing.T) {
	for _, b := range [][]byte{nil, {}, make([]byte, 31), make([]byte, 47), make([]byte, 79), make([]byte, 95), make([]byte, 96), drawnText(96, 1), drawnText(64, 2), drawnText(500, 3), bytes.Repeat([]byte{0xff}, 200)} {
		for step := range 3 {
			w := reached(t, step)
			name := fmt.Sprintf("11.2: %d strange bytes as message %d", len(b), step)
			if got, e := w.reader(step).read(t, name, b); e != api.OK {
				holdAnswer(t, name, got, e, nil, e)
				holdWrong(t, name, w.reader(step), rightOne(t, step))
			} else if step > 0 || len(b) < 32 {
				t.Errorf("%s: it is taken", name)
			}
		}
	}
}

// The token s takes 16 bytes more if there is a key: without one, which no step
// of the three has there, it is 32 bytes.
func TestStaticKeyWithoutABox(t *testing.T) {
	public := drawnText(32, 6)
	for _, n := range []int{31, 32, 33, 48, 100} {
		s := New(true, nil, [32]byte{1}, [32]byte{2})
		want := plainNew(true, nil, [32]byte{1}, [32]byte{2})
		msg := append(bytes.Clone(public), make([]byte, 100)...)[:n]
		rest, e := s.readToken(staticKey, msg)
		name := fmt.Sprintf("11.2: s without a key, of %d bytes", n)
		if n < 32 {
			holdAnswer(t, name, rest, e, nil, api.ErrShort)
			holdPeer(t, name, s, nil)
			continue
		}
		want.said.MixHash(public)
		holdAnswer(t, name, rest, e, msg[32:], api.OK)
		holdPeer(t, name, s, (*[32]byte)(public))
		if s.Hash() != want.said.Hash() {
			t.Errorf("%s: it is not mixed in", name)
		}
	}
}

// Something put behind.
func TestLongerMessages(t *testing.T) {
	for _, more := range [][]byte{{0}, {1}, {0xff}, make([]byte, 16), drawnText(500, 4)} {
		name := fmt.Sprintf("11.2: %d bytes put behind message", len(more))
		passed(t, name+" 0", append(rightOne(t, 0), more...))
		refused(t, name+" 1", 1, append(rightOne(t, 1), more...), api.ErrTag, true)
		refused(t, name+" 2", 2, append(rightOne(t, 2), more...), api.ErrTag, true)
	}
}

// Something put ahead, or taken from there.
func TestShiftedMessages(t *testing.T) {
	for step := 1; step < 3; step++ {
		msg := rightOne(t, step)
		refused(t, "11.2: a byte put ahead", step, append([]byte{0}, msg...), api.ErrTag, false)
		refused(t, "11.2: a byte taken from ahead", step, msg[1:], api.ErrTag, false)
		refused(t, "11.2: two halves in one another's place", step, append(bytes.Clone(msg[50:]), msg[:50]...), api.ErrTag, false)
	}
}

// forged is a message of n bytes that is right in all but its length, from one
// who does not keep to the most bytes of a payload.
func forged(t *testing.T, step, n int) (two, []byte) {
	t.Helper()
	w := reached(t, step)
	writer := w.writer(step).p
	writer.most = n
	msg, e := writer.write(drawnText(n-[]int{32, 96, 64}[step], int64(step)))
	if e != api.OK || len(msg) != n {
		t.Fatalf("a message of %d bytes cannot be forged: %d, %d bytes", n, e, len(msg))
	}
	return w, msg
}

// A message of MaxRecord bytes is read, whatever its payload; one of one more is
// wrong.
func TestLongMessages(t *testing.T) {
	for step, size := range []int{32, 96, 64} {
		for _, n := range []int{api.MaxPayload + size, api.MaxPayload + size + 1, api.MaxRecord - 1, api.MaxRecord} {
			w, msg := forged(t, step, n)
			name := fmt.Sprintf("11.2: message %d of %d bytes", step, n)
			got, e := w.reader(step).read(t, name, msg)
			holdAnswer(t, name, got, e, drawnText(n-size, int64(step)), api.OK)
		}
		for _, n := range []int{api.MaxRecord + 1, api.MaxRecord + 2, 1 << 16, 1 << 17} {
			w, msg := forged(t, step, n)
			name := fmt.Sprintf("11.2: message %d of %d bytes", step, n)
			reader := w.reader(step)
			want := asTold(reader.s)
			want.writes = false
			got, e := reader.read(t, name, msg)
			holdAnswer(t, name, got, e, nil, api.ErrLong)
			holdState(t, name, reader.s, want)
			holdWrong(t, name, reader, msg[:n-1])
		}
		for _, n := range []int{api.MaxRecord + 1, 1 << 17} {
			name := fmt.Sprintf("11.2: %d bytes 0 as message %d", n, step)
			refused(t, name, step, make([]byte, n), api.ErrLong, false)
		}
	}
}

// others are messages of a step that belong to other handshakes.
func others(t *testing.T, step int) map[string][]byte {
	t.Helper()
	all := map[string][]byte{}
	for name, turn := range map[string]func(k *[4][32]byte, prologue *string){
		"another first static":       func(k *[4][32]byte, prologue *string) { k[0][8] ^= 1 },
		"another first fresh":        func(k *[4][32]byte, prologue *string) { k[1][8] ^= 1 },
		"another of the static ones": func(k *[4][32]byte, prologue *string) { k[2][8] ^= 1 },
		"another of the fresh ones":  func(k *[4][32]byte, prologue *string) { k[3][8] ^= 1 },
		"other secrets":              func(k *[4][32]byte, prologue *string) { *k = secrets(31) },
		"another prologue":           func(k *[4][32]byte, prologue *string) { *prologue = "Porthole" },
	} {
		k, prologue := secrets(7), "porthole"
		turn(&k, &prologue)
		w := two{begun(true, []byte(prologue), k[0], k[1]), begun(false, []byte(prologue), k[2], k[3])}
		for before := range step {
			w.say(t, "11.2: "+name, before, payloadOf(before))
		}
		msg, _ := w.writer(step).write(t, "11.2: "+name, payloadOf(step))
		all[name] = msg
	}
	return all
}

// Messages of another handshake. What this one could have heard so far is taken:
// who wrote it may be another one.
func TestMessagesOfAnother(t *testing.T) {
	taken := map[int][]string{
		1: {"another first static", "another of the static ones", "another of the fresh ones"},
		2: {"another first static"},
	}
	for step := 1; step < 3; step++ {
		for name, msg := range others(t, step) {
			say := fmt.Sprintf("11.2: message %d of %s", step, name)
			if !slices.Contains(taken[step], name) {
				refused(t, say, step, msg, api.ErrTag, false)
				continue
			}
			got, e := reached(t, step).reader(step).read(t, say, msg)
			holdAnswer(t, say, got, e, payloadOf(step), api.OK)
		}
	}
	for name, msg := range others(t, 0) {
		w := reached(t, 0)
		say := "11.2: message 0 of " + name
		got, e := w[1].read(t, say, msg)
		holdAnswer(t, say, got, e, payloadOf(0), api.OK)
	}
}

// The right message once more, and each other one in its place.
func TestMessagesOnceMore(t *testing.T) {
	var all [3][]byte
	for step := range all {
		all[step] = rightOne(t, step)
	}
	for step := range 3 {
		for _, again := range all {
			w, msg := due(t, step, payloadOf(step))
			reader, name := w.reader(step), fmt.Sprintf("11.2: a message behind message %d", step)
			reader.read(t, name, msg)
			was := asTold(reader.s)
			got, e := reader.read(t, name, again)
			holdAnswer(t, name, got, e, nil, api.ErrState)
			holdState(t, name, reader.s, was)
			w.goOn(t, name, step+1)
			for side, one := range w {
				got, e := one.read(t, name+", at the end", again)
				holdAnswer(t, fmt.Sprintf("%s, at the end, side %d", name, side), got, e, nil, api.ErrState)
			}
			w.holdEnd(t, name)
		}
	}
	refused(t, "11.2: the first message as the second", 1, all[0], api.ErrShort, false)
	refused(t, "11.2: the third message as the second", 1, all[2], api.ErrTag, false)
	refused(t, "11.2: the first message as the third", 2, all[0], api.ErrTag, false)
	refused(t, "11.2: the second message as the third", 2, all[1], api.ErrTag, false)
	w := reached(t, 0)
	short, _ := w[0].write(t, "11.2: without a payload", nil)
	refused(t, "11.2: the first message, without a payload, as the third", 2, short, api.ErrShort, false)
}

// Who hears itself: the fresh key that comes back is one as others are, but the
// rest is not what the other would have said.
func TestItsOwnMessage(t *testing.T) {
	w := reached(t, 0)
	msg, _ := w[0].write(t, "11.2: its own", drawnText(64, 5))
	got, e := w[0].read(t, "11.2: its own, back", msg)
	holdAnswer(t, "11.2: its own, back", got, e, nil, api.ErrTag)
	holdWrong(t, "11.2: its own, back", w[0], msg)
}

// What was wrong does not come right by the right message; another side, that
// was told the same ahead, does.
func TestWrongStaysWrong(t *testing.T) {
	for step := range 3 {
		w, msg := due(t, step, payloadOf(step))
		reader, name := w.reader(step), fmt.Sprintf("11.2: wrong at message %d", step)
		reader.read(t, name, nil)
		holdWrong(t, name, reader, msg)
		other := reached(t, step).reader(step)
		got, e := other.read(t, name+", another side", msg)
		holdAnswer(t, name+", another side", got, e, payloadOf(step), api.OK)
	}
}

// One side's trouble is not the other's: who wrote goes on as if nothing were.
func TestWhoWroteIsNotWrong(t *testing.T) {
	w, msg := due(t, 1, nil)
	v := two{reached(t, 1)[0], w[1]}
	w[0].read(t, "11.2: wrong", msg[:95])
	v[0].read(t, "11.2: right", msg)
	v.goOn(t, "11.2: the other side goes on", 2)
}
