package shake

import (
	"fmt"
	"testing"

	"porthole/api"
	"porthole/blake"
)

// A new one has said its name and its prologue, and nothing else.
func TestNew(t *testing.T) {
	name := blake.Sum([]byte(Name))
	if Name != "Noise_XX_25519_ChaChaPoly_BLAKE2s" {
		t.Errorf("11.1: Name is %q", Name)
	}
	for _, n := range []int{0, 1, 31, 32, 33, 63, 64, 65, 1000, 1 << 20} {
		prologue := drawnText(n, int64(n))
		for _, first := range []bool{true, false} {
			k := secrets(int64(n))
			b := begun(first, prologue, k[0], k[1])
			want := told{writes: first, hash: blake.Sum(name[:], prologue)}
			holdState(t, fmt.Sprintf("11.1: New, first %t, a prologue of %d bytes", first, n), b.s, want)
			b.hold(t, "11.1: New")
		}
	}
}

// Ahead of all messages its secrets are not to be seen.
func TestNewTellsNoSecret(t *testing.T) {
	for _, first := range []bool{true, false} {
		k := secrets(1)
		want := asTold(New(first, []byte("pro"), k[0], k[1]))
		for _, other := range []*State{New(first, []byte("pro"), k[2], k[1]), New(first, []byte("pro"), k[0], k[2]), New(first, []byte("pro"), [32]byte{}, [32]byte{})} {
			holdState(t, "11.1: New with other secrets", other, want)
		}
	}
}

// nil and an empty prologue are the same, also between the two sides.
func TestNoPrologue(t *testing.T) {
	k := secrets(2)
	none := [][]byte{nil, {}, make([]byte, 0, 64)}
	for i, here := range none {
		for j, there := range none {
			name := fmt.Sprintf("11.1: no prologue, %d and %d", i, j)
			w := two{begun(true, here, k[0], k[1]), begun(false, there, k[2], k[3])}
			if w[0].s.Hash() != w[1].s.Hash() {
				t.Errorf("%s: the hashes part", name)
			}
			w.goOn(t, name, 0)
		}
	}
}

// prologues are some that are not the same.
func prologues() []string {
	long := string(drawnText(70000, 3))
	return []string{
		"", "\x00", "\x00\x00", "a", "A", "a\x00", "\x00a", "aa", "ab", "ba", "porthole", "porthole ", "Porthole",
		string(make([]byte, 31)), string(make([]byte, 32)), string(make([]byte, 64)),
		Name, long, long[1:], long[:69999], long[:69999] + "\x00", string(turnedAt([]byte(long), 35000, 4)),
	}
}

// Two with one prologue come to the end.
func TestOnePrologue(t *testing.T) {
	for i, prologue := range prologues() {
		pair(prologue, 4).goOn(t, fmt.Sprintf("11.1: prologue %d", i), 0)
	}
}

// Two with prologues that are not the same: the second message is not opened,
// and that stays so.
func TestTwoPrologues(t *testing.T) {
	for i, here := range prologues() {
		for j, there := range prologues() {
			if i == j {
				continue
			}
			name := fmt.Sprintf("11.1: prologues %d and %d", i, j)
			w := two{pair(here, 5)[0], pair(there, 5)[1]}
			w.say(t, name, 0, payloadOf(0))
			if w[0].s.Hash() == w[1].s.Hash() {
				t.Errorf("%s: one hash", name)
			}
			msg, _ := w[1].write(t, name, payloadOf(1))
			got, e := w[0].read(t, name, msg)
			holdAnswer(t, name+": the second message", got, e, nil, api.ErrTag)
			holdWrong(t, name, w[0], msg)
		}
	}
}

// holdTurns holds what both sides tell of whose turn it is.
func holdTurns(t *testing.T, name string, w two, writes [2]bool, step int) {
	t.Helper()
	for i, one := range w {
		got, at := one.s.Turn()
		if got != writes[i] || at != step {
			t.Errorf("11.1: %s: side %d: Turn %t %d, not %t %d", name, i, got, at, writes[i], step)
		}
		if one.s.Done() != (step == 3) {
			t.Errorf("11.1: %s: side %d: Done %t", name, i, one.s.Done())
		}
	}
}

// Who is first writes 0 and 2, the other 1; behind that none does.
func TestTurns(t *testing.T) {
	w := pair("turns", 6)
	holdTurns(t, "ahead of all", w, [2]bool{true, false}, 0)
	w.say(t, "11.1: turns", 0, nil)
	holdTurns(t, "behind the first", w, [2]bool{false, true}, 1)
	w.say(t, "11.1: turns", 1, nil)
	holdTurns(t, "behind the second", w, [2]bool{true, false}, 2)
	w.say(t, "11.1: turns", 2, nil)
	holdTurns(t, "behind all", w, [2]bool{false, false}, 3)
}

// Between a Write and its Read the two are not at one step: each tells its own.
func TestTurnsOnTheWay(t *testing.T) {
	w := pair("turns", 6)
	for step := range 3 {
		writer, reader := w.writer(step), w.reader(step)
		msg, _ := writer.write(t, "11.1: on its way", nil)
		if writes, at := writer.s.Turn(); writes || at != step+1 || writer.s.Done() != (step == 2) {
			t.Errorf("11.1: who has written %d: Turn %t %d, Done %t", step, writes, at, writer.s.Done())
		}
		if writes, at := reader.s.Turn(); writes || at != step || reader.s.Done() {
			t.Errorf("11.1: who has not read %d: Turn %t %d, Done %t", step, writes, at, reader.s.Done())
		}
		reader.read(t, "11.1: on its way", msg)
	}
}

// Turn, Done, Peer, Hash and Split are asked, not told: they turn nothing.
func TestAskingTurnsNothing(t *testing.T) {
	w := pair("asked", 8)
	for step := range 3 {
		for range 3 {
			for _, one := range w {
				one.hold(t, "11.1: asked once more")
			}
		}
		w.say(t, "11.1: asked", step, payloadOf(step))
	}
	w.holdEnd(t, "11.1: asked")
}

// strange is messages and payloads that one may be told when it is not its turn.
func strange(w two, step int) [][]byte {
	return [][]byte{
		nil, {}, {0}, make([]byte, 31), make([]byte, 32), make([]byte, 48), make([]byte, 96), w[0].p.publicFresh[:],
		payloadOf(step), drawnText(200, 9), make([]byte, api.MaxPayload), make([]byte, api.MaxPayload+1),
		make([]byte, api.MaxRecord), make([]byte, api.MaxRecord+1), make([]byte, 1<<17),
	}
}

// Who may not Write now is told ErrState, whatever the payload; who may not
// Read, whatever the message; nothing is turned by it.
func TestOutOfTurn(t *testing.T) {
	for step := range 4 {
		w := reached(t, step)
		name := fmt.Sprintf("11.1: out of turn, step %d", step)
		w.holdOutOfTurn(t, name, step)
		w.goOn(t, name, step)
		w.holdOutOfTurn(t, name+", at the end", 3)
		w.holdEnd(t, name)
	}
}

func (w two) holdOutOfTurn(t *testing.T, name string, step int) {
	t.Helper()
	for _, b := range strange(w, step) {
		say := fmt.Sprintf("%s, %d bytes", name, len(b))
		for side, one := range w {
			was := asTold(one.s)
			if step == 3 || w.writer(step) != one {
				got, e := one.write(t, say, b)
				holdAnswer(t, fmt.Sprintf("%s: side %d: Write", say, side), got, e, nil, api.ErrState)
			}
			if step == 3 || w.reader(step) != one {
				got, e := one.read(t, say, b)
				holdAnswer(t, fmt.Sprintf("%s: side %d: Read", say, side), got, e, nil, api.ErrState)
			}
			holdState(t, say, one.s, was)
		}
	}
}

// The same between a Write and its Read: both sides may only Read, each another
// message.
func TestOutOfTurnOnTheWay(t *testing.T) {
	for step := range 3 {
		w, msg := due(t, step, payloadOf(step))
		name := fmt.Sprintf("11.1: out of turn, step %d on its way", step)
		for side, one := range w {
			for _, b := range strange(w, step) {
				got, e := one.write(t, name, b)
				holdAnswer(t, fmt.Sprintf("%s: side %d: Write", name, side), got, e, nil, api.ErrState)
			}
		}
		w.reader(step).read(t, name, msg)
		w.goOn(t, name, step+1)
	}
}

// The first example of the chapter.
func TestWriteOfWhoIsNotFirst(t *testing.T) {
	k := secrets(10)
	s := New(false, nil, k[0], k[1])
	got, e := s.Write(nil)
	holdAnswer(t, "11.1: Write of who is not first", got, e, nil, api.ErrState)
	got, e = New(true, nil, k[0], k[1]).Read(nil)
	holdAnswer(t, "11.1: Read of who is first", got, e, nil, api.ErrState)
}

// Two that are both first, or both not: the one may only write, the other may
// only read.
func TestTwoOfOneKind(t *testing.T) {
	k := secrets(11)
	a, b := begun(true, nil, k[0], k[1]), begun(true, nil, k[2], k[3])
	msg, _ := a.write(t, "11.1: both first", nil)
	got, e := b.read(t, "11.1: both first", msg)
	holdAnswer(t, "11.1: both first: Read", got, e, nil, api.ErrState)
	other, _ := b.write(t, "11.1: both first", nil)
	if _, e := a.read(t, "11.1: both first", other); e != api.ErrShort {
		t.Errorf("11.2: a first message in place of the second: %d", e)
	}
	c, d := begun(false, nil, k[0], k[1]), begun(false, nil, k[2], k[3])
	c.read(t, "11.1: none first", msg)
	second, _ := c.write(t, "11.1: none first", nil)
	if _, e := d.read(t, "11.1: none first", second); e != api.OK {
		t.Errorf("11.2: a second message in place of the first: %d", e)
	}
}
