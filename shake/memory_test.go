package shake

import (
	"bytes"
	"fmt"
	"sync"
	"testing"

	"porthole/api"
)

const (
	spare = 0xa5
	room  = 130
)

// lent is text with spare room behind it that holds known bytes.
func lent(text []byte) []byte {
	return withRoom(text)[:len(text)]
}

// withRoom is what lies at a lent list, its spare room included.
func withRoom(text []byte) []byte {
	return append(bytes.Clone(text), bytes.Repeat([]byte{spare}, room)...)
}

// untouched tells whether a lent list and its spare room are as they were.
func untouched(b, text []byte) bool {
	return bytes.Equal(b[:len(text)+room], withRoom(text))
}

// overwrite turns every byte of b, its spare room included.
func overwrite(b []byte) {
	b = b[:cap(b)]
	for i := range b {
		b[i] ^= 0xff
	}
}

// A prologue stays as it was, with the room behind it, and is not kept.
func TestPrologueStays(t *testing.T) {
	for _, n := range []int{0, 1, 31, 32, 64, 65, 1000} {
		prologue, k := drawnText(n, 60), secrets(60)
		name := fmt.Sprintf("R2: a prologue of %d bytes", n)
		given := lent(prologue)
		w := two{
			{New(true, given, k[0], k[1]), plainNew(true, prologue, k[0], k[1])},
			{New(false, given, k[2], k[3]), plainNew(false, prologue, k[2], k[3])},
		}
		if !untouched(given, prologue) {
			t.Errorf("%s is turned", name)
		}
		overwrite(given)
		w[0].hold(t, name+", overwritten")
		w.goOn(t, name, 0)
		overwrite(given)
		if !untouched(given, prologue) {
			t.Errorf("%s is turned later", name)
		}
	}
}

// Secrets are handed in as arrays: turning them later turns nothing.
func TestSecretsAreNotKept(t *testing.T) {
	k := secrets(61)
	w := pair("secrets", 61)
	s := New(true, []byte("secrets"), k[0], k[1])
	overwrite(k[0][:])
	overwrite(k[1][:])
	w[0].s = s
	w.goOn(t, "R2: secrets that are turned later", 0)
}

// holdLent holds that one side, told something with room behind it, leaves that
// as it was, keeps nothing of it, and answers nothing of it.
func holdLent(t *testing.T, name string, side both, b []byte, do func(s *State, b []byte) ([]byte, api.Errno), want []byte, wantE api.Errno) {
	t.Helper()
	given := lent(b)
	got, e := do(side.s, given)
	holdAnswer(t, name, got, e, want, wantE)
	side.hold(t, name)
	if !untouched(given, b) {
		t.Errorf("%s has turned what was handed in, or the room behind it", name)
	}
	overwrite(given)
	holdAnswer(t, name+", when what was handed in is turned", got, e, want, wantE)
	side.hold(t, name+", when what was handed in is turned")
	overwrite(given)
	overwrite(got)
	side.hold(t, name+", when what was answered is turned")
	if !untouched(given, b) {
		t.Errorf("%s answers what was handed in", name)
	}
}

// Payloads and messages stay as they were; what is answered is its owner's.
func TestWhatIsHandedInStays(t *testing.T) {
	for _, n := range []int{0, 1, 15, 16, 17, 64, 1000, api.MaxPayload} {
		w := pair("memory", 62)
		payload := drawnText(n, 63)
		for step := range 3 {
			name := fmt.Sprintf("R2: a payload of %d bytes in message %d", n, step)
			writer, reader := w.writer(step), w.reader(step)
			msg, _ := writer.p.write(payload)
			holdLent(t, name+", Write", writer, payload, (*State).Write, msg, api.OK)
			reader.p.read(msg)
			holdLent(t, name+", Read", reader, msg, (*State).Read, payload, api.OK)
		}
		w.holdEnd(t, fmt.Sprintf("R2: payloads of %d bytes", n))
	}
}

// The same of what is refused.
func TestWhatIsRefusedStays(t *testing.T) {
	for step := range 3 {
		name := fmt.Sprintf("R2: step %d", step)
		long := drawnText(api.MaxPayload+1, 64)
		w := reached(t, step)
		holdLent(t, name+", Write of what is too long", w.writer(step), long, (*State).Write, nil, api.ErrLong)
		holdLent(t, name+", Write of who may not", w.reader(step), long[:20], (*State).Write, nil, api.ErrState)
		holdLent(t, name+", Read of who may not", w.writer(step), long[:80], (*State).Read, nil, api.ErrState)
		w.goOn(t, name, step)
		for _, b := range [][]byte{nil, make([]byte, 31), drawnText(79, 65), drawnText(300, 66), make([]byte, api.MaxRecord+1), rightOne(t, step)[:33]} {
			v := reached(t, step)
			want, wantE := v.reader(step).p.read(b)
			holdLent(t, fmt.Sprintf("%s, Read of %d bytes", name, len(b)), v.reader(step), b, (*State).Read, want, wantE)
		}
	}
}

// One piece of memory may hold all that both sides are told.
func TestNothingIsKept(t *testing.T) {
	w := pair("kept", 67)
	memory := make([]byte, api.MaxRecord)
	for step := range 3 {
		payload := memory[:copy(memory, drawnText(200, int64(step)))]
		msg, e := w.writer(step).s.Write(payload)
		overwrite(memory)
		want, _ := w.writer(step).p.write(drawnText(200, int64(step)))
		holdAnswer(t, fmt.Sprintf("R2: message %d, of one piece of memory", step), msg, e, want, api.OK)
		told := memory[:copy(memory, msg)]
		overwrite(msg)
		got, e := w.reader(step).s.Read(told)
		overwrite(memory)
		w.reader(step).p.read(want)
		holdAnswer(t, fmt.Sprintf("R2: payload %d, of one piece of memory", step), got, e, drawnText(200, int64(step)), api.OK)
		overwrite(got)
		for _, one := range w {
			one.hold(t, "R2: of one piece of memory")
		}
	}
	w.holdEnd(t, "R2: of one piece of memory")
}

// What was answered stays, whatever is told later.
func TestAnswersStay(t *testing.T) {
	w := pair("stay", 68)
	var answers, copies [][]byte
	for step := range 3 {
		msg, _ := w.writer(step).s.Write(payloadOf(step))
		got, _ := w.reader(step).s.Read(msg)
		answers = append(answers, msg, got)
		copies = append(copies, bytes.Clone(msg), bytes.Clone(got))
	}
	peer, _ := w[0].s.Peer()
	hash := w[0].s.Hash()
	send, _, _ := w[0].s.Split()
	send.Seal(nil, nil)
	for i := range answers {
		holdAnswer(t, fmt.Sprintf("R2: answer %d, later", i), answers[i], api.OK, copies[i], api.OK)
	}
	was := asTold(w[0].s)
	overwrite(peer[:])
	overwrite(hash[:])
	holdState(t, "R2: Peer and Hash, turned", w[0].s, was)
}

// story is all that two sides of some secrets answer, one behind the other.
func story(i int) []byte {
	k := secrets(int64(i))
	sides := [2]*State{New(true, drawnText(i, 69), k[0], k[1]), New(false, drawnText(i, 69), k[2], k[3])}
	var all []byte
	for step := range 3 {
		msg, _ := sides[step%2].Write(drawnText(i, int64(step)))
		if i%7 == 6 {
			msg = append(msg, 0)
		}
		got, e := sides[1-step%2].Read(msg)
		all = append(append(append(all, msg...), got...), byte(e))
		for _, s := range sides {
			all = append(all, words(asTold(s))...)
		}
	}
	return all
}

// R7, R4: handshakes know nothing of one another, whether they are told one
// behind the other or beside one another.
func TestHandshakesKnowNothingOfOneAnother(t *testing.T) {
	const n = 40
	var first, again [n][]byte
	for i := range n {
		first[i] = story(i)
	}
	var all sync.WaitGroup
	for i := range n {
		all.Go(func() { again[n-1-i] = story(n - 1 - i) })
	}
	all.Wait()
	for i := range n {
		holdAnswer(t, fmt.Sprintf("R4: handshake %d, later", i), again[i], api.OK, first[i], api.OK)
	}
}

// R7: handshakes with the same secrets, told in turn, do not turn one another,
// also where one of them is wrong.
func TestHandshakesInTurn(t *testing.T) {
	pairs := [3]two{pair("in turn", 70), pair("in turn", 70), pair("in turn", 70)}
	for step := range 3 {
		for i, w := range pairs[:2] {
			w.say(t, fmt.Sprintf("R7: handshake %d", i), step, payloadOf(step))
		}
		for _, one := range pairs[2] {
			one.read(t, "R7: the one that is wrong", payloadOf(step))
			one.write(t, "R7: the one that is wrong", payloadOf(step))
		}
		for _, w := range pairs {
			for _, one := range w {
				one.hold(t, "R7: in turn")
			}
		}
	}
	pairs[0].holdEnd(t, "R7: in turn")
	if asTold(pairs[0][0].s) != asTold(pairs[1][0].s) || asTold(pairs[0][1].s) != asTold(pairs[1][1].s) {
		t.Error("R4: two handshakes of the same secrets are not alike")
	}
}
