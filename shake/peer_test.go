package shake

import (
	"bytes"
	"fmt"
	"testing"

	"porthole/api"
	"porthole/cipher"
	"porthole/curve"
)

// holdPeer holds whom a side has met; nobody, where want is nil.
func holdPeer(t *testing.T, name string, s *State, want *[32]byte) {
	t.Helper()
	got, ok := s.Peer()
	if want == nil && (ok || got != [32]byte{}) {
		t.Errorf("11.3: %s: Peer %x %t, not none", name, got, ok)
	}
	if want != nil && (!ok || got != *want) {
		t.Errorf("11.3: %s: Peer %x %t, not %x", name, got, ok, *want)
	}
}

// Who is first knows the other behind the second message, the other knows it
// behind the third.
func TestPeer(t *testing.T) {
	w, k := pair("peer", 40), secrets(40)
	first, other := curve.Public(k[0]), curve.Public(k[2])
	for step := range 4 {
		name := fmt.Sprintf("ahead of message %d", step)
		var ofFirst, ofOther *[32]byte
		if step > 1 {
			ofFirst = &other
		}
		if step > 2 {
			ofOther = &first
		}
		holdPeer(t, name+", who is first", w[0].s, ofFirst)
		holdPeer(t, name+", the other", w[1].s, ofOther)
		if step == 3 {
			break
		}
		msg, _ := w.writer(step).write(t, "11.3: peer", nil)
		holdPeer(t, name+", written, who is first", w[0].s, ofFirst)
		holdPeer(t, name+", written, the other", w[1].s, ofOther)
		w.reader(step).read(t, "11.3: peer", msg)
	}
}

// Where a later part of the message was wrong the static key was read all the
// same; where that part itself was, it was not.
func TestPeerOfWhatIsWrong(t *testing.T) {
	for step, payloadAt := range map[int]int{1: 80, 2: 48} {
		msg := rightOne(t, step)
		for at := 0; at < len(msg); at += 3 {
			w := reached(t, step)
			reader, want := w.reader(step).s, &w.writer(step).p.publicStatic
			if at < payloadAt {
				want = nil
			}
			got, e := reader.Read(turnedAt(msg, at, at%8))
			name := fmt.Sprintf("byte %d of message %d turned", at, step)
			holdAnswer(t, "11.2: "+name, got, e, nil, api.ErrTag)
			holdPeer(t, name, reader, want)
			reader.Read(msg)
			reader.Write(nil)
			holdPeer(t, name+", and told more", reader, want)
		}
	}
}

// Whoever was met stays so when the third message cannot be written or read.
func TestPeerStays(t *testing.T) {
	w := reached(t, 2)
	want := &w[1].p.publicStatic
	w[0].write(t, "11.3: too long", make([]byte, api.MaxPayload+1))
	holdPeer(t, "a payload that is too long", w[0].s, want)
	w[0].read(t, "11.3: out of turn", make([]byte, 96))
	holdPeer(t, "out of turn", w[0].s, want)
	w.goOn(t, "11.3: Peer stays", 2)
	holdPeer(t, "at the end", w[0].s, want)
}

// A static key of bytes 0, or one that is written otherwise than others write
// it, is told as it came.
func TestPeerAsItCame(t *testing.T) {
	for _, public := range [][32]byte{{9}, {9, 31: 0x80}, {2}, {0xf0, 31: 0xff}, [32]byte(drawnText(32, 41))} {
		w := reached(t, 1)
		w[1].p.publicStatic = public
		msg, _ := w[1].p.write(nil)
		w[0].s.Read(msg)
		holdPeer(t, fmt.Sprintf("a static key %x", public), w[0].s, &public)
	}
}

// Hash is symm's: the same on both sides ahead of, between and behind the
// messages, another one behind each.
func TestHash(t *testing.T) {
	for seed := range int64(10) {
		w, seen := pair("hash", seed), map[[32]byte]int{}
		for step := range 4 {
			here, there := w[0].s.Hash(), w[1].s.Hash()
			if here != there || here != w[0].p.said.Hash() {
				t.Errorf("11.3: Hash ahead of message %d: %x and %x, not %x", step, here, there, w[0].p.said.Hash())
			}
			if at, ok := seen[here]; ok {
				t.Errorf("11.3: Hash ahead of message %d is that ahead of %d", step, at)
			}
			seen[here] = step
			if step == 3 {
				break
			}
			msg, _ := w.writer(step).write(t, "11.3: hash", nil)
			if w.writer(step).s.Hash() == here || w.reader(step).s.Hash() != here {
				t.Errorf("11.3: Hash when message %d is written, and not read", step)
			}
			w.reader(step).read(t, "11.3: hash", msg)
		}
	}
}

// Another payload, another prologue, another secret: another hash.
func TestHashesOfOthers(t *testing.T) {
	seen := map[[32]byte]int{}
	for i := range 40 {
		w := pair(string(make([]byte, i%2)), int64(i/2))
		for step := range 3 {
			w.say(t, "11.3: hashes", step, drawnText(i%3, 1))
		}
		if at, ok := seen[w[1].s.Hash()]; ok {
			t.Errorf("11.3: handshakes %d and %d have one hash", at, i)
		}
		seen[w[1].s.Hash()] = i
	}
}

// holdNoSplit holds that there are no ciphers yet, or not any more.
func holdNoSplit(t *testing.T, name string, s *State) {
	t.Helper()
	if send, receive, ok := s.Split(); ok || send != nil || receive != nil {
		t.Errorf("11.3: %s: Split %v %v %t", name, send, receive, ok)
	}
}

// Ahead of the end, and where something was wrong, there is no Split.
func TestNoSplit(t *testing.T) {
	for step := range 3 {
		w, msg := due(t, step, nil)
		reader, name := w.reader(step), fmt.Sprintf("message %d is on its way", step)
		holdNoSplit(t, name, reader.s)
		if step < 2 {
			holdNoSplit(t, name+", who wrote it", w.writer(step).s)
		} else if _, _, ok := w[0].s.Split(); !ok {
			t.Error("11.3: who has written all has no Split")
		}
		reader.read(t, name, msg[:len(msg)-1])
		holdNoSplit(t, name+", wrong", reader.s)
		reader.s.Read(msg)
		holdNoSplit(t, name+", wrong, and told more", reader.s)
	}
	for step := range 3 {
		for _, one := range reached(t, step) {
			holdNoSplit(t, fmt.Sprintf("ahead of message %d", step), one.s)
		}
	}
}

// ended is a pair that has said all.
func ended(t *testing.T) two {
	t.Helper()
	w := reached(t, 3)
	w.holdEnd(t, "11.3: ended")
	return w
}

// Who is first sends with the first of symm's Split and receives with the
// second, the other the other way round; no nonce of them is used up.
func TestSplit(t *testing.T) {
	w := ended(t)
	one, two := w[0].p.said.Split()
	for side, want := range [][2][32]byte{{one.Key(), two.Key()}, {two.Key(), one.Key()}} {
		send, receive, ok := w[side].s.Split()
		if !ok {
			t.Fatalf("11.3: side %d has no Split", side)
		}
		if send.Key() != want[0] || receive.Key() != want[1] {
			t.Errorf("11.3: side %d: Split %x %x, not %x", side, send.Key(), receive.Key(), want)
		}
		if !send.Has() || !receive.Has() || send.Nonce() != 0 || receive.Nonce() != 0 {
			t.Errorf("11.3: side %d: Split has nonces %d %d", side, send.Nonce(), receive.Nonce())
		}
	}
}

// useUp turns a cipher in all ways.
func useUp(c *cipher.State) {
	c.Seal(nil, []byte("text"))
	c.Rekey()
	c.SetNonce(77)
	c.Init([32]byte{1, 2, 3})
	c.Open(nil, nil)
}

// Each call makes new ones: neither turns the others, nor the handshake.
func TestSplitMakesNewOnes(t *testing.T) {
	w := ended(t)
	for side, one := range w {
		name := fmt.Sprintf("side %d", side)
		send, receive, _ := one.s.Split()
		keySend, keyReceive, was := send.Key(), receive.Key(), asTold(one.s)
		for range 3 {
			again, there, _ := one.s.Split()
			if again == send || there == receive || again == there {
				t.Errorf("11.3: %s: Split answers one cipher twice", name)
			}
			useUp(again)
			if there.Key() != keyReceive || there.Nonce() != 0 {
				t.Errorf("11.3: %s: one of Split's turns the other", name)
			}
			useUp(there)
			if send.Key() != keySend || receive.Key() != keyReceive || send.Nonce() != 0 || receive.Nonce() != 0 {
				t.Errorf("11.3: %s: Split's turn those of a call ahead", name)
			}
			holdState(t, "11.3: "+name+": Split's are used", one.s, was)
		}
		box, _ := send.Seal(nil, []byte("text"))
		last, _, _ := one.s.Split()
		same, _ := last.Seal(nil, []byte("text"))
		if !bytes.Equal(box, same) {
			t.Errorf("11.3: %s: Split's seal %x, and %x", name, box, same)
		}
	}
}

// Calls that may not be behind the end do not turn what Split makes.
func TestSplitStays(t *testing.T) {
	w := ended(t)
	for side, one := range w {
		was := asTold(one.s)
		for _, b := range [][]byte{nil, make([]byte, 64), make([]byte, api.MaxRecord+1)} {
			one.write(t, "11.1: behind the end", b)
			one.read(t, "11.1: behind the end", b)
		}
		holdState(t, fmt.Sprintf("11.3: side %d, told more", side), one.s, was)
	}
}
