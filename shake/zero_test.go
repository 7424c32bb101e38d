package shake

import (
	"bytes"
	"fmt"
	"testing"

	"porthole/api"
	"porthole/curve"
)

// lows are the public keys that make 0 of every secret: the numbers of small
// order, in each way to write them, with the highest bit and without.
func lows(t *testing.T) [][32]byte {
	t.Helper()
	var all [][32]byte
	for _, digits := range []string{
		"0000000000000000000000000000000000000000000000000000000000000000",
		"0100000000000000000000000000000000000000000000000000000000000000",
		"e0eb7a7c3b41b8ae1656e3faf19fc46ada098deb9c32b1fd866205165f49b800",
		"5f9c95bca3508c24b1d0b1559c83ef5b04445cc4581c8e86d8224eddd09f1157",
		"ecffffffffffffffffffffffffffffffffffffffffffffffffffffffffffff7f",
		"edffffffffffffffffffffffffffffffffffffffffffffffffffffffffffff7f",
		"eeffffffffffffffffffffffffffffffffffffffffffffffffffffffffffff7f",
	} {
		low := [32]byte(known(t, digits))
		all = append(all, low)
		low[31] |= 0x80
		all = append(all, low)
	}
	for _, low := range all {
		if _, e := curve.Shared([32]byte(drawnText(32, 1)), low); e != api.ErrZero {
			t.Fatalf("Shared of %x: %d", low, e)
		}
	}
	return all
}

// ee, in Write: the fresh key that was read makes 0.
func TestZeroInWrite(t *testing.T) {
	for _, low := range lows(t) {
		for _, payload := range [][]byte{nil, payloadOf(1), make([]byte, api.MaxPayload)} {
			w := reached(t, 0)
			name := fmt.Sprintf("11.2: Write behind a fresh key %x", low)
			got, e := w[1].read(t, name, append(bytes.Clone(low[:]), payloadOf(0)...))
			holdAnswer(t, name+": Read of it", got, e, payloadOf(0), api.OK)
			if writes, step := w[1].s.Turn(); !writes || step != 1 {
				t.Errorf("11.1: %s: Turn %t %d", name, writes, step)
			}
			got, e = w[1].write(t, name, make([]byte, api.MaxPayload+1))
			holdAnswer(t, name+": too long", got, e, nil, api.ErrLong)
			got, e = w[1].write(t, name, payload)
			holdAnswer(t, name, got, e, nil, api.ErrZero)
			if writes, step := w[1].s.Turn(); writes || step != 1 || w[1].s.Done() {
				t.Errorf("11.1: %s, and it is wrong: Turn %t %d", name, writes, step)
			}
			holdWrong(t, name, w[1], rightOne(t, 0))
		}
	}
}

// ee, in Read.
func TestZeroOfBothFresh(t *testing.T) {
	right := rightOne(t, 1)
	for _, low := range lows(t) {
		name := fmt.Sprintf("11.2: ee, of a fresh key %x", low)
		refused(t, name, 1, append(bytes.Clone(low[:]), right[32:]...), api.ErrZero, false)
		// What comes behind it is not looked at any more.
		refused(t, name+", and nothing", 1, low[:], api.ErrZero, false)
		refused(t, name+", and one byte", 1, append(bytes.Clone(low[:]), 0), api.ErrZero, false)
		refused(t, name+", and bytes 0", 1, append(bytes.Clone(low[:]), make([]byte, 400)...), api.ErrZero, false)
		refused(t, name+", and not all of it", 1, low[:31], api.ErrShort, false)
	}
}

// es, in Read: the static key that comes in its box makes 0. It was read.
func TestZeroOfTheOthersStatic(t *testing.T) {
	for _, low := range lows(t) {
		w := reached(t, 1)
		w[1].p.publicStatic = low
		msg, _ := w[1].p.write(payloadOf(1))
		w.holdZero(t, fmt.Sprintf("11.2: es, of a static key %x", low), 1, msg, low)
	}
}

// se, in Read: the same, of who is first.
func TestZeroOfTheFirstStatic(t *testing.T) {
	for _, low := range lows(t) {
		w := reached(t, 2)
		w[0].p.publicStatic = low
		msg, _ := w[0].p.write(payloadOf(2))
		w.holdZero(t, fmt.Sprintf("11.2: se, of a static key %x", low), 2, msg, low)
	}
}

func (w two) holdZero(t *testing.T, name string, step int, msg []byte, low [32]byte) {
	t.Helper()
	reader := w.reader(step)
	got, e := reader.read(t, name, msg)
	holdAnswer(t, name, got, e, nil, api.ErrZero)
	if peer, ok := reader.s.Peer(); !ok || peer != low {
		t.Errorf("11.3: %s: Peer %x %t", name, peer, ok)
	}
	holdWrong(t, name, reader, msg)
}

// es and se, in Write: what makes 0 there has made 0 of ee ahead of it, so the
// key that was read is put in its place by hand.
func TestZeroInTheTokensOfWrite(t *testing.T) {
	for _, low := range lows(t) {
		for _, token := range []rune{freshBoth, freshStatic, staticFresh} {
			for _, first := range []bool{true, false} {
				k := secrets(30)
				s := New(first, nil, k[0], k[1])
				s.otherFresh, s.otherStatic = low, low
				was := s.Hash()
				part, e := s.writeToken(token)
				holdAnswer(t, fmt.Sprintf("11.2: token %q of %x", token, low), part, e, nil, api.ErrZero)
				if s.Hash() != was || s.said.HasKey() {
					t.Errorf("11.2: token %q of %x is mixed in", token, low)
				}
			}
		}
		w := reached(t, 2)
		w[0].s.otherFresh, w[0].p.otherFresh = low, low
		got, e := w[0].write(t, "11.2: se", payloadOf(2))
		holdAnswer(t, fmt.Sprintf("11.2: Write of se, of %x", low), got, e, nil, api.ErrZero)
		holdWrong(t, "11.2: Write of se", w[0], nil)
	}
}

// Keys beside those of small order are taken.
func TestNearlyZero(t *testing.T) {
	for i, low := range lows(t) {
		for _, turn := range []int{1, 2, 4} {
			near := low
			near[0] ^= byte(turn) << 2
			if _, e := curve.Shared(secrets(33)[1], near); e != api.OK {
				continue
			}
			w := reached(t, 0)
			name := fmt.Sprintf("11.2: near %d, %x", i, near)
			w[1].read(t, name, near[:])
			if _, e := w[1].write(t, name, nil); e != api.OK {
				t.Errorf("%s: Write: %d", name, e)
			}
		}
	}
}

// Secrets may be any bytes: they are clamped.
func TestAnySecrets(t *testing.T) {
	var all, none [32]byte
	for i := range all {
		all[i] = 0xff
	}
	for i, k := range [][4][32]byte{
		{none, none, none, none}, {all, all, all, all}, {none, all, none, all}, {all, none, none, all},
		{{1}, {2}, {4}, {7}}, {{31: 0x80}, {31: 0x40}, {31: 0xc0}, {31: 0x3f}},
	} {
		w := two{begun(true, nil, k[0], k[1]), begun(false, nil, k[2], k[3])}
		w.goOn(t, fmt.Sprintf("11.1: secrets %d", i), 0)
	}
}
