package kdf

import (
	"bytes"
	"fmt"
	"testing"
)

const (
	spare = 0xa5
	room  = 130
)

// lent is text with spare room behind it that holds known bytes.
func lent(text []byte) []byte {
	return withRoom(text)[:len(text)]
}

// withRoom is what lies at a lent list, its spare room included.
func withRoom(text []byte) []byte {
	return append(bytes.Clone(text), bytes.Repeat([]byte{spare}, room)...)
}

// untouched tells whether a lent list and its spare room are as they were.
func untouched(b, text []byte) bool {
	return bytes.Equal(b[:len(text)+room], withRoom(text))
}

// overwrite turns every byte of b, its spare room included.
func overwrite(b []byte) {
	b = b[:cap(b)]
	for i := range b {
		b[i] ^= 0xff
	}
}

// overwriteKeys turns every byte of keys, their spare room included.
func overwriteKeys(keys [][32]byte) {
	keys = keys[:cap(keys)]
	for i := range keys {
		overwrite(keys[i][:])
	}
}

// What is handed in stays as it was, with the room behind it; and what lies in
// that room is not seen.
func TestWhatHmacIsHandedStays(t *testing.T) {
	for n := range 200 {
		for _, m := range edgeLengths() {
			key, text := drawnText(n, int64(n)), drawnText(m, int64(m))
			lentKey, lentText := lent(key), lent(text)
			name := fmt.Sprintf("R2: Hmac of %d and %d bytes", n, m)
			holdSum(t, name+", lent", Hmac(lentKey, lentText), plainHmac(key, text))
			if !untouched(lentKey, key) || !untouched(lentText, text) {
				t.Errorf("%s has turned them, or the room behind them", name)
			}
		}
	}
}

// So it is with Derive, and with what it was handed when it makes no keys.
func TestWhatDeriveIsHandedStays(t *testing.T) {
	for n := range 300 {
		chain, input := drawnChain(int64(n)), drawnText(n, int64(n+1))
		before, given := chain, lent(input)
		for _, count := range []int{2, 3} {
			name := fmt.Sprintf("R2: Derive of %d bytes, %d, lent", n, count)
			holdKeys(t, name, Derive(chain, given, count), plainDerive(before, input, count))
		}
		for _, count := range []int{-1, 0, 1, 4} {
			Derive(chain, given, count)
		}
		if chain != before || !untouched(given, input) {
			t.Errorf("R2: Derive of %d bytes has turned what was handed in, or the room behind it", n)
		}
	}
}

// One list may be the key and the text, or lie in the midst of it.
func TestOneListAsBoth(t *testing.T) {
	for n := range 200 {
		both := drawnText(n, int64(n))
		given := lent(both)
		part := given[n/3:]
		holdSum(t, "R2: Hmac of one list as both", Hmac(given, given), plainHmac(both, both))
		holdSum(t, "R2: Hmac of a text that lies in its key", Hmac(given, part), plainHmac(both, both[n/3:]))
		holdSum(t, "R2: Hmac of a key that lies in its text", Hmac(part, given), plainHmac(both[n/3:], both))
		if !untouched(given, both) {
			t.Errorf("R2: Hmac of one list of %d bytes as both has turned it", n)
		}
	}
	chain := drawnChain(14)
	holdKeys(t, "R2: Derive of a chain key as its input", Derive(chain, chain[:], 3), plainDerive(drawnChain(14), bytes.Clone(chain[:]), 3))
}

// Keys that were answered are their owner's: they stay when what was handed in
// is turned, and when others are asked for; and may be turned, and have more
// put behind them, without a trace in others.
func TestKeysAreTheirOwners(t *testing.T) {
	for _, n := range edgeLengths() {
		for _, count := range []int{2, 3} {
			chain, input := drawnChain(int64(n)), drawnText(n, int64(n+1))
			want := plainDerive(chain, input, count)
			given := lent(input)
			first, second := Derive(chain, given, count), Derive(chain, given, count)
			overwriteKeys(second)
			second = append(second, [32]byte{}, [32]byte{})
			overwriteKeys(second)
			if !untouched(given, input) {
				t.Errorf("R2: keys of %d bytes share memory with them", n)
			}
			overwrite(given)
			Derive(drawnChain(15), given, 3)
			Hmac(given, given)
			name := fmt.Sprintf("R2: Derive of %d bytes, %d: ", n, count)
			holdKeys(t, name+"the keys that were answered, later", first, want)
			holdKeys(t, name+"behind keys that were turned", Derive(chain, input, count), want)
		}
	}
}

// The keys of one answer are turned one by one.
func TestKeysOfOneAnswerAreApart(t *testing.T) {
	chain, input := drawnChain(16), drawnText(40, 17)
	for _, count := range []int{2, 3} {
		for i := range count {
			keys, want := Derive(chain, input, count), plainDerive(chain, input, count)
			overwrite(keys[i][:])
			overwrite(want[i][:])
			holdKeys(t, fmt.Sprintf("R2: Derive, %d: key %d is turned", count, i+1), keys, want)
		}
	}
}

// So is what Hmac answered.
func TestASumIsItsOwners(t *testing.T) {
	for _, n := range edgeLengths() {
		key, text := lent(drawnText(n, int64(n))), lent(drawnText(n, int64(n+1)))
		want := plainHmac(key, text)
		first, second := Hmac(key, text), Hmac(key, text)
		overwrite(second[:])
		holdSum(t, "R2: Hmac behind an answer that was turned", Hmac(key, text), want)
		overwrite(key)
		overwrite(text)
		Hmac(key, text)
		holdSum(t, "R2: what Hmac answered, later", first, want)
	}
}
