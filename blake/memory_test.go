package blake

import (
	"bytes"
	"testing"
)

const (
	spare = 0xa5
	room  = 130
)

// lent is text with spare room behind it that holds known bytes.
func lent(text []byte) []byte {
	return withRoom(text)[:len(text)]
}

// withRoom is what lies at a lent list, its spare room included.
func withRoom(text []byte) []byte {
	return append(bytes.Clone(text), bytes.Repeat([]byte{spare}, room)...)
}

// untouched tells whether a lent list and its spare room are as they were.
func untouched(b, text []byte) bool {
	return bytes.Equal(b[:len(text)+room], withRoom(text))
}

// overwrite turns every byte of b, its spare room included.
func overwrite(b []byte) {
	b = b[:cap(b)]
	for i := range b {
		b[i] ^= 0xff
	}
}

// What is handed in stays as it was, with the room behind it; and what lies in
// that room is not seen.
func TestWhatIsHandedInStays(t *testing.T) {
	for n := range 200 {
		text := drawnText(n, int64(n))
		given := lent(text)
		holdSum(t, "R2: Sum of a lent list", Sum(given), plainSum(text))
		if !untouched(given, text) {
			t.Errorf("R2: Sum of %d bytes has turned them, or the room behind them", n)
		}
		h := New()
		h.Write(given)
		holdSum(t, "R2: Write of a lent list", h.Sum(), plainSum(text))
		h.Write(given)
		h.Sum()
		if !untouched(given, text) {
			t.Errorf("R2: Write of %d bytes has turned them, or the room behind them", n)
		}
	}
}

// So does the list of lists, its spare room included.
func TestTheListOfListsStays(t *testing.T) {
	texts := [][]byte{pattern(70), nil, pattern(64), {}, pattern(3)}
	behind := []byte("behind")
	given := append(make([][]byte, 0, 10), texts...)
	for i := range given {
		given[i] = lent(texts[i])
	}
	whole := given[:cap(given)]
	whole[len(given)] = behind
	holdSum(t, "R2: Sum of lent lists", Sum(given...), plainSum(bytes.Join(texts, nil)))
	for i, b := range given {
		if len(b) != len(texts[i]) || !untouched(b, texts[i]) {
			t.Errorf("R2: Sum has turned list %d of several", i)
		}
	}
	if string(whole[len(given)]) != "behind" || whole[len(given)+1] != nil {
		t.Error("R2: Sum has turned the room behind the lists")
	}
}

// Bytes that the caller turns behind a Write turn no sum, whether they filled
// a block, or wait for others.
func TestBytesTurnedBehindAWrite(t *testing.T) {
	for _, n := range edgeLengths() {
		text := drawnText(n, int64(n))
		given := lent(text)
		h := New()
		h.Write(given)
		overwrite(given)
		holdSum(t, "R2: bytes turned behind a Write", h.Sum(), plainSum(text))
		overwrite(given)
		h.Write(given)
		overwrite(given)
		holdSum(t, "R2: bytes turned behind a second Write", h.Sum(), plainSum(append(bytes.Clone(text), text...)))
	}
}

// One piece of memory for all that comes, as one has who reads a stream.
func TestOneBufferForAll(t *testing.T) {
	text := drawnText(1000, 84)
	for length := 1; length <= 200; length++ {
		buffer := make([]byte, length)
		h := New()
		for _, piece := range cut(text, length) {
			h.Write(buffer[:copy(buffer, piece)])
			overwrite(buffer)
		}
		holdSum(t, "R2: one buffer for all", h.Sum(), plainSum(text))
	}
}

// One list may stand in several places, and lie in the midst of another.
func TestOneListTwice(t *testing.T) {
	for n := range 200 {
		text := drawnText(n, int64(n))
		given := lent(text)
		want := plainSum(bytes.Join([][]byte{text, text[n/3:], text}, nil))
		holdSum(t, "R2: one list three times", Sum(given, given[n/3:], given), want)
		if !untouched(given, text) {
			t.Errorf("R2: Sum of %d bytes three times has turned them", n)
		}
	}
}
