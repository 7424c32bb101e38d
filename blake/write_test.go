package blake

import (
	"bytes"
	"fmt"
	"math/rand"
	"testing"
)

// written is a hash to which the lists were written, one behind the other.
func written(l ...[]byte) *Hash {
	h := New()
	for _, b := range l {
		h.Write(b)
	}
	return h
}

// A new hash is of no bytes, whatever others were told; and no bytes that are
// written leave it so.
func TestNewIsOfNoBytes(t *testing.T) {
	want := plainSum(nil)
	holdSum(t, "7.2: New", New().Sum(), want)
	h := written(pattern(100))
	holdSum(t, "7.2: New beside another", New().Sum(), want)
	h.Sum()
	holdSum(t, "7.2: New behind another's Sum", New().Sum(), want)
	holdSum(t, "7.2: Write of no bytes", written(nil, []byte{}, lent(nil)).Sum(), want)
}

// Pieces of every length, against the whole.
func TestPiecesOfEachLength(t *testing.T) {
	for _, n := range append(edgeLengths(), 1000) {
		text := drawnText(n, int64(n))
		want := plainSum(text)
		holdSum(t, "7.1: the whole", Sum(text), want)
		for length := 1; length <= min(n+1, 200); length++ {
			holdSum(t, fmt.Sprintf("7.2: %d bytes by %d", n, length), written(cut(text, length)...).Sum(), want)
			holdSum(t, fmt.Sprintf("7.2: %d bytes by %d, and empty ones", n, length), written(spaced(cut(text, length))...).Sum(), want)
		}
	}
}

// A first piece of each length, and all the others behind it at once.
func TestTwoPieces(t *testing.T) {
	for _, n := range edgeLengths() {
		text := drawnText(n, int64(n))
		for i := range n + 1 {
			holdSum(t, fmt.Sprintf("7.2: %d bytes, %d of them first", n, i), written(text[:i], text[i:]).Sum(), plainSum(text))
		}
	}
}

// Sum asked on the way, ahead of each Write and behind it, is each time the
// sum of what was written until then, and turns nothing.
func TestSumOnTheWay(t *testing.T) {
	text := drawnText(300, 79)
	sums := make([][32]byte, len(text)+1)
	for i := range sums {
		sums[i] = plainSum(text[:i])
	}
	for length := 1; length <= 200; length++ {
		h, at := New(), 0
		holdSum(t, "7.2: Sum ahead of all", h.Sum(), sums[0])
		for _, piece := range cut(text, length) {
			h.Write(piece)
			at += len(piece)
			name := fmt.Sprintf("7.2: Sum behind %d bytes by %d", at, length)
			holdSum(t, name, h.Sum(), sums[at])
			holdSum(t, name+", again", h.Sum(), sums[at])
			h.Write(nil)
			holdSum(t, name+", behind no bytes more", h.Sum(), sums[at])
		}
	}
}

// A hash that is asked on the way, at drawn places, and one that is not.
func TestAskedAndNotAsked(t *testing.T) {
	draws := rand.New(rand.NewSource(80))
	for i := range 1000 {
		text := drawnText(draws.Intn(600), int64(i))
		asked, silent := New(), New()
		for _, piece := range drawnCut(text, 1+draws.Intn(150), draws) {
			for range draws.Intn(3) {
				asked.Sum()
			}
			asked.Write(piece)
			silent.Write(piece)
		}
		want := plainSum(text)
		holdSum(t, "7.2: asked on the way", asked.Sum(), want)
		holdSum(t, "7.2: not asked", silent.Sum(), want)
	}
}

// What Sum answered stays when the hash goes on.
func TestASumStays(t *testing.T) {
	h := written(pattern(64))
	first := h.Sum()
	h.Write(pattern(64))
	h.Sum()
	holdSum(t, "7.2: a sum behind which more was written", first, plainSum(pattern(64)))
}

// Hashes that are written to in turn know nothing of one another.
func TestHashesInTurn(t *testing.T) {
	for length := 1; length <= 130; length++ {
		a, b := drawnText(300, 81), drawnText(300, 82)
		first, second := New(), New()
		for i, piece := range cut(a, length) {
			first.Write(piece)
			second.Write(cut(b, length)[i])
			if i%2 == 1 {
				first.Sum()
			}
		}
		holdSum(t, fmt.Sprintf("R7: one of two, by %d", length), first.Sum(), plainSum(a))
		holdSum(t, fmt.Sprintf("R7: the other of two, by %d", length), second.Sum(), plainSum(b))
	}
	var many [100]*Hash
	for i := range many {
		many[i] = New()
	}
	text := drawnText(200, 83)
	for at := range text {
		for i := range many {
			many[i].Write([]byte{text[at] ^ byte(i)})
		}
	}
	for i := range many {
		own := bytes.Clone(text)
		for at := range own {
			own[at] ^= byte(i)
		}
		holdSum(t, "R7: one of many", many[i].Sum(), plainSum(own))
	}
}
