package blake

import (
	"bytes"
	"fmt"
	"math/rand"
	"sync"
	"testing"
)

// No list at all, no lists in a list, and lists of no bytes, nil ones and
// others: all of them are the text of no bytes, which is one block of 0.
func TestOfNoBytes(t *testing.T) {
	want := plainBytes(plainPress(plainFirst(), make([]byte, 64), 0, true))
	for i, got := range [][32]byte{
		Sum(),
		Sum([][]byte(nil)...),
		Sum([][]byte{}...),
		Sum(nil),
		Sum([]byte{}),
		Sum(lent(nil)),
		Sum(nil, nil),
		Sum(nil, []byte{}),
		Sum([]byte{}, nil, lent(nil), make([]byte, 0, 64)),
		Sum(make([][]byte, 1000)...),
	} {
		holdSum(t, fmt.Sprintf("7.1: no bytes, told in way %d", i), got, want)
	}
}

// Of a text the blocks are pressed in with how many bytes were taken with
// each, and the last one otherwise; a text that ends at a block's end has no
// block more.
func TestWhatIsPressedIn(t *testing.T) {
	for _, c := range []struct {
		n  int
		ts []uint64
	}{
		{0, []uint64{0}},
		{1, []uint64{1}},
		{63, []uint64{63}},
		{64, []uint64{64}},
		{65, []uint64{64, 65}},
		{127, []uint64{64, 127}},
		{128, []uint64{64, 128}},
		{129, []uint64{64, 128, 129}},
		{192, []uint64{64, 128, 192}},
		{256, []uint64{64, 128, 192, 256}},
		{257, []uint64{64, 128, 192, 256, 257}},
	} {
		text := drawnText(c.n, int64(c.n))
		filled := append(bytes.Clone(text), make([]byte, 64)...)
		h := plainFirst()
		for i, taken := range c.ts {
			h = plainPress(h, filled[64*i:64*i+64], taken, i == len(c.ts)-1)
		}
		holdSum(t, fmt.Sprintf("7.1: %d bytes", c.n), Sum(text), plainBytes(h))
	}
}

// One more block, of 0, behind a text that ends at a block's end is another
// text's; and so is a text without the mark of its last block.
func TestNoBlockMore(t *testing.T) {
	for _, n := range []int{64, 128, 192} {
		text := drawnText(n, int64(n))
		h := plainFirst()
		for i := 64; i <= n; i += 64 {
			h = plainPress(h, text[i-64:i], uint64(i), false)
		}
		if Sum(text) == plainBytes(h) {
			t.Errorf("7.1: %d bytes: no block is pressed in as the last one", n)
		}
		if Sum(text) == plainBytes(plainPress(h, make([]byte, 64), uint64(n), true)) {
			t.Errorf("7.1: %d bytes: there is a block more", n)
		}
	}
}

// Every length of up to several blocks, and so every length of a last one.
func TestEachLength(t *testing.T) {
	for n := range 400 {
		for _, text := range [][]byte{drawnText(n, int64(n)), make([]byte, n), ones(n), bytes.Repeat([]byte{0x80}, n)} {
			holdSum(t, fmt.Sprintf("7.1: %x", text), Sum(text), plainSum(text))
		}
	}
}

func TestAsReckonedPlainly(t *testing.T) {
	for i := range 2000 {
		text := drawnText(i%200, int64(i+1000))
		holdSum(t, fmt.Sprintf("7.1: %x", text), Sum(text), plainSum(text))
	}
	for i := range 5 {
		text := drawnText(20000+i, int64(i))
		holdSum(t, "7.1: a long text", Sum(text), plainSum(text))
	}
}

// The last block is filled with 0; but bytes of 0 that are the text's own make
// another one of it.
func TestBytesOfZeroAreToldApart(t *testing.T) {
	seen := map[[32]byte]int{}
	for n := range 300 {
		sum := Sum(make([]byte, n))
		if before, ok := seen[sum]; ok {
			t.Errorf("7.1: %d bytes of 0 are as %d of them", n, before)
		}
		seen[sum] = n
	}
}

// Each bit of a text is seen, and where its blocks and words stand.
func TestEachBitIsSeen(t *testing.T) {
	for _, n := range []int{1, 63, 64, 65, 128, 130} {
		text := drawnText(n, int64(n))
		seen := map[[32]byte]bool{Sum(text): true}
		for i := range 8 * n {
			text[i/8] ^= 1 << (i % 8)
			seen[Sum(text)] = true
			text[i/8] ^= 1 << (i % 8)
		}
		if len(seen) != 8*n+1 {
			t.Errorf("7.1: %d texts of %d bytes that are unlike by a bit have %d sums", 8*n+1, n, len(seen))
		}
	}
	a, b := drawnText(64, 7), drawnText(64, 8)
	if Sum(a, b) == Sum(b, a) {
		t.Error("7.1: two lists may change places")
	}
}

// A text in two lists, and in three, cut at every place.
func TestCutAtEveryPlace(t *testing.T) {
	for _, n := range []int{0, 1, 2, 63, 64, 65, 127, 128, 129, 150} {
		text := drawnText(n, int64(n))
		want := plainSum(text)
		holdSum(t, "7.1: all at once", Sum(text), want)
		for i := range n + 1 {
			holdSum(t, fmt.Sprintf("7.1: %d bytes cut at %d", n, i), Sum(text[:i], text[i:]), want)
			holdSum(t, fmt.Sprintf("7.1: %d bytes cut at %d, and empty lists", n, i),
				Sum(nil, text[:i], []byte{}, nil, text[i:], nil), want)
			for k := i; k <= n; k++ {
				holdSum(t, fmt.Sprintf("7.1: %d bytes cut at %d and %d", n, i, k),
					Sum(text[:i], text[i:k], text[k:]), want)
			}
		}
	}
}

// cut is text in lists of n bytes, the last one with those that are left.
func cut(text []byte, n int) [][]byte {
	var out [][]byte
	for ; len(text) > n; text = text[n:] {
		out = append(out, text[:n])
	}
	return append(out, text)
}

// spaced is l with empty lists between, ahead and behind.
func spaced(l [][]byte) [][]byte {
	out := [][]byte{nil}
	for _, b := range l {
		out = append(out, b, []byte{}, nil)
	}
	return out
}

// drawnCut is text in lists of drawn lengths, some of them 0.
func drawnCut(text []byte, most int, draws *rand.Rand) [][]byte {
	var out [][]byte
	for len(text) > 0 {
		n := min(draws.Intn(most+1), len(text))
		out = append(out, text[:n])
		text = text[n:]
	}
	return out
}

// Lists of every length, one byte at a time among them.
func TestListsOfEachLength(t *testing.T) {
	for _, n := range append(edgeLengths(), 1000) {
		text := drawnText(n, int64(n))
		want := plainSum(text)
		for length := 1; length <= min(n+1, 140); length++ {
			holdSum(t, fmt.Sprintf("7.1: %d bytes in lists of %d", n, length), Sum(cut(text, length)...), want)
			holdSum(t, fmt.Sprintf("7.1: %d bytes in lists of %d, and empty ones", n, length), Sum(spaced(cut(text, length))...), want)
		}
	}
}

func TestListsOfDrawnLengths(t *testing.T) {
	draws := rand.New(rand.NewSource(77))
	for i := range 2000 {
		text := drawnText(draws.Intn(500), int64(i))
		lists := drawnCut(text, 1+draws.Intn(200), draws)
		holdSum(t, fmt.Sprintf("7.1: %d bytes in %d lists", len(text), len(lists)), Sum(lists...), plainSum(text))
	}
}

// A megabyte, one byte at a time and all at once.
func TestAMegabyteByteByByte(t *testing.T) {
	text := drawnText(1<<20, 78)
	holdSum(t, "7.1: a megabyte in lists of one byte", Sum(cut(text, 1)...), Sum(text))
	holdSum(t, "7.1: a megabyte in lists of 65 bytes", Sum(cut(text, 65)...), Sum(text))
}

// A sum hangs on what is handed in alone, whatever was asked between, and
// beside it.
func TestTheSameAgain(t *testing.T) {
	const n = 300
	first := make([][32]byte, n)
	for i := range first {
		first[i] = Sum(pattern(i))
	}
	again := make([][32]byte, n)
	var all sync.WaitGroup
	for i := range again {
		all.Go(func() { again[i] = Sum(cut(pattern(n-1-i), 1+i%70)...) })
	}
	all.Wait()
	for i := range first {
		holdSum(t, fmt.Sprintf("R4: Sum of %d bytes, later", i), again[n-1-i], first[i])
	}
}
