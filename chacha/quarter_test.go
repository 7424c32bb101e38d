package chacha

import (
	"math/bits"
	"math/rand"
	"testing"
)

const allOnes = 1<<32 - 1

type four [4]uint32

func quarterOf(w four) four {
	a, b, c, d := Quarter(w[0], w[1], w[2], w[3])
	return four{a, b, c, d}
}

func plainQuarterOf(w four) four {
	a, b, c, d := plainQuarter(uint64(w[0]), uint64(w[1]), uint64(w[2]), uint64(w[3]))
	return four{uint32(a), uint32(b), uint32(c), uint32(d)}
}

// undone is what Quarter was given, of what it answered.
func undone(w four) four {
	a, b, c, d := w[0], w[1], w[2], w[3]
	for _, n := range [][2]int{{8, 7}, {16, 12}} {
		b = bits.RotateLeft32(b, -n[1]) ^ c
		c -= d
		d = bits.RotateLeft32(d, -n[0]) ^ a
		a -= b
	}
	return four{a, b, c, d}
}

func holdQuarter(t *testing.T, w, want four) {
	t.Helper()
	if got := quarterOf(w); got != want {
		t.Errorf("4.1: Quarter(%08x): %08x, not %08x", w, got, want)
	}
}

// The first is the chapter's example (RFC 8439, 2.1.1), the second RFC 8439's
// 2.2.1.
func TestQuarterKnown(t *testing.T) {
	holdQuarter(t, four{0x11111111, 0x01020304, 0x9b8d6f43, 0x01234567},
		four{0xea2a92f4, 0xcb1cf8ce, 0x4581472e, 0x5881c4bb})
	holdQuarter(t, four{0x516461b1, 0x2a5f714c, 0x53372767, 0x3d631689},
		four{0xbdb886dc, 0xcfacafd2, 0xe46bea80, 0xccc07c79})
}

// The answers are worked out by hand, step by step as the chapter has them.
func TestQuarterByHand(t *testing.T) {
	holdQuarter(t, four{}, four{})
	// a is fffffffe, d 1, turned 00010000, c 0000ffff, b ffff0000, turned
	// f0000fff, a f0000ffd, d f0010ffd, turned 010ffdf0, c 0110fdef,
	// b f110f210, turned 88790878.
	holdQuarter(t, four{allOnes, allOnes, allOnes, allOnes},
		four{0xf0000ffd, 0x88790878, 0x0110fdef, 0x010ffdf0})
	holdQuarter(t, four{0: 1}, four{0x10000001, 0x80808808, 0x01010110, 0x01000110})
	holdQuarter(t, four{1: 1}, four{0x10001001, 0x88888808, 0x01110110, 0x01100110})
	holdQuarter(t, four{2: 1}, four{0x00001000, 0x08080080, 0x00100001, 0x00100000})
	holdQuarter(t, four{3: 1}, four{0x10000000, 0x80800808, 0x01010010, 0x01000010})
}

// The sums: what passes 2^32 is dropped, and nothing comes in at the bottom.
func TestQuarterSumsPastTheEnd(t *testing.T) {
	holdQuarter(t, four{allOnes, 1, allOnes, 1}, four{0x0fffe000, 0x8f700778, 0xfee1000e, 0xfee0000f})
	holdQuarter(t, four{1 << 31, 1 << 31, 0, 0}, four{0x00000800, 0x04040000, 0x00080000, 0x00080000})
	holdQuarter(t, four{0, 0, allOnes, 0x00010000}, four{0, 0x00008000, 0x00000100, 0x00000100})
}

// Each of the four turns by itself: of these words the other three turn 0.
func TestQuarterTurns(t *testing.T) {
	words := []uint32{allOnes, 0x01234567, 0x80000001, 0xdeadbeef}
	for i := range 32 {
		words = append(words, 1<<i, allOnes^1<<i)
	}
	for _, x := range words {
		by := func(n int) uint32 { return bits.RotateLeft32(x, n) }
		holdQuarter(t, four{by(16), 0, -by(16), by(16) ^ x}, four{by(16), 0, 0, 0})
		holdQuarter(t, four{-by(12) - (by(12) ^ x), by(12) ^ x, by(12), -by(12)}, four{0, 0, by(12), 0})
		holdQuarter(t, four{x + by(8), -by(8), -by(8), x}, four{x, 0, 0, by(8)})
		holdQuarter(t, four{-x, x, x, 0}, four{0, by(7), x, 0})
	}
}

func TestQuarterAsReckonedPlainly(t *testing.T) {
	at := []uint32{0, 1, 0xffff, 0x10000, 1<<31 - 1, 1 << 31, allOnes - 1, allOnes}
	for _, a := range at {
		for _, b := range at {
			for _, c := range at {
				for _, d := range at {
					w := four{a, b, c, d}
					holdQuarter(t, w, plainQuarterOf(w))
				}
			}
		}
	}
	r := rand.New(rand.NewSource(40))
	for range 10000 {
		w := four{r.Uint32(), r.Uint32(), r.Uint32(), r.Uint32()}
		holdQuarter(t, w, plainQuarterOf(w))
	}
}

// No two fours of words become one: what comes out tells what went in.
func TestQuarterCanBeUndone(t *testing.T) {
	r := rand.New(rand.NewSource(41))
	for range 10000 {
		w := four{r.Uint32(), r.Uint32(), r.Uint32(), r.Uint32()}
		if back := undone(quarterOf(w)); back != w {
			t.Errorf("4.1: Quarter(%08x): undone it is %08x", w, back)
		}
	}
}
