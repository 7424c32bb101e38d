package kdf

import (
	"fmt"
	"math"
	"sync"
	"testing"
)

// The chapter's example: of 2 and of 3, the same first two.
func TestTheSameFirstTwo(t *testing.T) {
	for i := range 300 {
		chain, input := drawnChain(int64(i)), drawnText(i, int64(1000+i))
		two, three := Derive(chain, input, 2), Derive(chain, input, 3)
		if len(three) != 3 {
			t.Fatalf("8.1: Derive of %d bytes, 3: %x", i, three)
		}
		holdKeys(t, fmt.Sprintf("8.1: Derive of %d bytes, 2 as 3", i), two, three[:2])
	}
}

// Each key by the calls of this package, as the sentence says it.
func TestEachKeyOfTheOneAhead(t *testing.T) {
	for _, n := range edgeLengths() {
		chain, input := drawnChain(int64(n)), drawnText(n, int64(n+1))
		keys := Derive(chain, input, 3)
		if len(keys) != 3 {
			t.Fatalf("8.1: Derive of %d bytes, 3: %x", n, keys)
		}
		temp := Hmac(chain[:], input)
		name := fmt.Sprintf("8.1: Derive of %d bytes: the ", n)
		holdSum(t, name+"first", keys[0], Hmac(temp[:], []byte{0x01}))
		holdSum(t, name+"second", keys[1], Hmac(temp[:], joined(keys[0][:], []byte{0x02})))
		holdSum(t, name+"third", keys[2], Hmac(temp[:], joined(keys[1][:], []byte{0x03})))
	}
}

// Inputs of every length of up to several blocks, of no bytes among them.
func TestDeriveOfEachLength(t *testing.T) {
	for n := range 400 {
		for seed := range int64(4) {
			chain, input := drawnChain(seed), drawnText(n, seed+4)
			for _, count := range []int{2, 3} {
				name := fmt.Sprintf("8.1: Derive(%x, %x, %d)", chain, input, count)
				holdKeys(t, name, Derive(chain, input, count), plainDerive(chain, input, count))
			}
		}
	}
}

// Chain keys of 0, of 1, and inputs of as many bytes.
func TestDeriveOfChainsAtTheEdges(t *testing.T) {
	var zeros, ones, low, high [32]byte
	for i := range ones {
		ones[i] = 0xff
	}
	low[0], high[31] = 1, 0x80
	chains := [][32]byte{zeros, ones, low, high}
	seen := map[[32]byte]bool{}
	for _, chain := range chains {
		for _, input := range chains {
			keys := Derive(chain, input[:], 3)
			holdKeys(t, fmt.Sprintf("8.1: Derive(%x, %x, 3)", chain, input), keys, plainDerive(chain, input[:], 3))
			for _, key := range keys {
				seen[key] = true
			}
		}
	}
	if want := 3 * len(chains) * len(chains); len(seen) != want {
		t.Errorf("8.1: of %d keys %d are unlike", want, len(seen))
	}
}

// A megabyte, one byte less and one more.
func TestDeriveOfAMegabyte(t *testing.T) {
	for _, n := range []int{1<<20 - 1, 1 << 20, 1<<20 + 1} {
		chain, input := drawnChain(8), drawnText(n, 9)
		holdKeys(t, fmt.Sprintf("8.1: Derive of %d bytes", n), Derive(chain, input, 3), plainDerive(chain, input, 3))
	}
}

// nil, an empty list and one with room behind it are the same input.
func TestDeriveOfNoBytes(t *testing.T) {
	for _, n := range []int{2, 3} {
		chain := drawnChain(int64(n))
		want := plainDerive(chain, nil, n)
		for i, none := range [][]byte{nil, {}, make([]byte, 0, 64), lent(nil)} {
			holdKeys(t, fmt.Sprintf("8.1: Derive of no bytes, told in way %d, %d", i, n), Derive(chain, none, n), want)
		}
	}
}

// Of numbers that are neither 2 nor 3 there are none, however near they come
// to them, in all their bits or in the lower ones.
func TestDeriveOfNeither(t *testing.T) {
	neither := []int{
		0, 1, 4, 5, 6, 7, 8, 32, 64, 254, 255, 256, 1000,
		-1, -2, -3, -4, -255, math.MinInt, math.MinInt + 1, math.MinInt + 2, math.MinInt + 3,
		math.MaxInt, math.MaxInt - 1, math.MaxInt8, math.MaxInt16, math.MaxInt32, math.MinInt32, 1 << 40,
	}
	for _, bit := range []int{8, 16, 31, 32, 62} {
		neither = append(neither, 1<<bit+2, 1<<bit+3, -1<<bit+2, -1<<bit+3)
	}
	for i := -300; i < 300; i++ {
		if i != 2 && i != 3 {
			neither = append(neither, i)
		}
	}
	for _, n := range neither {
		for _, input := range [][]byte{nil, drawnText(70, 10)} {
			if keys := Derive(drawnChain(11), input, n); len(keys) != 0 || cap(keys) != 0 {
				t.Errorf("8.1: Derive of %d bytes, %d: %x", len(input), n, keys[:cap(keys)])
			}
		}
	}
}

// Each bit of a chain key and of an input is seen in each key.
func TestEachBitIsSeenInEachKey(t *testing.T) {
	chain, input := drawnChain(12), drawnText(130, 13)
	seen := [3]map[[32]byte]bool{{}, {}, {}}
	see := func() {
		for i, key := range Derive(chain, input, 3) {
			seen[i][key] = true
		}
	}
	see()
	for _, b := range [][]byte{chain[:], input} {
		for i := range 8 * len(b) {
			b[i/8] ^= 1 << (i % 8)
			see()
			b[i/8] ^= 1 << (i % 8)
		}
	}
	want := 8*(len(chain)+len(input)) + 1
	for i := range seen {
		if len(seen[i]) != want {
			t.Errorf("8.1: %d chain keys and inputs that are unlike by a bit have %d keys %d", want, len(seen[i]), i+1)
		}
	}
}

// Keys hang on what is handed in alone, whatever was asked between, and beside
// it.
func TestDeriveTheSameAgain(t *testing.T) {
	const n = 300
	ask := func(i int) [][32]byte { return Derive(drawnChain(int64(i)), textPattern(i), 2+i%2) }
	var first, again [n][][32]byte
	for i := range n {
		first[i] = ask(i)
	}
	var all sync.WaitGroup
	for i := range n {
		all.Go(func() {
			Hmac(keyPattern(i), textPattern(i))
			Derive(drawnChain(int64(i)), nil, i)
			again[n-1-i] = ask(n - 1 - i)
		})
	}
	all.Wait()
	for i := range n {
		holdKeys(t, fmt.Sprintf("R4: Derive of %d bytes, later", i), again[i], first[i])
	}
}
