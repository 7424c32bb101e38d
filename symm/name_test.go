package symm

import (
	"fmt"
	"strings"
	"testing"

	"porthole/blake"
)

// The chapter's example.
func TestTheExample(t *testing.T) {
	holdSum(t, "10.1: New(a), Hash", New("a").Hash(), [32]byte{0x61})
}

// The chain key is the hash, and there is no key.
func TestNew(t *testing.T) {
	for _, name := range edgeNames() {
		b := begun(name)
		say := fmt.Sprintf("10.1: New(%q)", name)
		b.hold(t, say)
		if b.s.HasKey() || b.s.Chain() != b.s.Hash() {
			t.Errorf("%s: a key: %t; chain key %x, hash %x", say, b.s.HasKey(), b.s.Chain(), b.s.Hash())
		}
	}
}

// Up to 32 bytes it is the name itself, filled with 0; from 33 on its Sum.
func TestNewOfEachLength(t *testing.T) {
	long := drawnName(400)
	for n := range len(long) {
		name := long[:n]
		got := New(name).Hash()
		if n > 32 {
			holdSum(t, fmt.Sprintf("10.1: New of %d bytes", n), got, blake.Sum([]byte(name)))
		} else if string(got[:]) != name+zeros(32-n) {
			t.Errorf("10.1: New of %d bytes: %x, not %x filled with 0", n, got, name)
		}
		want := plain{hash: got, chain: got}
		holdState(t, fmt.Sprintf("10.1: New of %d bytes", n), New(name), want)
	}
}

// 0s at the end of a short name are the same as none; behind 32 bytes, and
// before a name, they are not.
func TestNamesWithZeros(t *testing.T) {
	for n := range 33 {
		name := drawnName(n)
		for more := range 33 - n {
			holdSum(t, fmt.Sprintf("10.1: New of %d bytes and %d 0s", n, more), New(name+zeros(more)).Hash(), New(name).Hash())
		}
		long := name + zeros(33-n)
		holdSum(t, fmt.Sprintf("10.1: New of %d bytes, filled to 33", n), New(long).Hash(), blake.Sum([]byte(long)))
		if n > 0 && n < 32 && New("\x00"+name).Hash() == New(name).Hash() {
			t.Errorf("10.1: New passes over a 0 ahead of %d bytes", n)
		}
	}
}

// Each byte of a name counts, whatever it is, where it lies.
func TestEachByteOfAName(t *testing.T) {
	for _, n := range []int{1, 31, 32, 33, 64} {
		for at := range n {
			for _, c := range []byte{0, 1, 0x7f, 0x80, 0xc3, 0xff} {
				name := []byte(drawnName(n))
				name[at] = c
				both{New(string(name)), plainNew(string(name))}.hold(t, fmt.Sprintf("10.1: New(%q)", name))
			}
		}
	}
}

func TestALongName(t *testing.T) {
	name := strings.Repeat("porthole", 1<<17)
	holdSum(t, "10.1: New of a megabyte", New(name).Hash(), blake.Sum([]byte(name)))
	holdSum(t, "10.1: New of a megabyte: the chain key", New(name).Chain(), blake.Sum([]byte(name)))
}

// What comes behind a name hangs on its hash alone: states of one hash are
// told the same.
func TestStatesOfOneHash(t *testing.T) {
	sum := blake.Sum([]byte(drawnName(50)))
	a, b := New(drawnName(50)), New(string(sum[:]))
	for i := range 5 {
		a.MixKey(drawnText(i, 1))
		b.MixKey(drawnText(i, 1))
		x, _ := a.Seal(drawnText(20, 2))
		y, e := b.Seal(drawnText(20, 2))
		holdAnswer(t, "10.1: of one hash", y, e, x, 0)
	}
	holdState(t, "10.1: of one hash", b, asTold(a))
}
