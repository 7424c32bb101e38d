package blake

import "testing"

// holdWords holds inner words against hex digits.
func holdWords(t *testing.T, name string, got words, want string) {
	t.Helper()
	for i, w := range numbers(want, 16) {
		if uint64(got[i]) != w {
			t.Errorf("7.1: %s: word %d is %08x, not %08x", name, i, got[i], w)
		}
	}
}

// RFC 7693, appendix B: the words of abc ahead of the first round and behind
// it.
func TestFirstRound(t *testing.T) {
	v := start(New().state, 3, true)
	holdWords(t, "ahead of the first round", v,
		"6b08e647 bb67ae85 3c6ef372 a54ff53a 510e527f 9b05688c 1f83d9ab 5be0cd19 "+
			"6a09e667 bb67ae85 3c6ef372 a54ff53a 510e527c 9b05688c e07c2654 5be0cd19")
	holdWords(t, "behind the first round", mixed(v, read([64]byte{'a', 'b', 'c'}), sigma[0]),
		"16a3242e d7b5e238 ce8ce24b 927aede1 a7b430d9 93a4a14e a44e7c31 41d4759b "+
			"95bf33d3 9a99c181 608a3a6b b666383e 7a8dd50f be378ed7 353d1ee6 3bb44c6b")
}

// The count of bytes, past what one word holds: no text that comes within the
// bound of R6 brings it there.
func TestBothWordsOfTheCount(t *testing.T) {
	for _, taken := range []uint64{0, 64, 1<<32 - 128, 1<<32 - 64, 1 << 32, 1<<32 + 64, 5<<32 - 64, 1<<63 + 7<<32 + 192} {
		for _, n := range []int{1, 63, 64, 65, 129} {
			text := drawnText(n, int64(n))
			h := New()
			h.taken = taken
			h.Write(text)
			want := plainFirst()
			rest, before := text, taken
			for ; len(rest) > 64; rest = rest[64:] {
				before += 64
				want = plainPress(want, rest[:64], before, false)
			}
			last := append(rest[:len(rest):len(rest)], make([]byte, 64-len(rest))...)
			want = plainPress(want, last, taken+uint64(n), true)
			holdSum(t, "7.1: behind many bytes", h.Sum(), plainBytes(want))
		}
	}
}
