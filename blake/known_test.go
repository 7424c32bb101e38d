package blake

import (
	"crypto/sha256"
	"encoding/hex"
	"testing"
)

// known is the sum of hex digits.
func known(t *testing.T, digits string) [32]byte {
	t.Helper()
	b, err := hex.DecodeString(digits)
	if err != nil || len(b) != 32 {
		t.Fatalf("%q: %v", digits, err)
	}
	return [32]byte(b)
}

// both is a text's sum, which must be the same by Sum and by one Write.
func both(t *testing.T, text []byte) [32]byte {
	t.Helper()
	h := New()
	h.Write(text)
	sum := Sum(text)
	holdSum(t, "7.2: one Write of what Sum was asked for", h.Sum(), sum)
	return sum
}

// The chapter's example: RFC 7693, appendix B.
func TestKnownExample(t *testing.T) {
	want := known(t, "508c5e8c327c14e2e1a72ba34eeb452f37458b209ed63a294d999b4c86675982")
	holdSum(t, "7.1: abc", both(t, []byte("abc")), want)
}

// RFC 7693, appendix E: texts of lengths at the edges, sums of other lengths
// and with keys among them, which begin with another first word and, with a
// key, with a block of it.
func TestKnownOfTheRFC(t *testing.T) {
	all := New()
	for _, n := range []int{16, 20, 28, 32} {
		for _, length := range []int{0, 3, 64, 65, 255, 1024} {
			text := sequence(length)
			sum := sumOfLength(n, nil, text)
			all.Write(sum)
			if n == 32 {
				holdSum(t, "7.1: the RFC's text", Sum(text), [32]byte(sum))
			}
			all.Write(sumOfLength(n, sequence(n), text))
		}
	}
	holdSum(t, "7.1: RFC 7693, E", all.Sum(), known(t, "6a411f08ce25adcdfb02aba641451cec53c598b24f4fc787fbdc88797f4c1dfe"))
}

// sequence is the RFC's text of n bytes.
func sequence(n int) []byte {
	a, b := 0xdead4bad*uint32(n), uint32(1)
	out := make([]byte, n)
	for i := range out {
		a, b = b, a+b
		out[i] = byte(b >> 24)
	}
	return out
}

// sumOfLength is the RFC's sum of n bytes, with a key, if there is one.
func sumOfLength(n int, key, text []byte) []byte {
	h := New()
	h.state[0] ^= 32 ^ uint32(n) ^ uint32(len(key))<<8
	if len(key) > 0 {
		h.Write(append(key, make([]byte, 64-len(key))...))
	}
	h.Write(text)
	sum := h.Sum()
	return sum[:n]
}

// OpenSSL's sums, of texts about the ends of blocks.
func TestKnownLengths(t *testing.T) {
	for _, c := range []struct {
		n    int
		want string
	}{
		{0, "69217a3079908094e11121d042354a7c1f55b6482ca1a51e1b250dfd1ed0eef9"},
		{1, "a28ac19d6bcbe2cd1d7de183485768d598e996b07889b9b11f418cb1b4a4fb0d"},
		{2, "7003138ee5c7d153bfd79e9ce6c76f5bfa17c23abe2ae017f24e4d7854f80939"},
		{32, "faacb4e48e592947ef7e23f38dd6adb8c4c559e905334c0bd427695bb570089c"},
		{63, "de27df0e375d83c49f1af9ca8270f9f2fe7b70bf800fc01672db0e9746021ebf"},
		{64, "5377e4ff957bda4d4535f4879876b71a61056c4cec31e78397c66ec47a86a130"},
		{65, "19b1b26fba093f4a670d8913e1b71cbb2916dfa701018cc6b05785c966593374"},
		{127, "6846f99493436241d0a6f289c9a911b1d0f4860db8f2b5df5295ffd37d03a3c4"},
		{128, "83470c75afa23d90cd7659906e4b47daa278131fbb225241dd37a40fd5355ac7"},
		{129, "26fd8892ab0a5f12d4acbff1efd7dcd92b99e2d377f888f07e3cb81b232b11cf"},
		{192, "8608895acbb0b5581cdfb5e84d11de01f722ab250285a172e8d59f2f67c46110"},
		{193, "ea061084b6444c554572f0c9531df6bd47c539d0d6a1ad2a5645aad6d4ff1621"},
		{256, "080c6da49f3ef891dfbf1abdfe224490e30afbad3a24e4e689fd13e4a13de241"},
		{257, "3479d996655879f4c3125aea805ea2790e1718545874f753979f3e46debed559"},
		{1000, "02a016193469710efadf8fb005ca19b509331cb847df5598cc0794bded669681"},
	} {
		if got := both(t, pattern(c.n)); got != known(t, c.want) {
			t.Errorf("7.1: a text of %d bytes: %x, not %s", c.n, got, c.want)
		}
	}
}

// OpenSSL's sums, of a megabyte, one byte less and one more.
func TestKnownMegabyte(t *testing.T) {
	const n = 1 << 20
	for _, c := range []struct {
		name string
		text []byte
		want string
	}{
		{"less one byte", pattern(n - 1), "29cb325aa4491cfbed07d9ec00c4412f070cfb81063d7b407a191df63c5d7943"},
		{"", pattern(n), "d506d6b80521e295f049a2df84e14ae91ccd9c3b156cbf4b5d47d0476994670f"},
		{"and one byte", pattern(n + 1), "c86f7c130d81dea70365cc1b6b7d4ea6d3a59603df21fbdbed5d8fe0a1515f3d"},
		{"of 0", make([]byte, n), "fe1bd963e335ce53f9eb97b6b9ab33900dcdb8d25ac5832ace179b0f8112ed8f"},
		{"of 1", ones(n), "64863e65ddc7611fe4b94895dd7ad5414024a74f9ec1678bd7f0be234af69c9d"},
	} {
		if got := both(t, c.text); got != known(t, c.want) {
			t.Errorf("7.1: a megabyte %s: %x, not %s", c.name, got, c.want)
		}
	}
}

// Each digest is that of OpenSSL's sums, one behind the other.
func TestKnownDigests(t *testing.T) {
	for _, c := range []struct {
		name string
		sums int
		text func(i int) []byte
		want string
	}{
		{"texts of 0 to 299 bytes", 300, pattern,
			"3677ce01ec783168f7b284ed942ef40e1cc8e8b5b221b1df6ad0f450538611a6"},
		{"texts of 0 to 299 bytes, all 0", 300, func(i int) []byte { return make([]byte, i) },
			"d0c2b6d48f421af3c60af80062b719a6cca6fbcc6a18771301c125ee9ee58ec7"},
		{"texts of 0 to 299 bytes, all 1", 300, ones,
			"4b19f91a7bc7f6428839b5d11b068b22f36370ce47174ad8a706bd2792abc0e9"},
		{"one block of one bit", 8 * 64, func(i int) []byte { return oneBit(i, 64) },
			"37eeb8983e14493628f05925952944bbdb913e6780592708a958a82e611c1da7"},
		{"three blocks of one bit", 8 * 130, func(i int) []byte { return oneBit(i, 130) },
			"6a6ec4876888e6b41098ab5e0b3d43672144a515aba5b9f6abeba342b2140d13"},
	} {
		digest := sha256.New()
		for i := range c.sums {
			sum := both(t, c.text(i))
			digest.Write(sum[:])
		}
		if got := hex.EncodeToString(digest.Sum(nil)); got != c.want {
			t.Errorf("7.1: %s: the digest is %s, not %s", c.name, got, c.want)
		}
	}
}
