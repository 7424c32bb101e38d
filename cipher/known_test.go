package cipher

import (
	"crypto/sha256"
	"encoding/hex"
	"fmt"
	"testing"

	"porthole/api"
)

// known is the bytes of hex digits.
func known(t *testing.T, digits string) []byte {
	t.Helper()
	b, err := hex.DecodeString(digits)
	if err != nil {
		t.Fatalf("%q: %v", digits, err)
	}
	return b
}

// pattern is n bytes that rise by a, from b on.
func pattern(n, a, b int) []byte {
	l := make([]byte, n)
	for i := range l {
		l[i] = byte(a*i + b)
	}
	return l
}

func keyPattern() [32]byte     { return [32]byte(pattern(32, 5, 1)) }
func textPattern(n int) []byte { return pattern(n, 7, 3) }
func adPattern(n int) []byte   { return pattern(n, 11, 9) }

// OpenSSL's boxes, of nonces at the edges.
func TestKnownBoxes(t *testing.T) {
	for _, c := range []struct {
		nonce uint64
		want  string
	}{
		{0, "c3b21f3a60157f8f53dabc12aaf6dd5ded4d1c04462c444ee624e32588f52dbc8c27fc8f"},
		{1, "38887e39f5a27d7acdd68bab7ad47c17ba30333df3ecfe13214d3b9dc151928ab321a1c8"},
		{2, "80a9340aad92222c9778224ed4ddf8eafe6313c7cfe853ef5e76684df9c91d108515ac48"},
		{1<<32 - 2, "f6bcd4f84d7310a92df092268dd544c090387560d442e17e1890cc2c0782476b6b40c94c"},
		{1<<32 - 1, "c4eb45579dd16ef67a5bba0adbb74e2df1ecd5c45c5330434d20e22958cde1a6904362f4"},
		{1 << 32, "b5caca167f0672bf5a92a447d3338acbf022f94698cfc7392b30d9540a787c74f8d1a30e"},
		{1<<32 + 1, "e48d06de7dac03719f7dd49e3c947d634c55569681a6c84abcd347384b8f702756a3485c"},
		{1<<63 - 1, "d9744cd9bf95f861a22128559fb43392432bade37a9d2b6630722cb0ad5e4df7440f7f51"},
		{1 << 63, "b64e7611c17165afbdb0c84ef220785d1bbed4a6bd40bf023d186968ad9bfd24bb51745f"},
		{Last - 2, "b73fe7138f2292a5d3fad5cd5b71e49d085c200fe431f8c246aa836f6c88e81c484fb52b"},
		{Last - 1, "c1c81f85e3801ebbc93c190a91b6410be6dd3bad214933ae9e3b66012d5cbdefc9503e05"},
	} {
		s, r := begunAt(keyPattern(), c.nonce), begunAt(keyPattern(), c.nonce)
		name := fmt.Sprintf("9.1: nonce %d", c.nonce)
		box, e := s.Seal(adPattern(5), textPattern(20))
		holdAnswer(t, name+": Seal", box, e, known(t, c.want), api.OK)
		got, e := r.Open(adPattern(5), known(t, c.want))
		holdAnswer(t, name+": Open", got, e, textPattern(20), api.OK)
	}
}

// OpenSSL's keys, behind one Rekey and behind two.
func TestKnownRekeys(t *testing.T) {
	ones := edgeKeys()[1]
	for _, c := range []struct {
		key        [32]byte
		once, more string
	}{
		{[32]byte{}, "25ce5d37df19f3783185f2ffd5ab17fa3397c212f02d62fb1733e0b875b74c58", "d1e632dbd6a7b804e9081d223e165e115256a9d13b11d90e7b707790362ff2e0"},
		{ones, "5bac2acd86a836c5dc98c116c1217ec31d3a63a9451319f097f3b4d6dab07787", "3bc92e63c05a0c6ededf3ee0ee19a28f784a750754cc20a7d1e270c312f9fd10"},
		{keyPattern(), "33255eae4e745f6f5a5f59065c18b21f27a1ac5c9209103bb7bef84d4bf25824", "7c95106caef10018a56f3dd60156ce749b2865458b26431a855c250c8bc3ce8c"},
	} {
		s := begun(c.key)
		for i, want := range []string{c.once, c.more} {
			if e := s.Rekey(); e != api.OK {
				t.Errorf("9.1: Rekey: %d", e)
			}
			holdState(t, fmt.Sprintf("9.1: Rekey %d of %x", i, c.key), s, plain{true, [32]byte(known(t, want)), 0})
		}
	}
	s := begun(keyPattern())
	for range 1000 {
		s.Rekey()
	}
	thousand := known(t, "0ae0ba7920c449b6f5336db63014f37f82d4ac19d57912fdad529e3cf2677b3c")
	holdState(t, "9.1: a thousand Rekeys", s, plain{true, [32]byte(thousand), 0})
}

// OpenSSL's digests of Rekeys of each single bit.
func TestKnownRekeysOfBits(t *testing.T) {
	var all []byte
	for i := range 256 {
		var key [32]byte
		key[i/8] = 1 << (i % 8)
		s := begun(key)
		s.Rekey()
		key = s.Key()
		all = append(all, key[:]...)
	}
	holdDigest(t, "Rekeys of one bit", all, "d0a9cea75359d5f788be9e79dd0777dd573ad649c7d28454b62fa36a0c3a6e8e")
}

func holdDigest(t *testing.T, name string, all []byte, want string) {
	t.Helper()
	if got := sha256.Sum256(all); hex.EncodeToString(got[:]) != want {
		t.Errorf("9.1: %s: the digest is %x, not %s", name, got, want)
	}
}

// row is 300 boxes of texts and ads of many lengths, one behind the other,
// that another state opens, with a Rekey of both behind every so many.
func row(t *testing.T, from uint64, every int) []byte {
	t.Helper()
	s, r := begunAt(keyPattern(), from), begunAt(keyPattern(), from)
	var all []byte
	for i := range 300 {
		box, e := s.Seal(adPattern(i%41), textPattern(i))
		if e != api.OK {
			t.Errorf("9.1: Seal %d of a row: %d", i, e)
		}
		got, e := r.Open(adPattern(i%41), box)
		holdAnswer(t, fmt.Sprintf("9.1: Open %d of a row", i), got, e, textPattern(i), api.OK)
		all = append(all, box...)
		if (i+1)%every == 0 {
			s.Rekey()
			r.Rekey()
		}
	}
	return all
}

// OpenSSL's digests of rows.
func TestKnownRows(t *testing.T) {
	const never = 1000
	holdDigest(t, "a row", row(t, 0, never), "84363af3f2ff19faca1474bdcede0452e42dc51d0014843c62557cd00699d6ba")
	holdDigest(t, "a row about 2^32", row(t, 1<<32-150, never), "347a0bf2503e94a983ea6c2e26605dba04ccb3528300977936edf3e63a0a5e06")
	holdDigest(t, "a row up to Last", row(t, Last-300, never), "50de699d5769bccf691e7548e255aa02f7a5af9648009761817f5e6590bd2849")
	holdDigest(t, "a row with a Rekey every sixteen", row(t, 0, 16), "7f0b0a01304f8c6ba32b538438a42cc9af9ee6874ac69339682463879fcab555")
}

// OpenSSL's digest of a megabyte as ad, as text, as both.
func TestKnownMegabyte(t *testing.T) {
	s := begun(keyPattern())
	var all []byte
	for _, c := range [][2]int{{1 << 20, 0}, {0, 1 << 20}, {1 << 20, 1 << 20}} {
		box, _ := s.Seal(adPattern(c[0]), textPattern(c[1]))
		all = append(all, box...)
	}
	holdDigest(t, "a megabyte", all, "c9468b799360478578a97e3b71a9d008702d39f54f9b47f198a1a4fad2468682")
}
