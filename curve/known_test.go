package curve

import (
	"crypto/ecdh"
	"encoding/hex"
	"testing"

	"porthole/api"
)

// known is 32 bytes of hex digits.
func known(t *testing.T, digits string) [32]byte {
	t.Helper()
	b, err := hex.DecodeString(digits)
	if err != nil || len(b) != 32 {
		t.Fatalf("%q: %v", digits, err)
	}
	return [32]byte(b)
}

// TestKnownAnswers: RFC 7748, section 5.2; of the second one u has the highest
// bit set, and none of the scalars is clamped.
func TestKnownAnswers(t *testing.T) {
	for _, c := range [][3]string{
		{
			"a546e36bf0527c9d3b16154b82465edd62144c0ac1fc5a18506a2244ba449ac4",
			"e6db6867583030db3594c1a424b15f7c726624ec26b3353b10a903a6d0ab1c4c",
			"c3da55379de9c6908e94ea4df28d084f32eccf03491c71f754b4075577a28552",
		},
		{
			"4b66e9d4d1b4673c5ad22691957d6af5c11b6421e0ea01d42ca4169e7918ba0d",
			"e5210f12786811d3f4b7959d0538ae2c31dbe7106fc03c3efc4cd549c715a493",
			"95cbde9476e8907d7aade45cb4b873f88b595a68799fa152e6f8f7647aac7957",
		},
	} {
		k, u, want := known(t, c[0]), known(t, c[1]), known(t, c[2])
		if got := X(k, u); got != want {
			t.Errorf("3.1: X(%x, %x): %x, not %x", k, u, got, want)
		}
		if got := X(Clamp(k), u); got != want {
			t.Errorf("3.1: X(Clamp(%x), %x): %x, not %x", k, u, got, want)
		}
		holdShared(t, k, u, want)
	}
}

// TestKnownRounds: RFC 7748, section 5.2: X of X of X, a thousand times.
func TestKnownRounds(t *testing.T) {
	after := map[int]string{
		1:    "422c8e7a6227d7bca1350b3e2bb7279f7897b87bb6854b783c60e80311ae3079",
		1000: "684cf59ba83309552800ef566f2f4d3c1c3887c49360e3875f2eb94d99532c51",
	}
	k, u := [32]byte{9}, [32]byte{9}
	for i := 1; i <= 1000; i++ {
		k, u = X(k, u), k
		if digits, ok := after[i]; ok && k != known(t, digits) {
			t.Errorf("3.1: round %d: %x, not %s", i, k, digits)
		}
	}
}

// TestKnownPair: RFC 7748, section 6.1.
func TestKnownPair(t *testing.T) {
	a := known(t, "77076d0a7318a57d3c16c17251b26645df4c2f87ebc0992ab177fba51db92c2a")
	b := known(t, "5dab087e624a8a4b79e17f8b83800ee66f3bb1292618b6fd1c2f8b27ff88e0eb")
	publicA := known(t, "8520f0098930a754748b7ddcb43ef75a0dbf3a0d26381af4eba4a98eaa9b4e6a")
	publicB := known(t, "de9edb7d7b7dc1b4d35b61c2ece435373f8343c85b78674dadfc7e146f882b4f")
	both := known(t, "4a5d9d5ba4ce2de1728e3bf480350f25e07e21c947d19e3376f09b3c1e161742")
	if Public(a) != publicA || Public(b) != publicB {
		t.Errorf("3.1: Public: %x and %x", Public(a), Public(b))
	}
	holdShared(t, a, publicB, both)
	holdShared(t, b, publicA, both)
	if X(a, publicB) != both || X(b, publicA) != both {
		t.Errorf("3.2: %x and %x", X(a, publicB), X(b, publicA))
	}
}

// libraryShared is what the library's own X25519 makes of k and u: it refuses
// an answer that is 0.
func libraryShared(t *testing.T, k, u [32]byte) ([32]byte, bool) {
	t.Helper()
	secret, err := ecdh.X25519().NewPrivateKey(k[:])
	if err != nil {
		t.Fatal(err)
	}
	public, err := ecdh.X25519().NewPublicKey(u[:])
	if err != nil {
		t.Fatal(err)
	}
	x, err := secret.ECDH(public)
	if err != nil {
		return [32]byte{}, false
	}
	return [32]byte(x), true
}

func libraryPublic(t *testing.T, k [32]byte) [32]byte {
	t.Helper()
	secret, err := ecdh.X25519().NewPrivateKey(k[:])
	if err != nil {
		t.Fatal(err)
	}
	return [32]byte(secret.PublicKey().Bytes())
}

func holdLibrary(t *testing.T, k, u [32]byte) {
	t.Helper()
	want, ok := libraryShared(t, k, u)
	if got := X(k, u); got != want {
		t.Errorf("3.1: X(%x, %x): %x, not %x", k, u, got, want)
	}
	if got, e := Shared(k, u); got != want || (e == api.OK) != ok || (e == api.ErrZero) == ok {
		t.Errorf("3.1: Shared(%x, %x): %x %d, not %x %v", k, u, got, e, want, ok)
	}
}

func TestAsTheLibrary(t *testing.T) {
	us := drawn(1000, 31)
	for i, k := range drawn(1000, 30) {
		holdLibrary(t, k, us[i])
		if got, want := Public(k), libraryPublic(t, k); got != want {
			t.Errorf("3.1: Public(%x): %x, not %x", k, got, want)
		}
	}
	for _, k := range scalars() {
		for _, u := range append(numbers(), smallOrder()...) {
			holdLibrary(t, k, u)
			holdLibrary(t, k, withHighest(u))
		}
	}
}
