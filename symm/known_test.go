package symm

import (
	"crypto/sha256"
	"encoding/hex"
	"fmt"
	"testing"

	"porthole/api"
	"porthole/curve"
)

// known is the bytes of hex digits.
func known(t *testing.T, digits string) []byte {
	t.Helper()
	b, err := hex.DecodeString(digits)
	if err != nil {
		t.Fatalf("%q: %v", digits, err)
	}
	return b
}

// pattern is n bytes that rise by a, from b on.
func pattern(n, a, b int) []byte {
	l := make([]byte, n)
	for i := range l {
		l[i] = byte(a*i + b)
	}
	return l
}

func namePattern(n int) string  { return string(pattern(n, 3, 65)) }
func inputPattern(n int) []byte { return pattern(n, 5, 1) }
func textPattern(n int) []byte  { return pattern(n, 7, 3) }
func saidPattern(n int) []byte  { return pattern(n, 11, 9) }

func holdDigest(t *testing.T, name string, all []byte, want string) {
	t.Helper()
	if got := sha256.Sum256(all); hex.EncodeToString(got[:]) != want {
		t.Errorf("10.1: %s: the digest is %x, not %s", name, got, want)
	}
}

// OpenSSL's sums of names.
func TestKnownNames(t *testing.T) {
	for _, c := range []struct {
		n    int
		want string
	}{
		{0, "0000000000000000000000000000000000000000000000000000000000000000"},
		{1, "4100000000000000000000000000000000000000000000000000000000000000"},
		{31, "4144474a4d505356595c5f6265686b6e7174777a7d808386898c8f9295989b00"},
		{32, "4144474a4d505356595c5f6265686b6e7174777a7d808386898c8f9295989b9e"},
		{33, "8d74e2219aea7d3fe8ac491f450e9dfd9708e8ad36120cf33ab1823604bda2e2"},
		{63, "0455dda2227a116e4a5bebf809a13d7da06707b378d294f6c2844d8b4e1ba21d"},
		{64, "6deaed07b541ccabff4ee30e5c2730d7a1539fd719d210bb5fa304131ff80ddf"},
		{65, "e6f9541184f93c1498cf06383b27bd7a567632928ba45f877cfab727792a0cf2"},
		{128, "82ee8b6c13b07c99c68a42fb8c445247147b813efdd162073b6d280c581a1457"},
		{1 << 20, "194fb232d1778485cde9a3c532abfbd0b0ba13cb31fac8cacddfd6f6904c5d52"},
	} {
		s := New(namePattern(c.n))
		want := [32]byte(known(t, c.want))
		holdState(t, fmt.Sprintf("10.1: New of %d bytes", c.n), s, plain{hash: want, chain: want})
	}
	var all []byte
	for n := range 300 {
		h := New(namePattern(n)).Hash()
		all = append(all, h[:]...)
	}
	holdDigest(t, "names", all, "735ec53b17f08d6ba4a70335a5b96693877622df9d76366dd0f329f7deffd42d")
	noise := New("Noise_XX_25519_ChaChaPoly_BLAKE2s").Hash()
	holdSum(t, "10.1: New of Noise's name", noise, [32]byte(known(t, "1ceedd81c5f458b225923dc2507787bf156f9251fc17c45af63263a929fc1ed2")))
}

// OpenSSL's hashes, behind MixHash.
func TestKnownMixHash(t *testing.T) {
	for _, c := range []struct {
		n    int
		want string
	}{
		{0, "4215c585b4f08c3a07373add8999ca20d5bffc6c9ecf0621bc2538abe2274f32"},
		{1, "912fbc341d11d92282b9ec8fcfdb38ae379a6b89e147d8656f5b7e40728ef494"},
		{32, "923bb18b81257457650df50e5cd23351ddc416bb1d7ccd7caff89d29ded3f010"},
		{63, "47678a3d92a88f3ea0ed5c70115987fbab0ea6c0205ea801118bf0d113beda6c"},
		{64, "1a0351f6d2532061b73a99759884a06d421c692301c6688c403a70b239c7b4f3"},
		{65, "2e0f969826a352b22e78ab243f5f6d515785deeeee4115f17e54dcfd9ba293a3"},
		{1 << 20, "876c8ccee55f6b2800ed07f0f1bf272b4883a599723a2059345f1865d7d83a6c"},
	} {
		s := New("a")
		s.MixHash(saidPattern(c.n))
		want := plain{hash: [32]byte(known(t, c.want)), chain: [32]byte{'a'}}
		holdState(t, fmt.Sprintf("10.1: MixHash of %d bytes", c.n), s, want)
	}
}

// OpenSSL's keys, behind MixKey: the chain key, the key, and those of Split.
func TestKnownMixKey(t *testing.T) {
	for _, c := range []struct {
		n                       int
		chain, key, first, then string
	}{
		{0,
			"abc85d20a708c17804b4abd8cd5ad94abf699fbc4d571e53759ab0d8d34fce05", "091066860c3b89cc2d202f69abeae0e5d9d854bc56381129a0d56a235c235ab4",
			"dad507e7d202c650d504ab252c552996431951ae324bb519e757d731e49f934c", "1c66c8c0c8518156272b59411a4ba35d1affb4704e9cc08ffbf89d6c5fd1b491"},
		{1,
			"352c47357248c52e34c1382ed9da161a1d73de4f082d3c5ee78fad062a1a7903", "a343f1250a05a720d10095c944fe1a263813b4f5453da312fc42167a832e0c19",
			"562c82af6b0454836d996e14a4853c64c20ac0d1cae18c24837a01f83eac749b", "412259f8c99f390d913efbde4c2a438d75d30c32a34155d486f6a84b933ca31b"},
		{32,
			"f82fd8d897799d395f53fa56282f927a9d9f76a65ac00f2ea34a98dd26451b38", "2ed864b5e789bdd3c291ee16b0ac7782068d60682975a4c9d4dc936d5ab92e1e",
			"e3d88ba62366573e776c9c978ffa16f75d7c19fbfcc6ea4e4fb1033b0b55f67c", "b7e0072a204e77a9cb8d42276f415d0b4c9160f2e7a9016239c34bd42d4a705a"},
		{63,
			"19c811ae4815e189745afbc3496e266c1d0289ee6b00518713dd17fa0d783613", "98e516817ba2f824e611067d993170e1d2a9f470ceb0cc2aa2e8e688c80ce0dc",
			"9dcfe6e9902fc42fd97ae6fb37845fadf7d5348da0db24004be76c442aa27796", "eb420f6b0af283395a3bf8978b18567d60bca345a365b4aae79ebbe25756a5e4"},
		{64,
			"f1882a56b284da7aaead44c346a2e40b16e52766b7430ffdaadd49d1b95f35cf", "4232880da92e1e58351926f4c81cc047479e8cfe76ace0ca4ed0588f38645a2b",
			"4f2838906cafbacf8358c60452f2086d9734f78acdb79c74879b5cbde9d6ac83", "c3c44ca9de8d8868e0bcd146776f6ddeddabcff8ba0cf3bc1d034c4b06aac669"},
		{65,
			"3790f9da8407a398cbe333dce4d8dbe04c868b659733e0d2fbe126de419e1057", "b7bbdd137420041b6457c7b02680dc82bf3132e2d8eb571570c5846a272ef7a7",
			"5562c723e760f63d3cc6c39480412e6e7d23d1ef2ded2b469b2c0ac060a7c326", "667b86232b19aa7a7065c2d1154fe6847270cbe49511819380910d0919d00f69"},
		{1 << 20,
			"42514bb565f393a3a7340c075683a0fe982bfe2ef155484dc5a7c1317d6aa5f1", "f2e2406e37c3dbfe8502b52193cde6265ee817c05f1a2c729785cda9da1e7b3c",
			"3ac23194736fdc98cc02557ba787628007847ad8b7f504b7c2b7cede1cb54aaf", "12d8a8ab4eabee58797bb6c49e3970818fe0b40564957f12065af2df0f9a27d0"},
	} {
		s := New("a")
		s.MixKey(inputPattern(c.n))
		want := plain{[32]byte{'a'}, [32]byte(known(t, c.chain)), true, [32]byte(known(t, c.key)), 0}
		holdState(t, fmt.Sprintf("10.1: MixKey of %d bytes", c.n), s, want)
		holdSplit(t, fmt.Sprintf("10.1: MixKey of %d bytes, Split", c.n), s, c.first, c.then)
	}
	holdSplit(t, "10.1: Split of a new one", New("a"),
		"abc85d20a708c17804b4abd8cd5ad94abf699fbc4d571e53759ab0d8d34fce05",
		"091066860c3b89cc2d202f69abeae0e5d9d854bc56381129a0d56a235c235ab4")
}

func holdSplit(t *testing.T, name string, s *State, first, then string) {
	t.Helper()
	a, b := s.Split()
	holdSum(t, name+": the first", a.Key(), [32]byte(known(t, first)))
	holdSum(t, name+": the second", b.Key(), [32]byte(known(t, then)))
}

// OpenSSL's boxes of a row, and the hashes behind them.
func TestKnownBoxes(t *testing.T) {
	s, r := New("a"), New("a")
	s.MixKey(inputPattern(32))
	r.MixKey(inputPattern(32))
	for _, c := range []struct {
		n         int
		box, hash string
	}{
		{0, "46bfef2e77f71a34083f84e74f1a5dfd",
			"3c2515ab1f58a4277cb218d5b415d0c5f93c17190dc044adb1c88efae25f3e1d"},
		{1, "60e3b178d4ef98bb8cb88d23d6d8727a62",
			"d605648efa335d0f6b42d4cea1900944b97ec600eb41d5e7a4e1723ab47bd76b"},
		{20, "4b4666cb06de5a16f4fcaaad75db161fb47ae856302b24f2468b35963c38ffc6a4b14ba2",
			"cc85c4374aa8993a823cc9da30c25967def6c258c453c0dc31d2d3c4771cd611"},
		{64, "542813eb1e2a46806776988110de262608ee3b78a121604928f7b04a38eb43f13d5529b3fa9a19b4449be49ffc838eac1e49e77508138104f5056e73769f5ac9280590fc0e82803498bb738933b54677",
			"96ddad29113c567f0b693b9b2f97a39cf2b7a3ac2db9841a77bc7b59eddafb76"},
		{65, "aa7bafc8a5926ef91cff827993010c75a3d36fb07973dfe83ef6ae26f36a9e0112f10cac70ec9484e0fb94ef10bb4e7b7108d2e29a0edbb2dfdf02d38d5ca4d2ae7fa8fe3119dabacc7ccaf760b2365147",
			"b9586a062b44e2636ae923817ae465d2d8044141702e402bfdc0160cf9b63fd3"},
	} {
		name := fmt.Sprintf("10.1: a row, %d bytes", c.n)
		box, e := s.Seal(textPattern(c.n))
		holdAnswer(t, name+": Seal", box, e, known(t, c.box), api.OK)
		got, e := r.Open(known(t, c.box))
		holdAnswer(t, name+": Open", got, e, textPattern(c.n), api.OK)
		holdSum(t, name+": the hash", s.Hash(), [32]byte(known(t, c.hash)))
		holdSum(t, name+": the other's hash", r.Hash(), [32]byte(known(t, c.hash)))
	}
}

// row is all that two states answer of which one seals 300 texts that the
// other opens, with something said ahead of each, and a key every so many.
func row(t *testing.T, name, every int) []byte {
	t.Helper()
	s, r := New(namePattern(name)), New(namePattern(name))
	var all []byte
	for i := range 300 {
		for _, one := range []*State{s, r} {
			one.MixHash(saidPattern(i % 41))
			if i%every == every-1 {
				one.MixKey(inputPattern(i % 67))
			}
		}
		box, e := s.Seal(textPattern(i))
		if e != api.OK {
			t.Errorf("10.1: Seal %d of a row: %d", i, e)
		}
		got, e := r.Open(box)
		holdAnswer(t, fmt.Sprintf("10.1: Open %d of a row", i), got, e, textPattern(i), api.OK)
		hash, chain := r.Hash(), r.Chain()
		all = append(append(append(all, box...), hash[:]...), chain[:]...)
	}
	a, b := r.Split()
	first, then := a.Key(), b.Key()
	return append(append(all, first[:]...), then[:]...)
}

// OpenSSL's digests of rows.
func TestKnownRows(t *testing.T) {
	const never = 1000
	holdDigest(t, "a row without a key", row(t, 33, never), "aaa1bbe7155037f5963066df2fc58b0f6f75ea18b0366107166ded9e0bd0ed44")
	holdDigest(t, "a row with a key for each", row(t, 0, 1), "f832f34c0fb808d32775aa7ff9387525b3ed5cb8b9900c48e7a568835cfc92f8")
	holdDigest(t, "a row with a key every seven", row(t, 32, 7), "d701b917734333427c223e7131c9ee40f0c8c6afaac7288e4d5b63f926a0f9f9")
	holdDigest(t, "a row with a key every sixteen", row(t, 33, 16), "83f13629eccdb8cea1ea6461c01fd4272a14630c93732e243696cabdf74fbfc9")
}

// OpenSSL's digest of megabytes.
func TestKnownMegabyte(t *testing.T) {
	s := New(namePattern(1 << 20))
	s.MixHash(saidPattern(1 << 20))
	s.Seal(textPattern(1 << 20))
	s.MixKey(inputPattern(1 << 20))
	box, _ := s.Seal(textPattern(1 << 20))
	hash, chain := s.Hash(), s.Chain()
	holdDigest(t, "a megabyte", append(append(box, hash[:]...), chain[:]...), "c8b551a79d7961521c7b3683938166a37d7121869fc708c3f5e5f15e132fac28")
}

// handshake is one of Noise XX, as the vectors of flynn/noise 1.1.0 tell it.
type handshake struct {
	prologue, payload string
	messages          [3]string
}

// Without and with a prologue, without and with payloads.
func handshakes() []handshake {
	return []handshake{
		{"", "", [3]string{
			"358072d6365880d1aeea329adf9121383851ed21a28e3b75e965d0d2cd166254",
			"64b101b1d0be5a8704bd078f9895001fc03e8e9f9522f188dd128d9846d48466c7f9c130891d2fcc2454ad9808ce708c7fde0ef21e72e985c38a6ed8cdaadcd96586759f804d4fa61b89ea5b36cb9b3eb1eab4273f15b629e3508d6f11a78c6d",
			"e42e3908de4cd096b8b86320dfe9d03127451fdbfc423fd9ef86b4659fae03c86a279a2a864a1429147865a5dba40deed136252f2229fc5c4bcd2d5ec2efbfc2",
		}},
		{"", "test_msg_", [3]string{
			"358072d6365880d1aeea329adf9121383851ed21a28e3b75e965d0d2cd166254746573745f6d73675f30",
			"64b101b1d0be5a8704bd078f9895001fc03e8e9f9522f188dd128d9846d48466c7f9c130891d2fcc2454ad9808ce708c7fde0ef21e72e985c38a6ed8cdaadcd9c0e3ed9de7ec29f5c2988dab99fc75b461f5532ce998f718c56fe4ae560e9b71afacf18e82fbda729ee6",
			"e42e3908de4cd096b8b86320dfe9d03127451fdbfc423fd9ef86b4659fae03c8498dfa777a39cf59d06c8cf8230f924bf6cfb3372d0d7f9f5da0a2795066e1e7f5b7bc545578661f6731",
		}},
		{"notsecret", "", [3]string{
			"358072d6365880d1aeea329adf9121383851ed21a28e3b75e965d0d2cd166254",
			"64b101b1d0be5a8704bd078f9895001fc03e8e9f9522f188dd128d9846d48466c7f9c130891d2fcc2454ad9808ce708c7fde0ef21e72e985c38a6ed8cdaadcd95d49ccad379691a89b57368d70add1bd30d7757d21b91f1b9981ac3f6cc36f79",
			"e42e3908de4cd096b8b86320dfe9d03127451fdbfc423fd9ef86b4659fae03c8e7b0c7c5612fc71db82f4f8ab985fab34ef5d36e101b730d9ff6de037479f032",
		}},
		{"notsecret", "test_msg_", [3]string{
			"358072d6365880d1aeea329adf9121383851ed21a28e3b75e965d0d2cd166254746573745f6d73675f30",
			"64b101b1d0be5a8704bd078f9895001fc03e8e9f9522f188dd128d9846d48466c7f9c130891d2fcc2454ad9808ce708c7fde0ef21e72e985c38a6ed8cdaadcd9e07ed4c7d77e83b721e41d9bb2a8b57761f5532ce998f718c56f18083ab9e2f47c3f7f545a5eabbc4ece",
			"e42e3908de4cd096b8b86320dfe9d03127451fdbfc423fd9ef86b4659fae03c897f77a2af21f5ce18cde8740fe9e5912f6cfb3372d0d7f9f5da0d9be88017bb339b951c56929f77fe9d6",
		}},
	}
}

// message is one that is made by one state and taken by the other, part by
// part.
type message struct {
	from, to *State
	whole    []byte
}

// clear is a public key that all may see.
func (m *message) clear(secret [32]byte) {
	public := curve.Public(secret)
	m.from.MixHash(public[:])
	m.to.MixHash(public[:])
	m.whole = append(m.whole, public[:]...)
}

// key is what two secrets have in common.
func (m *message) key(mine, theirs [32]byte) {
	here, _ := curve.Shared(mine, curve.Public(theirs))
	there, _ := curve.Shared(theirs, curve.Public(mine))
	m.from.MixKey(here[:])
	m.to.MixKey(there[:])
}

// sealed is a text that nobody else may see, where there is a key.
func (m *message) sealed(t *testing.T, text []byte) {
	t.Helper()
	box, e := m.from.Seal(text)
	if e != api.OK {
		t.Errorf("10.1: a handshake: Seal: %d", e)
	}
	got, e := m.to.Open(box)
	holdAnswer(t, "10.1: a handshake: Open", got, e, text, api.OK)
	m.whole = append(m.whole, box...)
}

// said is the payload of a step; some handshakes have none.
func (h handshake) said(step string) []byte {
	if h.payload == "" {
		return nil
	}
	return []byte(h.payload + step)
}

// Whole handshakes are those of the vectors, and so is what is said behind them.
func TestKnownHandshakes(t *testing.T) {
	const noise = "Noise_XX_25519_ChaChaPoly_BLAKE2s"
	staticI, staticR := [32]byte(pattern(32, 1, 0)), [32]byte(pattern(32, 1, 1))
	freshI, freshR := [32]byte(pattern(32, 1, 32)), [32]byte(pattern(32, 1, 65))
	publicI, publicR := curve.Public(staticI), curve.Public(staticR)
	for i, h := range handshakes() {
		first, other := New(noise), New(noise)
		first.MixHash([]byte(h.prologue))
		other.MixHash([]byte(h.prologue))
		m := [3]message{{from: first, to: other}, {from: other, to: first}, {from: first, to: other}}
		m[0].clear(freshI)
		m[0].sealed(t, h.said("0"))
		m[1].clear(freshR)
		m[1].key(freshR, freshI)
		m[1].sealed(t, publicR[:])
		m[1].key(staticR, freshI)
		m[1].sealed(t, h.said("1"))
		m[2].sealed(t, publicI[:])
		m[2].key(staticI, freshR)
		m[2].sealed(t, h.said("2"))
		for step, want := range h.messages {
			name := fmt.Sprintf("10.1: handshake %d, message %d", i, step)
			holdAnswer(t, name, m[step].whole, api.OK, known(t, want), api.OK)
		}
		holdState(t, "10.1: the two ends of a handshake", other, asTold(first))
		send, receive := first.Split()
		box, _ := send.Seal(nil, []byte("yellowsubmarine"))
		holdAnswer(t, "10.1: the first, behind a handshake", box, api.OK, known(t, "7086fc0466ee7523680d09ff7c272e2a2817a6e2d6c4ec1c209506506e8957"), api.OK)
		box, _ = receive.Seal(nil, []byte("submarineyellow"))
		holdAnswer(t, "10.1: the second, behind a handshake", box, api.OK, known(t, "e3beadf28ea871a3be666f43eaf457d030e538eb371ba48076a7db36a9a1bf"), api.OK)
	}
}
