package kdf

import (
	"crypto/sha256"
	"encoding/hex"
	"fmt"
	"testing"
)

// known is the 32 bytes of hex digits.
func known(t *testing.T, digits string) [32]byte {
	t.Helper()
	b, err := hex.DecodeString(digits)
	if err != nil || len(b) != 32 {
		t.Fatalf("%q: %v", digits, err)
	}
	return [32]byte(b)
}

// knownKeys is the three keys of hex digits.
func knownKeys(t *testing.T, digits string) [][32]byte {
	t.Helper()
	if len(digits) != 192 {
		t.Fatalf("%q: not three keys", digits)
	}
	return [][32]byte{known(t, digits[:64]), known(t, digits[64:128]), known(t, digits[128:])}
}

// OpenSSL's, of texts that are read by eye.
func TestKnownWords(t *testing.T) {
	for _, c := range []struct{ key, text, want string }{
		{"", "", "eaf4bb25938f4d20e72656bbbc7a9bf63c0c18537333c35bdb67db1402661acd"},
		{"key", "The quick brown fox jumps over the lazy dog", "f93215bb90d4af4c3061cd932fb169fb8bb8a91d0b4022baea1271e1323cd9a0"},
	} {
		holdSum(t, fmt.Sprintf("8.1: Hmac(%q, %q)", c.key, c.text), Hmac([]byte(c.key), []byte(c.text)), known(t, c.want))
	}
}

// OpenSSL's, of keys of each edge length with texts of each.
func TestKnownHmac(t *testing.T) {
	for _, c := range []struct {
		key, text int
		want      string
	}{
		{0, 0, "eaf4bb25938f4d20e72656bbbc7a9bf63c0c18537333c35bdb67db1402661acd"},
		{0, 1, "81c44022795ad8c80289d0d165797e0d83036fa130e5b1913fa3006fb4e76c38"},
		{0, 63, "3ccebe95d49fd990855b21668df4932568a720510689dc644aa22f2880601b42"},
		{0, 64, "4f00cf52520b3a74d2d64bc652b99f4a0be57814e3ba45b5223a89a48792352e"},
		{0, 65, "04a473b0959f3c85b817b8d150d138cb406dcc6e4cb056cf73ae7907bdcf7031"},
		{0, 1 << 20, "dcffc664e72c70b2a48c6ed53d12780f34d95c9721d8cbf645cf2010afbf2641"},
		{1, 0, "79425d94ebbe6cb0677d3c6ede74f6cc21b700e140440176dd9587146f4746b3"},
		{1, 1, "cff9a38465eec551a109206616d9a9917798d8d091bbaf3ad23527040703de25"},
		{1, 63, "2e354d1bcac799fd548219510bf7ac49239838ac9b0f730b92b84b2fb9890ace"},
		{1, 64, "54ebf6b3345334eeb419ed537518611a2ef508bdc9a06d2a5b1945500bd202ad"},
		{1, 65, "f2e0ae77de7a8b5ea047ac4ba615f11eefe2f94ba5677cfa915b1ee749820f58"},
		{1, 1 << 20, "10cb17a4449b328825c8f32402d42f24e27e35bf2c04721cf17a4458808b1e5a"},
		{32, 0, "cab9688d8056c687bbf34a4450a511cb0ab2fbe0170ee5db5f21709e7c155dae"},
		{32, 1, "89e7f1ccb993707d1bb378b0a04c0314657620673508d07c4ee1d2399f25c9eb"},
		{32, 63, "88856eb766fd7fa85e8bd265116213853d1c3298194cc67b3ca83bd10df5ec2d"},
		{32, 64, "91ad588de68bb40f6d62d4c037e64dc146e99608aec90c230336e69f3cfb5af4"},
		{32, 65, "e34ff1dd2ca5c2eb39408e18e78b74de6565398f4078fbf071fb468a32dd527e"},
		{32, 1 << 20, "d102c1f5dca1a3a6c2c8475a1ff95bb57a49329f0a84e51375466c907430f0d6"},
		{63, 0, "a8f51748e4400690b89a01fe42f01d78d015bedf3ec26549ba86553bfb948c4d"},
		{63, 1, "ee5d810789288e8fab55a6e3ad0b70fe896628fd0d4585c0ac0b5a9f42c72f24"},
		{63, 63, "567a314075cb6615cbdb5c6ca499364145a000908277afbdfe0105a1ffc7b4c7"},
		{63, 64, "d039ce873a8730c1f0aa88e78c43e0f4dd241745b5ac1074872eda99098d815f"},
		{63, 65, "8a3866b3c14908079687a5f8ea6f593b88ff8610781f07c3ac96638ee76e9e6f"},
		{63, 1 << 20, "c24991fa88e7ad6dae4304d5f9d238b881067e0be670c8468e4fcc010c3ab750"},
		{64, 0, "9f670017f858521f320c6fe6ea631c52b080c42b9780f344c42008c5c2d22b96"},
		{64, 1, "2ee6792aeee2f5693df99edce4de3d11894b1151ecf7003527cfb93a4e2d99c6"},
		{64, 63, "dd2df0139bee496fc923d5ee313bb279c0d6ed3359b5855ce22bdfd881278562"},
		{64, 64, "19bfd9b57e4887fe88e24e430473a15fa2379f1eb424b9af96dfe7ae0f13eee5"},
		{64, 65, "b5f5e88587ba50428ddf980660c46e073cca27b0beb61d47b71602f777e936bc"},
		{64, 1 << 20, "dd97d313296aab1426f21023ea2d1c36097d568425fc8ce05e52c5f5eb4efb59"},
		{65, 0, "1f089f853acaceac903243b8ee02ff474eb5fdfd990ca8c2cd02f7fef29694af"},
		{65, 1, "b2eefa27b0d7f7fdfa4d845d56e0c4012fd043e63ae7b8f7bf7bd5164bfa5651"},
		{65, 63, "618c6e5c50e71816ef6d591b2862aeefa75bdcd195bdb612b431167200b1e5e8"},
		{65, 64, "610fa14d5f71e431232827bb9e3666752a17b6e79a9178ee45f96688ca0a4c14"},
		{65, 65, "b2f5c437e7e41fa053b9a67c7c66f73407c6d81fc7b4b7fbfefd3ccf57ae341f"},
		{65, 1 << 20, "99bd7b4ebd55afa8ee0bafb8d8aac858c8be2ac996d7a60012ed0a006ed26e0e"},
		{200, 0, "f21515eecee18c1198a729ec6c1eb7b101894c0d66afd01b344ca90f3827a275"},
		{200, 1, "9e78931959c5c0dc1c5a3de0134dbacdc56a92af06df768b199d98901424c71b"},
		{200, 63, "dc40805af39c499730816c24cb33a764098b651caa804058da8322a6d5b3c2e4"},
		{200, 64, "8482e46b5afb0339c11deefb6fa85526093a179af3496b0982ad02f494fa7093"},
		{200, 65, "9767b2e22676d7143beb295d8e0997574df339607b8eb5578066f359db4fac22"},
		{200, 1 << 20, "f8bef689ff7a5d2073eec706f0f58f7ffa3b654ed9c895908d9c332b7ac313dd"},
		{1 << 20, 0, "041e8c367404ddff2bf782bb44febb951663d2bbc3b0347ba92e1d94e9bc344e"},
		{1 << 20, 1, "0543832734e87a46d1a16ab48ab68adaba354aed2c1a68560ac7925581e30fbb"},
		{1 << 20, 63, "1aeacd920652292d8fead433e6ee2819c9eb5970435ba9698cb8fd2715532103"},
		{1 << 20, 64, "70918fe828153f76f51e93ef530f12da9bdd0b9bfd44f82f937341d0be0e017d"},
		{1 << 20, 65, "da2cc472599984c92614e3740d972c17ed92513d4f9b363e8672dfe36e84665b"},
		{1 << 20, 1 << 20, "1be090455be96fd1b99cc3907cd70b4e7adb315a8a84c189552d6e8f4f803c77"},
	} {
		got := Hmac(keyPattern(c.key), textPattern(c.text))
		holdSum(t, fmt.Sprintf("8.1: Hmac of %d and %d bytes", c.key, c.text), got, known(t, c.want))
	}
}

// OpenSSL's HKDF, whose salt is the chain key, of inputs of each edge length.
func TestKnownDerive(t *testing.T) {
	for _, c := range []struct {
		input int
		want  string
	}{
		{0, "87a91201f6ccefa6cae3d78076ee5f4b7bc9cd323cc572280367a1b22006772659fb65c95776e2acaae206441c4ed4732f81eb8cb8f29829d4830fd503a39c1d15253ba976a82fae75a3016d6005b51c823047990a8c9c3f8f09b22163719292"},
		{1, "3db7da5738fd2ced025ede9ceb3c41fafbade3964f081bbc408ab60b6f3a8afcb2ca211a43ff78c9b002b7aa5820b6d829cca562fa6733178092c1886d9cf234a761a7d14def011c4feca7dc00cc6ec2c22cacefc4b10e914a4d585060f9367e"},
		{32, "44a7f76ed92df5d4d875ffe5ea77905e5ba3fa8a12d50052074bd90986e3452c7faa9bf2faad1bd4bcf87f79fb6d16a56f4803c540dcbb2e15eaa3133b118deb2ea48185174cfdb3e319603b11a157f392559df0ad48c85135a391072e9c7516"},
		{63, "83e2e7e4da2383df8859cfa19f6e8c2707d9747da174feb56efce6452b31bf0babef18f8645bca904d2f82949612a35773c7c2a4e487862d0c1dbd93b7a43bf5ca2560add81801b342f8f50f5c0c3030735b2ef18a2fc0940645597083dbb3e4"},
		{64, "bd55067d1ca8a448a1352f63feaa600eb0513b3add856bc743ba8670221f673f9caa5ef73d3e563f73f405df8061cdb439485cf2a974e4524083f27c707142054fe15f217405f1fbabb62c9bba509bd313a29e0a4a62392e0bd028a2b0acdaeb"},
		{65, "3fdc3932e9107d348e7243a49bec4322838ce228165634b99a4a4d241e383d6acdf711ef96c7156faa803adf3f42b49215f3c73709fd74b6cad8b6e21d9f285f3d9532bdf8a066574f788ed1713c4038371179cdd94ab4d3443ab99407cd2b99"},
		{200, "035780cc63052e6e6f8d3a56e9f475317e3dfedf6b0772fc0118046e473b7c7206c97efc800b910fa9bd1ace54a7b0805f033809d987dc12e28302634f9b4054c2847880c3e5f33fef174fcde3c048de112e02f6d56bbfee91231c7cefa7a128"},
		{1000, "31b37439c74e3ef01a6d6bc0c91b5cb663f36e209a6b1d8a4c7115fccae863d9fb3b46729b1ffe0cdc46489e401d4400607b4216e2c6f545bf9857ff778cd2397e684d8b0143083f442153b72dd752735248d83204a43b1bba6d3508dfbc4b4b"},
		{1 << 20, "dcbb622bc1f501c96ff2f0d8a2f526c9d0059b4d0886da6181aae03e329d77b7ddbb732a2cc7e0adf807e6bf8e7884faa9a20a5d1f264f7bca1191f3b92385dc417945b7b4097f9021f99a0028bd5f585eaac011cacf11598418a5c67f83a37b"},
	} {
		want := knownKeys(t, c.want)
		chain := [32]byte(keyPattern(32))
		holdKeys(t, fmt.Sprintf("8.1: Derive of %d bytes, 2", c.input), Derive(chain, textPattern(c.input), 2), want[:2])
		holdKeys(t, fmt.Sprintf("8.1: Derive of %d bytes, 3", c.input), Derive(chain, textPattern(c.input), 3), want)
	}
	holdKeys(t, "8.1: Derive of 0 and no bytes", Derive([32]byte{}, nil, 3), knownKeys(t, "8387b46bf43eccfcf349552a095d8315c4055beb90208fb1be23b894bc2ed5d058a0e5f6faefccf4807bff1f05fa8a9217945762040bcec2f4b4a62bdfe0e86e0ce6ea98ec548f8e281e93e32db65621c45eb18dc6f0a7ad94178610a2f7338e"))
}

// sums is those of Hmac, one behind the other.
func sums(n int, call func(i int) [32]byte) []byte {
	var out []byte
	for i := range n {
		sum := call(i)
		out = append(out, sum[:]...)
	}
	return out
}

// derived is the keys of Derive, one behind the other.
func derived(n int, call func(i int) [][32]byte) []byte {
	var out []byte
	for i := range n {
		for _, key := range call(i) {
			out = append(out, key[:]...)
		}
	}
	return out
}

// Each digest is that of OpenSSL's answers, one behind the other.
func TestKnownDigests(t *testing.T) {
	const side = 140
	for _, c := range []struct {
		name string
		all  []byte
		want string
	}{
		{"Hmac of keys of 0 to 299 bytes", sums(300, func(i int) [32]byte { return Hmac(keyPattern(i), textPattern(100)) }),
			"9ce9fd4ceab8ca2842efde323b400a0b2c1f324838808bf0c9599f10d4f2da55"},
		{"Hmac of texts of 0 to 299 bytes", sums(300, func(i int) [32]byte { return Hmac(keyPattern(32), textPattern(i)) }),
			"15872235d85aa2d102060bed59c1daab52b9a9932359e1fcfb772acfa5bac8e1"},
		{"Hmac of each key with each text", sums(side*side, func(i int) [32]byte { return Hmac(keyPattern(i/side), textPattern(i%side)) }),
			"5461415f88a61db10c2decc400e4481331537614a6760a4fb9220c3119a38786"},
		{"Hmac of a block's key of one bit", sums(8*64, func(i int) [32]byte { return Hmac(oneBit(i, 64), nil) }),
			"98b3c0044475b6a14f8b105b17205c36f6cb1ea887fd0dad1924ffa336bd5cf2"},
		{"Hmac of a longer key of one bit", sums(8*70, func(i int) [32]byte { return Hmac(oneBit(i, 70), textPattern(3)) }),
			"494590eca30fd4b7f950141307cd687a7b09743e25fc0245c011429f5ec6036c"},
		{"Hmac of a text of one bit", sums(8*130, func(i int) [32]byte { return Hmac(keyPattern(32), oneBit(i, 130)) }),
			"415bff23b4323572cf00ef1f0668530a2a9c05a45d12a169e94bc9e822a5b7e1"},
		{"Derive of inputs of 0 to 299 bytes", derived(300, func(i int) [][32]byte { return Derive([32]byte(keyPattern(32)), textPattern(i), 3) }),
			"2986ed052066d25cdbb133a21adbe456587256981681e9370279ab0140ac7155"},
		{"Derive of a chain key of one bit", derived(256, func(i int) [][32]byte { return Derive([32]byte(oneBit(i, 32)), nil, 3) }),
			"2e3f014751c82ea6faa2b0acbc95d5944975c4a2dc58965ac43766ba784af26c"},
		{"Derive of an input of one bit", derived(256, func(i int) [][32]byte { return Derive([32]byte{}, oneBit(i, 32), 3) }),
			"cfc2694154ce99b37385322a9d98e0848b607fe15b39fd95b919eec84b78d08e"},
	} {
		holdSum(t, "8.1: "+c.name+": the digest", sha256.Sum256(c.all), known(t, c.want))
	}
}
