package shake

import (
	"crypto/sha256"
	"encoding/hex"
	"fmt"
	"testing"

	"porthole/api"
)

// known is the bytes of hex digits.
func known(t *testing.T, digits string) []byte {
	t.Helper()
	b, err := hex.DecodeString(digits)
	if err != nil {
		t.Fatalf("%q: %v", digits, err)
	}
	return b
}

// pattern is n bytes that rise by a, from b on.
func pattern(n, a, b int) []byte {
	l := make([]byte, n)
	for i := range l {
		l[i] = byte(a*i + b)
	}
	return l
}

// handshake is one of Noise XX, as the vectors of flynn/noise 1.1.0 tell it,
// and the hash behind it, as that program answers it.
type handshake struct {
	prologue, payload string
	messages          [3]string
	hash              string
}

// Without and with a prologue, without and with payloads.
func handshakes() []handshake {
	return []handshake{
		{"", "", [3]string{
			"358072d6365880d1aeea329adf9121383851ed21a28e3b75e965d0d2cd166254",
			"64b101b1d0be5a8704bd078f9895001fc03e8e9f9522f188dd128d9846d48466c7f9c130891d2fcc2454ad9808ce708c7fde0ef21e72e985c38a6ed8cdaadcd96586759f804d4fa61b89ea5b36cb9b3eb1eab4273f15b629e3508d6f11a78c6d",
			"e42e3908de4cd096b8b86320dfe9d03127451fdbfc423fd9ef86b4659fae03c86a279a2a864a1429147865a5dba40deed136252f2229fc5c4bcd2d5ec2efbfc2",
		}, "8578c6fceedaab0804facdf4e3b54b53dc224100c65c55908f460c268a6f6138"},
		{"", "test_msg_", [3]string{
			"358072d6365880d1aeea329adf9121383851ed21a28e3b75e965d0d2cd166254746573745f6d73675f30",
			"64b101b1d0be5a8704bd078f9895001fc03e8e9f9522f188dd128d9846d48466c7f9c130891d2fcc2454ad9808ce708c7fde0ef21e72e985c38a6ed8cdaadcd9c0e3ed9de7ec29f5c2988dab99fc75b461f5532ce998f718c56fe4ae560e9b71afacf18e82fbda729ee6",
			"e42e3908de4cd096b8b86320dfe9d03127451fdbfc423fd9ef86b4659fae03c8498dfa777a39cf59d06c8cf8230f924bf6cfb3372d0d7f9f5da0a2795066e1e7f5b7bc545578661f6731",
		}, "3878b4d04c4f98d3160e1f8f91b7fa69bc9931918def23b217402e457f21eb02"},
		{"notsecret", "", [3]string{
			"358072d6365880d1aeea329adf9121383851ed21a28e3b75e965d0d2cd166254",
			"64b101b1d0be5a8704bd078f9895001fc03e8e9f9522f188dd128d9846d48466c7f9c130891d2fcc2454ad9808ce708c7fde0ef21e72e985c38a6ed8cdaadcd95d49ccad379691a89b57368d70add1bd30d7757d21b91f1b9981ac3f6cc36f79",
			"e42e3908de4cd096b8b86320dfe9d03127451fdbfc423fd9ef86b4659fae03c8e7b0c7c5612fc71db82f4f8ab985fab34ef5d36e101b730d9ff6de037479f032",
		}, "a93561e265563325d1d989d23c29ebae0d13e6eeef6ae8ed767d970e66fccc5e"},
		{"notsecret", "test_msg_", [3]string{
			"358072d6365880d1aeea329adf9121383851ed21a28e3b75e965d0d2cd166254746573745f6d73675f30",
			"64b101b1d0be5a8704bd078f9895001fc03e8e9f9522f188dd128d9846d48466c7f9c130891d2fcc2454ad9808ce708c7fde0ef21e72e985c38a6ed8cdaadcd9e07ed4c7d77e83b721e41d9bb2a8b57761f5532ce998f718c56f18083ab9e2f47c3f7f545a5eabbc4ece",
			"e42e3908de4cd096b8b86320dfe9d03127451fdbfc423fd9ef86b4659fae03c897f77a2af21f5ce18cde8740fe9e5912f6cfb3372d0d7f9f5da0d9be88017bb339b951c56929f77fe9d6",
		}, "d2ee5e0a95dfb938cdc5545979c358d98a666e112cef8fe189bed9fdfc59333b"},
	}
}

// said is the payload of a step; some handshakes have none.
func (h handshake) said(step int) []byte {
	if h.payload == "" {
		return nil
	}
	return []byte(h.payload + fmt.Sprint(step))
}

// Handshakes are those of the vectors, and so is what is said behind them.
func TestKnownHandshakes(t *testing.T) {
	for i, h := range handshakes() {
		w := two{
			begun(true, []byte(h.prologue), [32]byte(pattern(32, 1, 0)), [32]byte(pattern(32, 1, 32))),
			begun(false, []byte(h.prologue), [32]byte(pattern(32, 1, 1)), [32]byte(pattern(32, 1, 65))),
		}
		name := fmt.Sprintf("11.2: known handshake %d", i)
		for step, want := range h.messages {
			msg := w.say(t, name, step, h.said(step))
			holdAnswer(t, fmt.Sprintf("%s, message %d", name, step), msg, api.OK, known(t, want), api.OK)
		}
		w.holdEnd(t, name)
		if got := w[1].s.Hash(); hex.EncodeToString(got[:]) != h.hash {
			t.Errorf("11.3: %s: Hash %x, not %s", name, got, h.hash)
		}
		send, receive, _ := w[0].s.Split()
		box, e := send.Seal(nil, []byte("yellowsubmarine"))
		holdAnswer(t, name+": what the first says behind it", box, e, known(t, "7086fc0466ee7523680d09ff7c272e2a2817a6e2d6c4ec1c209506506e8957"), api.OK)
		box, e = receive.Seal(nil, []byte("submarineyellow"))
		holdAnswer(t, name+": what the other says behind it", box, e, known(t, "e3beadf28ea871a3be666f43eaf457d030e538eb371ba48076a7db36a9a1bf"), api.OK)
	}
}

// OpenSSL's hash ahead of the messages, and behind each.
func TestKnownHashes(t *testing.T) {
	w := two{
		begun(true, []byte("notsecret"), [32]byte(pattern(32, 1, 0)), [32]byte(pattern(32, 1, 32))),
		begun(false, []byte("notsecret"), [32]byte(pattern(32, 1, 1)), [32]byte(pattern(32, 1, 65))),
	}
	for step, want := range []string{
		"d67634f0bc2432573fb9ef948752dd90cab30f6181c86552a07d268b164233f7",
		"5e0e5b611043edde0b9f7599c035a010cbc6b4de527bd63262498ae02485a0da",
		"21942e263145b69a8e5bcc1a9b08622463539d999387c023dedab710b02c5046",
		"d2ee5e0a95dfb938cdc5545979c358d98a666e112cef8fe189bed9fdfc59333b",
	} {
		for side, one := range w {
			if got := one.s.Hash(); hex.EncodeToString(got[:]) != want {
				t.Errorf("11.3: known hashes, side %d, ahead of step %d: Hash %x, not %s", side, step, got, want)
			}
		}
		if step < 3 {
			w.say(t, "11.2: known hashes", step, []byte(fmt.Sprintf("test_msg_%d", step)))
		}
	}
}

// The digest of 110 handshakes, with prologues and payloads of many lengths, as
// flynn/noise and OpenSSL make them.
func TestKnownDigest(t *testing.T) {
	prologues := []int{0, 1, 31, 32, 33, 63, 64, 65, 1000, 70000}
	lengths := []int{0, 1, 15, 16, 17, 63, 64, 65, 1000, 3899, 3900}
	all := sha256.New()
	for i := range 110 {
		prologue := pattern(prologues[i%len(prologues)], 3, i)
		w := two{
			begun(true, prologue, [32]byte(pattern(32, 5, i)), [32]byte(pattern(32, 7, i+64))),
			begun(false, prologue, [32]byte(pattern(32, 9, i+128)), [32]byte(pattern(32, 11, i+192))),
		}
		for step := range 3 {
			n := lengths[(i+step*(i/11+1))%len(lengths)]
			all.Write(w.say(t, "11.2: one of many", step, pattern(n, 13, i+step)))
		}
		hash := w[i%2].s.Hash()
		all.Write(hash[:])
		send, _, _ := w[0].s.Split()
		box, _ := send.Seal(nil, []byte("yellowsubmarine"))
		all.Write(box)
		send, _, _ = w[1].s.Split()
		box, _ = send.Seal(nil, []byte("submarineyellow"))
		all.Write(box)
	}
	const want = "b791b523203461c3ef1c2328eecf8470d2a7a407209345c80fa89ee00f7b0b5d"
	if got := hex.EncodeToString(all.Sum(nil)); got != want {
		t.Errorf("11.2: the digest of many handshakes is %s, not %s", got, want)
	}
}
