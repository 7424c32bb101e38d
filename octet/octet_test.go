package octet

import (
	"bytes"
	"math"
	"testing"
)

const spare = 0xa5

// lent is a list with spare room behind it that holds known bytes.
func lent(text string) []byte {
	b := append([]byte(text), bytes.Repeat([]byte{spare}, 16)...)
	return b[:len(text)]
}

// untouched tells whether a lent list and its spare room are as they were.
func untouched(b []byte, text string) bool {
	whole := b[:len(text)+16]
	return string(whole) == text+string(bytes.Repeat([]byte{spare}, 16))
}

// overwrite turns every byte of b, its spare room included.
func overwrite(b []byte) {
	b = b[:cap(b)]
	for i := range b {
		b[i] ^= 0xff
	}
}

var numbers = []struct {
	n    uint64
	text string
}{
	{0, "\x00\x00\x00\x00\x00\x00\x00\x00"},
	{1, "\x01\x00\x00\x00\x00\x00\x00\x00"},
	{255, "\xff\x00\x00\x00\x00\x00\x00\x00"},
	{256, "\x00\x01\x00\x00\x00\x00\x00\x00"},
	{258, "\x02\x01\x00\x00\x00\x00\x00\x00"},
	{0x01020304, "\x04\x03\x02\x01\x00\x00\x00\x00"},
	{1 << 31, "\x00\x00\x00\x80\x00\x00\x00\x00"},
	{math.MaxUint32, "\xff\xff\xff\xff\x00\x00\x00\x00"},
	{1 << 32, "\x00\x00\x00\x00\x01\x00\x00\x00"},
	{0x8102030405060708, "\x08\x07\x06\x05\x04\x03\x02\x81"},
	{1 << 63, "\x00\x00\x00\x00\x00\x00\x00\x80"},
	{math.MaxUint64, "\xff\xff\xff\xff\xff\xff\xff\xff"},
}

func TestPut32(t *testing.T) {
	for _, x := range numbers {
		if got := Put32(uint32(x.n)); string(got) != x.text[:4] {
			t.Errorf("1.1: Put32(%d): %x", uint32(x.n), got)
		}
	}
	for i := range 32 {
		want := make([]byte, 4)
		want[i/8] = 1 << (i % 8)
		if got := Put32(1 << i); !bytes.Equal(got, want) {
			t.Errorf("1.1: Put32 of bit %d: %x", i, got)
		}
	}
}

func TestPut64(t *testing.T) {
	for _, x := range numbers {
		if got := Put64(x.n); string(got) != x.text {
			t.Errorf("1.1: Put64(%d): %x", x.n, got)
		}
	}
	for i := range 64 {
		want := make([]byte, 8)
		want[i/8] = 1 << (i % 8)
		if got := Put64(1 << i); !bytes.Equal(got, want) {
			t.Errorf("1.1: Put64 of bit %d: %x", i, got)
		}
	}
}

func TestPutIsNewMemory(t *testing.T) {
	a, b := Put32(0x01020304), Put32(0x01020304)
	overwrite(a)
	if string(b) != "\x04\x03\x02\x01" || string(Put32(0x01020304)) != "\x04\x03\x02\x01" {
		t.Errorf("R2: Put32: an answer is shared")
	}
	c, d := Put64(0x01020304), Put64(0x01020304)
	overwrite(c)
	if string(d) != "\x04\x03\x02\x01\x00\x00\x00\x00" || string(Put64(5)) != "\x05\x00\x00\x00\x00\x00\x00\x00" {
		t.Errorf("R2: Put64: an answer is shared")
	}
}

func TestGet32(t *testing.T) {
	for _, x := range numbers {
		for _, behind := range []string{"", "\x09", "\xff\xff\xff\xff\xff"} {
			b := lent(x.text[:4] + behind)
			if got, ok := Get32(b); got != uint32(x.n) || !ok {
				t.Errorf("1.1: Get32(%x): %d %v", b, got, ok)
			}
			if !untouched(b, x.text[:4]+behind) {
				t.Errorf("R2: Get32 has changed its list")
			}
		}
	}
	if got, ok := Get32([]byte{1, 2, 0, 0, 9}); got != 513 || !ok {
		t.Errorf("1.1: Get32: the example: %d %v", got, ok)
	}
}

func TestGet64(t *testing.T) {
	for _, x := range numbers {
		for _, behind := range []string{"", "\x09", "\xff\xff\xff\xff\xff\xff\xff\xff\xff"} {
			b := lent(x.text + behind)
			if got, ok := Get64(b); got != x.n || !ok {
				t.Errorf("1.1: Get64(%x): %d %v", b, got, ok)
			}
			if !untouched(b, x.text+behind) {
				t.Errorf("R2: Get64 has changed its list")
			}
		}
	}
}

// TestGetOfFewer: spare room behind a short list is not read.
func TestGetOfFewer(t *testing.T) {
	for _, none := range [][]byte{nil, {}} {
		if n, ok := Get32(none); n != 0 || ok {
			t.Errorf("1.1: Get32 of no bytes: %d %v", n, ok)
		}
		if n, ok := Get64(none); n != 0 || ok {
			t.Errorf("1.1: Get64 of no bytes: %d %v", n, ok)
		}
	}
	const text = "\x91\x92\x93\x94\x95\x96\x97"
	for n := range 8 {
		b := lent(text[:n])
		if got, ok := Get64(b); got != 0 || ok {
			t.Errorf("1.1: Get64 of %d bytes: %d %v", n, got, ok)
		}
		got, ok := Get32(b)
		if n < 4 && (got != 0 || ok) || n >= 4 && (got != 0x94939291 || !ok) {
			t.Errorf("1.1: Get32 of %d bytes: %d %v", n, got, ok)
		}
	}
}

func TestNumbersThereAndBack(t *testing.T) {
	n := uint64(1)
	for range 1000 {
		n = n*6364136223846793005 + 1442695040888963407
		if got, ok := Get64(Put64(n)); got != n || !ok {
			t.Errorf("1.1: Get64(Put64(%d)): %d %v", n, got, ok)
		}
		if got, ok := Get32(Put32(uint32(n >> 32))); got != uint32(n>>32) || !ok {
			t.Errorf("1.1: Get32(Put32(%d)): %d %v", uint32(n>>32), got, ok)
		}
	}
}

func TestXor(t *testing.T) {
	for _, x := range []struct{ a, b, want string }{
		{"", "", ""},
		{"", "\x01", ""},
		{"\x0f", "\xf0\x01", "\xff"},
		{"\x0f\xff", "\xf0\x01\x02", "\xff\xfe"},
		{"\x00\xff\xaa", "\xff\xff\x55", "\xff\x00\xff"},
		{"\x01\x02\x03\x04\x05", "\x01\x02\x03\x04\x05", "\x00\x00\x00\x00\x00"},
		{"\x10\x20\x30", "\x00\x00\x00\x00", "\x10\x20\x30"},
		{"\x81\x42\x24\x18\x81\x42\x24\x18\x99", "\x01\x02\x04\x08\x01\x02\x04\x08\x90", "\x80\x40\x20\x10\x80\x40\x20\x10\x09"},
	} {
		if got := Xor([]byte(x.a), []byte(x.b)); string(got) != x.want {
			t.Errorf("1.1: Xor(%x, %x): %x", x.a, x.b, got)
		}
		if got := Xor([]byte(x.b), []byte(x.a)); string(got) != x.want {
			t.Errorf("1.1: Xor(%x, %x): %x", x.b, x.a, got)
		}
	}
	for _, none := range [][]byte{nil, {}} {
		if len(Xor(none, none)) != 0 || len(Xor(none, []byte{1})) != 0 || len(Xor([]byte{1}, none)) != 0 {
			t.Errorf("1.1: Xor with no bytes")
		}
	}
}

func TestXorIsNewMemory(t *testing.T) {
	for _, x := range []struct{ a, b string }{{"", ""}, {"abc", ""}, {"", "abc"}, {"abc", "ab"}, {"ab", "abc"}, {"abc", "\x00\x00\x00"}} {
		a, b := lent(x.a), lent(x.b)
		got := Xor(a, b)
		want := string(got)
		overwrite(a)
		overwrite(b)
		if string(got) != want {
			t.Errorf("R2: Xor(%q, %q) keeps what it was given", x.a, x.b)
		}
		overwrite(a)
		overwrite(b)
		overwrite(got)
		if !untouched(a, x.a) || !untouched(b, x.b) {
			t.Errorf("R2: Xor(%q, %q): a list was changed or shared", x.a, x.b)
		}
	}
	a := lent("abc")
	if got := Xor(a, a); string(got) != "\x00\x00\x00" || !untouched(a, "abc") {
		t.Errorf("R2: Xor of a list and itself: %x", got)
	}
}

func TestSame(t *testing.T) {
	for _, x := range []struct {
		a, b string
		same bool
	}{
		{"", "", true},
		{"a", "", false},
		{"\x00", "", false},
		{"a", "a", true},
		{"abc", "abc", true},
		{"abc", "abd", false},
		{"abc", "xbc", false},
		{"abc", "axc", false},
		{"abc", "ab", false},
		{"abc", "bc", false},
		{"ab\x00", "ab", false},
		{"\x00\x00", "\x00\x00\x00", false},
		{"ab", "ba", false},
		{"\x01\x02", "\x02\x01", false},
		{"\x80\x80", "\x00\x00", false},
	} {
		a, b := lent(x.a), lent(x.b)
		if Same(a, b) != x.same {
			t.Errorf("1.1: Same(%q, %q) is %v", x.a, x.b, !x.same)
		}
		if Same(b, a) != x.same {
			t.Errorf("1.1: Same(%q, %q) is %v", x.b, x.a, !x.same)
		}
		if !untouched(a, x.a) || !untouched(b, x.b) {
			t.Errorf("R2: Same has changed a list")
		}
	}
	if !Same(nil, nil) || !Same(nil, []byte{}) || !Same([]byte{}, nil) || Same(nil, []byte{0}) || Same([]byte{0}, nil) {
		t.Errorf("R2: nil and an empty list are the same")
	}
}

// TestSameAtEachBit: one bit that parts anywhere is seen, and two don't hide one another.
func TestSameAtEachBit(t *testing.T) {
	a := bytes.Repeat([]byte{0x5a}, 33)
	if !Same(a, bytes.Clone(a)) {
		t.Errorf("1.1: Same of a list and its copy")
	}
	for i := range 8 * len(a) {
		b := bytes.Clone(a)
		b[i/8] ^= 1 << (i % 8)
		if Same(a, b) || Same(b, a) {
			t.Errorf("1.1: Same: bit %d is passed over", i)
		}
		for j := range len(a) {
			c := bytes.Clone(b)
			c[j] ^= 1 << (i % 8)
			if Same(a, c) != (j == i/8) {
				t.Errorf("1.1: Same: bit %d, and the same one of byte %d", i, j)
			}
		}
	}
}

func TestClone(t *testing.T) {
	for _, text := range []string{"", "a", "abcd", "\x00\xff\x00", "a list that is longer than eight bytes"} {
		b := lent(text)
		got := Clone(b)
		if string(got) != text {
			t.Errorf("1.1: Clone(%q): %q", text, got)
		}
		overwrite(b)
		if string(got) != text {
			t.Errorf("R2: Clone(%q) keeps what it was given", text)
		}
		overwrite(b)
		overwrite(got)
		if !untouched(b, text) {
			t.Errorf("R2: Clone(%q): the list was changed or shared", text)
		}
	}
	if len(Clone(nil)) != 0 || len(Clone([]byte{})) != 0 {
		t.Errorf("1.1: Clone of no bytes")
	}
}

func TestJoin(t *testing.T) {
	for _, x := range []struct {
		l    []string
		want string
	}{
		{[]string{}, ""},
		{[]string{""}, ""},
		{[]string{"", "", ""}, ""},
		{[]string{"a"}, "a"},
		{[]string{"a", "b"}, "ab"},
		{[]string{"b", "a"}, "ba"},
		{[]string{"", "abc", "", "de", ""}, "abcde"},
		{[]string{"abc", "abc", "abc"}, "abcabcabc"},
		{[]string{"\x00", "\xff\x00", "\x00\x00"}, "\x00\xff\x00\x00\x00"},
	} {
		l := make([][]byte, 0, len(x.l))
		for _, s := range x.l {
			l = append(l, lent(s))
		}
		got := Join(l...)
		if string(got) != x.want {
			t.Errorf("1.1: Join(%q): %q", x.l, got)
		}
		for _, b := range l {
			overwrite(b)
		}
		if string(got) != x.want {
			t.Errorf("R2: Join(%q) keeps what it was given", x.l)
		}
		for _, b := range l {
			overwrite(b)
		}
		overwrite(got)
		for i, b := range l {
			if !untouched(b, x.l[i]) {
				t.Errorf("R2: Join(%q): list %d was changed or shared", x.l, i)
			}
		}
	}
	if len(Join()) != 0 || len(Join(nil)) != 0 || len(Join(nil, []byte{}, nil)) != 0 {
		t.Errorf("1.1: Join of nothing")
	}
	if got := Join(nil, []byte("ab"), nil, []byte("c")); string(got) != "abc" {
		t.Errorf("1.1: Join with nil: %q", got)
	}
}

// TestJoinOfOneMemory: pieces of one list, each with the next one in its spare room.
func TestJoinOfOneMemory(t *testing.T) {
	b := lent("abcdef")
	if got := Join(b[:2], b[4:], b[2:4], b[:6]); string(got) != "abefcdabcdef" {
		t.Errorf("1.1: Join of pieces: %q", got)
	}
	if !untouched(b, "abcdef") {
		t.Errorf("R2: Join has changed the pieces")
	}
}

// TestJoinLeavesTheListOfLists: the lists that are handed in spread stay where they were.
func TestJoinLeavesTheListOfLists(t *testing.T) {
	whole := [][]byte{[]byte("ab"), []byte("cd"), []byte("ef")}
	if got := Join(whole[:2]...); string(got) != "abcd" {
		t.Errorf("1.1: Join of a list that is spread: %q", got)
	}
	for i, want := range []string{"ab", "cd", "ef"} {
		if string(whole[i]) != want {
			t.Errorf("R2: Join: place %d of the list of lists: %q", i, whole[i])
		}
	}
}
