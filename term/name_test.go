package term

import (
	"fmt"
	"math"
	"math/rand"
	"strings"
	"testing"
)

// The example of the chapter.
func TestExample(t *testing.T) {
	holdDh(t, 5, Public{3}, Shared{3, 5}, true)
	both, _ := Dh(5, Public{3})
	holdName(t, both, "s3.5")
}

// 12.1: the Name of each kind, written out.
func TestNames(t *testing.T) {
	for want, x := range map[string]Term{
		"_":            Empty{},
		"a0":           Atom{},
		"a7":           Atom{7},
		"a10":          Atom{10},
		"a-1":          Atom{-1},
		"a-999":        Atom{-999},
		"p0":           Public{},
		"p3":           Public{3},
		"p105":         Public{105},
		"p-40":         Public{-40},
		"s0.0":         Shared{},
		"s3.5":         Shared{3, 5},
		"s5.3":         Shared{5, 3},
		"s-3.50":       Shared{-3, 50},
		"s100.-101":    Shared{100, -101},
		"c1(_,p3)":     Chain{1, Empty{}, Public{3}},
		"c0(p3,_)":     Chain{0, Public{3}, Empty{}},
		"c-2(?,?)":     Chain{I: -2},
		"c31(a1,?)":    Chain{31, Atom{1}, nil},
		"c3(?,a1)":     Chain{3, nil, Atom{1}},
		"h(?,?)":       Digest{},
		"h(_,?)":       Digest{From: Empty{}},
		"h(?,_)":       Digest{With: Empty{}},
		"h(a-1,s1.2)":  Digest{Atom{-1}, Shared{1, 2}},
		"b0(?,?,?)":    Box{},
		"b7(_,?,?)":    Box{Key: Empty{}, N: 7},
		"b-7(?,_,?)":   Box{N: -7, Ad: Empty{}},
		"b10(?,?,_)":   Box{N: 10, Text: Empty{}},
		"b2(a1,a3,a4)": Box{Atom{1}, 2, Atom{3}, Atom{4}},
		"b-2(s3.5,?,a-7)": Box{
			Key: Shared{3, 5}, N: -2, Text: Atom{-7},
		},
	} {
		holdName(t, x, want)
	}
}

// 12.1: numbers in decimal, with - ahead of those below 0, wherever one stands.
func TestNumbers(t *testing.T) {
	for _, n := range edgeNumbers() {
		text := fmt.Sprint(n)
		holdName(t, Atom{n}, "a"+text)
		holdName(t, Public{n}, "p"+text)
		holdName(t, Shared{n, 8}, "s"+text+".8")
		holdName(t, Shared{8, n}, "s8."+text)
		holdName(t, Shared{n, n}, "s"+text+"."+text)
		holdName(t, Chain{n, nil, Empty{}}, "c"+text+"(?,_)")
		holdName(t, Box{nil, n, Empty{}, nil}, "b"+text+"(?,_,?)")
	}
	holdName(t, Atom{math.MinInt64}, "a-9223372036854775808")
	holdName(t, Public{math.MaxInt64}, "p9223372036854775807")
	holdName(t, Shared{math.MinInt64, math.MaxInt64}, "s-9223372036854775808.9223372036854775807")
}

// 12.1: a term of each kind, and nil, as each part of each.
func TestParts(t *testing.T) {
	for _, x := range kinds() {
		name := plainName(x)
		holdName(t, Chain{4, x, Atom{1}}, "c4("+name+",a1)")
		holdName(t, Chain{4, Atom{1}, x}, "c4(a1,"+name+")")
		holdName(t, Digest{x, Atom{1}}, "h("+name+",a1)")
		holdName(t, Digest{Atom{1}, x}, "h(a1,"+name+")")
		holdName(t, Box{x, 4, Atom{1}, Atom{2}}, "b4("+name+",a1,a2)")
		holdName(t, Box{Atom{1}, 4, x, Atom{2}}, "b4(a1,"+name+",a2)")
		holdName(t, Box{Atom{1}, 4, Atom{2}, x}, "b4(a1,a2,"+name+")")
	}
}

// 12.1: terms in terms, several deep.
func TestDeepNames(t *testing.T) {
	key := Chain{2, Chain{1, Empty{}, Shared{3, 5}}, Shared{-1, 100}}
	h := Digest{Digest{Digest{Empty{}, Empty{}}, Public{100}}, Empty{}}
	holdName(t, key, "c2(c1(_,s3.5),s-1.100)")
	holdName(t, h, "h(h(h(_,_),p100),_)")
	box := Box{key, 1, h, Public{2}}
	holdName(t, box, "b1(c2(c1(_,s3.5),s-1.100),h(h(h(_,_),p100),_),p2)")
	holdName(t, Digest{h, box}, "h(h(h(h(_,_),p100),_),b1(c2(c1(_,s3.5),s-1.100),h(h(h(_,_),p100),_),p2))")
	holdName(t, Box{box, 0, nil, Box{nil, 3, box.Text, nil}}, "b0(b1(c2(c1(_,s3.5),s-1.100),h(h(h(_,_),p100),_),p2),?,b3(?,p2,?))")
	holdName(t, doubled(nil, 3), "h(h(h(?,?),h(?,?)),h(h(?,?),h(?,?)))")
}

// R6: as many nested in one another as there may be; R1: and it ends.
func TestNameOfADeepRow(t *testing.T) {
	const n = 1<<16 - 1
	if row(Atom{1}, n).Name() != strings.Repeat("h(", n)+"a1"+strings.Repeat(",?)", n) {
		t.Errorf("12.1: the Name of %d Digests in one another is another one", n)
	}
	var x Term
	for i := range n {
		x = []Term{Chain{i, Empty{}, x}, Box{Empty{}, i, x, nil}, Digest{nil, x}}[i%3]
	}
	holdSame(t, made(x.Name()), x, true)
	if made(x.Name()) != x {
		t.Error("12.1: the Name of many in one another is another one's")
	}
}

// 12.1: of a Name the very term can be made again: so no two have one.
func TestNamesAreTheirOwn(t *testing.T) {
	d := rand.New(rand.NewSource(12))
	for range 30000 {
		x := drawn(d, d.Intn(6))
		if x == nil {
			continue
		}
		if holdName(t, x, plainName(x)); made(x.Name()) != x {
			t.Errorf("12.1: %q is the Name of %s and of %s", x.Name(), shown(x), shown(made(x.Name())))
		}
	}
}

// unlike are terms of which each was made otherwise.
func unlike() []Term {
	all := kinds()[1:]
	for _, n := range []int{-12, -2, -1, 0, 1, 2, 12, 21} {
		all = append(all, Atom{10 + n}, Public{10 + n}, Box{Atom{1}, 10 + n, Atom{2}, Atom{3}}, Chain{10 + n, Atom{1}, Atom{2}})
		for _, m := range []int{-1, 0, 1, 2} {
			all = append(all, Shared{10 + n, m})
		}
	}
	for _, x := range kinds()[:5] {
		for _, y := range kinds()[:5] {
			all = append(all, Chain{1, x, y}, Chain{2, x, y}, Digest{x, y})
			all = append(all, Digest{Digest{x, y}, nil}, Digest{x, Digest{y, nil}}, Box{x, 1, y, Empty{}})
			all = append(all, Box{x, 1, y, Public{9}}, Box{x, 2, Atom{9}, y}, Box{Atom{9}, 2, x, y})
		}
	}
	return all
}

// 12.1: terms that were made unlike have unlike Names, and are not the same;
// those that were made alike, apart from one another, have one Name.
func TestUnlikeTerms(t *testing.T) {
	all := unlike()
	for i, x := range all {
		for k, y := range all {
			if i == k {
				y = made(y.Name())
			}
			if (x.Name() == y.Name()) != (i == k) {
				t.Errorf("12.1: the Names of %s and %s: %q and %q", shown(x), shown(y), x.Name(), y.Name())
			}
			holdSame(t, x, y, i == k)
		}
	}
}

// other is a Term of another package's own, of which its Name is all that is
// known.
type other string

func (o other) Name() string { return string(o) }

// boxed is no Box, though it has one.
type boxed struct{ Box }

// 12.1: a part that is a term of another kind has the Name that it tells.
func TestOthersNames(t *testing.T) {
	holdName(t, Chain{1, other("x"), boxed{}}, "c1(x,b0(?,?,?))")
	holdName(t, Box{other("x"), 1, other(""), other("y)")}, "b1(x,,y))")
}
