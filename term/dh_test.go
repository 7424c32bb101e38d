package term

import "testing"

// 12.1: the lesser number is A, whichever of the two is the secret.
func TestDh(t *testing.T) {
	for _, c := range []struct{ secret, of, a, b int }{
		{5, 3, 3, 5}, {3, 5, 3, 5}, {4, 4, 4, 4}, {0, 0, 0, 0}, {0, 1, 0, 1}, {1, 0, 0, 1},
		{-1, 1, -1, 1}, {1, -1, -1, 1}, {-1, -2, -2, -1}, {-2, -1, -2, -1}, {-3, -3, -3, -3}, {0, -5, -5, 0},
		{10, 9, 9, 10}, {100, 99, 99, 100}, {1 << 40, 1, 1, 1 << 40},
	} {
		holdDh(t, c.secret, Public{c.of}, Shared{c.a, c.b}, true)
	}
}

// 12.1: both sides make the same, at the edges too.
func TestDhOfBothSides(t *testing.T) {
	for _, n := range edgeNumbers() {
		for _, m := range edgeNumbers() {
			want, _ := plainDh(n, Public{m})
			holdDh(t, n, Public{m}, want, true)
			holdDh(t, m, Public{n}, want, true)
			if s, ok := want.(Shared); !ok || s.A > s.B || min(n, m) != s.A || max(n, m) != s.B {
				t.Errorf("12.1: %d and %d make %s", n, m, shown(want))
			}
		}
	}
}

// 12.1: of other terms nil and false.
func TestDhOfOthers(t *testing.T) {
	for _, secret := range []int{-5, 0, 3, 5} {
		for _, x := range kinds() {
			if _, ok := x.(Public); !ok {
				holdDh(t, secret, x, nil, false)
			}
		}
		holdDh(t, secret, Digest{Public{3}, Public{3}}, nil, false)
		holdDh(t, secret, Box{Public{3}, 3, Public{3}, Public{3}}, nil, false)
		holdDh(t, secret, other("p3"), nil, false)
		holdDh(t, secret, struct{ Public }{}, nil, false)
	}
}

// 12.1: MustBox of a Box is that very Box, with all its parts.
func TestMustBox(t *testing.T) {
	boxes := []Box{{}, {N: 7}, {N: -1, Text: Atom{-7}}, {Shared{3, 5}, 0, Empty{}, Atom{-7}}}
	for _, x := range kinds() {
		boxes = append(boxes, Box{Key: x, N: 1}, Box{N: 2, Ad: x}, Box{N: 3, Text: x}, Box{Atom{1}, 4, x, Box{x, 5, nil, x}})
	}
	for _, n := range edgeNumbers() {
		boxes = append(boxes, Box{Public{n}, n, nil, nil})
	}
	for _, want := range boxes {
		if got, panics := mustBox(want); got != want || panics {
			t.Errorf("12.1: MustBox of %s: %s, and panics: %v", shown(want), shown(got), panics)
		}
	}
}

// 12.1: MustBox panics of all others.
func TestMustBoxOfOthers(t *testing.T) {
	all := []Term{other("b0(?,?,?)"), boxed{}, Digest{Box{}, Box{}}, Chain{1, Box{}, Box{}}}
	for _, x := range append(all, kinds()[:7]...) {
		if got, panics := mustBox(x); !panics {
			t.Errorf("12.1: MustBox of %s does not panic: %s", shown(x), shown(got))
		}
	}
}
