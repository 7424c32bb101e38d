package curve

import (
	"math/big"
	"math/rand"
)

// Here the curve is reckoned once more, in another way: whole points (x, y) of
// b y^2 = x^3 + 486662 x^2 + x, by the library's numbers, doubled and added by
// the law of chords. All tests that need to know an answer may hold it against
// that.

// prime is 2^255 - 19.
func prime() *big.Int {
	return less(power(255), 19)
}

func power(n uint) *big.Int {
	return new(big.Int).Lsh(big.NewInt(1), n)
}

func less(n *big.Int, by int64) *big.Int {
	return new(big.Int).Sub(n, big.NewInt(by))
}

func more(n *big.Int, by int64) *big.Int {
	return new(big.Int).Add(n, big.NewInt(by))
}

func times(a, b *big.Int) *big.Int {
	return modulo(new(big.Int).Mul(a, b))
}

func plus(a, b *big.Int) *big.Int {
	return modulo(new(big.Int).Add(a, b))
}

func minus(a, b *big.Int) *big.Int {
	return modulo(new(big.Int).Sub(a, b))
}

func over(a, b *big.Int) *big.Int {
	return times(a, new(big.Int).ModInverse(b, prime()))
}

func modulo(n *big.Int) *big.Int {
	return new(big.Int).Mod(n, prime())
}

// asBytes is n, which lies below 2^256, the lowest byte first.
func asBytes(n *big.Int) [32]byte {
	var b [32]byte
	n.FillBytes(b[:])
	return turned(b)
}

// asNumber is the number of all 256 bits of b.
func asNumber(b [32]byte) *big.Int {
	b = turned(b)
	return new(big.Int).SetBytes(b[:])
}

func turned(b [32]byte) [32]byte {
	for i := range 16 {
		b[i], b[31-i] = b[31-i], b[i]
	}
	return b
}

// point is one of a curve; nil is the one that is nowhere.
type point struct {
	x, y *big.Int
}

// plain is a curve: b of b y^2 = x^3 + 486662 x^2 + x. What x is of a multiple
// of a point hangs on the x of that point alone, so b may be as one likes.
type plain struct {
	b *big.Int
}

// through is a curve with a point of that x, whose y is 1; none, if x is 0.
func through(x *big.Int) (plain, *point) {
	x = modulo(x)
	b := times(x, more(times(x, plus(x, big.NewInt(486662))), 1))
	if b.Sign() == 0 {
		return plain{}, nil
	}
	return plain{b}, &point{x, big.NewInt(1)}
}

func (c plain) sum(p, q *point) *point {
	if p == nil {
		return q
	}
	if q == nil {
		return p
	}
	var slope *big.Int
	switch {
	case p.x.Cmp(q.x) != 0:
		slope = over(minus(q.y, p.y), minus(q.x, p.x))
	case p.y.Cmp(q.y) != 0 || p.y.Sign() == 0:
		return nil
	default:
		rise := plus(times(big.NewInt(3), times(p.x, p.x)), times(big.NewInt(2*486662), p.x))
		slope = over(more(rise, 1), times(big.NewInt(2), times(c.b, p.y)))
	}
	x := minus(times(c.b, times(slope, slope)), plus(big.NewInt(486662), plus(p.x, q.x)))
	return &point{x, minus(times(slope, minus(p.x, x)), p.y)}
}

func (c plain) multiple(n *big.Int, p *point) *point {
	var sum *point
	for i := n.BitLen() - 1; i >= 0; i-- {
		sum = c.sum(sum, sum)
		if n.Bit(i) == 1 {
			sum = c.sum(sum, p)
		}
	}
	return sum
}

// plainMultiple is the x of n times a point of that x; 0, if it is nowhere,
// and of 0 it is 0.
func plainMultiple(n, x *big.Int) *big.Int {
	c, p := through(x)
	if p == nil {
		return new(big.Int)
	}
	if p = c.multiple(n, p); p == nil {
		return new(big.Int)
	}
	return p.x
}

// plainScalar is k as RFC 7748 decodes a scalar, by numbers and not by bits.
func plainScalar(k [32]byte) *big.Int {
	n := new(big.Int).Mod(asNumber(k), power(254))
	n.Sub(n, new(big.Int).Mod(n, big.NewInt(8)))
	return n.Add(n, power(254))
}

// plainX is what X of k and u must be.
func plainX(k, u [32]byte) [32]byte {
	number := new(big.Int).Mod(asNumber(u), power(255))
	return asBytes(plainMultiple(plainScalar(k), number))
}

func ones() [32]byte {
	return asBytes(less(power(256), 1))
}

// drawn are lists of 32 bytes, the same ones at every run.
func drawn(count int, seed int64) [][32]byte {
	r := rand.New(rand.NewSource(seed))
	l := make([][32]byte, count)
	for i := range l {
		r.Read(l[i][:])
	}
	return l
}

// scalars are those at which clamping and the ladder turn over.
func scalars() [][32]byte {
	l := [][32]byte{
		{}, ones(), {1}, {7}, {8}, {9}, {15}, {16}, {31: 64}, {31: 128}, {31: 192}, {31: 63}, {31: 127},
		asBytes(less(power(255), 8)), asBytes(more(power(254), 8)), asBytes(prime()),
		Clamp([32]byte{}), Clamp(ones()),
	}
	var alternating [32]byte
	for i := range alternating {
		alternating[i] = 0xaa
	}
	return append(append(l, alternating), drawn(6, 3)...)
}

// numbers are those at which u turns over, without the highest bit.
func numbers() [][32]byte {
	p := prime()
	l := [][32]byte{
		{}, {1}, {2}, {3}, {9}, {18}, {19}, {20},
		asBytes(less(p, 9)), asBytes(less(p, 2)), asBytes(less(p, 1)),
		asBytes(p), asBytes(more(p, 1)), asBytes(more(p, 2)), asBytes(more(p, 9)), asBytes(more(p, 17)),
		asBytes(less(power(255), 1)), asBytes(power(254)), asBytes(power(64)), asBytes(less(power(128), 1)),
	}
	for _, u := range drawn(6, 4) {
		u[31] &^= 128
		l = append(l, u)
	}
	return l
}

// withHighest is u with the highest bit of its last byte set.
func withHighest(u [32]byte) [32]byte {
	u[31] |= 128
	return u
}
