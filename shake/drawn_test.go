package shake

import (
	"bytes"
	"fmt"
	"math/rand"
	"testing"

	"porthole/api"
)

// wire is all that was written so far by two sides, and who may tell them what.
type wire struct {
	w    two
	d    *rand.Rand
	said [2][][]byte // by each side
	read [2]int      // how many of them the other side was told
	lows [][32]byte
}

// payload is one of any length, some too long.
func (v *wire) payload() []byte {
	switch v.d.Intn(12) {
	case 0:
		return nil
	case 1:
		return make([]byte, api.MaxPayload+v.d.Intn(3)-1)
	}
	return drawnText(v.d.Intn(120), v.d.Int63())
}

// message is what one side is told: mostly the next that the other wrote, as it
// is or turned, cut, or longer; now and then an older one, its own, or any
// bytes; none, where it waits.
func (v *wire) message(side int) ([]byte, bool) {
	from := v.said[1-side]
	if next := v.read[1-side]; next < len(from) && v.d.Intn(20) > 0 {
		v.read[1-side]++
		return v.spoilt(from[next]), true
	}
	if v.d.Intn(3) == 0 {
		from = v.said[side]
	}
	if len(from) == 0 || v.d.Intn(3) == 0 {
		return drawnText(v.d.Intn(200), v.d.Int63()), v.d.Intn(12) == 0
	}
	return v.spoilt(from[v.d.Intn(len(from))]), v.d.Intn(12) == 0
}

func (v *wire) spoilt(msg []byte) []byte {
	switch v.d.Intn(40) {
	case 0:
		return turnedAt(msg, v.d.Intn(len(msg)), v.d.Intn(8))
	case 1:
		return msg[:v.d.Intn(len(msg)+1)]
	case 2:
		return append(bytes.Clone(msg), drawnText(v.d.Intn(60), v.d.Int63())...)
	case 3:
		return append(bytes.Clone(msg), make([]byte, api.MaxRecord)...)
	case 4:
		low := v.lows[v.d.Intn(len(v.lows))]
		return append(low[:], msg[min(32, len(msg)):]...)
	}
	return msg
}

// do tells one side something.
func (v *wire) do(t *testing.T, name string) {
	t.Helper()
	side := v.d.Intn(2)
	one := v.w[side]
	writes := v.d.Intn(2) == 0
	if v.d.Intn(4) > 0 {
		writes = one.p.writes()
	}
	if !writes {
		if msg, told := v.message(side); told {
			one.read(t, name, msg)
		}
		return
	}
	if msg, e := one.write(t, name, v.payload()); e == api.OK {
		v.said[side] = append(v.said[side], msg)
	}
}

// Whatever two sides are told, in whatever order, they answer what the plain
// ones answer.
func TestDrawnRuns(t *testing.T) {
	ends, wrongs := 0, 0
	low := lows(t)
	for run := range 600 {
		d := rand.New(rand.NewSource(int64(run)))
		w := pair("drawn", int64(run))
		if run%20 == 0 {
			w[1] = pair("drawn otherwise", int64(run))[1]
		}
		v := wire{w: w, d: d, lows: low}
		for i := range 8 + d.Intn(16) {
			v.do(t, fmt.Sprintf("11.2: run %d, told %d", run, i))
		}
		for _, one := range v.w {
			if one.s.Done() {
				ends++
			}
			if one.p.wrong {
				wrongs++
			}
		}
		if t.Failed() {
			return
		}
	}
	if ends < 200 || wrongs < 200 {
		t.Errorf("of 600 runs %d sides came to the end, %d were wrong", ends, wrongs)
	}
}
