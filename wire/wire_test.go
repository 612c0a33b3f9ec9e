package wire_test

import (
	"math"
	"reflect"
	"slices"
	"strings"
	"testing"

	"signpost/api"
	"signpost/wire"
)

// sealed: these bytes, with the sum of E1 behind them: 1 times 31 as often as there are bytes, and each byte times 31 as often as there are bytes behind it.
func sealed(l ...byte) string {
	s, power := 0, 1
	for _, b := range slices.Backward(l) {
		s += int(b) * power
		power = power * 31 % 65521
	}
	s = (s + power) % 65521
	return string(append(slices.Clone(l), byte(s/256), byte(s%256)))
}

// draw: numbers, the same each time.
type draw uint64

func (d *draw) n(n int) int {
	*d = *d*6364136223846793005 + 1442695040888963407
	return int(uint64(*d) >> 33 % uint64(n))
}

// some packet, with so many routes.
func some(d *draw, routes int) api.Packet {
	p := api.Packet{From: d.n(251), To: d.n(251)}
	for range routes {
		p.Routes = append(p.Routes, d.n(251))
	}
	return p
}

// rights: packets, at the edges of what is right too.
func rights() []api.Packet {
	out := []api.Packet{
		{},
		{Routes: []int{}},
		{From: 1, To: 2, Routes: []int{3, 4}},
		{From: 250, Routes: []int{0}},
		{To: 250, Routes: []int{250}},
		{From: 7, To: 7, Routes: slices.Repeat([]int{250}, 54)},
		{From: 250, To: 250, Routes: make([]int, 54)},
	}
	d := draw(31)
	for count := range 55 {
		out = append(out, some(&d, count), some(&d, count))
	}
	return out
}

// same packet? (An empty list may be nil or not.)
func same(p, q api.Packet) bool {
	return p.From == q.From && p.To == q.To && slices.Equal(p.Routes, q.Routes)
}

// E1: packets worked out by hand.
func TestWrite(t *testing.T) {
	for _, c := range []struct {
		p    api.Packet
		want string
	}{
		// 1, 114, 3534, 109554 less 65521 is 44033, and 44033 times 31 less 20 times 65521 is 54603
		{api.Packet{}, "S\x00\x00\x00\xd5\x4b"},
		{api.Packet{From: 1, To: 2, Routes: []int{3, 4}}, "S\x01\x02\x02\x03\x04\xe6\x6e"},
		{api.Packet{From: 250, To: 250, Routes: []int{250, 0}}, "S\xfa\xfa\x02\xfa\x00\x71\x1d"},
	} {
		if s, e := wire.Write(c.p); s != c.want || e != api.OK {
			t.Errorf("%v: %x %d, and must be %x", c.p, s, e, c.want)
		}
	}
	for _, p := range rights() {
		l := []byte{83, byte(p.From), byte(p.To), byte(len(p.Routes))}
		for _, r := range p.Routes {
			l = append(l, byte(r))
		}
		if s, e := wire.Write(p); s != sealed(l...) || e != api.OK {
			t.Errorf("%v: %x %d, and must be %x", p, s, e, sealed(l...))
		}
	}
}

// E1: the fifth example of the document.
func TestExample(t *testing.T) {
	if s, e := wire.Write(api.Packet{From: 1, Routes: []int{1}}); len(s) != 7 || e != api.OK {
		t.Errorf("a packet of one route: %x %d, and must have seven bytes", s, e)
	}
}

// E1, P1: what can't be written; ErrRange comes ahead of ErrMany.
func TestWriteWrong(t *testing.T) {
	for _, x := range []int{math.MinInt, -256, -1, 251, 255, 256, 256 + 83, math.MaxInt} {
		for _, p := range []api.Packet{
			{From: x},
			{To: x},
			{Routes: []int{x}},
			{Routes: []int{x, 0, 0}},
			{Routes: []int{0, x, 0}},
			{Routes: []int{0, 0, x}},
			{From: x, Routes: make([]int, 55)},
			{To: x, Routes: make([]int, 1000)},
			{Routes: append(make([]int, 54), x)},
			{Routes: append(make([]int, 1000), x)},
		} {
			if s, e := wire.Write(p); s != "" || e != api.ErrRange {
				t.Errorf("%v: %x %d, and must be ErrRange", p, s, e)
			}
		}
	}
	for _, count := range []int{55, 56, 255, 256, 310, 65536} {
		if s, e := wire.Write(api.Packet{Routes: make([]int, count)}); s != "" || e != api.ErrMany {
			t.Errorf("%d routes: %x %d, and must be ErrMany", count, s, e)
		}
	}
}

// E2, E3: what is written is read as it was.
func TestRead(t *testing.T) {
	for _, p := range rights() {
		s, _ := wire.Write(p)
		if q, e := wire.Read(s); !same(p, q) || e != api.OK {
			t.Errorf("%v is read as %v %d", p, q, e)
		}
	}
}

// E2, E3, P1: what is not written so is not read, though its sum is right.
func TestReadWrong(t *testing.T) {
	for name, s := range map[string]string{
		"nothing":                   "",
		"a mark":                    "S",
		"a sum alone":               sealed(),
		"a mark with a sum":         sealed(83),
		"no To":                     sealed(83, 1),
		"no count":                  sealed(83, 1, 2),
		"no sum":                    "S\x00\x00\x00",
		"half a sum":                "S\x00\x00\x00\xd5",
		"the lesser byte first":     "S\x00\x00\x00\x4b\xd5",
		"another mark":              sealed(82, 1, 2, 1, 3),
		"no mark":                   sealed(0, 1, 2, 1, 3),
		"a count too great":         sealed(83, 1, 2, 2, 3),
		"a count too small":         sealed(83, 1, 2, 0, 3),
		"a count far too great":     sealed(83, 1, 2, 255),
		"From 251":                  sealed(83, 251, 2, 1, 3),
		"From 255":                  sealed(83, 255, 2, 1, 3),
		"To 251":                    sealed(83, 1, 251, 1, 3),
		"a route of 251":            sealed(83, 1, 2, 1, 251),
		"the last route 255":        sealed(83, 1, 2, 3, 0, 0, 255),
		"a byte behind":             sealed(83, 1, 2, 1, 3) + "\x00",
		"a packet behind":           sealed(83, 1, 2, 0) + sealed(83, 1, 2, 0),
		"a byte ahead":              "S" + sealed(83, 1, 2, 1, 3),
		"60 marks":                  strings.Repeat("S", 60),
		"60 bytes, count too small": sealed(append([]byte{83, 0, 0, 53}, make([]byte, 54)...)...),
	} {
		if p, e := wire.Read(s); !reflect.DeepEqual(p, api.Packet{}) || e != api.ErrForm {
			t.Errorf("%s: %v %d, and must be ErrForm", name, p, e)
		}
	}
	for _, s := range []string{
		strings.Repeat("S", 61),
		strings.Repeat("\x00", 70000),
		sealed(append([]byte{83, 0, 0, 55}, make([]byte, 55)...)...),
		sealed(append([]byte{83, 0, 0, 54}, make([]byte, 54)...)...) + "S",
	} {
		if p, e := wire.Read(s); !reflect.DeepEqual(p, api.Packet{}) || e != api.ErrMany {
			t.Errorf("%d bytes: %v %d, and must be ErrMany", len(s), p, e)
		}
	}
}

// E2: a sum is the one of its bytes, not one that is the same modulo 65521.
func TestSumIsLeast(t *testing.T) {
	d := draw(32)
	met := 0
	for range 200000 {
		s, _ := wire.Write(some(&d, d.n(3)))
		end := len(s) - 2
		sum := int(s[end])*256 + int(s[end+1])
		if sum >= 65521 {
			t.Fatalf("%x: its sum is %d", s, sum)
		}
		if sum += 65521; sum < 65536 {
			met++
			x := s[:end] + string([]byte{byte(sum / 256), byte(sum % 256)})
			if p, e := wire.Read(x); e != api.ErrForm {
				t.Fatalf("%x: %v %d, and must be ErrForm", x, p, e)
			}
		}
	}
	if met < 10 {
		t.Errorf("only %d sums had another one", met)
	}
}

// E3: with one byte turned, in whatever way, it is read no more.
func TestOneByteTurned(t *testing.T) {
	for _, p := range rights() {
		s, _ := wire.Write(p)
		for i := range len(s) {
			for c := 1; c < 256; c++ {
				x := []byte(s)
				x[i] ^= byte(c)
				if q, e := wire.Read(string(x)); !reflect.DeepEqual(q, api.Packet{}) || e != api.ErrForm {
					t.Fatalf("%v, byte %d turned by %d: %v %d, and must be ErrForm", p, i, c, q, e)
				}
			}
		}
		for i := range len(s) {
			if q, e := wire.Read(s[:i]); e != api.ErrForm {
				t.Fatalf("%v, the first %d bytes: %v %d, and must be ErrForm", p, i, q, e)
			}
		}
	}
}

// E3, P1: nothing else is read: whatever is, is what is written of it.
func TestNothingElseIsRead(t *testing.T) {
	d := draw(33)
	read := 0
	for range 100000 {
		l := make([]byte, d.n(9))
		for i := range l {
			l[i] = byte([]int{83, 0, 1, 2, 3, 250, 251, d.n(256)}[d.n(8)])
		}
		if len(l) > 0 {
			l[0] = byte(83 - d.n(8)/7)
		}
		s := sealed(l...)
		if d.n(8) == 0 {
			s = string(l)
		}
		p, e := wire.Read(s)
		w, f := wire.Write(p)
		switch {
		case e == api.OK && (f != api.OK || w != s):
			t.Fatalf("%x is read as %v, of which %x %d is written", s, p, w, f)
		case e != api.OK && (e != api.ErrForm || !reflect.DeepEqual(p, api.Packet{})):
			t.Fatalf("%x: %v %d", s, p, e)
		case e == api.OK:
			read++
		}
	}
	if read < 1000 {
		t.Errorf("only %d were read", read)
	}
}

// P1: Write and Read agree on packets of whatever numbers.
func TestWhatever(t *testing.T) {
	d := draw(34)
	numbers := []int{math.MinInt, -1, 0, 1, 2, 3, 249, 250, 251, 256, math.MaxInt}
	any := func() int { return numbers[2+d.n(6)] }
	right := 0
	for range 50000 {
		p := api.Packet{From: any(), To: any()}
		for range d.n(60) {
			p.Routes = append(p.Routes, any())
		}
		if len(p.Routes) > 0 && d.n(2) == 0 {
			p.Routes[d.n(len(p.Routes))] = numbers[d.n(len(numbers))]
		}
		want := api.OK
		for _, x := range append([]int{p.From, p.To}, p.Routes...) {
			if x < 0 || x > 250 {
				want = api.ErrRange
			}
		}
		if want == api.OK && len(p.Routes) > 54 {
			want = api.ErrMany
		}
		s, e := wire.Write(p)
		if e != want || (e == api.OK) != (s != "") {
			t.Fatalf("%v: %x %d, and must be %d", p, s, e, want)
		}
		if e == api.OK {
			right++
			if q, f := wire.Read(s); !same(p, q) || f != api.OK {
				t.Fatalf("%v is read as %v %d", p, q, f)
			}
		}
	}
	if right < 5000 {
		t.Errorf("only %d were right", right)
	}
}

// P2, P3: what is handed in is only read, the room behind it too; an answer is memory of its own; the same comes each time.
func TestOnlyReadAndOwnMemory(t *testing.T) {
	room := append(make([]int, 0, 9), 3, 4, 77, 77)
	p := api.Packet{From: 1, To: 2, Routes: room[:2]}
	s, _ := wire.Write(p)
	q, _ := wire.Read(s)
	if again, _ := wire.Write(p); again != s || !slices.Equal(room, []int{3, 4, 77, 77}) {
		t.Errorf("%x, then %x; %v", s, again, room)
	}
	room[0] = 9
	for i := range q.Routes[:cap(q.Routes)] {
		q.Routes[:cap(q.Routes)][i] = 99
	}
	if r, e := wire.Read(s); !same(r, api.Packet{From: 1, To: 2, Routes: []int{3, 4}}) || e != api.OK {
		t.Errorf("%v %d: an answer was kept", r, e)
	}
}
