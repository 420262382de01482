package diff_test

import (
	"fmt"
	"slices"
	"strings"
	"testing"

	"darkslide/api"
	"darkslide/bits"
	"darkslide/code"
	"darkslide/diff"
)

// full has a word for each class.
var full = []int{3, 3, 4, 4, 4, 4, 4, 4, 5, 5, 5, 5, 6, 6, 6, 7, 7}

// wrongPlanes are not right, each by one thing.
var wrongPlanes = []api.Plane{
	{},
	{W: 0, H: 1},
	{W: 1, H: 0},
	{W: -1, H: -1, P: []int{0}},
	{W: 65, H: 1, P: make([]int, 65)},
	{W: 1, H: 65, P: make([]int, 65)},
	{W: 1 << 62, H: 4},
	{W: 2, H: 2, P: make([]int, 3)},
	{W: 2, H: 2, P: make([]int, 5)},
	{W: 2, H: 1, P: []int{0, -1}},
	{W: 2, H: 1, P: []int{0, 65536}},
}

// drawn is a plane whose samples come from a fixed row of numbers: some near their neighbour, some far.
func drawn(seed uint64, w, h int) api.Plane {
	p := api.Plane{W: w, H: h}
	for range w * h {
		seed = seed*6364136223846793005 + 1442695040888963407
		v := int(seed >> 48)
		if seed>>40&1 == 0 && len(p.P) > 0 {
			v = (p.P[len(p.P)-1] + v%9 - 4) & api.Top
		}
		p.P = append(p.P, v)
	}
	return p
}

func samePlane(p, q api.Plane) bool {
	return p.W == q.W && p.H == q.H && slices.Equal(p.P, q.P)
}

func TestC1GuessInside(t *testing.T) {
	for _, c := range []struct {
		c, b, a int
		want    [7]int
	}{
		{10, 65535, 0, [7]int{0, 65535, 10, 65525, 32762, 65530, 32767}},
		{65535, 0, 0, [7]int{0, 0, 65535, -65535, -32768, -32768, 0}},
		{0, 65535, 65535, [7]int{65535, 65535, 0, 131070, 98302, 98302, 65535}},
		{4, 7, 12, [7]int{12, 7, 4, 15, 13, 11, 9}},
		{7, 4, 12, [7]int{12, 4, 7, 9, 10, 6, 8}},
		{7, 12, 4, [7]int{4, 12, 7, 9, 6, 10, 8}},
		{5, 5, 5, [7]int{5, 5, 5, 5, 5, 5, 5}},
	} {
		p := api.Plane{W: 2, H: 2, P: []int{c.c, c.b, c.a, 7}}
		for i, want := range c.want {
			if got, e := diff.Guess(p, i+1, 1, 1); got != want || e != api.OK {
				t.Errorf("guess %d of %v: %d %d, not %d", i+1, p.P, got, e, want)
			}
		}
	}
}

func TestC1GuessAtTheEdges(t *testing.T) {
	p := api.Plane{W: 3, H: 3, P: []int{1, 20, 300, 4000, 50000, 6, 70, 800, 9000}}
	for kind := 1; kind <= 7; kind++ {
		for _, c := range [][3]int{{0, 0, 32768}, {1, 0, 1}, {2, 0, 20}, {0, 1, 1}, {0, 2, 4000}} {
			if got, e := diff.Guess(p, kind, c[0], c[1]); got != c[2] || e != api.OK {
				t.Errorf("guess %d of (%d, %d): %d %d, not %d", kind, c[0], c[1], got, e, c[2])
			}
		}
	}
	for kind, want := range []int{800, 6, 50000} {
		if got, e := diff.Guess(p, kind+1, 2, 2); got != want || e != api.OK {
			t.Errorf("guess %d of (2, 2): %d %d, not %d", kind+1, got, e, want)
		}
	}
}

func TestC1GuessErrors(t *testing.T) {
	for _, p := range wrongPlanes {
		if got, e := diff.Guess(p, 0, -1, 0); got != 0 || e != api.ErrForm {
			t.Errorf("%d columns, %d rows, %d samples: %d %d", p.W, p.H, len(p.P), got, e)
		}
	}
	p := drawn(1, 3, 2)
	for _, kind := range []int{-1, 0, 8, 1 << 62} {
		if got, e := diff.Guess(p, kind, 0, 0); got != 0 || e != api.ErrKind {
			t.Errorf("kind %d: %d %d", kind, got, e)
		}
		if got, e := diff.Guess(p, kind, 3, 2); got != 0 || e != api.ErrKind {
			t.Errorf("kind %d outside: %d %d", kind, got, e)
		}
	}
	for _, c := range [][2]int{{-1, 0}, {0, -1}, {3, 0}, {0, 2}, {2, 2}, {3, 1}, {1 << 62, 1 << 62}} {
		if got, e := diff.Guess(p, 1, c[0], c[1]); got != 0 || e != api.ErrRange {
			t.Errorf("(%d, %d): %d %d", c[0], c[1], got, e)
		}
	}
}

// spelt is C2's rule for one difference, by the words that the chapter has for it.
func spelt(words []string, d int) string {
	class := 0
	if d != 0 {
		class = len(fmt.Sprintf("%b", max(d, -d)))
	}
	switch {
	case class == 0 || class == 16:
		return words[class]
	case d > 0:
		return words[class] + fmt.Sprintf("%b", d)
	}
	return words[class] + fmt.Sprintf("%0*b", class, d+1<<class-1)
}

func TestC2EachDifference(t *testing.T) {
	words, _ := code.Words(full)
	for d := -1<<15 + 1; d <= 1<<15; d++ {
		p := api.Plane{W: 1, H: 1, P: []int{(1<<15 + d) & api.Top}}
		want, _ := bits.Bytes(spelt(words, d))
		if got, e := diff.Write(p, 1, full); got != want || e != api.OK {
			t.Fatalf("difference %d: %x %d, not %x", d, got, e, want)
		}
	}
}

func TestC2WrittenByHand(t *testing.T) {
	lens := []int{2, 2, 2, 2} // classes 0 to 3: 00, 01, 10, 11
	p := api.Plane{W: 3, H: 2, P: []int{32768, 32769, 32768, 32766, 32769, 32762}}
	for _, c := range []struct {
		kind int
		bits string
	}{
		// By A: 0, 1, -1 above -2, 3, -7.
		{1, "00" + "01" + "1" + "01" + "0" + "10" + "01" + "10" + "11" + "11" + "000"},
		// By B: the same above -2, 0, -6.
		{2, "00" + "01" + "1" + "01" + "0" + "10" + "01" + "00" + "11" + "001"},
		// By C: the same above -2, 1, -7.
		{3, "00" + "01" + "1" + "01" + "0" + "10" + "01" + "01" + "1" + "11" + "000"},
	} {
		want, _ := bits.Bytes(c.bits)
		if got, e := diff.Write(p, c.kind, lens); got != want || e != api.OK {
			t.Errorf("kind %d: %x %d, not %x", c.kind, got, e, want)
		}
	}
}

func TestC2GuessesOutsideOfTheSamples(t *testing.T) {
	words, _ := code.Words(full)
	// Kind 4 guesses -65535, and 131070: less a multiple of 2^16 these are 1, and 65534.
	for _, c := range []struct {
		p []int
		d int
	}{{[]int{65535, 0, 0, 1}, 0}, {[]int{65535, 0, 0, 0}, -1}, {[]int{0, 65535, 65535, 0}, 2}, {[]int{0, 65535, 65535, 32766}, 1 << 15}, {[]int{0, 65535, 65535, 32767}, -1<<15 + 1}} {
		p := api.Plane{W: 2, H: 2, P: c.p}
		var b strings.Builder
		for i := range 3 {
			guess, _ := diff.Guess(p, 4, i%2, i/2)
			// int16 has -2^15 and not 2^15, so it wraps the negative of what a difference is.
			b.WriteString(spelt(words, -int(int16(guess-c.p[i]))))
		}
		want, _ := bits.Bytes(b.String() + spelt(words, c.d))
		got, e := diff.Write(p, 4, full)
		if got != want || e != api.OK {
			t.Errorf("%v: %x %d, not %x", c.p, got, e, want)
		}
		if q, e := diff.Read(got, 2, 2, 4, full); !samePlane(p, q) || e != api.OK {
			t.Errorf("%v is read as %v %d", c.p, q.P, e)
		}
	}
}

func TestC2WriteErrors(t *testing.T) {
	for _, p := range wrongPlanes {
		if got, e := diff.Write(p, 0, nil); got != "" || e != api.ErrForm {
			t.Errorf("%d columns, %d rows, %d samples: %q %d", p.W, p.H, len(p.P), got, e)
		}
	}
	p := api.Plane{W: 2, H: 1, P: []int{32768, 0}}
	for _, c := range []struct {
		kind int
		lens []int
		want api.Errno
	}{
		{0, nil, api.ErrKind},
		{8, full, api.ErrKind},
		{1, nil, api.ErrMany},
		{1, make([]int, 18), api.ErrMany},
		{1, []int{16}, api.ErrRange},
		{1, []int{0}, api.ErrForm},
		{1, []int{1, 1, 1}, api.ErrForm},
		{1, []int{1}, api.ErrNone},
		{1, full[:16], api.ErrNone},
		{1, append([]int{0}, full[1:]...), api.ErrNone},
	} {
		if got, e := diff.Write(p, c.kind, c.lens); got != "" || e != c.want {
			t.Errorf("kind %d, %v: %q %d, not %d", c.kind, c.lens, got, e, c.want)
		}
	}
	// Only the classes that the plane has must have words.
	if got, e := diff.Write(p, 1, append([]int{1}, append(make([]int, 15), 1)...)); got != "\x40" || e != api.OK {
		t.Errorf("the classes 0 and 16 alone: %x %d", got, e)
	}
}

func TestC3ReadErrors(t *testing.T) {
	for _, c := range []struct {
		s          string
		w, h, kind int
		lens       []int
		want       api.Errno
	}{
		{"", 0, 1, 0, nil, api.ErrRange},
		{"", 1, 0, 0, nil, api.ErrRange},
		{"", 65, 1, 1, full, api.ErrRange},
		{"", 1, 65, 1, full, api.ErrRange},
		{"", -1, -1, 1, full, api.ErrRange},
		{"", 1 << 62, 1 << 62, 1, full, api.ErrRange},
		{"", 1, 1, 0, nil, api.ErrKind},
		{"", 1, 1, 8, full, api.ErrKind},
		{"", 1, 1, 1, nil, api.ErrMany},
		{"", 1, 1, 1, []int{-1}, api.ErrRange},
		{"", 1, 1, 1, []int{0}, api.ErrForm},
		{"", 64, 64, 7, full, api.ErrForm},
		{"", 1, 1, 1, full, api.ErrForm},
	} {
		if p, e := diff.Read(c.s, c.w, c.h, c.kind, c.lens); !samePlane(p, api.Plane{}) || e != c.want {
			t.Errorf("%q, %d columns, %d rows, kind %d, %v: %v %d, not %d", c.s, c.w, c.h, c.kind, c.lens, p, e, c.want)
		}
	}
}

func TestC3BytesOfNoPlane(t *testing.T) {
	lens := []int{1, 3, 3} // classes 0, 1 and 2: 0, 100, 101; nothing begins with 11
	for b, want := range map[string]api.Errno{
		"00000000":         api.OK,
		"01010000":         api.OK,
		"10111011":         api.ErrForm, // the second sample's bits are missing
		"1011110111000000": api.OK,
		"1011110111000001": api.ErrForm, // a 1 behind the last sample
		"1011110111100000": api.ErrForm,
		"0000000000000000": api.ErrForm, // a byte more than the samples want
		"11000000":         api.ErrForm, // no word
		"01100000":         api.ErrForm,
		"":                 api.ErrForm,
	} {
		s, _ := bits.Bytes(b)
		p, e := diff.Read(s, 2, 1, 1, lens)
		if e != want || e != api.OK && !samePlane(p, api.Plane{}) {
			t.Errorf("%s: %v %d, not %d", b, p, e, want)
		}
	}
}

func TestC3ReadOfALongText(t *testing.T) {
	if p, e := diff.Read(strings.Repeat("\x00", 1<<26), 64, 64, 1, full); !samePlane(p, api.Plane{}) || e != api.ErrForm {
		t.Errorf("it is %d columns, %d rows, %d", p.W, p.H, e)
	}
}

func TestC4WhatIsWrittenIsRead(t *testing.T) {
	for kind := 1; kind <= 7; kind++ {
		for i, side := range [][2]int{{1, 1}, {1, 7}, {7, 1}, {2, 2}, {5, 3}, {3, 8}, {64, 1}, {1, 64}, {64, 64}} {
			p := drawn(uint64(10*kind+i), side[0], side[1])
			s, e := diff.Write(p, kind, full)
			if e != api.OK {
				t.Fatalf("%v, kind %d: %d", side, kind, e)
			}
			if q, e := diff.Read(s, p.W, p.H, kind, full); !samePlane(p, q) || e != api.OK {
				t.Errorf("%v, kind %d is read as %v %d", p, kind, q, e)
			}
			if q, e := diff.Read(s+"\x00", p.W, p.H, kind, full); !samePlane(q, api.Plane{}) || e != api.ErrForm {
				t.Errorf("%v, kind %d, with a byte more is read as %v %d", p, kind, q, e)
			}
			if q, e := diff.Read(s[:len(s)-1], p.W, p.H, kind, full); !samePlane(q, api.Plane{}) || e != api.ErrForm {
				t.Errorf("%v, kind %d, with a byte less is read as %v %d", p, kind, q, e)
			}
		}
	}
}

// The longest texts of all: each sample has 15 bits of class 15 behind a word of 15.
func TestC4TheLongestTextIsRead(t *testing.T) {
	lens := append(make([]int, 15), 15)
	p := api.Plane{W: 64, H: 64}
	for i := range 4096 {
		v := 1 << 14
		switch {
		case i%64 > 0:
			v = p.P[i-1] + 1<<14
		case i > 0:
			v = p.P[i-64] + 1<<14
		}
		p.P = append(p.P, v&api.Top)
	}
	s, e := diff.Write(p, 1, lens)
	if len(s) != 4096*30/8 || e != api.OK {
		t.Fatalf("%d bytes, %d", len(s), e)
	}
	if q, e := diff.Read(s, 64, 64, 1, lens); !samePlane(p, q) || e != api.OK {
		t.Errorf("it is not read as it was: %d", e)
	}
}

// Of all texts of up to two bytes just those are read that their planes are written as.
func TestC4NothingElseIsRead(t *testing.T) {
	lens := []int{1, 3, 3, 4} // 0, 100, 101, 1100
	for kind := 1; kind <= 7; kind++ {
		for _, side := range [][2]int{{1, 1}, {3, 1}, {2, 2}} {
			found := 0
			for v := range 1 << 16 {
				for _, s := range []string{string([]byte{byte(v >> 8), byte(v)}), string([]byte{byte(v)})} {
					p, e := diff.Read(s, side[0], side[1], kind, lens)
					if e == api.ErrForm && samePlane(p, api.Plane{}) || len(s) == 1 && v > 255 {
						continue
					}
					found++
					if back, f := diff.Write(p, kind, lens); back != s || e != api.OK || f != api.OK {
						t.Fatalf("%x, %v, kind %d: %v %d, written %x %d", s, side, kind, p, e, back, f)
					}
				}
			}
			if want := countTexts(side[0]*side[1], 16); found != want {
				t.Errorf("%v, kind %d: %d texts are read, not %d", side, kind, found, want)
			}
		}
	}
}

// countTexts: how many rows of so many differences have at most size bits, with the words of one, three, three and four bits.
func countTexts(samples, size int) int {
	if size < 0 {
		return 0
	}
	if samples == 0 {
		return 1
	}
	return countTexts(samples-1, size-1) + 2*countTexts(samples-1, size-4) + 4*countTexts(samples-1, size-5) + 8*countTexts(samples-1, size-7)
}

func TestP2WhatIsHandedInIsOnlyRead(t *testing.T) {
	samples, lens := []int{10, 65535, 0, 7, 99}, slices.Clone(full)
	p := api.Plane{W: 2, H: 2, P: samples[:4]}
	diff.Guess(p, 5, 1, 1)
	diff.Write(p, 5, lens[:16])
	s, _ := diff.Write(p, 5, lens)
	q, _ := diff.Read(s, 2, 2, 5, lens)
	if !slices.Equal(samples, []int{10, 65535, 0, 7, 99}) || !slices.Equal(lens, full) {
		t.Errorf("what was handed in is %v and %v now", samples, lens)
	}
	q.P[0] = 1
	if again, _ := diff.Read(s, 2, 2, 5, lens); !samePlane(again, p) {
		t.Errorf("Read answers %v after its first answer was changed", again)
	}
}
