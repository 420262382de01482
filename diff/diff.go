// Package diff: planes by differences: see doc/03-diff.md.
package diff

import (
	"strings"

	"darkslide/api"
	"darkslide/bits"
	"darkslide/code"
	"darkslide/right"
	"darkslide/wordbook"
)

const (
	half     = 1 << 15
	topClass = 16 // of the difference 2^15 alone, which so needs no more bits
)

// Guess: what the sample is guessed to be, from those that lie ahead of it.
func Guess(p api.Plane, kind, x, y int) (int, api.Errno) {
	if !right.Plane(p) {
		return 0, api.ErrForm
	}
	if !isKind(kind) {
		return 0, api.ErrKind
	}
	if x < 0 || x >= p.W || y < 0 || y >= p.H {
		return 0, api.ErrRange
	}
	return guess(p, kind, x, y), api.OK
}

// Write: all samples as differences, row by row, as bytes.
func Write(p api.Plane, kind int, lens []int) (string, api.Errno) {
	if !right.Plane(p) {
		return "", api.ErrForm
	}
	if !isKind(kind) {
		return "", api.ErrKind
	}
	words, e := code.Words(lens)
	if e != api.OK {
		return "", e
	}
	book := wordbook.New(words)
	var b strings.Builder
	for i, sample := range p.P {
		d := difference(sample, guess(p, kind, i%p.W, i/p.W))
		class := classOf(d)
		word, e := book.Word(class)
		if e != api.OK {
			return "", e
		}
		b.WriteString(word)
		b.WriteString(tail(d, class))
	}
	return bits.Bytes(b.String())
}

// Read: the plane of which Write makes these bytes.
func Read(s string, w, h, kind int, lens []int) (api.Plane, api.Errno) {
	if !right.Side(w) || !right.Side(h) {
		return api.Plane{}, api.ErrRange
	}
	if !isKind(kind) {
		return api.Plane{}, api.ErrKind
	}
	words, e := code.Words(lens)
	if e != api.OK {
		return api.Plane{}, e
	}
	// Asked ahead of Bits, so that a text that is far too long is not made eight times as long.
	if len(s) > mostBytes(w*h) {
		return api.Plane{}, api.ErrForm
	}
	book := wordbook.New(words)
	take, left := wordbook.Taker(bits.Bits(s))
	p := api.Plane{W: w, H: h, P: make([]int, w*h)}
	for i := range p.P {
		d, ok := nextDifference(book, take)
		if !ok {
			return api.Plane{}, api.ErrForm
		}
		p.P[i] = (guess(p, kind, i%w, i/w) + d) & api.Top
	}
	if !isFill(left()) {
		return api.Plane{}, api.ErrForm
	}
	return p, api.OK
}

func isKind(kind int) bool {
	return kind >= 1 && kind <= 7
}

// guess looks only at samples that lie ahead of (x, y), so that Read may ask it of a plane that is not yet full.
func guess(p api.Plane, kind, x, y int) int {
	at := y*p.W + x
	switch {
	case x == 0 && y == 0:
		return half
	case y == 0:
		return p.P[at-1]
	case x == 0:
		return p.P[at-p.W]
	}
	return guessInside(kind, p.P[at-1], p.P[at-p.W], p.P[at-p.W-1])
}

// guessInside guesses from the samples a left, b above and c left above. Shifts, as they round down below 0 too.
func guessInside(kind, a, b, c int) int {
	switch kind {
	case 1:
		return a
	case 2:
		return b
	case 3:
		return c
	case 4:
		return a + b - c
	case 5:
		return a + (b-c)>>1
	case 6:
		return b + (a-c)>>1
	}
	return (a + b) >> 1
}

// difference: d from -2^15 + 1 to 2^15.
func difference(sample, guessed int) int {
	d := (sample - guessed) & api.Top
	if d > half {
		d -= 2 * half
	}
	return d
}

// classOf: how many bits d has, without its sign.
func classOf(d int) int {
	class := 0
	for n := max(d, -d); n > 0; n /= 2 {
		class++
	}
	return class
}

// tail: the bits that tell d of the others of its class.
func tail(d, class int) string {
	if class == 0 || class == topClass {
		return ""
	}
	n := d
	if d < 0 {
		n = d + (1 << class) - 1
	}
	t, _ := bits.Number(n, class) // no error: the class is how many bits d has
	return t
}

// nextDifference takes a class's word and the bits behind it; false, if there is none.
func nextDifference(book wordbook.Book, take func() (byte, bool)) (int, bool) {
	class, e := book.Next(take)
	if e != api.OK {
		return 0, false
	}
	if class == topClass {
		return half, true
	}
	n := 0
	for range class {
		bit, ok := take()
		if !ok {
			return 0, false
		}
		n = 2*n + int(bit-'0')
	}
	// A number above 0 begins with 1, as its class is how many bits it has: what begins with 0 is one below 0.
	if n < (1<<class)/2 {
		n -= (1 << class) - 1
	}
	return n, true
}

// mostBytes: no plane of so many samples is written with more.
func mostBytes(samples int) int {
	return (samples*(api.MaxWord+topClass-1) + 7) / 8
}

// isFill: whether these bits, behind the last sample, are what Bytes fills the last byte with.
func isFill(b string) bool {
	return len(b) < 8 && !strings.Contains(b, "1")
}
