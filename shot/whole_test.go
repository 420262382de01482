package shot_test

// The document's section 'What the whole promises', sentence by sentence.

import (
	"math"
	"slices"
	"strings"
	"testing"

	"darkslide/api"
	"darkslide/code"
	"darkslide/diff"
	"darkslide/line"
	"darkslide/raw"
	"darkslide/shot"
	"darkslide/tone"
)

// codes: drawn ones, of which each has words.
func codes(tell func(lens []int, next func(most int) int)) {
	next := drawn(1)
	for found := 0; found < 200; {
		lens := make([]int, 1+next(16))
		longest := 2 + next(13)
		for i := range lens {
			lens[i] = next(longest)
		}
		if code.Check(lens) == api.OK {
			found++
			tell(lens, next)
		}
	}
}

// bitsOf: so many drawn bits.
func bitsOf(next func(most int) int, many int) string {
	var b strings.Builder
	for range many {
		b.WriteByte("01"[next(1)])
	}
	return b.String()
}

func TestWholeWhatIsWrittenByACodeIsReadAgain(t *testing.T) {
	codes(func(lens []int, next func(most int) int) {
		words, _ := code.Words(lens)
		var l []int
		for range next(60) {
			if n := next(len(lens) - 1); lens[n] > 0 {
				l = append(l, n)
			}
		}
		b, e := code.Write(lens, l)
		if e != api.OK {
			t.Fatalf("%v by %v: %d", l, lens, e)
		}
		for _, behind := range append(words, bitsOf(next, 1), bitsOf(next, 14), bitsOf(next, 100)) {
			if got, left, e := code.Read(lens, b+behind, len(l)); e != api.OK || left != behind || !slices.Equal(got, l) {
				t.Fatalf("%v by %v, with %q behind it, is read as %v %q %d", l, lens, behind, got, left, e)
			}
		}
	})
}

func TestWholeNoWordBeginsWithAnother(t *testing.T) {
	codes(func(lens []int, _ func(most int) int) {
		words, e := code.Words(lens)
		if e != api.OK || len(words) != len(lens) {
			t.Fatalf("%v: %q %d", lens, words, e)
		}
		for i, one := range words {
			if len(one) != lens[i] {
				t.Fatalf("%v: %q", lens, words)
			}
			for j, two := range words {
				if i != j && two != "" && strings.HasPrefix(one, two) {
					t.Fatalf("%v: %q begins with %q", lens, one, two)
				}
			}
		}
	})
}

// changes: the bytes with each of their bits changed, without each of them, and with one more behind, and ahead of them.
func changes(s string, tell func(other string)) {
	for at := range len(s) {
		for bit := range 8 {
			b := []byte(s)
			b[at] ^= 1 << bit
			tell(string(b))
		}
		tell(s[:at] + s[at+1:])
	}
	for _, c := range []string{"\x00", "\x01", "0", "\xff"} {
		tell(s + c)
		tell(c + s)
	}
}

func TestWholeByDifferencesItIsReadAsItWasAndNothingElseIs(t *testing.T) {
	for kind := 1; kind <= 7; kind++ {
		_, p := sample(t, uint64(kind), 5, 6, kind)
		s, e := diff.Write(p, kind, full)
		if q, f := diff.Read(s, p.W, p.H, kind, full); e != api.OK || f != api.OK || !slices.Equal(q.P, p.P) || q.W != p.W || q.H != p.H {
			t.Fatalf("kind %d: %v is read as %v %d %d", kind, p, q, e, f)
		}
		changes(s, func(other string) {
			q, e := diff.Read(other, p.W, p.H, kind, full)
			if e != api.OK {
				if e != api.ErrForm || len(q.P) > 0 {
					t.Fatalf("kind %d: %x: %v %d", kind, other, q, e)
				}
				return
			}
			if back, f := diff.Write(q, kind, full); back != other || f != api.OK {
				t.Fatalf("kind %d: %x is read as %v, which is written %x %d", kind, other, q, back, f)
			}
		})
	}
}

func TestWholeAsAFileItIsReadAsItWasAndNothingElseIs(t *testing.T) {
	for kind := range 8 {
		r, p := sample(t, uint64(kind), 3, 5, kind)
		s := fileOf(t, r)
		again, e := raw.Read(s)
		q, f := raw.Plane(again)
		if e != api.OK || f != api.OK || !slices.Equal(q.P, p.P) || fileOf(t, again) != s {
			t.Fatalf("kind %d: %x is read as another file, of the samples %v: %d %d", kind, s, q.P, e, f)
		}
		changes(s, func(other string) {
			r, e := raw.Read(other)
			if e == api.ErrForm {
				return
			}
			if back, f := raw.Write(r); e != api.OK || f != api.OK || back != other {
				t.Fatalf("kind %d: %x is read as a file, %d, that is written %x %d", kind, other, e, back, f)
			}
		})
	}
}

func TestWholeAsADeepPictureItIsReadAsItWasAndNothingElseIs(t *testing.T) {
	for i, size := range [][2]int{{1, 1}, {4, 5}, {12, 3}} {
		q := picture(uint64(i), size[0], size[1])
		s, e := shot.Write(q, true)
		if got, deep, f := shot.Read(s); e != api.OK || f != api.OK || !deep || !samePicture(got, q) {
			t.Fatalf("%v is read as %v %v %d", q, got, deep, f)
		}
		changes(s, func(other string) { readAsWritten(t, other) })
	}
}

// lighter: a picture of which no part is darker.
func lighter(seed uint64, q api.Picture) api.Picture {
	next := drawn(seed)
	more := func(n int) int { return min(n+next(1)*next(1)*next(1<<(1+next(15))), 65535) }
	out := api.Picture{W: q.W, H: q.H}
	for _, v := range q.P {
		out.P = append(out.P, api.Pixel{R: more(v.R), G: more(v.G), B: more(v.B)})
	}
	return out
}

func TestWholeWhatIsNotDarkerDoesNotBecomeDarker(t *testing.T) {
	curves := [][]api.Point{
		{{}, {X: 65535, Y: 65535}},
		{{Y: 7}, {X: 65535, Y: 7}},
		{{}, {X: 1, Y: 65535}, {X: 65535, Y: 65535}},
		{{}, {X: 10, Y: 5}, {X: 65535, Y: 5}},
		{{}, {X: 65534}, {X: 65535, Y: 65535}},
		plan(0).Curve,
	}
	for seed := range uint64(60) {
		q := picture(seed, 8, 8)
		p := lighter(seed, q)
		for _, l := range curves {
			dark, e := tone.Bend(q, l)
			light, f := tone.Bend(p, l)
			if e != api.OK || f != api.OK || len(dark.P) != 64 || len(light.P) != 64 {
				t.Fatalf("%v: %d %d", l, e, f)
			}
			for i, a := range dark.P {
				if b := light.P[i]; b.R < a.R || b.G < a.G || b.B < a.B {
					t.Fatalf("by %v %v becomes %v, and %v %v", l, q.P[i], a, p.P[i], b)
				}
			}
		}
	}
}

func TestWholeStripsAreTheWhole(t *testing.T) {
	for i, size := range [][2]int{{1, 1}, {4, 3}, {3, 12}, {5, 40}} {
		r, p := sample(t, uint64(50+i), size[0], size[1], 0)
		whole, e := line.Whole(r.Plan, p)
		if e != api.OK {
			t.Fatal(e)
		}
		for rows := 1; rows <= p.H+1; rows++ {
			if q, e := line.Strips(r.Plan, p, rows); e != api.OK || !samePicture(q, whole) {
				t.Fatalf("%v, %d rows: %v %d, not %v", size, rows, q, e, whole)
			}
		}
	}
}

func TestWholeRowsFarAwayCountForNothing(t *testing.T) {
	r, p := sample(t, 60, 4, 30, 0)
	whole, e := line.Whole(r.Plan, p)
	if e != api.OK {
		t.Fatal(e)
	}
	for from := range p.H {
		for to := from + 1; to <= min(from+3, p.H); to++ {
			other := api.Plane{W: p.W, H: p.H, P: slices.Clone(p.P)}
			for i := range other.P {
				if y := i / p.W; y < from-4 || y >= to+4 {
					other.P[i] = 1023 - other.P[i]
				}
			}
			want := whole.P[from*p.W : to*p.W]
			if q, e := line.Whole(r.Plan, other); e != api.OK || !slices.Equal(q.P[from*p.W:to*p.W], want) {
				t.Fatalf("rows %d to %d are others, if rows far away are: %d", from, to, e)
			}
			top, end := max(from-4, 0), min(to+4, p.H)
			part := api.Plane{W: p.W, H: end - top, P: p.P[top*p.W : end*p.W]}
			if q, e := line.Part(r.Plan, part, top, p.H, from, to); e != api.OK || !slices.Equal(q.P, want) {
				t.Fatalf("rows %d to %d are others, if rows far away are not at hand: %d", from, to, e)
			}
		}
	}
}

func TestWholeWhatDevelopTellsDoesNotHangOnRows(t *testing.T) {
	for kind := range 8 {
		r, _ := sample(t, uint64(70+kind), 4, 21, kind)
		s := fileOf(t, r)
		for _, w := range []api.Wish{{Turn: 1, Deep: true}, {Turn: 1 + kind}, {Turn: 5, Cut: api.Rect{X: 1, Y: 9, W: 2, H: 7}, Deep: true}, {Turn: 1, Cut: api.Rect{X: 1, W: 4, H: 1}}, {}} {
			w.Rows = 1
			want, wantErr := shot.Develop(s, w)
			for _, rows := range []int{2, 3, 4, 5, 8, 9, 10, 20, 21, 22, 64, math.MaxInt} {
				w.Rows = rows
				if got, e := shot.Develop(s, w); got != want || e != wantErr {
					t.Fatalf("kind %d, %v: %x %d, not %x %d", kind, w, got, e, want, wantErr)
				}
			}
		}
	}
}

// From samples to a picture's file and back: what is read is what the line makes of the samples.
func TestWholeFromSamplesToAPicture(t *testing.T) {
	for kind := range 8 {
		r, p := sample(t, uint64(90+kind), 7, 9, kind)
		want, _ := line.Whole(r.Plan, p)
		s, e := shot.Develop(fileOf(t, r), api.Wish{Rows: 2, Turn: 1, Deep: true})
		if q, deep, f := shot.Read(s); e != api.OK || f != api.OK || !deep || !samePicture(q, want) {
			t.Errorf("kind %d: %v %v %d %d, not %v", kind, q, deep, e, f, want)
		}
	}
}
