package shot_test

import (
	"fmt"
	"math"
	"slices"
	"strconv"
	"strings"
	"testing"

	"darkslide/api"
	"darkslide/line"
	"darkslide/raw"
	"darkslide/shot"
	"darkslide/turn"
)

// wrongPictures are not right, each by one thing.
var wrongPictures = []api.Picture{
	{},
	{W: 0, H: 1},
	{W: 1, H: 0},
	{W: -1, H: -1, P: []api.Pixel{{}}},
	{W: 65, H: 1, P: make([]api.Pixel, 65)},
	{W: 1, H: 65, P: make([]api.Pixel, 65)},
	{W: 1 << 62, H: 4},
	{W: 2, H: 2, P: make([]api.Pixel, 3)},
	{W: 2, H: 2, P: make([]api.Pixel, 5)},
	{W: 2, H: 1, P: []api.Pixel{{}, {R: -1}}},
	{W: 2, H: 1, P: []api.Pixel{{}, {G: -1}}},
	{W: 2, H: 1, P: []api.Pixel{{}, {B: -1}}},
	{W: 2, H: 1, P: []api.Pixel{{R: 65536}, {}}},
	{W: 2, H: 1, P: []api.Pixel{{G: 65536}, {}}},
	{W: 2, H: 1, P: []api.Pixel{{B: 65536}, {}}},
}

// full has a word for each class.
var full = []int{3, 3, 4, 4, 4, 4, 4, 4, 5, 5, 5, 5, 6, 6, 6, 7, 7}

var sizes = [][2]int{{1, 1}, {2, 1}, {1, 2}, {3, 2}, {9, 1}, {1, 9}, {10, 10}, {9, 12}, {64, 1}, {1, 64}, {64, 64}}

// drawn gives numbers of a fixed row, each from 0 to most.
func drawn(seed uint64) func(most int) int {
	return func(most int) int {
		seed = seed*6364136223846793005 + 1442695040888963407
		return int(seed>>33) % (most + 1)
	}
}

// picture of drawn pixels.
func picture(seed uint64, w, h int) api.Picture {
	next := drawn(seed)
	q := api.Picture{W: w, H: h}
	for range w * h {
		q.P = append(q.P, api.Pixel{R: next(65535), G: next(65535), B: next(65535)})
	}
	return q
}

func samePicture(p, q api.Picture) bool {
	return p.W == q.W && p.H == q.H && slices.Equal(p.P, q.P)
}

// flattened: what is left of the picture, if each part has one byte.
func flattened(q api.Picture) api.Picture {
	flat := func(n int) int { return n / 256 * 257 }
	out := api.Picture{W: q.W, H: q.H}
	for _, v := range q.P {
		out.P = append(out.P, api.Pixel{R: flat(v.R), G: flat(v.G), B: flat(v.B)})
	}
	return out
}

// form: a picture's bytes, put together by the chapter's words.
func form(q api.Picture, deep bool) string {
	most := 255
	if deep {
		most = 65535
	}
	b := fmt.Appendf(nil, "P6\n%d %d\n%d\n", q.W, q.H, most)
	for _, v := range q.P {
		for _, n := range []int{v.R, v.G, v.B} {
			b = append(b, byte(n/256))
			if deep {
				b = append(b, byte(n%256))
			}
		}
	}
	return string(b)
}

// notRead: whether Read tells that there is no such picture.
func notRead(t *testing.T, s string, about ...any) {
	t.Helper()
	if q, deep, e := shot.Read(s); e != api.ErrForm || deep || !samePicture(q, api.Picture{}) {
		t.Errorf("%q %v: it is read as %v %v %d", s[:min(len(s), 40)], about, q, deep, e)
	}
}

func TestJ1WriteByHand(t *testing.T) {
	// The document's example 10.
	one := api.Picture{W: 1, H: 1, P: []api.Pixel{{R: 258, G: 1, B: 65535}}}
	four := api.Picture{W: 2, H: 2, P: []api.Pixel{{R: 256}, {G: 512}, {B: 768}, {R: 255, G: 65280, B: 511}}}
	for _, c := range []struct {
		q    api.Picture
		deep bool
		want string
	}{
		{one, true, "P6\n1 1\n65535\n\x01\x02\x00\x01\xff\xff"},
		{one, false, "P6\n1 1\n255\n\x01\x00\xff"},
		{four, true, "P6\n2 2\n65535\n\x01\x00\x00\x00\x00\x00" + "\x00\x00\x02\x00\x00\x00" + "\x00\x00\x00\x00\x03\x00" + "\x00\xff\xff\x00\x01\xff"},
		{four, false, "P6\n2 2\n255\n\x01\x00\x00" + "\x00\x02\x00" + "\x00\x00\x03" + "\x00\xff\x01"},
		{api.Picture{W: 64, H: 1, P: make([]api.Pixel, 64)}, false, "P6\n64 1\n255\n" + strings.Repeat("\x00", 192)},
		{api.Picture{W: 1, H: 10, P: make([]api.Pixel, 10)}, true, "P6\n1 10\n65535\n" + strings.Repeat("\x00", 60)},
	} {
		if s, e := shot.Write(c.q, c.deep); e != api.OK || s != c.want {
			t.Errorf("%v, deep %v: %q %d, not %q", c.q, c.deep, s, e, c.want)
		}
	}
}

// everyPart: pictures in which each number that a part may be is each of the parts.
func everyPart() []api.Picture {
	var l []api.Picture
	for first := 0; first < 65536; first += 4096 {
		q := api.Picture{W: 64, H: 64}
		for n := first; n < first+4096; n++ {
			q.P = append(q.P, api.Pixel{R: n, G: 65535 - n, B: n ^ 0x5a5a})
		}
		l = append(l, q)
	}
	return l
}

func TestJ1TheBytesOfManyPictures(t *testing.T) {
	l := everyPart()
	for i, size := range sizes {
		l = append(l, picture(uint64(i), size[0], size[1]))
	}
	for _, q := range l {
		for _, deep := range []bool{false, true} {
			want := form(q, deep)
			if s, e := shot.Write(q, deep); e != api.OK || s != want {
				t.Fatalf("%d columns, %d rows, deep %v: %x %d, not %x", q.W, q.H, deep, s, e, want)
			}
			asRead := flattened(q)
			if deep {
				asRead = q
			}
			if got, is, e := shot.Read(want); e != api.OK || is != deep || !samePicture(got, asRead) {
				t.Fatalf("%d columns, %d rows, deep %v: %v %v %d, not %v", q.W, q.H, deep, got, is, e, asRead)
			}
		}
	}
}

func TestJ1WriteErrors(t *testing.T) {
	for _, q := range wrongPictures {
		for _, deep := range []bool{false, true} {
			if s, e := shot.Write(q, deep); e != api.ErrForm || s != "" {
				t.Errorf("%d columns, %d rows, %d pixels: %q %d", q.W, q.H, len(q.P), s, e)
			}
		}
	}
}

func TestJ1ReadByHand(t *testing.T) {
	for _, c := range []struct {
		s    string
		deep bool
		want api.Picture
	}{
		{"P6\n1 1\n65535\n\x01\x02\x00\x01\xff\xff", true, api.Picture{W: 1, H: 1, P: []api.Pixel{{R: 258, G: 1, B: 65535}}}},
		{"P6\n1 1\n255\n\x01\x00\xff", false, api.Picture{W: 1, H: 1, P: []api.Pixel{{R: 257, G: 0, B: 65535}}}},
		{"P6\n2 1\n255\n\x02\x80\x7f\xfe\x00\x03", false, api.Picture{W: 2, H: 1, P: []api.Pixel{{R: 514, G: 32896, B: 32639}, {R: 65278, G: 0, B: 771}}}},
		{"P6\n1 2\n65535\n\x00\x00\x80\x00\x00\x80\xff\x00\x00\xff\x12\x34", true, api.Picture{W: 1, H: 2, P: []api.Pixel{{R: 0, G: 32768, B: 128}, {R: 65280, G: 255, B: 4660}}}},
		{"P6\n1 1\n255\n\n \n", false, api.Picture{W: 1, H: 1, P: []api.Pixel{{R: 2570, G: 8224, B: 2570}}}},
		{"P6\n1 1\n255\n555", false, api.Picture{W: 1, H: 1, P: []api.Pixel{{R: 13621, G: 13621, B: 13621}}}},
	} {
		if q, deep, e := shot.Read(c.s); e != api.OK || deep != c.deep || !samePicture(q, c.want) {
			t.Errorf("%q: %v %v %d, not %v", c.s, q, deep, e, c.want)
		}
	}
}

func TestJ1ReadOfHeadsThatAreNone(t *testing.T) {
	for _, head := range []string{
		"", "P", "P6", "P6\n", "P6\n1", "P6\n1 ", "P6\n1 1", "P6\n1 1\n", "P6\n1 1\n255",
		"P5\n1 1\n255\n", "P3\n1 1\n255\n", "p6\n1 1\n255\n", "P6 1 1\n255\n", "P61 1\n255\n", "\nP6\n1 1\n255\n", " P6\n1 1\n255\n", "P6\r\n1 1\n255\n",
		"P6\n01 1\n255\n", "P6\n1 01\n255\n", "P6\n1 1\n0255\n", "P6\n00000000000000000000001 1\n255\n", "P6\n1 1\n065535\n",
		"P6\n+1 1\n255\n", "P6\n-1 1\n255\n", "P6\n1 +1\n255\n", "P6\n1 -1\n255\n", "P6\n-1 -1\n255\n", "P6\n1 1\n+255\n", "P6\n1 1\n-255\n",
		"P6\n1  1\n255\n", "P6\n 1 1\n255\n", "P6\n1 1 \n255\n", "P6\n1 1\n 255\n", "P6\n1 1\n255 \n", "P6\n1 1\n255\r\n", "P6\n1 1\r\n255\n",
		"P6\n1\n1\n255\n", "P6\n1 1 255\n", "P6\n1 1\n255 ", "P6\n1\t1\n255\n", "P6\n\n1 1\n255\n", "P6\n1 1\n\n255\n", "P6\n#\n1 1\n255\n", "P6\n1 1\n#\n255\n",
		"P6\n1 1\n256\n", "P6\n1 1\n254\n", "P6\n1 1\n65534\n", "P6\n1 1\n65536\n", "P6\n1 1\n1\n", "P6\n1 1\n0\n", "P6\n1 1\n\n", "P6\n1 1\n655350\n", "P6\n1 1\n2550\n", "P6\n1 1\n25\n",
		"P6\n 1\n255\n", "P6\n1 \n255\n", "P6\n \n\n",
		"P6\n1,1\n255\n", "P6\n0x1 1\n255\n", "P6\n1_0 1\n255\n", "P6\n1.0 1\n255\n", "P6\n1e0 1\n255\n", "P6\n\u0661 1\n255\n",
	} {
		for size := range 13 {
			notRead(t, head+strings.Repeat("\x00", size), size)
		}
	}
}

// Sides that are none, with as many bytes behind the head as they would take.
func TestJ1ReadOfOtherSides(t *testing.T) {
	for _, size := range []int{0, 65, 66, 99, 100, 640, 65536} {
		for _, most := range []string{"255", "65535"} {
			pixels := strings.Repeat("\x00", 3*size*(1+len(most)/5))
			notRead(t, "P6\n"+strconv.Itoa(size)+" 1\n"+most+"\n"+pixels)
			notRead(t, "P6\n1 "+strconv.Itoa(size)+"\n"+most+"\n"+pixels)
		}
	}
	// Numbers that are 1, 255, or 65535, if of their bits just the last 64, or 32, or 16, are kept.
	for _, more := range []string{"18446744073709551617", "4294967297", "65537", "36893488147419103233", strings.Repeat("9", 1000)} {
		notRead(t, "P6\n"+more+" 1\n255\n\x00\x00\x00")
		notRead(t, "P6\n1 "+more+"\n255\n\x00\x00\x00")
	}
	for _, most := range []string{"18446744073709551871", "4294967551", "65791", "511"} {
		notRead(t, "P6\n1 1\n"+most+"\n\x00\x00\x00")
	}
	for _, most := range []string{"18446744073709617151", "4295032831", "131071"} {
		notRead(t, "P6\n1 1\n"+most+"\n\x00\x00\x00\x00\x00\x00")
	}
}

func TestJ1ReadOfTooFewBytesOrTooMany(t *testing.T) {
	for _, size := range [][2]int{{1, 1}, {2, 3}, {10, 1}} {
		q := picture(3, size[0], size[1])
		for _, deep := range []bool{false, true} {
			s := form(q, deep)
			for i := range len(s) {
				notRead(t, s[:i], "of", i, "bytes")
				notRead(t, s[i+1:], "without", i+1, "bytes")
			}
			for _, more := range []string{"\x00", "\n", "x", s} {
				notRead(t, s+more, "and more")
				notRead(t, more+s, "and more ahead of it")
			}
		}
		// The bytes of one kind with the head of the other one.
		notRead(t, strings.Replace(form(q, true), "65535", "255", 1))
		notRead(t, strings.Replace(form(q, false), "255", "65535", 1))
	}
	notRead(t, "P6\n1 1\n255\n"+strings.Repeat("\x00", 1<<26), "a long text")
	notRead(t, "P6\n"+strings.Repeat("0", 1<<26), "many digits")
	notRead(t, "P6\n"+strings.Repeat("9", 1<<26), "many digits")
}

// plan in which each stage does something.
func plan(phase int, spots ...api.Spot) api.Plan {
	return api.Plan{
		Phase:  phase,
		Black:  [4]int{10, 20, 30, 40},
		White:  900,
		Spots:  spots,
		Gains:  [3]int{400, 256, 300},
		Matrix: [9]int{6000, -1500, -400, -800, 5500, -604, 0, -2000, 6096},
		Curve:  []api.Point{{Y: 9}, {X: 1000, Y: 4000}, {X: 30000, Y: 50000}, {X: 65535, Y: 65000}},
		Amount: 300,
	}
}

// sample is a file of so many columns and rows, and its plane.
func sample(t *testing.T, seed uint64, w, h, kind int) (api.Raw, api.Plane) {
	t.Helper()
	next := drawn(seed)
	p := api.Plane{W: w, H: h}
	for range w * h {
		p.P = append(p.P, next(1023))
	}
	r := api.Raw{W: w, H: h, Depth: 10, Kind: kind, Rows: 1 + next(h-1)}
	r.Plan = plan(next(3), api.Spot{X: next(w - 1), Y: next(h - 1)}, api.Spot{X: next(w - 1), Y: next(h - 1)})
	if kind > 0 {
		r.Lens = full
	}
	r, e := raw.Fill(r, p)
	if e != api.OK {
		t.Fatal(e)
	}
	return r, p
}

// fileOf: the file's bytes.
func fileOf(t *testing.T, r api.Raw) string {
	t.Helper()
	s, e := raw.Write(r)
	if e != api.OK {
		t.Fatal(e)
	}
	return s
}

// developed: what Develop must tell, by the other chapters' calls on the whole.
func developed(t *testing.T, r api.Raw, p api.Plane, w api.Wish) string {
	t.Helper()
	q, a := line.Whole(r.Plan, p)
	b := api.OK
	if w.Cut.X != 0 || w.Cut.Y != 0 || w.Cut.W != 0 || w.Cut.H != 0 {
		q, b = turn.Cut(q, w.Cut)
	}
	q, c := turn.Turn(q, w.Turn)
	if a != api.OK || b != api.OK || c != api.OK {
		t.Fatalf("%v: %d %d %d", w, a, b, c)
	}
	return form(q, w.Deep)
}

func TestJ2DevelopByHand(t *testing.T) {
	n := api.Plan{White: 65535, Gains: [3]int{256, 256, 256}, Matrix: [9]int{0: 4096, 4: 4096, 8: 4096}, Curve: []api.Point{{}, {X: 65535, Y: 65535}}}
	r, e := raw.Fill(api.Raw{W: 2, H: 2, Depth: 16, Rows: 1, Plan: n}, api.Plane{W: 2, H: 2, P: []int{10, 65535, 0, 7}})
	if e != api.OK {
		t.Fatal(e)
	}
	s := fileOf(t, r)
	// Each pixel has R 10 and B 7; G is 32767, 65535, 0 and 32767.
	for _, c := range []struct {
		w    api.Wish
		want string
	}{
		{api.Wish{Rows: 1, Turn: 1, Deep: true}, "P6\n2 2\n65535\n\x00\x0a\x7f\xff\x00\x07\x00\x0a\xff\xff\x00\x07" + "\x00\x0a\x00\x00\x00\x07\x00\x0a\x7f\xff\x00\x07"},
		{api.Wish{Rows: 1, Turn: 1}, "P6\n2 2\n255\n\x00\x7f\x00\x00\xff\x00" + "\x00\x00\x00\x00\x7f\x00"},
		{api.Wish{Rows: 2, Turn: 2}, "P6\n2 2\n255\n\x00\xff\x00\x00\x7f\x00" + "\x00\x7f\x00\x00\x00\x00"},
		{api.Wish{Rows: 1, Turn: 6}, "P6\n2 2\n255\n\x00\x00\x00\x00\x7f\x00" + "\x00\x7f\x00\x00\xff\x00"},
		{api.Wish{Rows: 1, Turn: 1, Cut: api.Rect{X: 1, W: 1, H: 2}}, "P6\n1 2\n255\n\x00\xff\x00" + "\x00\x7f\x00"},
		{api.Wish{Rows: 9, Turn: 8, Cut: api.Rect{W: 2, H: 1}}, "P6\n1 2\n255\n\x00\xff\x00" + "\x00\x7f\x00"},
	} {
		if got, e := shot.Develop(s, c.w); e != api.OK || got != c.want {
			t.Errorf("%v: %q %d, not %q", c.w, got, e, c.want)
		}
	}
}

func TestJ2DevelopOfManyFiles(t *testing.T) {
	for kind := range 8 {
		for i, size := range [][2]int{{1, 1}, {3, 8}, {7, 2}, {5, 13}} {
			r, p := sample(t, uint64(10*kind+i), size[0], size[1], kind)
			s := fileOf(t, r)
			for how := 1; how <= 8; how++ {
				for _, part := range []api.Rect{{}, {W: r.W, H: r.H}, {W: 1, H: r.H}, {X: r.W - 1, Y: r.H / 2, W: 1, H: 1}, {X: r.W / 2, Y: r.H - 1, W: r.W - r.W/2, H: 1}} {
					for _, deep := range []bool{false, true} {
						w := api.Wish{Rows: 1 + how%3, Cut: part, Turn: how, Deep: deep}
						want := developed(t, r, p, w)
						if got, e := shot.Develop(s, w); e != api.OK || got != want {
							t.Fatalf("kind %d, %v, %v: %x %d, not %x", kind, size, w, got, e, want)
						}
					}
				}
			}
		}
	}
}

func TestJ2BytesThatAreNoFile(t *testing.T) {
	r, _ := sample(t, 5, 3, 8, 0)
	s := fileOf(t, r)
	for _, wrong := range []string{"", "dark", s[1:], s[:len(s)-1], s + "\x00", "x" + s, form(picture(1, 3, 8), true)} {
		for _, w := range []api.Wish{{Rows: 1, Turn: 1}, {}, {Rows: -1, Turn: 9, Cut: api.Rect{W: 65, H: 1}}, {Rows: 1, Turn: 1, Deep: true}} {
			if got, e := shot.Develop(wrong, w); e != api.ErrForm || got != "" {
				t.Errorf("%d bytes, %v: %q %d", len(wrong), w, got, e)
			}
		}
	}
}

func TestJ2WishesThatAreWrong(t *testing.T) {
	r, _ := sample(t, 6, 3, 8, 4)
	s := fileOf(t, r)
	var l []api.Wish
	for _, rows := range []int{0, -1, math.MinInt} {
		l = append(l, api.Wish{Rows: rows, Turn: 1}, api.Wish{Rows: rows}, api.Wish{Rows: rows, Turn: 1, Cut: api.Rect{W: 1, H: 1}})
	}
	for _, how := range []int{0, 9, -1, math.MinInt, math.MaxInt} {
		l = append(l, api.Wish{Rows: 1, Turn: how}, api.Wish{Rows: 1, Turn: how, Cut: api.Rect{W: 1, H: 1}, Deep: true})
	}
	for _, part := range []api.Rect{
		{X: 1}, {Y: 1}, {W: 1}, {H: 1}, {X: -1}, {Y: -1}, {W: -1}, {H: -1}, {X: 1, Y: 1}, // all but one are 0, or two: not all
		{W: 4, H: 1}, {W: 1, H: 9}, {X: 1, W: 3, H: 1}, {Y: 1, W: 1, H: 8}, {X: -1, W: 2, H: 2}, {Y: -1, W: 2, H: 2},
		{W: 8, H: 3}, {X: math.MaxInt, W: math.MaxInt, H: 1}, // the first one would lie in the picture, if it was turned by a quarter ahead
	} {
		for _, how := range []int{1, 6} {
			l = append(l, api.Wish{Rows: 1, Turn: how, Cut: part}, api.Wish{Rows: 8, Turn: how, Cut: part, Deep: true})
		}
	}
	for _, w := range l {
		if got, e := shot.Develop(s, w); e != api.ErrRange || got != "" {
			t.Errorf("%v: %q %d", w, got, e)
		}
	}
}

func TestJ3ADeepOneIsReadAsItWas(t *testing.T) {
	for i, size := range sizes {
		q := picture(uint64(100+i), size[0], size[1])
		s, e := shot.Write(q, true)
		if got, deep, f := shot.Read(s); e != api.OK || f != api.OK || !deep || !samePicture(got, q) {
			t.Errorf("%v: %v is read as %v %v %d %d", size, q, got, deep, e, f)
		}
	}
}

// readAsWritten: whether the bytes are those that are written of the picture as which they are read, or of none.
func readAsWritten(t *testing.T, s string) bool {
	t.Helper()
	q, deep, e := shot.Read(s)
	if e != api.OK {
		notRead(t, s)
		return false
	}
	if back, f := shot.Write(q, deep); back != s || f != api.OK {
		t.Errorf("%q is read as %v %v, which is written %q %d", s, q, deep, back, f)
	}
	return true
}

// Of all texts that are a picture's but for one byte, or one byte more or less, just those are read that are written so.
func TestJ3NothingElseIsRead(t *testing.T) {
	for _, size := range [][2]int{{1, 1}, {2, 3}, {11, 1}, {1, 12}} {
		for _, deep := range []bool{false, true} {
			q := picture(9, size[0], size[1])
			s := form(q, deep)
			pixels := 3 * q.W * q.H
			if deep {
				pixels *= 2
			}
			found := 0
			for at := range len(s) {
				for v := range 256 {
					c := string([]byte{byte(v)})
					if readAsWritten(t, s[:at]+c+s[at+1:]) {
						found++
					}
					readAsWritten(t, s[:at]+c+s[at:])
				}
				readAsWritten(t, s[:at]+s[at+1:])
			}
			// Each byte of the pixels may be any; of the head none may be another one, as other sides take other numbers of bytes.
			if want := 256*pixels + len(s) - pixels; found != want {
				t.Errorf("%v, deep %v: %d are read, not %d", size, deep, found, want)
			}
		}
	}
}

func TestJ3DevelopDoesNotHangOnRows(t *testing.T) {
	for i, size := range [][2]int{{1, 1}, {3, 8}, {4, 17}, {2, 64}} {
		r, p := sample(t, uint64(30+i), size[0], size[1], i)
		s := fileOf(t, r)
		for _, w := range []api.Wish{{Turn: 1, Deep: true}, {Turn: 7}, {Turn: 6, Deep: true, Cut: api.Rect{Y: r.H / 2, W: r.W, H: r.H - r.H/2}}} {
			want := developed(t, r, p, w)
			for _, rows := range []int{1, 2, 3, 4, 5, 6, 7, 8, 9, 16, 17, 18, 63, 64, 65, 1000, math.MaxInt} {
				w.Rows = rows
				if got, e := shot.Develop(s, w); e != api.OK || got != want {
					t.Fatalf("%v, %v: %x %d, not %x", size, w, got, e, want)
				}
			}
		}
		// Nor does what it tells of a wish that is wrong.
		for _, rows := range []int{1, 5, math.MaxInt} {
			if got, e := shot.Develop(s, api.Wish{Rows: rows, Turn: 9}); e != api.ErrRange || got != "" {
				t.Errorf("%v, %d rows at a time: %q %d", size, rows, got, e)
			}
		}
	}
}

func TestP2WhatIsHandedInIsOnlyRead(t *testing.T) {
	handed := picture(2, 3, 3) // more than is handed in: the room behind a list
	q := api.Picture{W: 3, H: 2, P: handed.P[:6]}
	for _, deep := range []bool{false, true} {
		s, _ := shot.Write(q, deep)
		first, _, _ := shot.Read(s)
		kept := slices.Clone(first.P)
		clear(first.P[:cap(first.P)])
		if again, _, e := shot.Read(s); e != api.OK || !slices.Equal(again.P, kept) {
			t.Errorf("Read answers %v %d after its first answer was changed", again, e)
		}
	}
	if !slices.Equal(handed.P, picture(2, 3, 3).P) {
		t.Errorf("what was handed in is %v now", handed)
	}
}
