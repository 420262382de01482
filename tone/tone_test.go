package tone_test

import (
	"math"
	"math/big"
	"slices"
	"testing"

	"darkslide/api"
	"darkslide/tone"
)

// wrongPictures are not right, each by one thing.
var wrongPictures = []api.Picture{
	{},
	{W: 0, H: 1},
	{W: 1, H: 0},
	{W: -1, H: -1, P: []api.Pixel{{}}},
	{W: 65, H: 1, P: make([]api.Pixel, 65)},
	{W: 1, H: 65, P: make([]api.Pixel, 65)},
	{W: 1 << 62, H: 4},
	{W: 2, H: 2, P: make([]api.Pixel, 3)},
	{W: 2, H: 2, P: make([]api.Pixel, 5)},
	{W: 2, H: 1, P: []api.Pixel{{}, {R: -1}}},
	{W: 2, H: 1, P: []api.Pixel{{}, {G: -1}}},
	{W: 2, H: 1, P: []api.Pixel{{}, {B: -1}}},
	{W: 2, H: 1, P: []api.Pixel{{R: 65536}, {}}},
	{W: 2, H: 1, P: []api.Pixel{{G: 65536}, {}}},
	{W: 2, H: 1, P: []api.Pixel{{B: 65536}, {}}},
}

// straight is the curve that leaves all as it is.
var straight = []api.Point{{}, {X: 65535, Y: 65535}}

// wrongCurves are not right, each by one thing.
var wrongCurves = [][]api.Point{
	nil,
	{{}},
	{{X: 65535}},
	{{X: 1}, {X: 65535}},
	{{X: -1}, {X: 65535}},
	{{}, {X: 65534}},
	{{}, {X: 65536}},
	{{}, {X: 0}, {X: 65535}},
	{{}, {X: 5}, {X: 5}, {X: 65535}},
	{{}, {X: 6}, {X: 5}, {X: 65535}},
	{{}, {X: 65535}, {X: 65535}},
	{{}, {X: 70000}, {X: 65535}},
	{{}, {X: -5}, {X: 65535}},
	{{X: 65535}, {X: 0}},
	{{Y: -1}, {X: 65535}},
	{{}, {X: 65535, Y: 65536}},
	{{Y: math.MinInt}, {X: 65535}},
	{{}, {X: 65535, Y: math.MaxInt}},
	{{Y: 9}, {X: 65535, Y: 8}},
	{{}, {X: 5, Y: 9}, {X: 65535, Y: 8}},
	{{}, {X: 5, Y: 65536}, {X: 65535, Y: 65535}},
	{{Y: 3}, {X: 5, Y: 2}, {X: 65535, Y: 9}},
	points(17),
	points(1000),
}

// points: a curve of so many points, right but for how many they are.
func points(many int) []api.Point {
	var l []api.Point
	for i := range many {
		l = append(l, api.Point{X: i, Y: 2 * i})
	}
	l[many-1].X = 65535
	return l
}

// drawn gives numbers of a fixed row, each from 0 to most.
func drawn(seed uint64) func(most int) int {
	return func(most int) int {
		seed = seed*6364136223846793005 + 1442695040888963407
		return int(seed>>33) % (most + 1)
	}
}

// picture of drawn pixels, some of them at their bounds.
func picture(seed uint64, w, h int) api.Picture {
	next := drawn(seed)
	part := func() int { return min(max(next(80000)-7000, 0), 65535) }
	q := api.Picture{W: w, H: h}
	for range w * h {
		q.P = append(q.P, api.Pixel{R: part(), G: part(), B: part()})
	}
	return q
}

func samePicture(p, q api.Picture) bool {
	return p.W == q.W && p.H == q.H && slices.Equal(p.P, q.P)
}

// rounded: a / b, rounded down, but not below 0 nor above 65535.
func rounded(a, b int64) int {
	n := new(big.Int).Div(big.NewInt(a), big.NewInt(b)).Int64() // of a b above 0, Div rounds down
	return int(min(max(n, 0), 65535))
}

func TestF1MixByHand(t *testing.T) {
	for _, c := range []struct {
		v    api.Pixel
		m    [9]int
		want api.Pixel
	}{
		{api.Pixel{R: 1, G: 2, B: 3}, [9]int{4096, 0, 0, 0, 4096, 0, 0, 0, 4096}, api.Pixel{R: 1, G: 2, B: 3}},
		{api.Pixel{R: 1, G: 2, B: 3}, [9]int{0, 0, 4096, 4096, 0, 0, 0, 4096, 0}, api.Pixel{R: 3, G: 1, B: 2}},
		{api.Pixel{R: 1, G: 10, B: 100}, [9]int{4096, 8192, 12288, 16384, 20480, 24576, 28672, 32768, 0}, api.Pixel{R: 321, G: 654, B: 87}},
		{api.Pixel{R: 1, G: 1, B: 1}, [9]int{4095, 0, 0, 0, 4097, 0, 2048, 2047, 1}, api.Pixel{R: 0, G: 1, B: 1}},
		{api.Pixel{R: 1, G: 1, B: 1}, [9]int{-1, 0, 0, 0, -4096, 0, 0, 0, -32768}, api.Pixel{}},
		{api.Pixel{R: 65535, G: 65535, B: 65535}, [9]int{4096, 1, 0, 4096, -1, 0, 32768, 32768, 32768}, api.Pixel{R: 65535, G: 65519, B: 65535}},
		{api.Pixel{R: 65535, G: 65535, B: 65535}, [9]int{-32768, -32768, -32768, -32768, 32768, 0, 32768, -32768, 4096}, api.Pixel{R: 0, G: 0, B: 65535}},
	} {
		got, e := tone.Mix(api.Picture{W: 1, H: 1, P: []api.Pixel{c.v}}, c.m)
		if e != api.OK || !samePicture(got, api.Picture{W: 1, H: 1, P: []api.Pixel{c.want}}) {
			t.Errorf("%v by %v: %v %d, not %v", c.v, c.m, got, e, c.want)
		}
	}
}

func TestF1MixOfManyPictures(t *testing.T) {
	next := drawn(5)
	for i := range 60 {
		q := picture(uint64(i), 1+next(8), 1+next(8))
		var m [9]int
		for j := range m {
			m[j] = next(1<<[]int{4, 13, 16}[i%3]) - 1<<[]int{3, 11, 15}[i%3]
		}
		want := api.Picture{W: q.W, H: q.H}
		for _, v := range q.P {
			row := func(j int) int { return rounded(int64(m[j]*v.R+m[j+1]*v.G+m[j+2]*v.B), 4096) }
			want.P = append(want.P, api.Pixel{R: row(0), G: row(3), B: row(6)})
		}
		if got, e := tone.Mix(q, m); e != api.OK || !samePicture(got, want) {
			t.Fatalf("%v by %v: %v %d, not %v", q, m, got, e, want)
		}
	}
}

func TestF1MixErrors(t *testing.T) {
	for _, q := range wrongPictures {
		for _, m := range [][9]int{{}, {1 << 16}} {
			if got, e := tone.Mix(q, m); !samePicture(got, api.Picture{}) || e != api.ErrForm {
				t.Errorf("%d columns, %d rows, %d pixels: %v %d", q.W, q.H, len(q.P), got, e)
			}
		}
	}
	q := picture(1, 3, 2)
	for i := range 9 {
		for n, want := range map[int]api.Errno{32768: api.OK, -32768: api.OK, 32769: api.ErrRange, -32769: api.ErrRange, math.MaxInt: api.ErrRange, math.MinInt: api.ErrRange} {
			var m [9]int
			m[i] = n
			got, e := tone.Mix(q, m)
			if e != want || e != api.OK && !samePicture(got, api.Picture{}) {
				t.Errorf("%v: %v %d", m, got, e)
			}
		}
	}
}

func TestF2CurveByHand(t *testing.T) {
	for _, c := range []struct {
		l    []api.Point
		want map[int]int
	}{
		{[]api.Point{{}, {X: 10, Y: 5}, {X: 65535, Y: 5}}, map[int]int{0: 0, 1: 0, 2: 1, 5: 2, 9: 4, 10: 5, 11: 5, 65534: 5, 65535: 5}},
		{straight, map[int]int{0: 0, 1: 1, 12345: 12345, 65535: 65535}},
		{[]api.Point{{Y: 7}, {X: 3, Y: 8}, {X: 10, Y: 65535}, {X: 65535, Y: 65535}}, map[int]int{0: 7, 1: 7, 2: 7, 3: 8, 4: 9369, 5: 18730, 9: 56174, 10: 65535, 60000: 65535}},
		{[]api.Point{{Y: 40}, {X: 65535, Y: 40}}, map[int]int{0: 40, 1: 40, 65535: 40}},
		{[]api.Point{{}, {X: 65534}, {X: 65535, Y: 65535}}, map[int]int{0: 0, 65533: 0, 65534: 0, 65535: 65535}},
		{[]api.Point{{Y: 1}, {X: 1, Y: 65535}, {X: 65535, Y: 65535}}, map[int]int{0: 1, 1: 65535, 2: 65535}},
		{points(16), map[int]int{0: 0, 1: 2, 14: 28, 15: 28, 40000: 29, 65535: 30}},
	} {
		for x, want := range c.want {
			if got, e := tone.Curve(c.l, x); got != want || e != api.OK {
				t.Errorf("%v at %d: %d %d, not %d", c.l, x, got, e, want)
			}
		}
	}
}

// curve of drawn points.
func curve(seed uint64) []api.Point {
	next := drawn(seed)
	xs, ys := []int{0, 65535}, []int{next(65535), next(65535)}
	for range next(14) {
		xs, ys = append(xs, next(65535)), append(ys, next(65535))
	}
	slices.Sort(xs)
	xs = slices.Compact(xs)
	slices.Sort(ys)
	var l []api.Point
	for i, x := range xs {
		l = append(l, api.Point{X: x, Y: ys[i]})
	}
	return l
}

func TestF2WhatIsNotDarkerDoesNotBecomeDarker(t *testing.T) {
	for seed := range uint64(12) {
		l := curve(seed)
		before := l[0].Y
		for x := range 65536 {
			y, e := tone.Curve(l, x)
			if e != api.OK || y < before || y > l[len(l)-1].Y {
				t.Fatalf("%v at %d: %d %d, %d ahead of it", l, x, y, e, before)
			}
			before = y
		}
	}
}

func TestF2CurveLiesBetweenItsPoints(t *testing.T) {
	for seed := range uint64(200) {
		l := curve(seed)
		for i, b := range l[1:] {
			a := l[i]
			for _, x := range []int{a.X, a.X + 1, (a.X + b.X) / 2, a.X + (b.X-a.X)/3, b.X - 1, b.X} {
				want := a.Y + rounded(int64((b.Y-a.Y)*(x-a.X)), int64(b.X-a.X))
				if got, e := tone.Curve(l, x); got != want || e != api.OK {
					t.Fatalf("%v at %d: %d %d, not %d", l, x, got, e, want)
				}
			}
		}
	}
}

func TestF2CurveErrors(t *testing.T) {
	for _, l := range wrongCurves {
		for _, x := range []int{0, 5, 65535, -1, 65536} {
			if got, e := tone.Curve(l, x); got != 0 || e != api.ErrForm {
				t.Errorf("%v at %d: %d %d", l, x, got, e)
			}
		}
	}
	for _, l := range [][]api.Point{straight, {{Y: 40}, {X: 65535, Y: 40}}, points(16)} {
		for _, x := range []int{-1, 65536, math.MinInt, math.MaxInt} {
			if got, e := tone.Curve(l, x); got != 0 || e != api.ErrRange {
				t.Errorf("%v at %d: %d %d", l, x, got, e)
			}
		}
	}
}

func TestF2Bend(t *testing.T) {
	for seed := range uint64(40) {
		l, q := curve(seed), picture(seed, 1+int(seed%9), 1+int(seed%7))
		want := api.Picture{W: q.W, H: q.H}
		at := func(x int) int {
			y, _ := tone.Curve(l, x)
			return y
		}
		for _, v := range q.P {
			want.P = append(want.P, api.Pixel{R: at(v.R), G: at(v.G), B: at(v.B)})
		}
		if got, e := tone.Bend(q, l); e != api.OK || !samePicture(got, want) {
			t.Fatalf("%v by %v: %v %d, not %v", q, l, got, e, want)
		}
	}
}

func TestF2BendErrors(t *testing.T) {
	for _, q := range wrongPictures {
		if got, e := tone.Bend(q, straight); !samePicture(got, api.Picture{}) || e != api.ErrForm {
			t.Errorf("%d columns, %d rows, %d pixels: %v %d", q.W, q.H, len(q.P), got, e)
		}
	}
	for _, l := range wrongCurves {
		if got, e := tone.Bend(picture(1, 3, 2), l); !samePicture(got, api.Picture{}) || e != api.ErrForm {
			t.Errorf("%v: %v %d", l, got, e)
		}
	}
}

func TestF3SharpenByHand(t *testing.T) {
	grey := func(w int, parts ...int) api.Picture {
		q := api.Picture{W: w, H: len(parts) / w}
		for _, n := range parts {
			q.P = append(q.P, api.Pixel{R: n, G: n, B: n})
		}
		return q
	}
	for _, c := range []struct {
		q      api.Picture
		amount int
		want   api.Picture
	}{
		{grey(2, 160, 0), 256, grey(2, 200, 0)},
		{grey(1, 160, 0), 256, grey(1, 200, 0)},
		{grey(2, 160, 0), 0, grey(2, 160, 0)},
		{grey(2, 160, 0), 255, grey(2, 199, 0)},
		{grey(2, 160, 0), 1024, grey(2, 320, 0)},
		{grey(1, 40000), 1024, grey(1, 40000)},
		{grey(2, 65535, 0), 256, grey(2, 65535, 0)},
		{grey(3, 0, 0, 0, 0, 160, 0, 0, 0, 0), 256, grey(3, 0, 0, 0, 0, 280, 0, 0, 0, 0)},
		// 260 is 160 above the others: the blurs are 110 at the corners, 120 beside, above and below, 140 at its own place.
		{grey(3, 100, 100, 100, 100, 260, 100, 100, 100, 100), 256, grey(3, 90, 80, 90, 80, 380, 80, 90, 80, 90)},
		// Of what is below its blur the fraction is rounded down too: away from 0.
		{grey(2, 100, 108), 1, grey(2, 99, 108)},
		{grey(2, 100, 108), 128, grey(2, 99, 109)},
		{grey(2, 100, 108), 129, grey(2, 98, 109)},
		{grey(2, 100, 101), 1024, grey(2, 100, 105)},
	} {
		if got, e := tone.Sharpen(c.q, c.amount); e != api.OK || !samePicture(got, c.want) {
			t.Errorf("%v by %d: %v %d, not %v", c.q, c.amount, got, e, c.want)
		}
	}
}

// sharpened is F3's rule for one part of one pixel, word by word.
func sharpened(q api.Picture, x, y, amount int, part func(api.Pixel) int) int {
	weights := [3][3]int{{1, 2, 1}, {2, 4, 2}, {1, 2, 1}}
	sum := 0
	for dy, row := range weights {
		for dx, weight := range row {
			atX, atY := min(max(x+dx-1, 0), q.W-1), min(max(y+dy-1, 0), q.H-1)
			sum += weight * part(q.P[atY*q.W+atX])
		}
	}
	v := part(q.P[y*q.W+x])
	more := new(big.Int).Div(big.NewInt(int64((v-sum/16)*amount)), big.NewInt(256)).Int64()
	return min(max(v+int(more), 0), 65535)
}

func TestF3SharpenOfManyPictures(t *testing.T) {
	for i, size := range [][2]int{{1, 1}, {2, 1}, {1, 2}, {2, 2}, {3, 3}, {5, 1}, {1, 6}, {4, 7}, {9, 6}, {64, 1}, {1, 64}, {64, 64}} {
		q := picture(uint64(i), size[0], size[1])
		for _, amount := range []int{0, 1, 77, 256, 1023, 1024} {
			want := api.Picture{W: q.W, H: q.H}
			for at := range q.P {
				become := func(part func(api.Pixel) int) int { return sharpened(q, at%q.W, at/q.W, amount, part) }
				want.P = append(want.P, api.Pixel{
					R: become(func(v api.Pixel) int { return v.R }),
					G: become(func(v api.Pixel) int { return v.G }),
					B: become(func(v api.Pixel) int { return v.B }),
				})
			}
			if got, e := tone.Sharpen(q, amount); e != api.OK || !samePicture(got, want) {
				t.Fatalf("%v by %d: %v %d, not %v", q, amount, got, e, want)
			}
		}
	}
}

func TestF3SharpenErrors(t *testing.T) {
	for _, q := range wrongPictures {
		for _, amount := range []int{0, -1} {
			if got, e := tone.Sharpen(q, amount); !samePicture(got, api.Picture{}) || e != api.ErrForm {
				t.Errorf("%d columns, %d rows, %d pixels: %v %d", q.W, q.H, len(q.P), got, e)
			}
		}
	}
	for _, amount := range []int{-1, 1025, math.MinInt, math.MaxInt} {
		if got, e := tone.Sharpen(picture(1, 3, 2), amount); !samePicture(got, api.Picture{}) || e != api.ErrRange {
			t.Errorf("by %d: %v %d", amount, got, e)
		}
	}
}

func TestP2WhatIsHandedInIsOnlyRead(t *testing.T) {
	pixels := picture(1, 5, 4).P
	l := []api.Point{{}, {X: 65535, Y: 65535}, {X: 3, Y: 3}}
	q, short := api.Picture{W: 4, H: 3, P: pixels[:12]}, l[:2]
	wasPixels, wasPoints := slices.Clone(pixels), slices.Clone(l)
	for name, call := range map[string]func() (api.Picture, api.Errno){
		"Mix":     func() (api.Picture, api.Errno) { return tone.Mix(q, [9]int{0: 4096, 4: 4096, 8: 4096}) },
		"Bend":    func() (api.Picture, api.Errno) { return tone.Bend(q, short) },
		"Sharpen": func() (api.Picture, api.Errno) { return tone.Sharpen(q, 0) },
	} {
		got, e := call()
		if e != api.OK || !samePicture(got, q) {
			t.Errorf("%s: %v %d, not %v", name, got, e, q)
		}
		for i := range got.P {
			got.P[i] = api.Pixel{R: -7}
		}
		if !slices.Equal(pixels, wasPixels) || !slices.Equal(l, wasPoints) {
			t.Errorf("%s: changed", name)
		}
	}
	if _, e := tone.Curve(short, 9); e != api.OK || !slices.Equal(l, wasPoints) {
		t.Errorf("Curve: %v %d", l, e)
	}
}
