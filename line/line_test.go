package line_test

import (
	"math"
	"slices"
	"testing"

	"darkslide/api"
	"darkslide/line"
	"darkslide/mosaic"
	"darkslide/sensor"
	"darkslide/tone"
)

// wrongPlanes are not right, each by one thing.
var wrongPlanes = []api.Plane{
	{},
	{W: 0, H: 1},
	{W: 1, H: 0},
	{W: -1, H: -1, P: []int{0}},
	{W: 65, H: 1, P: make([]int, 65)},
	{W: 1, H: 65, P: make([]int, 65)},
	{W: 1 << 62, H: 4},
	{W: 2, H: 2, P: make([]int, 3)},
	{W: 2, H: 2, P: make([]int, 5)},
	{W: 2, H: 1, P: []int{0, -1}},
	{W: 2, H: 1, P: []int{0, 65536}},
}

// plain is the plan that does no more than fill the missing colours.
func plain() api.Plan {
	return api.Plan{
		White:  65535,
		Gains:  [3]int{256, 256, 256},
		Matrix: [9]int{0: 4096, 4: 4096, 8: 4096},
		Curve:  []api.Point{{}, {X: 65535, Y: 65535}},
	}
}

// busy is a plan in which each stage does something, and something else at even rows than at odd ones.
func busy(phase int, spots ...api.Spot) api.Plan {
	return api.Plan{
		Phase:  phase,
		Black:  [4]int{100, 3000, 800, 7000},
		White:  60000,
		Spots:  spots,
		Gains:  [3]int{400, 256, 300},
		Matrix: [9]int{6000, -1500, -400, -800, 5500, -604, 0, -2000, 6096},
		Curve:  []api.Point{{Y: 9}, {X: 1000, Y: 4000}, {X: 30000, Y: 50000}, {X: 65535, Y: 65000}},
		Amount: 300,
	}
}

// drawn is a plane whose samples come from a fixed row of numbers.
func drawn(seed uint64, w, h int) api.Plane {
	p := api.Plane{W: w, H: h}
	for range w * h {
		seed = seed*6364136223846793005 + 1442695040888963407
		p.P = append(p.P, int(seed>>48))
	}
	return p
}

// someSpots of a plane: as many as there may be, about each third place, many of them two rows below another one.
func someSpots(w, h int) []api.Spot {
	var l []api.Spot
	for i := 0; i < w*h && len(l) < 64; i += 1 + i%5 {
		l = append(l, api.Spot{X: i % w, Y: i / w})
	}
	return l
}

// rowsOf: the rows of the plane from top to end, without that.
func rowsOf(p api.Plane, top, end int) api.Plane {
	return api.Plane{W: p.W, H: end - top, P: slices.Clone(p.P[top*p.W : end*p.W])}
}

// pictureRows: the rows of the picture from from to to, without that.
func pictureRows(q api.Picture, from, to int) api.Picture {
	return api.Picture{W: q.W, H: to - from, P: q.P[from*q.W : to*q.W]}
}

func samePicture(p, q api.Picture) bool {
	return p.W == q.W && p.H == q.H && slices.Equal(p.P, q.P)
}

// fault makes something of a plan wrong.
type fault struct {
	name string
	make func(*api.Plan)
	want api.Errno
}

func faults() []fault {
	var l []fault
	add := func(name string, want api.Errno, make func(*api.Plan)) { l = append(l, fault{name, make, want}) }
	number := func(name string, place func(*api.Plan) *int, wrong ...int) {
		for _, v := range append(wrong, math.MinInt, math.MaxInt) {
			add(name, api.ErrRange, func(n *api.Plan) { *place(n) = v })
		}
	}
	number("phase", func(n *api.Plan) *int { return &n.Phase }, -1, 4)
	number("white", func(n *api.Plan) *int { return &n.White }, -1, 0, 65536)
	number("amount", func(n *api.Plan) *int { return &n.Amount }, -1, 1025)
	for i := range 4 {
		number("black", func(n *api.Plan) *int { return &n.Black[i] }, -1, 65535, 65536)
	}
	for i := range 3 {
		number("gain", func(n *api.Plan) *int { return &n.Gains[i] }, -1, 65536)
	}
	for i := range 9 {
		number("matrix", func(n *api.Plan) *int { return &n.Matrix[i] }, -32769, 32769)
	}
	for _, s := range []api.Spot{{X: -1}, {Y: -1}, {X: 64}, {Y: 64}, {X: math.MinInt}, {Y: math.MaxInt}} {
		add("spot", api.ErrRange, func(n *api.Plan) { n.Spots = []api.Spot{{}, s} })
	}
	for _, many := range []int{65, 1000} {
		add("spots", api.ErrRange, func(n *api.Plan) { n.Spots = make([]api.Spot, many) })
	}
	for _, c := range [][]api.Point{
		nil,
		{{}},
		{{X: 1}, {X: 65535}},
		{{}, {X: 65534}},
		{{}, {X: 5}, {X: 5}, {X: 65535}},
		{{Y: -1}, {X: 65535}},
		{{}, {X: 65535, Y: 65536}},
		{{Y: 9}, {X: 65535, Y: 8}},
		curveOf(17),
	} {
		add("curve", api.ErrForm, func(n *api.Plan) { n.Curve = c })
	}
	return l
}

// curveOf so many points.
func curveOf(many int) []api.Point {
	var l []api.Point
	for i := range many {
		l = append(l, api.Point{X: i, Y: 2 * i})
	}
	l[many-1].X = 65535
	return l
}

func TestG1PlansThatAreRight(t *testing.T) {
	far := api.Spot{X: 63, Y: 63}
	for i, n := range []api.Plan{
		plain(),
		busy(0),
		busy(1, api.Spot{}),
		busy(2, slices.Repeat([]api.Spot{far}, 64)...),
		busy(3, far, api.Spot{X: 63}, api.Spot{Y: 63}),
		{White: 1, Curve: curveOf(2)},
		{White: 65535, Black: [4]int{65534, 65534, 65534, 65534}, Curve: curveOf(16)},
		{White: 10, Black: [4]int{9, 0, 9, 0}, Gains: [3]int{65535, 65535, 65535}, Curve: []api.Point{{Y: 65535}, {X: 65535, Y: 65535}}},
		{White: 10, Matrix: [9]int{-32768, 32768, -32768, 32768, -32768, 32768, -32768, 32768, -32768}, Curve: curveOf(2)},
		{White: 10, Amount: 1024, Curve: curveOf(3)},
	} {
		if e := line.Check(n); e != api.OK {
			t.Errorf("plan %d: %d", i, e)
		}
	}
}

func TestG1PlansThatAreNotRight(t *testing.T) {
	for _, f := range faults() {
		n := plain()
		f.make(&n)
		if e := line.Check(n); e != f.want {
			t.Errorf("%s: %v: %d, not %d", f.name, n, e, f.want)
		}
		n.Curve = nil
		if e := line.Check(n); e != f.want {
			t.Errorf("%s, and no curve: %v: %d, not %d", f.name, n, e, f.want)
		}
	}
	n := plain()
	n.White, n.Black = 10, [4]int{9, 9, 10, 9}
	if e := line.Check(n); e != api.ErrRange {
		t.Errorf("a black that is white: %d", e)
	}
}

func TestG1TheOthersTellItFirst(t *testing.T) {
	right := drawn(1, 3, 2)
	for _, f := range faults() {
		n := plain()
		f.make(&n)
		for _, p := range append(wrongPlanes, right) {
			if q, e := line.Whole(n, p); e != f.want || !samePicture(q, api.Picture{}) {
				t.Errorf("%s: Whole: %v %d, not %d", f.name, q, e, f.want)
			}
			for _, rows := range []int{-1, 0, 1} {
				if q, e := line.Strips(n, p, rows); e != f.want || !samePicture(q, api.Picture{}) {
					t.Errorf("%s: Strips of %d: %v %d, not %d", f.name, rows, q, e, f.want)
				}
			}
			for _, to := range []int{0, 2, 3} {
				if q, e := line.Part(n, p, 0, 2, 0, to); e != f.want || !samePicture(q, api.Picture{}) {
					t.Errorf("%s: Part up to %d: %v %d, not %d", f.name, to, q, e, f.want)
				}
			}
		}
	}
}

// byHand: a plan and a plane of which each stage can be followed with a pencil.
func byHand() (api.Plan, api.Plane, api.Picture) {
	n := api.Plan{
		Black:  [4]int{5, 0, 0, 0},
		White:  10,
		Spots:  []api.Spot{{X: 2, Y: 0}},
		Gains:  [3]int{128, 512, 0},
		Matrix: [9]int{4096, 0, 0, 0, 2048, 0, 4096, 0, 4096},
		Curve:  []api.Point{{}, {X: 65535, Y: 32767}},
		Amount: 256,
	}
	p := api.Plane{W: 3, H: 1, P: []int{7, 2, 9}}
	// Level: 26214, 13107, 52428. Repair: the last one is the one two columns left of it, 26214. Gain: 13107, 26214, 13107.
	// Fill: R 13107 everywhere; G 26214 everywhere; B 0. Mix: R 13107, G 13107, B 13107. Bend: 13107 * 32767 / 65535 = 6553.
	v := api.Pixel{R: 6553, G: 6553, B: 6553}
	return n, p, api.Picture{W: 3, H: 1, P: []api.Pixel{v, v, v}}
}

func TestG2ByHand(t *testing.T) {
	n, p, want := byHand()
	if q, e := line.Whole(n, p); e != api.OK || !samePicture(q, want) {
		t.Errorf("%v %d, not %v", q, e, want)
	}
	// The document's example 6.
	p = api.Plane{W: 2, H: 2, P: []int{10, 65535, 0, 7}}
	if q, e := line.Whole(plain(), p); e != api.OK || q.P[0] != (api.Pixel{R: 10, G: 32767, B: 7}) {
		t.Errorf("%v %d", q, e)
	}
	// Of one row of the phase 0, odd columns have their neighbours' mean as red: 160, or 80.
	n = plain()
	n.Amount = 256
	if q, e := line.Whole(n, api.Plane{W: 2, H: 1, P: []int{160, 0}}); e != api.OK || q.P[0].R != 160 {
		t.Errorf("160 beside 160: %v %d", q, e)
	}
	if q, e := line.Whole(n, api.Plane{W: 3, H: 1, P: []int{160, 0, 0}}); e != api.OK || q.P[0].R != 180 {
		t.Errorf("160 beside 80: %v %d", q, e)
	}
}

// oneByOne: the stages' own calls, one behind the other.
func oneByOne(t *testing.T, n api.Plan, p api.Plane) api.Picture {
	t.Helper()
	p, a := sensor.Level(p, n.Black, n.White)
	p, b := sensor.Repair(p, n.Spots)
	p, c := sensor.Gain(p, n.Phase, n.Gains)
	q, d := mosaic.Fill(p, n.Phase)
	q, e := tone.Mix(q, n.Matrix)
	q, f := tone.Bend(q, n.Curve)
	q, g := tone.Sharpen(q, n.Amount)
	if errors := [7]api.Errno{a, b, c, d, e, f, g}; errors != [7]api.Errno{} {
		t.Fatalf("the stages tell %v", errors)
	}
	return q
}

var sizes = [][2]int{{1, 1}, {2, 1}, {1, 2}, {2, 2}, {3, 3}, {5, 1}, {1, 6}, {4, 7}, {9, 6}, {64, 1}, {1, 64}, {64, 64}}

func TestG2StagesOneBehindTheOther(t *testing.T) {
	for i, size := range sizes {
		p := drawn(uint64(i), size[0], size[1])
		for phase := range 4 {
			for _, n := range []api.Plan{plain(), busy(phase), busy(phase, someSpots(p.W, p.H)...)} {
				want := oneByOne(t, n, p)
				if q, e := line.Whole(n, p); e != api.OK || !samePicture(q, want) {
					t.Fatalf("%v, phase %d: %v %d, not %v", size, phase, q, e, want)
				}
			}
		}
	}
}

func TestG2Errors(t *testing.T) {
	for _, p := range wrongPlanes {
		for _, n := range []api.Plan{plain(), busy(1, api.Spot{X: 63, Y: 63})} {
			if q, e := line.Whole(n, p); e != api.ErrForm || !samePicture(q, api.Picture{}) {
				t.Errorf("%d columns, %d rows, %d samples: %v %d", p.W, p.H, len(p.P), q, e)
			}
		}
	}
	for s, want := range map[api.Spot]api.Errno{
		{X: 2, Y: 1}: api.OK, {X: 3}: api.ErrRange, {Y: 2}: api.ErrRange, {X: 63, Y: 63}: api.ErrRange, {X: 1, Y: 2}: api.ErrRange,
	} {
		q, e := line.Whole(busy(0, api.Spot{}, s), drawn(1, 3, 2))
		if e != want || e != api.OK && !samePicture(q, api.Picture{}) {
			t.Errorf("spot %v: %v %d, not %d", s, q, e, want)
		}
	}
}

func TestG3PartIsWholesRows(t *testing.T) {
	for _, size := range [][2]int{{1, 1}, {3, 2}, {2, 5}, {3, 13}} {
		p := drawn(7, size[0], size[1])
		for phase := range 4 {
			n := busy(phase, someSpots(p.W, p.H)...)
			whole, _ := line.Whole(n, p)
			for from := range p.H {
				for to := from + 1; to <= p.H; to++ {
					partsOf(t, n, p, whole, from, to)
				}
			}
		}
	}
}

// partsOf asks for the rows with any number of rows of the plane at hand; those are the right ones, or too few.
func partsOf(t *testing.T, n api.Plan, p api.Plane, whole api.Picture, from, to int) {
	t.Helper()
	want := pictureRows(whole, from, to)
	for top := range p.H {
		for end := top + 1; end <= p.H; end++ {
			q, e := line.Part(n, rowsOf(p, top, end), top, p.H, from, to)
			enough := (top == 0 || from-top >= 4) && (end == p.H || end-to >= 4)
			if enough && (e != api.OK || !samePicture(q, want)) {
				t.Fatalf("rows %d to %d of those from %d to %d: %v %d, not %v", from, to, top, end, q, e, want)
			}
			if !enough && (e != api.ErrRange || !samePicture(q, api.Picture{})) {
				t.Fatalf("rows %d to %d of those from %d to %d: %v %d", from, to, top, end, q, e)
			}
		}
	}
}

func TestG3OfTheGreatestPlane(t *testing.T) {
	p := drawn(8, 64, 64)
	n := busy(3, someSpots(64, 64)...)
	whole, _ := line.Whole(n, p)
	for _, c := range [][4]int{{0, 64, 0, 64}, {0, 5, 0, 1}, {59, 64, 63, 64}, {20, 31, 24, 27}, {21, 30, 25, 26}, {0, 64, 30, 31}, {1, 63, 5, 59}} {
		q, e := line.Part(n, rowsOf(p, c[0], c[1]), c[0], 64, c[2], c[3])
		if e != api.OK || !samePicture(q, pictureRows(whole, c[2], c[3])) {
			t.Errorf("%v: it is not Whole's: %d", c, e)
		}
	}
}

// With a spot two rows above, a row hangs on a sample four rows above it, but on none that is farther.
func TestG3RowsFarAwayCountForNothing(t *testing.T) {
	const from, to = 9, 11
	p := drawn(9, 3, 20)
	n := busy(2, api.Spot{X: 1, Y: from - 2}, api.Spot{X: 1, Y: to + 1})
	want, e := line.Part(n, p, 0, 20, from, to)
	if e != api.OK {
		t.Fatal(e)
	}
	for y := range p.H {
		other := rowsOf(p, 0, p.H)
		other.P[y*3+1] = 65535 - other.P[y*3+1]
		q, e := line.Part(n, other, 0, 20, from, to)
		spot := y == from-2 || y == to+1
		near := y >= from-4 && y < to+4 && y != from-3 && y != to+2
		if same := samePicture(q, want); e != api.OK || same != (spot || !near) {
			t.Errorf("with another row %d it is the same: %v %d", y, same, e)
		}
	}
}

func TestG3SpotsOutsideOfThePart(t *testing.T) {
	p := drawn(10, 3, 20)
	n := busy(1, api.Spot{X: 2, Y: 0}, api.Spot{X: 1, Y: 5}, api.Spot{X: 0, Y: 10}, api.Spot{X: 1, Y: 15}, api.Spot{X: 2, Y: 19})
	whole, _ := line.Whole(n, p)
	if q, e := line.Part(n, rowsOf(p, 6, 15), 6, 20, 10, 11); e != api.OK || !samePicture(q, pictureRows(whole, 10, 11)) {
		t.Errorf("%v %d", q, e)
	}
	for s, want := range map[api.Spot]api.Errno{
		{X: 2, Y: 19}: api.OK, {X: 0, Y: 0}: api.OK, {X: 3, Y: 10}: api.ErrRange, {X: 3, Y: 0}: api.ErrRange, {X: 0, Y: 20}: api.ErrRange, {X: 0, Y: 63}: api.ErrRange,
	} {
		q, e := line.Part(busy(1, s), rowsOf(p, 6, 15), 6, 20, 10, 11)
		if e != want || e != api.OK && !samePicture(q, api.Picture{}) {
			t.Errorf("spot %v: %v %d, not %d", s, q, e, want)
		}
	}
}

func TestG3Errors(t *testing.T) {
	for _, p := range wrongPlanes {
		for _, height := range []int{-1, 0, 1, 2, 64, 65} {
			for _, n := range []api.Plan{plain(), busy(0, api.Spot{X: 63, Y: 63})} {
				if q, e := line.Part(n, p, 0, height, 0, 1); e != api.ErrForm || !samePicture(q, api.Picture{}) {
					t.Errorf("%d columns, %d rows, %d samples: %v %d", p.W, p.H, len(p.P), q, e)
				}
			}
		}
	}
	p := drawn(11, 2, 10)
	for _, c := range []struct {
		top, height, from, to int
		want                  api.Errno
	}{
		{0, 10, 0, 10, api.OK},
		{0, 10, 9, 10, api.OK},
		{5, 20, 9, 11, api.OK},
		{0, 64, 0, 6, api.OK},
		{54, 64, 58, 64, api.OK},
		{0, 0, 0, 1, api.ErrRange},
		{0, -1, 0, 1, api.ErrRange},
		{0, 65, 0, 1, api.ErrRange},
		{55, 65, 59, 65, api.ErrRange},
		{0, math.MaxInt, 0, 1, api.ErrRange},
		{0, math.MinInt, 0, 1, api.ErrRange},
		{-1, 10, 0, 1, api.ErrRange},
		{-1, 9, 0, 9, api.ErrRange},
		{math.MinInt, 10, 0, 1, api.ErrRange},
		{math.MaxInt, 10, 0, 1, api.ErrRange},
		{math.MaxInt - 9, 10, 0, 1, api.ErrRange},
		{1, 10, 5, 6, api.ErrRange},
		{0, 9, 0, 9, api.ErrRange},
		{0, 9, 0, 1, api.ErrRange},
		{11, 20, 15, 16, api.ErrRange},
		{0, 10, -1, 1, api.ErrRange},
		{0, 10, math.MinInt, 1, api.ErrRange},
		{0, 10, 0, 11, api.ErrRange},
		{0, 10, 0, math.MaxInt, api.ErrRange},
		{0, 10, 3, 3, api.ErrRange},
		{0, 10, 0, 0, api.ErrRange},
		{0, 10, 10, 10, api.ErrRange},
		{0, 10, 4, 3, api.ErrRange},
		{0, 10, math.MaxInt, math.MinInt, api.ErrRange},
		{0, 10, 10, 11, api.ErrRange},
		{5, 20, 8, 11, api.ErrRange},
		{5, 20, 9, 12, api.ErrRange},
		{1, 11, 0, 11, api.ErrRange},
		{1, 11, 4, 11, api.ErrRange},
		{0, 11, 0, 7, api.ErrRange},
		{0, 64, 0, 7, api.ErrRange},
		{54, 64, 57, 64, api.ErrRange},
	} {
		q, e := line.Part(plain(), p, c.top, c.height, c.from, c.to)
		if e != c.want || e == api.OK && q.H != c.to-c.from || e != api.OK && !samePicture(q, api.Picture{}) {
			t.Errorf("%v: %v %d", c, q, e)
		}
	}
}

func TestG4StripsAreTheWhole(t *testing.T) {
	for i, size := range sizes {
		p := drawn(uint64(i), size[0], size[1])
		for phase := range 4 {
			n := busy(phase, someSpots(p.W, p.H)...)
			whole, _ := line.Whole(n, p)
			for _, rows := range []int{1, 2, 3, 4, 5, 7, 8, 63, 64, 65, math.MaxInt} {
				if q, e := line.Strips(n, p, rows); e != api.OK || !samePicture(q, whole) {
					t.Fatalf("%v, phase %d, %d rows at a time: %v %d, not %v", size, phase, rows, q, e, whole)
				}
			}
		}
	}
}

func TestG4Errors(t *testing.T) {
	for _, rows := range []int{1, 0, -1, math.MinInt} {
		for _, p := range wrongPlanes {
			if q, e := line.Strips(busy(0, api.Spot{X: 63}), p, rows); e != api.ErrForm || !samePicture(q, api.Picture{}) {
				t.Errorf("%d columns, %d rows, %d samples, %d at a time: %v %d", p.W, p.H, len(p.P), rows, q, e)
			}
		}
		for _, s := range []api.Spot{{X: 3}, {Y: 2}} {
			if q, e := line.Strips(busy(0, s), drawn(1, 3, 2), rows); e != api.ErrRange || !samePicture(q, api.Picture{}) {
				t.Errorf("spot %v, %d at a time: %v %d", s, rows, q, e)
			}
		}
		if rows < 1 {
			if q, e := line.Strips(plain(), drawn(1, 3, 2), rows); e != api.ErrRange || !samePicture(q, api.Picture{}) {
				t.Errorf("%d at a time: %v %d", rows, q, e)
			}
		}
	}
}

func TestP2WhatIsHandedInIsOnlyRead(t *testing.T) {
	handed := drawn(12, 3, 14) // more than is handed in: the room behind a list
	spots := append(someSpots(3, 13), api.Spot{X: 99})
	curve := append(busy(0).Curve, api.Point{X: 99})
	n := busy(1, spots[:len(spots)-1]...)
	n.Curve = curve[:len(curve)-1]
	p := api.Plane{W: 3, H: 13, P: handed.P[:39]}
	ask := func() []api.Picture {
		a, _ := line.Whole(n, p)
		b, _ := line.Strips(n, p, 3)
		c, _ := line.Part(n, api.Plane{W: 3, H: 10, P: p.P[9:39]}, 3, 13, 7, 9)
		return []api.Picture{a, b, c}
	}
	first := ask()
	if line.Check(n) != api.OK || !slices.Equal(handed.P, drawn(12, 3, 14).P) || !slices.Equal(spots, append(someSpots(3, 13), api.Spot{X: 99})) || !slices.Equal(curve, append(busy(0).Curve, api.Point{X: 99})) {
		t.Errorf("what was handed in is %v, %v and %v now", handed, spots, curve)
	}
	kept := slices.Clone(first[2].P)
	for _, q := range first {
		clear(q.P[:cap(q.P)])
	}
	if again := ask(); !samePicture(again[0], again[1]) || !slices.Equal(again[2].P, kept) || !samePicture(again[2], pictureRows(again[0], 7, 9)) {
		t.Errorf("the answers are %v after the first ones were changed", again)
	}
}
