package turn_test

import (
	"math"
	"slices"
	"testing"

	"darkslide/api"
	"darkslide/turn"
)

// wrongPictures are not right, each by one thing.
var wrongPictures = []api.Picture{
	{},
	{W: 0, H: 1},
	{W: 1, H: 0},
	{W: -1, H: -1, P: []api.Pixel{{}}},
	{W: 65, H: 1, P: make([]api.Pixel, 65)},
	{W: 1, H: 65, P: make([]api.Pixel, 65)},
	{W: 1 << 62, H: 4},
	{W: 2, H: 2, P: make([]api.Pixel, 3)},
	{W: 2, H: 2, P: make([]api.Pixel, 5)},
	{W: 2, H: 1, P: []api.Pixel{{}, {R: -1}}},
	{W: 2, H: 1, P: []api.Pixel{{}, {G: -1}}},
	{W: 2, H: 1, P: []api.Pixel{{}, {B: -1}}},
	{W: 2, H: 1, P: []api.Pixel{{R: 65536}, {}}},
	{W: 2, H: 1, P: []api.Pixel{{G: 65536}, {}}},
	{W: 2, H: 1, P: []api.Pixel{{B: 65536}, {}}},
}

// wrongTurns are no turns.
var wrongTurns = []int{0, 9, -1, 10, -6, 256, math.MinInt, math.MaxInt}

var sizes = [][2]int{{1, 1}, {2, 1}, {1, 2}, {2, 2}, {3, 2}, {2, 3}, {3, 3}, {5, 4}, {64, 1}, {1, 64}, {64, 63}, {64, 64}}

// pixel whose parts are all unlike, and unlike those of every other number.
func pixel(n int) api.Pixel {
	return api.Pixel{R: n, G: 20000 + n, B: 65535 - n}
}

// pictured: the picture whose rows tell by which numbers its pixels are made.
func pictured(rows ...[]int) api.Picture {
	q := api.Picture{W: len(rows[0]), H: len(rows)}
	for _, row := range rows {
		for _, n := range row {
			q.P = append(q.P, pixel(n))
		}
	}
	return q
}

// counted: the picture of the pixels 0, 1, 2 and so on.
func counted(w, h int) api.Picture {
	q := api.Picture{W: w, H: h}
	for i := range w * h {
		q.P = append(q.P, pixel(i))
	}
	return q
}

func samePicture(p, q api.Picture) bool {
	return p.W == q.W && p.H == q.H && slices.Equal(p.P, q.P)
}

func TestI1CutByHand(t *testing.T) {
	q := pictured([]int{0, 1, 2}, []int{3, 4, 5}, []int{6, 7, 8}, []int{9, 10, 11})
	for _, c := range []struct {
		r    api.Rect
		want api.Picture
	}{
		{api.Rect{W: 3, H: 4}, q},
		{api.Rect{W: 1, H: 1}, pictured([]int{0})},
		{api.Rect{X: 2, Y: 3, W: 1, H: 1}, pictured([]int{11})},
		{api.Rect{X: 1, Y: 2, W: 2, H: 1}, pictured([]int{7, 8})},
		{api.Rect{X: 2, Y: 0, W: 1, H: 3}, pictured([]int{2}, []int{5}, []int{8})},
		{api.Rect{X: 1, Y: 1, W: 2, H: 3}, pictured([]int{4, 5}, []int{7, 8}, []int{10, 11})},
		{api.Rect{X: 0, Y: 1, W: 3, H: 2}, pictured([]int{3, 4, 5}, []int{6, 7, 8})},
	} {
		if got, e := turn.Cut(q, c.r); e != api.OK || !samePicture(got, c.want) {
			t.Errorf("%v: %v %d, not %v", c.r, got, e, c.want)
		}
	}
}

// cut: what a rectangle leaves of a picture, by the rule's words; false, if it does not lie in it.
func cut(q api.Picture, r api.Rect) (api.Picture, bool) {
	if r.W < 1 || r.H < 1 {
		return api.Picture{}, false
	}
	part := api.Picture{W: r.W, H: r.H}
	for y := r.Y; y < r.Y+r.H; y++ {
		for x := r.X; x < r.X+r.W; x++ {
			if x < 0 || x >= q.W || y < 0 || y >= q.H {
				return api.Picture{}, false
			}
			part.P = append(part.P, q.P[y*q.W+x])
		}
	}
	return part, true
}

func TestI1CutByEachRectangle(t *testing.T) {
	for _, size := range [][2]int{{1, 1}, {3, 1}, {1, 3}, {3, 4}} {
		q := counted(size[0], size[1])
		for i := range 7 * 7 * 7 * 7 {
			r := api.Rect{X: i%7 - 2, Y: i/7%7 - 2, W: i/49%7 - 1, H: i/343 - 1}
			want, ok := cut(q, r)
			wantErr := api.OK
			if !ok {
				wantErr = api.ErrRange
			}
			if got, e := turn.Cut(q, r); e != wantErr || !samePicture(got, want) {
				t.Fatalf("%v of %v: %v %d, not %v %d", r, size, got, e, want, wantErr)
			}
		}
	}
}

func TestI1CutOfTheGreatestPicture(t *testing.T) {
	q := counted(64, 64)
	for r, want := range map[api.Rect]api.Errno{
		{W: 64, H: 64}: api.OK, {X: 63, Y: 63, W: 1, H: 1}: api.OK, {X: 1, Y: 2, W: 63, H: 62}: api.OK, {X: 30, W: 4, H: 64}: api.OK,
		{X: 1, W: 64, H: 64}: api.ErrRange, {Y: 1, W: 64, H: 64}: api.ErrRange, {W: 65, H: 64}: api.ErrRange, {W: 64, H: 65}: api.ErrRange,
		{X: 64, W: 1, H: 1}: api.ErrRange, {Y: 64, W: 1, H: 1}: api.ErrRange,
	} {
		part, _ := cut(q, r)
		if got, e := turn.Cut(q, r); e != want || !samePicture(got, part) {
			t.Errorf("%v: %d columns, %d rows, %d", r, got.W, got.H, e)
		}
	}
}

func TestI1Errors(t *testing.T) {
	for _, q := range wrongPictures {
		for _, r := range []api.Rect{{}, {W: 1, H: 1}, {X: -1, W: 1, H: 1}, {W: 1, H: 1000}} {
			if got, e := turn.Cut(q, r); e != api.ErrForm || !samePicture(got, api.Picture{}) {
				t.Errorf("%v of %d columns, %d rows, %d pixels: %v %d", r, q.W, q.H, len(q.P), got, e)
			}
		}
	}
	q := counted(3, 2)
	for _, v := range []int{math.MinInt, math.MinInt + 1, -1, math.MaxInt - 1, math.MaxInt} {
		for _, r := range []api.Rect{
			{X: v, W: 1, H: 1}, {Y: v, W: 1, H: 1}, {W: v, H: 1}, {W: 1, H: v},
			{X: v, W: v, H: 1}, {Y: v, W: 1, H: v}, {X: -v, W: v, H: 1}, {Y: -v, W: 1, H: v},
			{X: 1, W: v, H: 1}, {Y: 1, W: 1, H: v}, {X: v, W: 3, H: 1}, {Y: v, W: 1, H: 2}, {X: v, Y: v, W: v, H: v},
		} {
			if got, e := turn.Cut(q, r); e != api.ErrRange || !samePicture(got, api.Picture{}) {
				t.Errorf("%v: %v %d", r, got, e)
			}
		}
	}
}

func TestI2TurnByHand(t *testing.T) {
	q := pictured([]int{1, 2, 3}, []int{4, 5, 6})
	for i, want := range []api.Picture{
		q,
		pictured([]int{3, 2, 1}, []int{6, 5, 4}),
		pictured([]int{6, 5, 4}, []int{3, 2, 1}),
		pictured([]int{4, 5, 6}, []int{1, 2, 3}),
		pictured([]int{1, 4}, []int{2, 5}, []int{3, 6}),
		pictured([]int{4, 1}, []int{5, 2}, []int{6, 3}),
		pictured([]int{6, 3}, []int{5, 2}, []int{4, 1}),
		pictured([]int{3, 6}, []int{2, 5}, []int{1, 4}),
	} {
		if got, e := turn.Turn(q, i+1); e != api.OK || !samePicture(got, want) {
			t.Errorf("%d: %v %d, not %v", i+1, got, e, want)
		}
	}
}

// turned: the picture whose pixel at each place is the one that from tells.
func turned(q api.Picture, w, h int, from func(x, y int) (int, int)) api.Picture {
	out := api.Picture{W: w, H: h}
	for y := range h {
		for x := range w {
			oldX, oldY := from(x, y)
			out.P = append(out.P, q.P[oldY*q.W+oldX])
		}
	}
	return out
}

// wanted: what each of the turns from 1 on makes of the picture: 2, 4 and 5 by the rule's words, the others by what they are made of.
func wanted(q api.Picture) [8]api.Picture {
	sides := func(q api.Picture) api.Picture {
		return turned(q, q.W, q.H, func(x, y int) (int, int) { return q.W - 1 - x, y })
	}
	ends := func(q api.Picture) api.Picture {
		return turned(q, q.W, q.H, func(x, y int) (int, int) { return x, q.H - 1 - y })
	}
	swap := func(q api.Picture) api.Picture {
		return turned(q, q.H, q.W, func(x, y int) (int, int) { return y, x })
	}
	return [8]api.Picture{q, sides(q), ends(sides(q)), ends(q), swap(q), sides(swap(q)), swap(ends(sides(q))), ends(swap(q))}
}

func TestI2TurnOfManyPictures(t *testing.T) {
	for _, size := range sizes {
		q := counted(size[0], size[1])
		for i, want := range wanted(q) {
			if got, e := turn.Turn(q, i+1); e != api.OK || !samePicture(got, want) {
				t.Errorf("%d of %v: %v %d, not %v", i+1, size, got, e, want)
			}
		}
	}
}

// By a quarter as a clock's hand goes the first row becomes the last column, from above; by one the other way the first column, from below.
func TestI2WhatBecomesOfTheFirstRow(t *testing.T) {
	for _, size := range sizes {
		q := counted(size[0], size[1])
		one, _ := turn.Turn(q, 6)
		other, _ := turn.Turn(q, 8)
		if one.W != q.H || one.H != q.W || other.W != q.H || other.H != q.W {
			t.Fatalf("%v: it has %d columns and %d rows, or %d and %d", size, one.W, one.H, other.W, other.H)
		}
		for i, v := range q.P[:q.W] {
			if got := one.P[i*one.W+one.W-1]; got != v {
				t.Errorf("%v: row %d ends with %v, not %v", size, i, got, v)
			}
			if got := other.P[(other.H-1-i)*other.W]; got != v {
				t.Errorf("%v: row %d begins with %v, not %v", size, other.H-1-i, got, v)
			}
		}
	}
}

func TestI2TurnErrors(t *testing.T) {
	for _, q := range wrongPictures {
		for _, how := range append([]int{1, 2, 3, 4, 5, 6, 7, 8}, wrongTurns...) {
			if got, e := turn.Turn(q, how); e != api.ErrForm || !samePicture(got, api.Picture{}) {
				t.Errorf("%d of %d columns, %d rows, %d pixels: %v %d", how, q.W, q.H, len(q.P), got, e)
			}
		}
	}
	for _, how := range wrongTurns {
		if got, e := turn.Turn(counted(3, 2), how); e != api.ErrRange || !samePicture(got, api.Picture{}) {
			t.Errorf("%d: %v %d", how, got, e)
		}
	}
}

func TestI2Back(t *testing.T) {
	for i, want := range []int{1, 2, 3, 4, 5, 8, 7, 6} {
		if got, e := turn.Back(i + 1); e != api.OK || got != want {
			t.Errorf("%d: %d %d, not %d", i+1, got, e, want)
		}
	}
	for _, size := range sizes {
		q := counted(size[0], size[1])
		for how := 1; how <= 8; how++ {
			back, _ := turn.Back(how)
			there, _ := turn.Turn(q, how)
			if again, e := turn.Turn(there, back); e != api.OK || !samePicture(again, q) {
				t.Errorf("%v, turned by %d, and then by %d, is %v %d", size, how, back, again, e)
			}
		}
	}
	for _, how := range wrongTurns {
		if got, e := turn.Back(how); e != api.ErrRange || got != 0 {
			t.Errorf("%d: %d %d", how, got, e)
		}
	}
}

func TestI2Both(t *testing.T) {
	// The document's example 9, and turns that are not the same the other way round.
	for _, c := range [][3]int{{6, 8, 1}, {2, 4, 3}, {3, 5, 7}, {6, 6, 3}, {6, 2, 5}, {2, 6, 7}, {5, 2, 6}, {2, 5, 8}} {
		if got, e := turn.Both(c[0], c[1]); e != api.OK || got != c[2] {
			t.Errorf("%d, and then %d: %d %d, not %d", c[0], c[1], got, e, c[2])
		}
	}
	q := counted(3, 2)
	for one := 1; one <= 8; one++ {
		for two := 1; two <= 8; two++ {
			both, e := turn.Both(one, two)
			got, f := turn.Turn(q, both)
			first, _ := turn.Turn(q, one)
			want, _ := turn.Turn(first, two)
			if e != api.OK || f != api.OK || !samePicture(got, want) {
				t.Errorf("%d, and then %d: %d %d: %v, not %v", one, two, both, e, got, want)
			}
		}
	}
}

func TestI2BothErrors(t *testing.T) {
	for _, wrong := range wrongTurns {
		for _, other := range append([]int{1, 5, 8}, wrongTurns...) {
			if got, e := turn.Both(wrong, other); e != api.ErrRange || got != 0 {
				t.Errorf("%d, and then %d: %d %d", wrong, other, got, e)
			}
			if got, e := turn.Both(other, wrong); e != api.ErrRange || got != 0 {
				t.Errorf("%d, and then %d: %d %d", other, wrong, got, e)
			}
		}
	}
}

// Back and Both as a whole: what comes by one and its way back is 1, and it does not matter which two of three are taken as one.
func TestI2TurnsBehindEachOther(t *testing.T) {
	both := func(one, two int) int {
		n, _ := turn.Both(one, two)
		return n
	}
	for a := 1; a <= 8; a++ {
		back, _ := turn.Back(a)
		if both(a, back) != 1 || both(back, a) != 1 || both(a, 1) != a || both(1, a) != a {
			t.Errorf("%d and %d: %d %d %d %d", a, back, both(a, back), both(back, a), both(a, 1), both(1, a))
		}
		for b := 1; b <= 8; b++ {
			for c := 1; c <= 8; c++ {
				if both(both(a, b), c) != both(a, both(b, c)) {
					t.Errorf("%d, %d, %d: %d and %d", a, b, c, both(both(a, b), c), both(a, both(b, c)))
				}
			}
		}
	}
}

func TestP2WhatIsHandedInIsOnlyRead(t *testing.T) {
	handed := counted(3, 3) // more than is handed in: the room behind a list
	q := api.Picture{W: 3, H: 2, P: handed.P[:6]}
	ask := func() []api.Picture {
		part, _ := turn.Cut(q, api.Rect{W: 3, H: 2})
		answers := []api.Picture{part}
		for how := 1; how <= 8; how++ {
			p, _ := turn.Turn(q, how)
			answers = append(answers, p)
		}
		return answers
	}
	for _, p := range ask() {
		clear(p.P[:cap(p.P)])
	}
	if !slices.Equal(handed.P, counted(3, 3).P) {
		t.Errorf("what was handed in is %v now", handed)
	}
	kept := ask()
	clear(handed.P)
	want := wanted(counted(3, 2))
	for i, p := range kept {
		if !samePicture(p, want[max(i-1, 0)]) {
			t.Errorf("answer %d is %v after what was handed in was changed", i, p)
		}
	}
}
