package sensor_test

import (
	"math"
	"slices"
	"testing"

	"darkslide/api"
	"darkslide/sensor"
)

// wrongPlanes are not right, each by one thing.
var wrongPlanes = []api.Plane{
	{},
	{W: 0, H: 1},
	{W: 1, H: 0},
	{W: -1, H: -1, P: []int{0}},
	{W: 65, H: 1, P: make([]int, 65)},
	{W: 1, H: 65, P: make([]int, 65)},
	{W: 1 << 62, H: 4},
	{W: 2, H: 2, P: make([]int, 3)},
	{W: 2, H: 2, P: make([]int, 5)},
	{W: 2, H: 1, P: []int{0, -1}},
	{W: 2, H: 1, P: []int{0, 65536}},
}

// sizes are columns and rows: few, many, odd and even.
var sizes = [][2]int{{1, 1}, {2, 1}, {1, 2}, {2, 2}, {3, 3}, {5, 1}, {1, 6}, {4, 7}, {9, 6}, {64, 1}, {1, 64}, {64, 64}}

// drawn is a plane whose samples come from a fixed row of numbers.
func drawn(seed uint64, w, h int) api.Plane {
	p := api.Plane{W: w, H: h}
	for range w * h {
		seed = seed*6364136223846793005 + 1442695040888963407
		p.P = append(p.P, int(seed>>48))
	}
	return p
}

func samePlane(p, q api.Plane) bool {
	return p.W == q.W && p.H == q.H && slices.Equal(p.P, q.P)
}

// isNone: whether a plane is the zero value, as beside an error.
func isNone(p api.Plane) bool {
	return p.W == 0 && p.H == 0 && len(p.P) == 0
}

func TestD1LevelOfOneSample(t *testing.T) {
	for _, c := range []struct{ v, black, white, want int }{
		{7, 5, 10, 26214},
		{5, 5, 10, 0},
		{4, 5, 10, 0},
		{0, 5, 10, 0},
		{6, 5, 10, 13107},
		{9, 5, 10, 52428},
		{10, 5, 10, 65535},
		{11, 5, 10, 65535},
		{65535, 5, 10, 65535},
		{0, 0, 1, 0},
		{1, 0, 1, 65535},
		{2, 0, 1, 65535},
		{1, 0, 2, 32767},
		{12345, 0, 65535, 12345},
		{65535, 0, 65535, 65535},
		{65534, 65534, 65535, 0},
		{65535, 65534, 65535, 65535},
		{0, 65534, 65535, 0},
	} {
		p := api.Plane{W: 1, H: 1, P: []int{c.v}}
		got, e := sensor.Level(p, [4]int{c.black, 0, 0, 0}, c.white)
		if e != api.OK || !samePlane(got, api.Plane{W: 1, H: 1, P: []int{c.want}}) {
			t.Errorf("%d between %d and %d: %v %d, not %d", c.v, c.black, c.white, got, e, c.want)
		}
	}
}

func TestD1LevelRoundsDown(t *testing.T) {
	for _, c := range [][2]int{{0, 65535}, {0, 65534}, {1, 65535}, {100, 1123}, {7, 30000}, {0, 3}} {
		black, white := c[0], c[1]
		for v := black; v <= white; v += 1 + (white-black)/5000 {
			got, e := sensor.Level(api.Plane{W: 1, H: 1, P: []int{v}}, [4]int{black}, white)
			if e != api.OK {
				t.Fatalf("%d between %d and %d: %d", v, black, white, e)
			}
			n, all, part := got.P[0], (v-black)*65535, white-black
			if n*part > all || (n+1)*part <= all {
				t.Fatalf("%d between %d and %d: %d", v, black, white, n)
			}
		}
	}
}

func TestD1LevelTakesThePlacesBlack(t *testing.T) {
	p := api.Plane{W: 3, H: 3, P: slices.Repeat([]int{30}, 9)}
	// What 30 becomes tells which black was taken, of 0, 10, 20 and 28 below the white 40.
	const none, ten, twenty, more = 49151, 43690, 32767, 10922
	for _, c := range []struct {
		black [4]int
		want  []int
	}{
		{[4]int{0, 10, 20, 28}, []int{none, ten, none, twenty, more, twenty, none, ten, none}},
		{[4]int{28, 20, 10, 0}, []int{more, twenty, more, ten, none, ten, more, twenty, more}},
	} {
		got, e := sensor.Level(p, c.black, 40)
		if e != api.OK || !samePlane(got, api.Plane{W: 3, H: 3, P: c.want}) {
			t.Errorf("blacks %v: %v %d, not %v", c.black, got.P, e, c.want)
		}
	}
}

func TestD1LevelOfManyPlanes(t *testing.T) {
	black, white := [4]int{1000, 0, 59999, 30000}, 60000
	for i, size := range sizes {
		p := drawn(uint64(i), size[0], size[1])
		want := api.Plane{W: p.W, H: p.H}
		for at, v := range p.P {
			b := black[at/p.W%2*2+at%p.W%2]
			want.P = append(want.P, min(max(v-b, 0)*65535/(white-b), 65535))
		}
		if got, e := sensor.Level(p, black, white); e != api.OK || !samePlane(got, want) {
			t.Fatalf("%v: %v %d, not %v", size, got, e, want)
		}
	}
}

func TestD1LevelErrors(t *testing.T) {
	for _, p := range wrongPlanes {
		for _, white := range []int{10, 0, 65536} {
			if got, e := sensor.Level(p, [4]int{}, white); !isNone(got) || e != api.ErrForm {
				t.Errorf("%d columns, %d rows, %d samples, white %d: %v %d", p.W, p.H, len(p.P), white, got, e)
			}
		}
	}
	p := drawn(1, 3, 2)
	for _, white := range []int{65536, 0, -1, math.MaxInt, math.MinInt, math.MinInt + 1} {
		if got, e := sensor.Level(p, [4]int{}, white); !isNone(got) || e != api.ErrRange {
			t.Errorf("white %d: %v %d", white, got, e)
		}
	}
	for i := range 4 {
		for _, b := range []int{-1, 10, 11, 65536, math.MaxInt, math.MinInt} {
			black := [4]int{9, 0, 9, 0}
			black[i] = b
			if got, e := sensor.Level(p, black, 10); !isNone(got) || e != api.ErrRange {
				t.Errorf("blacks %v: %v %d", black, got, e)
			}
		}
	}
}

func TestD2RepairByHand(t *testing.T) {
	p := api.Plane{W: 5, H: 5, P: []int{
		1, 2, 3, 4, 5,
		6, 7, 8, 9, 10,
		110, 12, 130, 14, 151,
		16, 17, 18, 19, 20,
		21, 22, 238, 24, 25,
	}}
	for _, c := range []struct {
		l    []api.Spot
		want map[api.Spot]int
	}{
		{nil, nil},
		{[]api.Spot{{X: 2, Y: 2}}, map[api.Spot]int{{X: 2, Y: 2}: (3 + 110 + 151 + 238) / 4}},
		{[]api.Spot{{X: 2, Y: 2}, {X: 2, Y: 2}}, map[api.Spot]int{{X: 2, Y: 2}: 125}},
		{[]api.Spot{{X: 2, Y: 2}, {X: 2, Y: 0}}, map[api.Spot]int{{X: 2, Y: 2}: (110 + 151 + 238) / 3, {X: 2, Y: 0}: 3}},
		{[]api.Spot{{X: 2, Y: 2}, {X: 2, Y: 0}, {X: 0, Y: 2}}, map[api.Spot]int{{X: 2, Y: 2}: (151 + 238) / 2, {X: 2, Y: 0}: 3, {X: 0, Y: 2}: 11}},
		{[]api.Spot{{X: 0, Y: 2}, {X: 2, Y: 0}, {X: 2, Y: 2}, {X: 2, Y: 4}, {X: 4, Y: 2}}, map[api.Spot]int{{X: 2, Y: 2}: 0, {X: 0, Y: 2}: 11, {X: 2, Y: 0}: 3, {X: 2, Y: 4}: 23, {X: 4, Y: 2}: 15}},
		{[]api.Spot{{X: 0, Y: 0}}, map[api.Spot]int{{X: 0, Y: 0}: (3 + 110) / 2}},
		{[]api.Spot{{X: 4, Y: 4}}, map[api.Spot]int{{X: 4, Y: 4}: (238 + 151) / 2}},
		{[]api.Spot{{X: 1, Y: 1}}, map[api.Spot]int{{X: 1, Y: 1}: (9 + 17) / 2}},
		{[]api.Spot{{X: 1, Y: 1}, {X: 0, Y: 1}, {X: 1, Y: 0}}, map[api.Spot]int{{X: 1, Y: 1}: 13, {X: 0, Y: 1}: (8 + 16) / 2, {X: 1, Y: 0}: (4 + 12) / 2}},
	} {
		want := slices.Clone(p.P)
		for s, v := range c.want {
			want[s.Y*5+s.X] = v
		}
		if got, e := sensor.Repair(p, c.l); e != api.OK || !samePlane(got, api.Plane{W: 5, H: 5, P: want}) {
			t.Errorf("%v: %v %d, not %v", c.l, got.P, e, want)
		}
	}
}

// repaired is D2's rule for one place, by asking every place of the plane how far it is.
func repaired(p api.Plane, l []api.Spot, x, y int) int {
	if !slices.Contains(l, api.Spot{X: x, Y: y}) {
		return p.P[y*p.W+x]
	}
	sum, many := 0, 0
	for i, v := range p.P {
		dx, dy := i%p.W-x, i/p.W-y
		apart := dx*dx == 4 && dy == 0 || dx == 0 && dy*dy == 4
		if apart && !slices.Contains(l, api.Spot{X: i % p.W, Y: i / p.W}) {
			sum, many = sum+v, many+1
		}
	}
	if many == 0 {
		return 0
	}
	return sum / many
}

func TestD2RepairOfManySpots(t *testing.T) {
	for i, size := range sizes {
		p := drawn(uint64(i), size[0], size[1])
		for _, many := range []int{0, 1, 3, 20, 64} {
			var l []api.Spot
			for _, n := range drawn(uint64(many+i), 64, 1).P[:many] {
				l = append(l, api.Spot{X: n % p.W, Y: n / 64 % p.H})
			}
			got, e := sensor.Repair(p, l)
			if e != api.OK || got.W != p.W || got.H != p.H || len(got.P) != len(p.P) {
				t.Fatalf("%v, %d spots: %v %d", size, many, got, e)
			}
			for at, v := range got.P {
				if want := repaired(p, l, at%p.W, at/p.W); v != want {
					t.Fatalf("%v, spots %v: %d at %d, not %d", size, l, v, at, want)
				}
			}
		}
	}
}

func TestD2RepairWhereAllAreBad(t *testing.T) {
	p := drawn(3, 8, 8)
	var l []api.Spot
	for i := range 64 {
		l = append(l, api.Spot{X: i % 8, Y: i / 8})
	}
	if got, e := sensor.Repair(p, l); e != api.OK || !samePlane(got, api.Plane{W: 8, H: 8, P: make([]int, 64)}) {
		t.Errorf("%v %d", got, e)
	}
}

func TestD2RepairErrors(t *testing.T) {
	outside := []api.Spot{{X: -1}, {Y: -1}, {X: 3}, {Y: 2}, {X: 3, Y: 2}, {X: 2, Y: 3}, {X: math.MaxInt, Y: math.MaxInt}, {X: math.MinInt}}
	for _, p := range wrongPlanes {
		for _, l := range [][]api.Spot{nil, outside, make([]api.Spot, 65)} {
			if got, e := sensor.Repair(p, l); !isNone(got) || e != api.ErrForm {
				t.Errorf("%d columns, %d rows, %d samples: %v %d", p.W, p.H, len(p.P), got, e)
			}
		}
	}
	p := drawn(1, 3, 2)
	if _, e := sensor.Repair(p, make([]api.Spot, 64)); e != api.OK {
		t.Errorf("64 spots: %d", e)
	}
	for _, l := range [][]api.Spot{make([]api.Spot, 65), make([]api.Spot, 1000), slices.Repeat(outside, 9)} {
		if got, e := sensor.Repair(p, l); !isNone(got) || e != api.ErrMany {
			t.Errorf("%d spots: %v %d", len(l), got, e)
		}
	}
	for _, s := range outside {
		for _, l := range [][]api.Spot{{s}, {{X: 2, Y: 1}, s}, {s, {}}} {
			if got, e := sensor.Repair(p, l); !isNone(got) || e != api.ErrRange {
				t.Errorf("%v: %v %d", l, got, e)
			}
		}
	}
}

func TestD3Colour(t *testing.T) {
	const r, g, b = api.Red, api.Green, api.Blue
	for phase, want := range [][4]int{{r, g, g, b}, {g, r, b, g}, {g, b, r, g}, {b, g, g, r}} {
		for _, x := range []int{0, 1, 2, 3, 62, 63, 64, math.MaxInt - 1, math.MaxInt} {
			for _, y := range []int{0, 1, 2, 3, 62, 63, 64, math.MaxInt - 1, math.MaxInt} {
				if got, e := sensor.Colour(phase, x, y); e != api.OK || got != want[y%2*2+x%2] {
					t.Errorf("phase %d: (%d, %d) is %d %d", phase, x, y, got, e)
				}
			}
		}
	}
}

func TestD3PhasesMove(t *testing.T) {
	for phase := range 4 {
		for i := range 16 {
			x, y := i%4, i/4
			want, _ := sensor.Colour(0, x+phase%2, y+phase/2)
			if got, e := sensor.Colour(phase, x, y); got != want || e != api.OK {
				t.Errorf("phase %d: (%d, %d) is %d %d, not %d", phase, x, y, got, e, want)
			}
		}
	}
}

func TestD3ColourErrors(t *testing.T) {
	for _, c := range [][3]int{{-1, 0, 0}, {4, 0, 0}, {math.MinInt, 1, 1}, {math.MaxInt, 1, 1}, {3, -1, 0}, {3, 0, -1}, {3, math.MinInt, 0}, {3, 0, math.MinInt}} {
		if got, e := sensor.Colour(c[0], c[1], c[2]); got != 0 || e != api.ErrRange {
			t.Errorf("phase %d: (%d, %d) is %d %d", c[0], c[1], c[2], got, e)
		}
	}
}

func TestD3GainOfOneSample(t *testing.T) {
	for _, c := range []struct{ v, gain, want int }{
		{1000, 256, 1000},
		{1000, 255, 996},
		{1000, 257, 1003},
		{1000, 0, 0},
		{1, 255, 0},
		{65535, 256, 65535},
		{65535, 255, 65279},
		{65535, 65535, 65535},
		{256, 65535, 65535},
		{257, 65535, 65535},
		{255, 65535, 65279},
		{0, 65535, 0},
	} {
		p := api.Plane{W: 1, H: 1, P: []int{c.v}}
		got, e := sensor.Gain(p, 0, [3]int{c.gain, 1, 1})
		if e != api.OK || !samePlane(got, api.Plane{W: 1, H: 1, P: []int{c.want}}) {
			t.Errorf("%d by %d: %v %d, not %d", c.v, c.gain, got, e, c.want)
		}
	}
}

func TestD3GainIsTheColours(t *testing.T) {
	gains := [3]int{100, 400, 777}
	for i, size := range sizes {
		p := drawn(uint64(i), size[0], size[1])
		for phase := range 4 {
			want := api.Plane{W: p.W, H: p.H}
			for at, v := range p.P {
				colour, _ := sensor.Colour(phase, at%p.W, at/p.W)
				want.P = append(want.P, min(65535, v*gains[colour]/256))
			}
			if got, e := sensor.Gain(p, phase, gains); e != api.OK || !samePlane(got, want) {
				t.Fatalf("%v, phase %d: %v %d, not %v", size, phase, got, e, want)
			}
		}
	}
}

func TestD3GainErrors(t *testing.T) {
	for _, p := range wrongPlanes {
		for _, phase := range []int{0, 4} {
			if got, e := sensor.Gain(p, phase, [3]int{-1}); !isNone(got) || e != api.ErrForm {
				t.Errorf("%d columns, %d rows, %d samples: %v %d", p.W, p.H, len(p.P), got, e)
			}
		}
	}
	p := drawn(1, 3, 2)
	for _, phase := range []int{-1, 4, math.MinInt, math.MaxInt} {
		if got, e := sensor.Gain(p, phase, [3]int{}); !isNone(got) || e != api.ErrRange {
			t.Errorf("phase %d: %v %d", phase, got, e)
		}
	}
	for i := range 3 {
		for _, gain := range []int{-1, 65536, math.MinInt, math.MaxInt} {
			gains := [3]int{0, 65535, 256}
			gains[i] = gain
			if got, e := sensor.Gain(p, 3, gains); !isNone(got) || e != api.ErrRange {
				t.Errorf("gains %v: %v %d", gains, got, e)
			}
		}
	}
}

func TestP2WhatIsHandedInIsOnlyRead(t *testing.T) {
	room := drawn(1, 5, 4).P
	spots := []api.Spot{{X: 1}, {X: 2, Y: 2}, {X: 4, Y: 4}}
	p, l := api.Plane{W: 4, H: 3, P: room[:12]}, spots[:2]
	wasRoom, wasSpots := slices.Clone(room), slices.Clone(spots)
	for name, call := range map[string]func() (api.Plane, api.Errno){
		"Level":  func() (api.Plane, api.Errno) { return sensor.Level(p, [4]int{}, api.Top) },
		"Repair": func() (api.Plane, api.Errno) { return sensor.Repair(p, l) },
		"none":   func() (api.Plane, api.Errno) { return sensor.Repair(p, nil) },
		"Gain":   func() (api.Plane, api.Errno) { return sensor.Gain(p, 0, [3]int{256, 256, 256}) },
	} {
		got, e := call()
		if e != api.OK {
			t.Fatalf("%s: %d", name, e)
		}
		for i := range got.P {
			got.P[i] = -7
		}
		if !slices.Equal(room, wasRoom) || !slices.Equal(spots, wasSpots) {
			t.Errorf("%s: changed", name)
		}
	}
}
