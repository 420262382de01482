package mosaic_test

import (
	"math"
	"slices"
	"testing"

	"darkslide/api"
	"darkslide/mosaic"
	"darkslide/sensor"
)

// wrongPlanes are not right, each by one thing.
var wrongPlanes = []api.Plane{
	{},
	{W: 0, H: 1},
	{W: 1, H: 0},
	{W: -1, H: -1, P: []int{0}},
	{W: 65, H: 1, P: make([]int, 65)},
	{W: 1, H: 65, P: make([]int, 65)},
	{W: 1 << 62, H: 4},
	{W: 2, H: 2, P: make([]int, 3)},
	{W: 2, H: 2, P: make([]int, 5)},
	{W: 2, H: 1, P: []int{0, -1}},
	{W: 2, H: 1, P: []int{0, 65536}},
}

// wrongPictures are not right, each by one thing.
var wrongPictures = []api.Picture{
	{},
	{W: 0, H: 1},
	{W: 1, H: 0},
	{W: -1, H: -1, P: []api.Pixel{{}}},
	{W: 65, H: 1, P: make([]api.Pixel, 65)},
	{W: 1, H: 65, P: make([]api.Pixel, 65)},
	{W: 1 << 62, H: 4},
	{W: 2, H: 2, P: make([]api.Pixel, 3)},
	{W: 2, H: 2, P: make([]api.Pixel, 5)},
	{W: 2, H: 1, P: []api.Pixel{{}, {R: -1}}},
	{W: 2, H: 1, P: []api.Pixel{{}, {G: -1}}},
	{W: 2, H: 1, P: []api.Pixel{{}, {B: -1}}},
	{W: 2, H: 1, P: []api.Pixel{{R: 65536}, {}}},
	{W: 2, H: 1, P: []api.Pixel{{G: 65536}, {}}},
	{W: 2, H: 1, P: []api.Pixel{{B: 65536}, {}}},
}

var wrongPhases = []int{-1, 4, math.MinInt, math.MaxInt}

// sizes are columns and rows: few, many, odd and even.
var sizes = [][2]int{{1, 1}, {2, 1}, {1, 2}, {2, 2}, {3, 3}, {5, 1}, {1, 6}, {4, 7}, {9, 6}, {64, 1}, {1, 64}, {64, 64}}

// drawn is a plane whose samples come from a fixed row of numbers.
func drawn(seed uint64, w, h int) api.Plane {
	p := api.Plane{W: w, H: h}
	for range w * h {
		seed = seed*6364136223846793005 + 1442695040888963407
		p.P = append(p.P, int(seed>>48))
	}
	return p
}

func samePlane(p, q api.Plane) bool {
	return p.W == q.W && p.H == q.H && slices.Equal(p.P, q.P)
}

func samePicture(p, q api.Picture) bool {
	return p.W == q.W && p.H == q.H && slices.Equal(p.P, q.P)
}

func TestE1FillByHand(t *testing.T) {
	two := api.Plane{W: 2, H: 2, P: []int{10, 65535, 0, 7}}
	three := api.Plane{W: 3, H: 3, P: []int{1, 2, 4, 8, 16, 32, 64, 128, 256}}
	for _, c := range []struct {
		p     api.Plane
		phase int
		want  []api.Pixel
	}{
		{two, 0, []api.Pixel{{R: 10, G: 32767, B: 7}, {R: 10, G: 65535, B: 7}, {R: 10, G: 0, B: 7}, {R: 10, G: 32767, B: 7}}},
		{two, 1, []api.Pixel{{R: 65535, G: 10, B: 0}, {R: 65535, G: 8, B: 0}, {R: 65535, G: 8, B: 0}, {R: 65535, G: 7, B: 0}}},
		{two, 2, []api.Pixel{{R: 0, G: 10, B: 65535}, {R: 0, G: 8, B: 65535}, {R: 0, G: 8, B: 65535}, {R: 0, G: 7, B: 65535}}},
		{two, 3, []api.Pixel{{R: 7, G: 32767, B: 10}, {R: 7, G: 65535, B: 10}, {R: 7, G: 0, B: 10}, {R: 7, G: 32767, B: 10}}},
		{three, 0, []api.Pixel{
			{R: 1, G: 5, B: 16}, {R: 2, G: 2, B: 16}, {R: 4, G: 17, B: 16},
			{R: 32, G: 8, B: 16}, {R: 81, G: 42, B: 16}, {R: 130, G: 32, B: 16},
			{R: 64, G: 68, B: 16}, {R: 160, G: 128, B: 16}, {R: 256, G: 80, B: 16},
		}},
		{three, 1, []api.Pixel{
			{R: 2, G: 1, B: 8}, {R: 2, G: 7, B: 20}, {R: 2, G: 4, B: 32},
			{R: 65, G: 27, B: 8}, {R: 65, G: 16, B: 20}, {R: 65, G: 92, B: 32},
			{R: 128, G: 64, B: 8}, {R: 128, G: 112, B: 20}, {R: 128, G: 256, B: 32},
		}},
		{api.Plane{W: 1, H: 1, P: []int{9}}, 0, []api.Pixel{{R: 9}}},
		{api.Plane{W: 1, H: 1, P: []int{9}}, 1, []api.Pixel{{G: 9}}},
		{api.Plane{W: 1, H: 1, P: []int{9}}, 2, []api.Pixel{{G: 9}}},
		{api.Plane{W: 1, H: 1, P: []int{9}}, 3, []api.Pixel{{B: 9}}},
		{api.Plane{W: 3, H: 1, P: []int{5, 7, 8}}, 0, []api.Pixel{{R: 5, G: 7}, {R: 6, G: 7}, {R: 8, G: 7}}},
		{api.Plane{W: 1, H: 3, P: []int{5, 7, 8}}, 3, []api.Pixel{{G: 7, B: 5}, {G: 7, B: 6}, {G: 7, B: 8}}},
	} {
		got, e := mosaic.Fill(c.p, c.phase)
		if e != api.OK || !samePicture(got, api.Picture{W: c.p.W, H: c.p.H, P: c.want}) {
			t.Errorf("%v, phase %d: %v %d, not %v", c.p, c.phase, got, e, c.want)
		}
	}
}

// filled is E1's rule for one place, by asking every place of the plane how far it is.
func filled(p api.Plane, phase, x, y int) api.Pixel {
	var sum, many, parts [3]int
	for i, v := range p.P {
		dx, dy := i%p.W-x, i/p.W-y
		colour, _ := sensor.Colour(phase, i%p.W, i/p.W)
		if far := max(dx, -dx, dy, -dy); far == 1 {
			sum[colour] += v
			many[colour]++
		}
	}
	for colour := range parts {
		parts[colour] = sum[colour] / max(many[colour], 1)
	}
	own, _ := sensor.Colour(phase, x, y)
	parts[own] = p.P[y*p.W+x]
	return api.Pixel{R: parts[api.Red], G: parts[api.Green], B: parts[api.Blue]}
}

func TestE1FillOfManyPlanes(t *testing.T) {
	for i, size := range sizes {
		p := drawn(uint64(i), size[0], size[1])
		for phase := range 4 {
			want := api.Picture{W: p.W, H: p.H}
			for at := range p.P {
				want.P = append(want.P, filled(p, phase, at%p.W, at/p.W))
			}
			if got, e := mosaic.Fill(p, phase); e != api.OK || !samePicture(got, want) {
				t.Fatalf("%v, phase %d: %v %d, not %v", size, phase, got, e, want)
			}
		}
	}
}

func TestE1FillErrors(t *testing.T) {
	for _, p := range wrongPlanes {
		for _, phase := range []int{0, 4} {
			if got, e := mosaic.Fill(p, phase); !samePicture(got, api.Picture{}) || e != api.ErrForm {
				t.Errorf("%d columns, %d rows, %d samples: %v %d", p.W, p.H, len(p.P), got, e)
			}
		}
	}
	for _, phase := range wrongPhases {
		if got, e := mosaic.Fill(drawn(1, 3, 2), phase); !samePicture(got, api.Picture{}) || e != api.ErrRange {
			t.Errorf("phase %d: %v %d", phase, got, e)
		}
	}
}

func TestE2TakeByHand(t *testing.T) {
	q := api.Picture{W: 3, H: 2, P: []api.Pixel{
		{R: 1, G: 2, B: 3}, {R: 4, G: 5, B: 6}, {R: 7, G: 8, B: 9},
		{R: 10, G: 11, B: 12}, {R: 13, G: 14, B: 15}, {R: 16, G: 17, B: 65535},
	}}
	for phase, want := range [][]int{
		{1, 5, 7, 11, 15, 17},
		{2, 4, 8, 12, 14, 65535},
		{2, 6, 8, 10, 14, 16},
		{3, 5, 9, 11, 13, 17},
	} {
		if got, e := mosaic.Take(q, phase); e != api.OK || !samePlane(got, api.Plane{W: 3, H: 2, P: want}) {
			t.Errorf("phase %d: %v %d, not %v", phase, got, e, want)
		}
	}
}

func TestE2TakeOfFillIsThePlane(t *testing.T) {
	for i, size := range sizes {
		p := drawn(uint64(i+9), size[0], size[1])
		for phase := range 4 {
			q, _ := mosaic.Fill(p, phase)
			if got, e := mosaic.Take(q, phase); e != api.OK || !samePlane(got, p) {
				t.Errorf("%v, phase %d: %v %d, not %v", size, phase, got, e, p)
			}
		}
	}
}

func TestE2TakeErrors(t *testing.T) {
	for _, q := range wrongPictures {
		for _, phase := range []int{0, 4} {
			if got, e := mosaic.Take(q, phase); !samePlane(got, api.Plane{}) || e != api.ErrForm {
				t.Errorf("%d columns, %d rows, %d pixels: %v %d", q.W, q.H, len(q.P), got, e)
			}
		}
	}
	for _, phase := range wrongPhases {
		q := api.Picture{W: 2, H: 1, P: make([]api.Pixel, 2)}
		if got, e := mosaic.Take(q, phase); !samePlane(got, api.Plane{}) || e != api.ErrRange {
			t.Errorf("phase %d: %v %d", phase, got, e)
		}
	}
}

func TestP2WhatIsHandedInIsOnlyRead(t *testing.T) {
	samples := drawn(1, 5, 4).P
	p := api.Plane{W: 4, H: 3, P: samples[:12]}
	wasSamples := slices.Clone(samples)
	q, _ := mosaic.Fill(p, 2)
	if !slices.Equal(samples, wasSamples) {
		t.Errorf("Fill: %v, not %v", samples, wasSamples)
	}
	pixels := append(q.P, api.Pixel{R: 1})
	q.P = pixels[:12]
	wasPixels := slices.Clone(pixels)
	if _, e := mosaic.Take(q, 2); e != api.OK || !slices.Equal(pixels, wasPixels) {
		t.Errorf("Take: %v %d, not %v", pixels, e, wasPixels)
	}
}
