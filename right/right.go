// Package right tells whether planes and pictures, and the numbers of a plan, are as they must be.
package right

import "darkslide/api"

const (
	mostMixed  = 1 << 15 // either way from 0
	mostAmount = 1024
)

// Within: whether all of these numbers are from low to high.
func Within(low, high int, numbers ...int) bool {
	for _, n := range numbers {
		if n < low || n > high {
			return false
		}
	}
	return true
}

// Side: whether there may be so many columns, or rows.
func Side(n int) bool {
	return Within(1, api.MaxSide, n)
}

// Phase: whether there is such a phase of a sensor.
func Phase(n int) bool {
	return Within(0, 3, n)
}

// Levels: whether samples can lie between these blacks and white (doc/04-sensor.md, D1).
func Levels(black [4]int, white int) bool {
	// White is asked by itself first, as the lowest number less 1 would be the highest one.
	return Within(1, api.Top, white) && Within(0, white-1, black[:]...)
}

// Gains: whether colours may have these gains (doc/04-sensor.md, D3).
func Gains(gains [3]int) bool {
	return Within(0, api.Top, gains[:]...)
}

// Matrix: whether colours may be mixed so (doc/06-tone.md, F1).
func Matrix(m [9]int) bool {
	return Within(-mostMixed, mostMixed, m[:]...)
}

// Amount: whether a picture may be sharpened so much (doc/06-tone.md, F3).
func Amount(n int) bool {
	return Within(0, mostAmount, n)
}

// Plane: whether the plane is right (doc/03-diff.md, C1).
func Plane(p api.Plane) bool {
	return size(p.W, p.H, len(p.P)) && Within(0, api.Top, p.P...)
}

// Picture: whether the picture is right (doc/05-mosaic.md, E1).
func Picture(q api.Picture) bool {
	if !size(q.W, q.H, len(q.P)) {
		return false
	}
	for _, v := range q.P {
		if !Within(0, api.Top, v.R, v.G, v.B) {
			return false
		}
	}
	return true
}

// Held: the nearest number to n that a sample, or a pixel's part, may be.
func Held(n int) int {
	return min(max(n, 0), api.Top)
}

func size(w, h, many int) bool {
	return Side(w) && Side(h) && many == w*h
}
