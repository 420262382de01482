// Package grid goes through the places of planes and pictures.
package grid

import (
	"iter"

	"darkslide/api"
)

// Grid is as many columns and rows as a plane, or picture, has.
type Grid struct{ W, H int }

// Has: whether the place is one of the grid's.
func (g Grid) Has(s api.Spot) bool {
	return s.X >= 0 && s.X < g.W && s.Y >= 0 && s.Y < g.H
}

// HasAll: whether each of the places is one of the grid's.
func (g Grid) HasAll(l []api.Spot) bool {
	for _, s := range l {
		if !g.Has(s) {
			return false
		}
	}
	return true
}

// Nearest: the grid's place that is nearest to this one.
func (g Grid) Nearest(s api.Spot) api.Spot {
	return api.Spot{X: min(max(s.X, 0), g.W-1), Y: min(max(s.Y, 0), g.H-1)}
}

// Index: the number of the grid's place, row by row.
func (g Grid) Index(s api.Spot) int {
	return s.Y*g.W + s.X
}

// Places: all of the grid, row by row.
func (g Grid) Places() iter.Seq[api.Spot] {
	return func(yield func(api.Spot) bool) {
		for y := range g.H {
			for x := range g.W {
				if !yield(api.Spot{X: x, Y: y}) {
					return
				}
			}
		}
	}
}

// Plane has at each place the sample that tell says.
func (g Grid) Plane(tell func(api.Spot) int) api.Plane {
	p := api.Plane{W: g.W, H: g.H, P: make([]int, 0, g.W*g.H)}
	for s := range g.Places() {
		p.P = append(p.P, tell(s))
	}
	return p
}

// Picture has at each place the pixel that tell says.
func (g Grid) Picture(tell func(api.Spot) api.Pixel) api.Picture {
	q := api.Picture{W: g.W, H: g.H, P: make([]api.Pixel, 0, g.W*g.H)}
	for s := range g.Places() {
		q.P = append(q.P, tell(s))
	}
	return q
}

// Cross: the four places that are so many columns, or rows, from s.
func Cross(s api.Spot, far int) iter.Seq[api.Spot] {
	return func(yield func(api.Spot) bool) {
		for _, step := range [4]api.Spot{{Y: -far}, {X: -far}, {X: far}, {Y: far}} {
			if !yield(api.Spot{X: s.X + step.X, Y: s.Y + step.Y}) {
				return
			}
		}
	}
}

// Around: the eight places around s.
func Around(s api.Spot) iter.Seq[api.Spot] {
	return func(yield func(api.Spot) bool) {
		for y := s.Y - 1; y <= s.Y+1; y++ {
			for x := s.X - 1; x <= s.X+1; x++ {
				at := api.Spot{X: x, Y: y}
				if at != s && !yield(at) {
					return
				}
			}
		}
	}
}

// Mean: of the samples at those of the places that are in the plane, and that count; rounded down, and 0, if there is none.
func Mean(p api.Plane, places iter.Seq[api.Spot], counts func(api.Spot) bool) int {
	g := Grid{W: p.W, H: p.H}
	sum, many := 0, 0
	for at := range places {
		if g.Has(at) && counts(at) {
			sum += p.P[g.Index(at)]
			many++
		}
	}
	if many == 0 {
		return 0
	}
	return sum / many // no sample is below 0: this rounds down
}
