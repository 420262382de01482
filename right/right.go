// Package right tells whether planes, and their parts, are as they must be.
package right

import "darkslide/api"

// Side: whether there may be so many columns, or rows.
func Side(n int) bool {
	return n >= 1 && n <= api.MaxSide
}

// Plane: whether the plane is right (doc/03-diff.md, C1).
func Plane(p api.Plane) bool {
	if !Side(p.W) || !Side(p.H) || len(p.P) != p.W*p.H {
		return false
	}
	for _, v := range p.P {
		if v < 0 || v > api.Top {
			return false
		}
	}
	return true
}
