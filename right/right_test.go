package right_test

import (
	"testing"

	"darkslide/api"
	"darkslide/right"
)

func TestSide(t *testing.T) {
	for n, want := range map[int]bool{-1: false, 0: false, 1: true, 64: true, 65: false} {
		if got := right.Side(n); got != want {
			t.Errorf("side of %d: %v", n, got)
		}
	}
}

func TestPlane(t *testing.T) {
	for _, c := range []struct {
		p    api.Plane
		want bool
	}{
		{api.Plane{W: 1, H: 1, P: []int{0}}, true},
		{api.Plane{W: 2, H: 1, P: []int{0, 65535}}, true},
		{api.Plane{W: 64, H: 64, P: make([]int, 4096)}, true},
		{api.Plane{}, false},
		{api.Plane{W: 0, H: 1}, false},
		{api.Plane{W: 1, H: 0}, false},
		{api.Plane{W: -1, H: -1, P: []int{0}}, false},
		{api.Plane{W: 65, H: 1, P: make([]int, 65)}, false},
		{api.Plane{W: 1, H: 65, P: make([]int, 65)}, false},
		{api.Plane{W: 1 << 62, H: 4}, false},
		{api.Plane{W: 2, H: 2, P: make([]int, 3)}, false},
		{api.Plane{W: 2, H: 2, P: make([]int, 5)}, false},
		{api.Plane{W: 1, H: 1, P: []int{-1}}, false},
		{api.Plane{W: 1, H: 2, P: []int{0, 65536}}, false},
	} {
		if got := right.Plane(c.p); got != c.want {
			t.Errorf("%d columns, %d rows, %d samples: %v", c.p.W, c.p.H, len(c.p.P), got)
		}
	}
}
