package right_test

import (
	"math"
	"testing"

	"darkslide/api"
	"darkslide/right"
)

func TestSide(t *testing.T) {
	for n, want := range map[int]bool{-1: false, 0: false, 1: true, 64: true, 65: false} {
		if got := right.Side(n); got != want {
			t.Errorf("side of %d: %v", n, got)
		}
	}
}

func TestPlane(t *testing.T) {
	for _, c := range []struct {
		p    api.Plane
		want bool
	}{
		{api.Plane{W: 1, H: 1, P: []int{0}}, true},
		{api.Plane{W: 2, H: 1, P: []int{0, 65535}}, true},
		{api.Plane{W: 64, H: 64, P: make([]int, 4096)}, true},
		{api.Plane{}, false},
		{api.Plane{W: 0, H: 1}, false},
		{api.Plane{W: 1, H: 0}, false},
		{api.Plane{W: -1, H: -1, P: []int{0}}, false},
		{api.Plane{W: 65, H: 1, P: make([]int, 65)}, false},
		{api.Plane{W: 1, H: 65, P: make([]int, 65)}, false},
		{api.Plane{W: 1 << 62, H: 4}, false},
		{api.Plane{W: 2, H: 2, P: make([]int, 3)}, false},
		{api.Plane{W: 2, H: 2, P: make([]int, 5)}, false},
		{api.Plane{W: 1, H: 1, P: []int{-1}}, false},
		{api.Plane{W: 1, H: 2, P: []int{0, 65536}}, false},
	} {
		if got := right.Plane(c.p); got != c.want {
			t.Errorf("%d columns, %d rows, %d samples: %v", c.p.W, c.p.H, len(c.p.P), got)
		}
	}
}

func TestWithin(t *testing.T) {
	for _, c := range []struct {
		numbers []int
		want    bool
	}{
		{nil, true},
		{[]int{-3}, true},
		{[]int{5}, true},
		{[]int{-4}, false},
		{[]int{6}, false},
		{[]int{-3, 0, 5}, true},
		{[]int{-4, 0, 5}, false},
		{[]int{0, 6, 0}, false},
		{[]int{0, 0, -4}, false},
	} {
		if got := right.Within(-3, 5, c.numbers...); got != c.want {
			t.Errorf("%v: %v", c.numbers, got)
		}
	}
}

func TestPhase(t *testing.T) {
	for n, want := range map[int]bool{-1: false, 0: true, 1: true, 2: true, 3: true, 4: false} {
		if got := right.Phase(n); got != want {
			t.Errorf("phase %d: %v", n, got)
		}
	}
}

func TestLevels(t *testing.T) {
	for _, c := range []struct {
		black [4]int
		white int
		want  bool
	}{
		{[4]int{}, 1, true},
		{[4]int{9, 0, 9, 0}, 10, true},
		{[4]int{65534, 65534, 65534, 65534}, 65535, true},
		{[4]int{}, 65536, false},
		{[4]int{}, 0, false},
		{[4]int{}, -1, false},
		{[4]int{}, math.MinInt, false},
		{[4]int{10, 0, 0, 0}, 10, false},
		{[4]int{0, 0, 0, 10}, 10, false},
		{[4]int{0, -1, 0, 0}, 10, false},
		{[4]int{0, 0, 65535, 0}, 65535, false},
	} {
		if got := right.Levels(c.black, c.white); got != c.want {
			t.Errorf("%v and %d: %v", c.black, c.white, got)
		}
	}
}

func TestGainsMatrixAndAmount(t *testing.T) {
	for n, want := range map[int]bool{-1: false, 0: true, 65535: true, 65536: false} {
		for i := range 3 {
			gains := [3]int{}
			gains[i] = n
			if got := right.Gains(gains); got != want {
				t.Errorf("gains %v: %v", gains, got)
			}
		}
	}
	for n, want := range map[int]bool{-32769: false, -32768: true, 0: true, 32768: true, 32769: false} {
		for i := range 9 {
			m := [9]int{}
			m[i] = n
			if got := right.Matrix(m); got != want {
				t.Errorf("matrix %v: %v", m, got)
			}
		}
	}
	for n, want := range map[int]bool{-1: false, 0: true, 1024: true, 1025: false} {
		if got := right.Amount(n); got != want {
			t.Errorf("amount %d: %v", n, got)
		}
	}
}

func TestPicture(t *testing.T) {
	for _, c := range []struct {
		q    api.Picture
		want bool
	}{
		{api.Picture{W: 1, H: 1, P: []api.Pixel{{}}}, true},
		{api.Picture{W: 2, H: 1, P: []api.Pixel{{}, {R: 65535, G: 65535, B: 65535}}}, true},
		{api.Picture{W: 64, H: 64, P: make([]api.Pixel, 4096)}, true},
		{api.Picture{}, false},
		{api.Picture{W: 0, H: 1}, false},
		{api.Picture{W: 1, H: 0}, false},
		{api.Picture{W: -1, H: -1, P: []api.Pixel{{}}}, false},
		{api.Picture{W: 65, H: 1, P: make([]api.Pixel, 65)}, false},
		{api.Picture{W: 1, H: 65, P: make([]api.Pixel, 65)}, false},
		{api.Picture{W: 1 << 62, H: 4}, false},
		{api.Picture{W: 2, H: 2, P: make([]api.Pixel, 3)}, false},
		{api.Picture{W: 2, H: 2, P: make([]api.Pixel, 5)}, false},
		{api.Picture{W: 1, H: 1, P: []api.Pixel{{R: -1}}}, false},
		{api.Picture{W: 1, H: 1, P: []api.Pixel{{G: -1}}}, false},
		{api.Picture{W: 1, H: 1, P: []api.Pixel{{B: -1}}}, false},
		{api.Picture{W: 1, H: 2, P: []api.Pixel{{}, {R: 65536}}}, false},
		{api.Picture{W: 1, H: 2, P: []api.Pixel{{}, {G: 65536}}}, false},
		{api.Picture{W: 1, H: 2, P: []api.Pixel{{}, {B: 65536}}}, false},
	} {
		if got := right.Picture(c.q); got != c.want {
			t.Errorf("%d columns, %d rows, %v: %v", c.q.W, c.q.H, c.q.P, got)
		}
	}
}

func TestHeld(t *testing.T) {
	for n, want := range map[int]int{-70000: 0, -1: 0, 0: 0, 1: 1, 65535: 65535, 65536: 65535, 1 << 40: 65535} {
		if got := right.Held(n); got != want {
			t.Errorf("%d: %d, not %d", n, got, want)
		}
	}
}
