package grid_test

import (
	"iter"
	"slices"
	"testing"

	"darkslide/api"
	"darkslide/grid"
)

func TestHasAndNearest(t *testing.T) {
	g := grid.Grid{W: 3, H: 2}
	for y := -2; y < 5; y++ {
		for x := -2; x < 5; x++ {
			s := api.Spot{X: x, Y: y}
			inside := x >= 0 && x <= 2 && y >= 0 && y <= 1
			if got := g.Has(s); got != inside {
				t.Errorf("%v: %v", s, got)
			}
			if got := g.Nearest(s); !g.Has(got) || inside && got != s {
				t.Errorf("nearest to %v: %v", s, got)
			}
		}
	}
	for s, want := range map[api.Spot]api.Spot{
		{X: -1, Y: -1}: {}, {X: 3, Y: 2}: {X: 2, Y: 1}, {X: 1, Y: -1}: {X: 1}, {X: -1, Y: 1}: {Y: 1}, {X: 1, Y: 9}: {X: 1, Y: 1},
	} {
		if got := g.Nearest(s); got != want {
			t.Errorf("nearest to %v: %v, not %v", s, got, want)
		}
	}
}

func TestHasAll(t *testing.T) {
	g := grid.Grid{W: 3, H: 2}
	if !g.HasAll(nil) || !g.HasAll(slices.Collect(g.Places())) {
		t.Error("it has not all of its places")
	}
	for _, s := range []api.Spot{{X: 3}, {Y: 2}, {X: -1}, {Y: -1}} {
		for _, l := range [][]api.Spot{{s}, {s, {}}, {{}, {X: 2, Y: 1}, s}} {
			if g.HasAll(l) {
				t.Errorf("it has %v", l)
			}
		}
	}
}

func TestPlacesAreRowByRow(t *testing.T) {
	g := grid.Grid{W: 3, H: 2}
	want := []api.Spot{{X: 0, Y: 0}, {X: 1, Y: 0}, {X: 2, Y: 0}, {X: 0, Y: 1}, {X: 1, Y: 1}, {X: 2, Y: 1}}
	got := slices.Collect(g.Places())
	if !slices.Equal(got, want) {
		t.Errorf("%v, not %v", got, want)
	}
	for i, s := range got {
		if g.Index(s) != i {
			t.Errorf("index of %v: %d", s, g.Index(s))
		}
	}
}

func TestPlaneAndPicture(t *testing.T) {
	g := grid.Grid{W: 2, H: 2}
	p := g.Plane(func(s api.Spot) int { return 10*s.X + s.Y })
	if p.W != 2 || p.H != 2 || !slices.Equal(p.P, []int{0, 10, 1, 11}) {
		t.Errorf("%v", p)
	}
	q := g.Picture(func(s api.Spot) api.Pixel { return api.Pixel{R: s.X, B: s.Y} })
	if q.W != 2 || q.H != 2 || !slices.Equal(q.P, []api.Pixel{{}, {R: 1}, {B: 1}, {R: 1, B: 1}}) {
		t.Errorf("%v", q)
	}
}

func TestCrossAndAround(t *testing.T) {
	s := api.Spot{X: 5, Y: 7}
	cross := []api.Spot{{X: 5, Y: 5}, {X: 3, Y: 7}, {X: 7, Y: 7}, {X: 5, Y: 9}}
	if got := slices.Collect(grid.Cross(s, 2)); !slices.Equal(got, cross) {
		t.Errorf("%v, not %v", got, cross)
	}
	around := []api.Spot{{X: 4, Y: 6}, {X: 5, Y: 6}, {X: 6, Y: 6}, {X: 4, Y: 7}, {X: 6, Y: 7}, {X: 4, Y: 8}, {X: 5, Y: 8}, {X: 6, Y: 8}}
	if got := slices.Collect(grid.Around(s)); !slices.Equal(got, around) {
		t.Errorf("%v, not %v", got, around)
	}
}

func TestALoopMayBeLeftAnywhere(t *testing.T) {
	for _, places := range []iter.Seq[api.Spot]{
		grid.Cross(api.Spot{}, 2), grid.Around(api.Spot{}), grid.Grid{W: 3, H: 3}.Places(),
	} {
		for most := range slices.Collect(places) {
			seen := 0
			for range places {
				if seen == most {
					break
				}
				seen++
			}
			if seen != most {
				t.Errorf("%d places, not %d", seen, most)
			}
		}
	}
}

func TestMean(t *testing.T) {
	p := api.Plane{W: 3, H: 2, P: []int{1, 2, 4, 8, 16, 33}}
	all := func(api.Spot) bool { return true }
	for _, c := range []struct {
		s      api.Spot
		counts func(api.Spot) bool
		want   int
	}{
		{api.Spot{X: 1, Y: 0}, all, (1 + 4 + 8 + 16 + 33) / 5},
		{api.Spot{X: 0, Y: 0}, all, (2 + 8 + 16) / 3},
		{api.Spot{X: 2, Y: 1}, all, (2 + 4 + 16) / 3},
		{api.Spot{X: 1, Y: 0}, func(at api.Spot) bool { return at.Y == 1 }, 19},
		{api.Spot{X: 1, Y: 0}, func(at api.Spot) bool { return at.Y == 1 && at.X > 0 }, 24},
		{api.Spot{X: 1, Y: 0}, func(api.Spot) bool { return false }, 0},
		{api.Spot{X: 9, Y: 9}, all, 0},
	} {
		if got := grid.Mean(p, grid.Around(c.s), c.counts); got != c.want {
			t.Errorf("around %v: %d, not %d", c.s, got, c.want)
		}
	}
}
