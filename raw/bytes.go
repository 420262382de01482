package raw

import (
	"strings"

	"darkslide/api"
	"darkslide/right"
)

const (
	mark       = "dark" // the text that a file begins with
	numberSize = 4      // bytes of a number
)

// bytesOf: the bytes of a file that is right.
func bytesOf(r api.Raw) string {
	var out writer
	out.text(mark)
	out.numbers(r.W, r.H, r.Depth, r.Kind, r.Rows)
	out.numbers(len(r.Lens))
	out.numbers(r.Lens...)
	out.numbers(len(r.Strips))
	for _, s := range r.Strips {
		out.text(s)
	}
	out.plan(r.Plan)
	return out.b.String()
}

// fileOf: the file that these bytes tell, whose numbers may yet be wrong; false, if they tell none.
func fileOf(s string) (r api.Raw, ok bool) {
	defer func() {
		if recover() != nil {
			r, ok = api.Raw{}, false
		}
	}()
	in := reader{left: s}
	must(in.text() == mark)
	r.W, r.H = in.number(), in.number()
	r.Depth, r.Kind, r.Rows = in.number(), in.number(), in.number()
	r.Lens = make([]int, in.count(api.Words))
	in.fill(r.Lens)
	r.Strips = make([]string, in.count(api.MaxSide))
	for i := range r.Strips {
		// A copy: an answer shares no memory with what was handed in.
		r.Strips[i] = strings.Clone(in.text())
	}
	r.Plan = in.plan()
	must(in.left == "")
	return r, true
}

// writer puts one thing behind the other.
type writer struct{ b strings.Builder }

func (w *writer) numbers(l ...int) {
	for _, n := range l {
		u := uint32(n) // of a number below 0 this is the one that is 2^32 more
		w.b.Write([]byte{byte(u >> 24), byte(u >> 16), byte(u >> 8), byte(u)})
	}
}

func (w *writer) text(s string) {
	w.numbers(len(s))
	w.b.WriteString(s)
}

func (w *writer) plan(n api.Plan) {
	w.numbers(n.Phase)
	w.numbers(n.Black[:]...)
	w.numbers(n.White)
	w.numbers(len(n.Spots))
	for _, s := range n.Spots {
		w.numbers(s.X, s.Y)
	}
	w.numbers(n.Gains[:]...)
	w.numbers(n.Matrix[:]...)
	w.numbers(len(n.Curve))
	for _, c := range n.Curve {
		w.numbers(c.X, c.Y)
	}
	w.numbers(n.Amount)
}

// must leaves the bytes, however deep in them it is called, if it does not hold; fileOf recovers.
func must(holds bool) {
	if !holds {
		panic(api.ErrForm)
	}
}

// reader takes one thing behind the other, and leaves the bytes where they are not as they must be.
type reader struct{ left string }

func (r *reader) take(size int) string {
	must(right.Within(0, len(r.left), size))
	taken := r.left[:size]
	r.left = r.left[size:]
	return taken
}

func (r *reader) number() int {
	b := r.take(numberSize)
	u := uint32(b[0])<<24 | uint32(b[1])<<16 | uint32(b[2])<<8 | uint32(b[3])
	// No number of a file is 2^31 or more: what would be so is one below 0.
	return int(int32(u))
}

func (r *reader) fill(l []int) {
	for i := range l {
		l[i] = r.number()
	}
}

// count: how many elements a list has that has at most so many; asked ahead of making the list, as the bytes may tell any number.
func (r *reader) count(most int) int {
	n := r.number()
	must(right.Within(0, most, n))
	return n
}

func (r *reader) text() string {
	return r.take(r.number())
}

func (r *reader) plan() api.Plan {
	var n api.Plan
	n.Phase = r.number()
	r.fill(n.Black[:])
	n.White = r.number()
	n.Spots = make([]api.Spot, r.count(api.MaxSpots))
	for i := range n.Spots {
		n.Spots[i] = api.Spot{X: r.number(), Y: r.number()}
	}
	r.fill(n.Gains[:])
	r.fill(n.Matrix[:])
	n.Curve = make([]api.Point, r.count(api.MaxPoints))
	for i := range n.Curve {
		n.Curve[i] = api.Point{X: r.number(), Y: r.number()}
	}
	n.Amount = r.number()
	return n
}
